import PyProof.Rows.All
import Wide.All
import OpenK.AllK
import Wide.FinOn
import PyProof.EqAt
import PyProof.EqKinds
import PyProof.TupleCall
import Lean
import PyProof.CompFree
import PyProof.IsInstanceH
import PyProof.IsiPairs
import PyProof.ConsumeWalk
import PyProof.IsiNone
import KE.KIntText
import PyProof.Rows.EqDataRows
import PyProof.RangeIter
import PyProof.ZipIter
import PyProof.EnumMake
import PyProof.WalksEnum
import PyProof.Rows.ZipGen
import PyProof.Rows.SortWalk
import KE.KEqDict
import KE.KDictLaws
import PyProof.Rows.SumAny
import PyProof.Rows.FStr
import PyProof.ListRange
import PyProof.DictWalks
import PyProof.DictCopy
import KE.KDictOf
import PyProof.Rows.StrRev
import PyProof.ListStr
import KE.KRevSl
import KE.KLam
import PyProof.Rows.SetFrom
import PyProof.SetRoads
import KE.KNestM
import PyProof.StrLawsIdx
import PyProof.TupleKey
import PyProof.StrLoop
import PyProof.StrWalks
import PyProof.StrLawsChain
import PyProof.FitsReplace
import PyProof.MeetsStr2
import KE.KRevIter
import PyProof.DictUpdate
import PyProof.AttrMissHeap
import PyProof.StrLawsIn
import PySem.Challenge.RW_ownbeat_k40_clean_marks
set_option compiler.extract_closed false
-- CHANGE: your row's module here, as the last of these rows
set_option Elab.async false
set_option linter.all false
set_option maxRecDepth 100000
namespace L2
open PySem PySem.Spec PyProof.Rows

abbrev Key := Sum Int Str
def keyIs : Key → Value → Bool
  | .inl k, v => Value.isInt k v
  | .inr x, v => Value.isStrOf x v
def keyH (w : World) : Key → Int
  | .inl k => hashInt k
  | .inr x => hashStr w x
theorem keyIs_shape : ∀ {k : Key} {v : Value}, keyIs k v = true → (∃ i t, k = Sum.inl i ∧ v = Value.int i t) ∨ (∃ x t, k = Sum.inr x ∧ v = Value.str x t)
  | .inl i, v, h => by
    obtain ⟨t, e⟩ := Value.isInt_shape (k := i) (v := v) h
    exact .inl ⟨i, t, rfl, e⟩
  | .inr x, v, h => by
    obtain ⟨t, e⟩ := Value.isStrOf_shape (x := x) (v := v) h
    exact .inr ⟨x, t, rfl, e⟩
theorem keyIs_int (i : Int) (t : Tok) : keyIs (.inl i) (.int i t) = true := by simp [keyIs, Value.isInt]
theorem keyIs_str (x : Str) (t : Tok) : keyIs (.inr x) (.str x t) = true := by simp [keyIs, Value.isStrOf]
theorem key_ll (a b : Int) : decide ((Sum.inl a : Key) = Sum.inl b) = (a == b) := by
  by_cases e : a = b
  · subst e; simp
  · have h : ¬ (Sum.inl a : Key) = Sum.inl b := fun q => e (Sum.inl.inj q)
    rw [decide_eq_false h]
    exact (beq_eq_false_iff_ne.mpr e).symm
theorem key_rr (a b : Str) : decide ((Sum.inr a : Key) = Sum.inr b) = decide (a = b) := by
  by_cases e : a = b
  · subst e; simp
  · have h : ¬ (Sum.inr a : Key) = Sum.inr b := fun q => e (Sum.inr.inj q)
    rw [decide_eq_false h, decide_eq_false e]
theorem key_lr (a : Int) (b : Str) : decide ((Sum.inl a : Key) = Sum.inr b) = false := decide_eq_false (fun q => nomatch q)
theorem key_rl (a : Str) (b : Int) : decide ((Sum.inr a : Key) = Sum.inl b) = false := decide_eq_false (fun q => nomatch q)

def mixKind (prog : Program) (w : World) : PySem.KeyKind prog w Key where
  is := keyIs
  hash := keyH w
  inj := fun v a b ha hb => by
    rcases keyIs_shape ha with ⟨i, t, rfl, rfl⟩ | ⟨x, t, rfl, rfl⟩
    · rcases keyIs_shape hb with ⟨j, u, rfl, e⟩ | ⟨y, u, rfl, e⟩
      · injection e with e1 _; rw [e1]
      · exact nomatch e
    · rcases keyIs_shape hb with ⟨j, u, rfl, e⟩ | ⟨y, u, rfl, e⟩
      · exact nomatch e
      · injection e with e1 _; rw [e1]
  byValue := fun k v h => by
    rcases keyIs_shape h with ⟨i, t, rfl, rfl⟩ | ⟨x, t, rfl, rfl⟩ <;> rfl
  pyHash := fun hv h => by
    rcases keyIs_shape hv with ⟨i, t, rfl, rfl⟩ | ⟨x, t, rfl, rfl⟩
    · exact wpAny_pyHash_int h
    · exact wpAny_pyHash_str h
  eqBool := fun hu hv h => by
    rcases keyIs_shape hu with ⟨i, t, rfl, rfl⟩ | ⟨x, t, rfl, rfl⟩
    · rcases keyIs_shape hv with ⟨j, u, rfl, rfl⟩ | ⟨y, u, rfl, rfl⟩
      · rw [key_ll] at h; exact wpAny_eqBool_int h
      · rw [key_lr] at h; exact SeqAt.EqAt.int_str i t y u _ _ _ _ h
    · rcases keyIs_shape hv with ⟨j, u, rfl, rfl⟩ | ⟨y, u, rfl, rfl⟩
      · rw [key_rl] at h; exact SeqAt.EqAt.str_int x t j u _ _ _ _ h
      · rw [key_rr] at h; exact wpAny_eqBool_str h
  «strs» := fun k x t v h => by
    rcases keyIs_shape h with ⟨i, u, rfl, e⟩ | ⟨y, u, rfl, e⟩
    · exact nomatch e
    · injection e with e1 _
      subst e1
      cases v <;> rfl

theorem mixKind_int (prog : Program) (w : World) (i : Int) (t : Tok) : (mixKind prog w).is (.inl i) (.int i t) = true := keyIs_int i t
theorem mixKind_str (prog : Program) (w : World) (x : Str) (t : Tok) : (mixKind prog w).is (.inr x) (.str x t) = true := keyIs_str x t
end L2

namespace L2
open PySem PySem.Spec PyProof.Rows

inductive V where
  | non | bl (b : Bool) | int (i : Int) | str (x : Str) | byt (b : Array UInt8) | flt (b : UInt64) | ref (a : Addr) | ty (n : String)
  deriving DecidableEq

def RelV : V → Value → Prop
  | .non, u => u = Value.none
  | .bl b, u => u = Value.bool b
  | .int i, u => ∃ t, u = Value.int i t
  | .str x, u => ∃ t, u = Value.str x t
  | .byt b, u => ∃ t, u = Value.bytes b t
  | .flt b, u => ∃ t, u = Value.float b t
  | .ref a, u => u = Value.ref a
  | .ty n, u => u = Value.type n

abbrev Vals : List V → List Value → Prop := Paired RelV
theorem Vals.length {xs : List V} {us : List Value} (r : Vals xs us) : xs.length = us.length := Paired.length r
theorem Vals.get : ∀ {xs : List V} {us : List Value} {i : Nat} {x : V}, Vals xs us → xs[i]? = some x → ∃ u, us[i]? = some u ∧ RelV x u
  | _, _, _, _, .nil, e => by simp at e
  | _, _, 0, _, .cons r _, e => by simp at e; subst e; exact ⟨_, rfl, r⟩
  | _, _, i + 1, x, .cons _ t, e => by
    obtain ⟨u, h1, h2⟩ := Vals.get (i := i) (x := x) t (by simpa using e)
    exact ⟨u, by simpa using h1, h2⟩
theorem Vals.set {x : V} {u : Value} (r : RelV x u) : ∀ {xs : List V} {us : List Value} (i : Nat), Vals xs us → Vals (xs.set i x) (us.set i u)
  | _, _, _, .nil => .nil
  | _, _, 0, .cons _ t => .cons r t
  | _, _, i + 1, .cons q t => .cons q (Vals.set r i t)
theorem Vals.append : ∀ {xs ys : List V} {us ws : List Value}, Vals xs us → Vals ys ws → Vals (xs ++ ys) (us ++ ws)
  | _, _, _, _, .nil, s => s
  | _, _, _, _, .cons r t, s => .cons r (Vals.append t s)
theorem Vals.take : ∀ {xs : List V} {us : List Value} (n : Nat), Vals xs us → Vals (xs.take n) (us.take n)
  | _, _, 0, _ => .nil
  | _, _, _ + 1, .nil => .nil
  | _, _, n + 1, .cons r t => .cons r (Vals.take n t)
theorem Vals.drop : ∀ {xs : List V} {us : List Value} (n : Nat), Vals xs us → Vals (xs.drop n) (us.drop n)
  | _, _, 0, r => r
  | _, _, _ + 1, .nil => .nil
  | _, _, n + 1, .cons _ t => Vals.drop n t
def RelO : Option V → Option Value → Prop
  | some v, some u => RelV v u
  | none, none => True
  | _, _ => False
def KV {κ : Type} : List (κ × V) → List (κ × Value) → Prop := Paired fun (p : κ × V) (q : κ × Value) => p.1 = q.1 ∧ RelV p.2 q.2

def kV : Key → V
  | .inl i => .int i
  | .inr x => .str x

inductive HO where
    | lst (xs : List V)
    | tup (xs : List V)
    | dK (kvs : List (Key × V)) | dT (kvs : List (List Key × V))
    | set (S : Int → Bool) (n : Nat)
    | ins (C dx : Addr) (fs : List (Str × V))
    | own (x : Addr)
    | xd (fs : List (Str × V))
    | met (f x : Addr)
    | rng (lo hi : Int)
    | frz (o : Obj) (u : HO)
    | tbl (ps : Array Value)
    | ext (φ : Heap → Prop)

abbrev Hp := Addr → Option HO
def upd (H : Hp) (a : Addr) (o : HO) : Hp := fun b => if b = a then some o else H b
theorem upd_same {H : Hp} {a : Addr} {o : HO} : upd H a o a = some o := by unfold upd; rw [if_pos rfl]
theorem upd_ne {H : Hp} {a b : Addr} {o : HO} (h : b ≠ a) : upd H a o b = H b := by unfold upd; rw [if_neg h]
theorem upd_upd {H : Hp} {a : Addr} {o u : HO} : upd (upd H a o) a u = upd H a u := by
  funext b; unfold upd; split <;> rfl
theorem ne_of {H : Hp} {a b : Addr} {o u : HO} (h : H a = some o) (h' : H b = some u) (d : o ≠ u) : a ≠ b := by
  intro e; subst e; rw [h] at h'; exact d (Option.some.inj h')
theorem ne_of_none {H : Hp} {a b : Addr} {o : HO} (h : H a = some o) (h' : H b = none) : a ≠ b := by
  intro e; subst e; rw [h] at h'; cases h'

section
variable (P : Program) (w : World)
def ObjOk (H : Hp) (h : Heap) (a : Addr) : HO → Prop
  | .lst xs => xs.length ≤ sizeLine ∧ ∃ (its : List Value) (n : Nat), Vals xs its ∧ h.get? a = some { cls := .type "list", data := .seq its.toArray n }
  | .tup xs => xs.length ≤ sizeLine ∧ ∃ its : List Value, Vals xs its ∧ IsTup h a its.toArray
  | .dK kvs => kvs.length ≤ sizeLine ∧ (a == sysModules) = false ∧ ∃ vs, KV kvs vs ∧ h.DictOf (mixKind P w) a vs
  | .dT kvs => kvs.length ≤ sizeLine ∧ (a == sysModules) = false ∧ ∃ xs : List (List Key × Addr × Value),
      Paired (fun (p : List Key × V) (q : List Key × Addr × Value) => p.1 = q.1 ∧ H q.2.1 = some (.tup (p.1.map kV)) ∧ RelV p.2 q.2.2) kvs xs ∧
      ∃ o es ep, h.get? a = some o ∧ o.ExactDict ∧ o.data = .dict es ep ∧ es.toList = xs.map (entryOfKey (tupleKind (mixKind P w))) ∧ (xs.map (·.1)).Nodup
  | .set S n => h.SetOf (intKind P w) a S n
  | .ins C dx fs => H dx = some (.own a) ∧ fs.length ≤ 1000 ∧ dx ≠ a ∧ h.get? a = some (PySem.W.instObj C dx) ∧
      ∃ mA, h.Ns1 dx mA ∧ (∀ f, RelO (fs.lookup f) (mA f)) ∧ PySem.Within mA (fs.map (·.1))
  | .own _ => ∃ o, h.get? a = some o
  | .xd fs => ∃ mA, h.Ns1 a mA ∧ ∀ f, RelO (fs.lookup f) (mA f)
  | .rng lo hi => ∃ t u v, h.get? a = some { cls := .type "range", data := .fields #[.int lo t, .int hi u, .int 1 v] }
  | .frz o u => h.get? a = some o ∧ ObjOk H h a u
  | .tbl ps => h.get? a = some { cls := .none, data := .fields ps }
  | .met f x => h.get? a = some (PySem.W.methodObj (.ref f) (.ref x))
  | .ext φ => φ h ∧ (∃ o, h.get? a = some o) ∧ ∀ h1 h2 : Heap, φ h1 → (∀ o, h1.get? a = some o → h2.get? a = some o) → φ h2
def HOk (H : Hp) (h : Heap) : Prop := ∀ a o, H a = some o → ObjOk P w H h a o
end

section
variable {P : Program} {w : World} {H H' : Hp} {h h' : Heap} {a : Addr} {o : HO}
theorem ObjOk.lt (x : ObjOk P w H h a o) : a < h.objs.size := by
  cases o with
  | lst xs => obtain ⟨_, _, _, _, e⟩ := x; exact Heap.lt_size e
  | tup xs => obtain ⟨_, _, _, p⟩ := x; exact p.lt
  | dK kvs => obtain ⟨_, _, _, _, o, _, _, e, _⟩ := x; exact Heap.lt_size e
  | dT kvs => obtain ⟨_, _, _, _, o, _, _, e, _⟩ := x; exact Heap.lt_size e
  | set S n => obtain ⟨o, _, _, _, e, _⟩ := x; exact Heap.lt_size e
  | ins C dx fs => obtain ⟨_, _, _, e, _⟩ := x; exact Heap.lt_size e
  | own y => obtain ⟨_, e⟩ := x; exact Heap.lt_size e
  | xd fs => obtain ⟨_, ⟨_, _, _, e, _⟩, _⟩ := x; exact Heap.lt_size e
  | rng lo hi => obtain ⟨_, _, _, e⟩ := x; exact Heap.lt_size e
  | frz ob u => obtain ⟨e, _⟩ := x; exact Heap.lt_size e
  | tbl ps => exact Heap.lt_size (show h.get? a = some _ from x)
  | met f y => exact Heap.lt_size (show h.get? a = some _ from x)
  | ext φ => obtain ⟨_, ⟨_, e⟩, _⟩ := x; exact Heap.lt_size e
theorem Paired.mapP {α β : Type} {F G : α → β → Prop} : ∀ {l₁ : List α} {l₂ : List β}, Paired F l₁ l₂ → (∀ a b, F a b → G a b) → Paired G l₁ l₂
  | _, _, .nil, _ => .nil
  | _, _, .cons r t, f => .cons (f _ _ r) (Paired.mapP t f)
theorem ObjOk.stay (x : ObjOk P w H h a o) (k : ∀ b u, (b = a ∨ H b = some (.own a)) → h.get? b = some u → h'.get? b = some u)
    (ho : ∀ b, H b = some (.own a) → H' b = some (.own a)) (ht : ∀ b xs, H b = some (.tup xs) → H' b = some (.tup xs)) : ObjOk P w H' h' a o := by
  induction o with
  | lst xs => obtain ⟨z, its, n, r, e⟩ := x; exact ⟨z, its, n, r, k _ _ (.inl rfl) e⟩
  | tup xs => obtain ⟨z, its, r, ob, e, c⟩ := x; exact ⟨z, its, r, ob, k _ _ (.inl rfl) e, c⟩
  | dK kvs => obtain ⟨z, y, vs, r, ob, es, ep, e, c⟩ := x; exact ⟨z, y, vs, r, ob, es, ep, k _ _ (.inl rfl) e, c⟩
  | dT kvs =>
    obtain ⟨z, y, xs, r, ob, es, ep, e, c⟩ := x
    exact ⟨z, y, xs, Paired.mapP r fun p q z => ⟨z.1, ht _ _ z.2.1, z.2.2⟩, ob, es, ep, k _ _ (.inl rfl) e, c⟩
  | set S n => obtain ⟨ob, es, ep, t, e, c⟩ := x; exact ⟨ob, es, ep, t, k _ _ (.inl rfl) e, c⟩
  | ins C dx fs =>
    obtain ⟨d, z, ne, e, mA, ⟨od, es, ep, e2, c⟩, r⟩ := x
    exact ⟨ho _ d, z, ne, k _ _ (.inl rfl) e, mA, ⟨od, es, ep, k _ _ (.inr d) e2, c⟩, r⟩
  | own y => obtain ⟨ob, e⟩ := x; exact ⟨ob, k _ _ (.inl rfl) e⟩
  | xd fs => obtain ⟨mA, ⟨od, es, ep, e, c⟩, r⟩ := x; exact ⟨mA, ⟨od, es, ep, k _ _ (.inl rfl) e, c⟩, r⟩
  | rng lo hi => obtain ⟨t, u, v, e⟩ := x; exact ⟨t, u, v, k _ _ (.inl rfl) e⟩
  | frz ob u ih => obtain ⟨e, q⟩ := x; exact ⟨k _ _ (.inl rfl) e, ih q⟩
  | tbl ps =>
    have e : h.get? a = some { cls := .none, data := .fields ps } := x
    show h'.get? a = some { cls := .none, data := .fields ps }
    exact k a _ (.inl rfl) e
  | met f y =>
    have e : h.get? a = some (PySem.W.methodObj (.ref f) (.ref y)) := x
    show h'.get? a = some (PySem.W.methodObj (.ref f) (.ref y))
    exact k a _ (.inl rfl) e
  | ext φ => obtain ⟨p, ⟨o, e⟩, st⟩ := x; exact ⟨st _ _ p fun o q => k _ _ (.inl rfl) q, ⟨o, k _ _ (.inl rfl) e⟩, st⟩
theorem HOk.lt (x : HOk P w H h) (e : H a = some o) : a < h.objs.size := (x a o e).lt
theorem HOk.fresh (x : HOk P w H h) (e : h.objs.size ≤ a) : H a = none := by
  cases q : H a with
  | none => rfl
  | some u => exact absurd (Nat.lt_of_lt_of_le (x.lt q) e) (Nat.lt_irrefl _)
theorem HOk.kept (x : HOk P w H h) (k : ∀ b u, h.get? b = some u → h'.get? b = some u) : HOk P w H h' := fun a o e =>
  (x a o e).stay (fun b u _ q => k b u q) (fun _ q => q) fun _ _ q => q
theorem HOk.laid (x : HOk P w H h) (k : ∀ b u, h.get? b = some u → h'.get? b = some u) (hp : h.objs.size ≤ a) (new : ObjOk P w (upd H a o) h' a o) : HOk P w (upd H a o) h' := fun b u e => by
  have hn := x.fresh hp
  by_cases hb : b = a
  · subst hb; rw [upd_same] at e; cases e; exact new
  · rw [upd_ne hb] at e
    exact (x b u e).stay (fun c v _ q => k c v q) (fun c q => by rw [upd_ne (ne_of_none q hn)]; exact q) fun c xs q => by rw [upd_ne (ne_of_none q hn)]; exact q
end

def Rd (H : Hp) (a : Addr) (u : HO) : Prop := H a = some u ∨ ∃ o, H a = some (.frz o u)
theorem Rd.of {H : Hp} {a : Addr} {u : HO} (h : H a = some u) : Rd H a u := .inl h
theorem Rd.ok {P : Program} {w : World} {H : Hp} {h : Heap} {a : Addr} {u : HO} (r : Rd H a u) (x : HOk P w H h) : ObjOk P w H h a u := by
  rcases r with r | ⟨o, r⟩
  · exact x a u r
  · obtain ⟨_, q⟩ := x a _ r
    exact q
def Mut : Option HO → Prop
  | some (.lst _) => True
  | some (.dK _) => True
  | some (.dT _) => True
  | some (.set _ _) => True
  | some (.ins _ _ _) => True
  | some (.ext _) => True
  | _ => False
section
variable {P : Program} {w : World} {H : Hp} {h h' : Heap} {x e : Addr} {o' : HO}
theorem HOk.write (ok : HOk P w H h) (mu : Mut (H x)) (he : e = x ∨ H e = some (.own x)) (k : ∀ b u, b ≠ e → h.get? b = some u → h'.get? b = some u) (heo : ∃ u, h'.get? e = some u)
    (new : ObjOk P w (upd H x o') h' x o') : HOk P w (upd H x o') h' := fun b u q => by
  have nown : ∀ c y, H c = some (.own y) → c ≠ x := fun c y r z => by subst z; rw [r] at mu; exact mu
  have ntup : ∀ c xs, H c = some (.tup xs) → c ≠ x := fun c xs r z => by subst z; rw [r] at mu; exact mu
  by_cases hb : b = x
  · subst hb; rw [upd_same] at q; cases q; exact new
  · rw [upd_ne hb] at q
    by_cases hbe : b = e
    · have q' : H b = some (.own x) := by
        rcases he with z | z
        · exact absurd (hbe.trans z) hb
        · rw [hbe]; exact z
      rw [q] at q'; cases q'
      obtain ⟨v, hv⟩ := heo
      exact ⟨v, by rw [hbe]; exact hv⟩
    · refine (ok b u q).stay (fun c v hc r => k c v ?_ r) (fun c r => by rw [upd_ne (nown c b r)]; exact r) fun c xs r => by rw [upd_ne (ntup c xs r)]; exact r
      rcases hc with rfl | hc
      · exact hbe
      · rintro rfl
        rcases he with z | z
        · exact nown c b hc z
        · rw [hc] at z; cases z; exact hb rfl
end

structure Un (fs ex : List Addr) (H H' : Hp) (h h' : Heap) : Prop where
  keep : ∀ b o, h.get? b = some o → H b = none → b ∉ fs → b ∉ ex → h'.get? b = some o
  slot : ∀ b o, h.get? b = some o → H b = none → b ∈ fs → b ∉ ex → ∃ sl, h'.get? b = some { o with slots := sl }
  free : ∀ b o, h.get? b = some o → H b = none → b ∉ ex → H' b = none
  there : ∀ b o, h.get? b = some o → b ∉ ex → ∃ o', h'.get? b = some o'
  tups : ∀ b xs, H b = some (.tup xs) → H' b = some (.tup xs)
  frzs : ∀ b o u, H b = some (.frz o u) → H' b = some (.frz o u)
  tbls : ∀ b ps, H b = some (.tbl ps) → ∃ more, H' b = some (.tbl (ps ++ more))
section
variable {fs fs' ex ex' : List Addr} {H H1 H2 : Hp} {h h1 h2 h' : Heap} {a x e : Addr} {o : HO}
theorem Un.any (u : Un fs ex H H1 h h1) {b : Addr} {ob : Obj} (q : h.get? b = some ob) (n : H b = none) (hx : b ∉ ex) : ∃ sl, h1.get? b = some { ob with slots := sl } := by
  by_cases hb : b ∈ fs
  · exact u.slot b ob q n hb hx
  · exact ⟨ob.slots, u.keep b ob q n hb hx⟩
theorem Un.trans (a : Un fs ex H H1 h h1) (b : Un fs ex H1 H2 h1 h2) : Un fs ex H H2 h h2 where
  keep := fun c ob q n hc hx => b.keep c ob (a.keep c ob q n hc hx) (a.free c ob q n hx) hc hx
  slot := fun c ob q n hc hx => by
    obtain ⟨sl, e1⟩ := a.slot c ob q n hc hx
    obtain ⟨sl', e2⟩ := b.slot c _ e1 (a.free c ob q n hx) hc hx
    exact ⟨sl', e2⟩
  free := fun c ob q n hx => by
    obtain ⟨o', e1⟩ := a.there c ob q hx
    exact b.free c o' e1 (a.free c ob q n hx) hx
  there := fun c ob q hx => by
    obtain ⟨o', e1⟩ := a.there c ob q hx
    exact b.there c o' e1 hx
  tups := fun c xs q => b.tups c xs (a.tups c xs q)
  frzs := fun c ob xs q => b.frzs c ob xs (a.frzs c ob xs q)
  tbls := fun c ps q => by
    obtain ⟨m1, e1⟩ := a.tbls c ps q
    obtain ⟨m2, e2⟩ := b.tbls c _ e1
    exact ⟨m1 ++ m2, by rw [e2, Array.append_assoc]⟩
theorem Un.kept (k : ∀ b u, h.get? b = some u → h'.get? b = some u) : Un fs ex H H h h' :=
  ⟨fun b ob q _ _ _ => k b ob q, fun b ob q _ _ _ => ⟨ob.slots, k b ob q⟩, fun _ _ _ n _ => n, fun b ob q _ => ⟨ob, k b ob q⟩, fun _ _ q => q, fun _ _ _ q => q, fun _ ps q => ⟨#[], by rw [q]; simp⟩⟩
theorem Un.refl : Un fs ex H H h h := Un.kept fun _ _ q => q
theorem Un.laid (k : ∀ b u, h.get? b = some u → h'.get? b = some u) (hp : h.objs.size ≤ a) (hn : H a = none) : Un fs ex H (upd H a o) h h' where
  keep := fun b u q _ _ _ => k b u q
  slot := fun b u q _ _ _ => ⟨u.slots, k b u q⟩
  free := fun b u q n _ => by rw [upd_ne (Nat.ne_of_lt (Nat.lt_of_lt_of_le (Heap.lt_size q) hp))]; exact n
  there := fun b u q _ => ⟨u, k b u q⟩
  tups := fun b xs q => by rw [upd_ne (ne_of_none q hn)]; exact q
  frzs := fun b u xs q => by rw [upd_ne (ne_of_none q hn)]; exact q
  tbls := fun b ps q => ⟨#[], by rw [upd_ne (ne_of_none q hn), q]; simp⟩
theorem Un.write (mu : Mut (H x)) (he : e = x ∨ H e = some (.own x)) (k : ∀ b u, b ≠ e → h.get? b = some u → h'.get? b = some u) (heo : ∃ u, h'.get? e = some u) : Un fs ex H (upd H x o) h h' := by
  have hx : ∀ b, H b = none → b ≠ x := fun b n z => by subst z; rw [n] at mu; exact mu
  have hb : ∀ b, H b = none → b ≠ e := fun b n z => by
    subst z
    rcases he with r | r
    · exact hx b n r
    · rw [n] at r; cases r
  have hm : ∀ b u, H b = some u → ¬ Mut (some u) → b ≠ x := fun b u q nm z => by subst z; rw [q] at mu; exact nm mu
  refine ⟨fun b u q n _ _ => k b u (hb b n) q, fun b u q n _ _ => ⟨u.slots, k b u (hb b n) q⟩, fun b u q n _ => by rw [upd_ne (hx b n)]; exact n, fun b u q _ => ?_,
    fun b xs q => by rw [upd_ne (hm b _ q fun z => z)]; exact q, fun b u xs q => by rw [upd_ne (hm b _ q fun z => z)]; exact q, fun b ps q => ⟨#[], by rw [upd_ne (hm b _ q fun z => z), q]; simp⟩⟩
  by_cases hbe : b = e
  · subst hbe; exact heo
  · exact ⟨u, k b u hbe q⟩
theorem Un.mono (u : Un fs ex H H1 h h1) (hs : ∀ b ∈ fs, b ∈ fs') (hx : ∀ b ∈ ex, b ∈ ex') : Un fs' ex' H H1 h h1 :=
  ⟨fun b ob q n hb he => u.keep b ob q n (fun z => hb (hs b z)) fun z => he (hx b z), fun _ _ q n _ he => u.any q n fun z => he (hx _ z), fun b ob q n he => u.free b ob q n fun z => he (hx b z), fun b ob q he => u.there b ob q fun z => he (hx b z), u.tups, u.frzs, u.tbls⟩
end

def trk (h : Heap) (H : Hp) : List Addr := (List.range h.objs.size).filter fun a => (H a).isSome
def hidT (h : Heap) (H : Hp) : Heap := PySem.W.hideAll h (trk h H)
theorem hidT_size (h : Heap) (H : Hp) : (hidT h H).objs.size = h.objs.size := PySem.W.hideAll_size _ _
theorem hidT_get {h : Heap} {H : Hp} {b : Addr} {o : Obj} (e : h.get? b = some o) (n : H b = none) : (hidT h H).get? b = some o :=
  PySem.W.hideAll_get _ e fun hm => by
    have q : (H b).isSome = true := (List.mem_filter.mp hm).2
    rw [n] at q; simp at q
theorem of_hidT {h : Heap} {H : Hp} {b : Addr} {o : Obj} (e : (hidT h H).get? b = some o) : h.get? b = some o ∧ H b = none := by
  have e' : h.get? b = some o := PySem.W.of_hideAll (trk h H) e
  refine ⟨e', ?_⟩
  cases q : H b with
  | none => rfl
  | some x =>
    have hm : b ∈ trk h H := List.mem_filter.mpr ⟨List.mem_range.mpr (Heap.lt_size e'), by simp [q]⟩
    have z : (hidT h H).get? b = none := PySem.W.hideAll_none (trk h H) hm
    rw [z] at e; cases e

def allNews (g h : Heap) (L : Addr) : List (Addr × Obj) := (List.range h.objs.size).filterMap fun a => if a = L ∨ (g.get? a).isSome = true then none else (h.get? a).map fun o => (a, o)
def rest (g h : Heap) (L d : Addr) : List (Addr × Obj) := (allNews g h L).filter fun p => decide (p.1 ≠ d)
end L2

namespace L2
open PySem PySem.Spec PyProof.Rows

structure Mod (K : PySem.W.Frag) (mg : Str → Option Value) (base : Heap) : Prop where
  kin : K.In base
  glob : base.Ns mainGlobals mg
  blt : ∃ mb, base.Ns builtinsNs mb ∧ ∀ x : Str, x ≠ "__name__" → mb x = bootBuiltins x
  nolimit : base.NoLimit

structure Cx where
  prog : Program
  w : World
  K : PySem.W.Frag
  mg : Str → Option Value
  base : Heap
  A : Around
  N : List Str
  s₀ : Shared
  H₀ : Hp
  env : Env
  outer : List Env
  stack : List Env
  ex : List Addr
  fn : Str → Bool
  calm : Bool
  pn : List (Addr × Obj)
  xe : Value → Shared → Prop
def frs (l : List Env) : List Addr := l.filterMap (·.frame)
abbrev Cx.fs (X : Cx) : List Addr := frs X.outer

def Vis (sc : Scope) (x : Str) : Prop := sc.names.lookup x = some .local ∨ sc.names.lookup x = some .cell ∨ sc.names.lookup x = some .free
def Loc (sc : Scope) (x : Str) : Prop := sc.names.lookup x = some .local ∨ sc.names.lookup x = some .cell
def Look (env : Env) (h : Heap) (m : Str → Option Value) (x : Str) (u : Value) : Prop :=
  (env.kindOf x = some .local ∧ m x = some u) ∨ ((env.kindOf x = some .cell ∨ env.kindOf x = some .free) ∧ ∃ c, env.cells.lookup x = some c ∧ h.IsCell c (some u))

structure Cx.Ok (X : Cx) : Prop where
  mod : Mod X.K X.mg X.base
  kind : X.env.scope.kind = .function
  glob : X.env.globals = mainGlobals
  blt : X.env.builtins = builtinsNs
  above : X.s₀.heap.objs.size ≤ X.env.locals
  inj : ∀ x y c, X.env.cells.lookup x = some c → X.env.cells.lookup y = some c → x = y
  has : ∀ x, (X.env.kindOf x = some .cell ∨ X.env.kindOf x = some .free) → ∃ c, X.env.cells.lookup x = some c
  cab : ∀ x c, X.fn x = true → X.env.cells.lookup x = some c → X.s₀.heap.objs.size ≤ c
  hd : X.calm = true → X.A.handled = none
  frames : X.A.frames = some X.stack
  stk : X.stack = X.outer ∨ (X.stack = X.env :: X.outer ∧ X.env.frame = some X.env.locals)
  exf : ∀ b ∈ X.ex, b ≠ X.env.locals ∧ ∀ x c, X.env.cells.lookup x = some c → c ≠ b
  bs : ∀ b o, X.base.get? b = some o → X.s₀.heap.get? b = some o ∧ X.H₀ b = none
  bsz : X.base.objs.size ≤ X.s₀.heap.objs.size
  noex : ∀ b o, X.base.get? b = some o → b ∉ X.ex
  exfs : ∀ b ∈ X.ex, b ∉ X.fs
  funs : X.s₀.heap.FunFrames X.base X.outer
  frf : ∀ b ∈ X.fs, X.H₀ b = none

structure Inv (X : Cx) (pins : List (Addr × Obj)) (σ : List (Option V)) (H : Hp) (s : Shared) : Prop where
  ok : X.Ok
  os : s.os = X.s₀.os
  bare : AllBare s.gens
  base : Un X.fs X.ex X.H₀ H X.s₀.heap s.heap
  loc : ∃ m, s.heap.Ns X.env.locals m ∧ ∀ (i : Nat) (x : Str) (v : V), X.N[i]? = some x → σ[i]? = some (some v) → Vis X.env.scope x → ∃ u, RelV v u ∧ Look X.env s.heap m x u
  cell : ∀ x c, X.env.cells.lookup x = some c → ∃ v, s.heap.IsCell c v
  free : H X.env.locals = none
  freeC : ∀ x c, X.env.cells.lookup x = some c → H c = none
  pin : ∀ p ∈ X.pn ++ pins, s.heap.get? p.1 = some p.2 ∧ H p.1 = none ∧ p.1 ≠ X.env.locals ∧ p.1 ∉ X.fs ∧ ∀ v, p.2.data ≠ .cell v
  hok : HOk X.prog X.w H s.heap
  len : σ.length = X.N.length

section
variable {X : Cx} {pins : List (Addr × Obj)} {σ : List (Option V)} {H H' : Hp} {s : Shared} {h' : Heap}

theorem Cx.Ok.nofr (ok : X.Ok) {b : Addr} {o : Obj} (e : X.base.get? b = some o) : b ∉ X.fs := fun hb => by
  have := (ok.funs.mem hb).1
  rw [e] at this; cases this
theorem Inv.bs (I : Inv X pins σ H s) : ∀ b o, X.base.get? b = some o → s.heap.get? b = some o ∧ H b = none := fun b o e =>
  ⟨I.base.keep b o (I.ok.bs b o e).1 (I.ok.bs b o e).2 (I.ok.nofr e) (I.ok.noex b o e), I.base.free b o (I.ok.bs b o e).1 (I.ok.bs b o e).2 (I.ok.noex b o e)⟩
theorem Inv.bk (I : Inv X pins σ H s) : ∀ b o, X.base.get? b = some o → s.heap.get? b = some o := fun b o e => (I.bs b o e).1
theorem Inv.mod (I : Inv X pins σ H s) : Mod X.K X.mg X.base := I.ok.mod
theorem Inv.kIn (I : Inv X pins σ H s) : X.K.In s.heap := I.ok.mod.kin.keeps I.bk
theorem Inv.nolimit (I : Inv X pins σ H s) : s.heap.NoLimit := I.ok.mod.nolimit.keeps I.bk
theorem Inv.fr (I : Inv X pins σ H s) : ∃ m, Fr X.base X.env.locals s.heap m :=
  let ⟨m, hn, _⟩ := I.loc
  ⟨m, hn, I.bk, Nat.le_trans I.ok.bsz I.ok.above⟩
theorem Inv.lt (I : Inv X pins σ H s) : X.env.locals < s.heap.objs.size := let ⟨_, hn, _⟩ := I.loc; hn.lt
theorem Inv.sz (I : Inv X pins σ H s) : X.s₀.heap.objs.size ≤ s.heap.objs.size := Nat.le_trans I.ok.above (Nat.le_of_lt I.lt)
theorem Inv.nofs (I : Inv X pins σ H s) {a : Addr} (h : s.heap.objs.size ≤ a) : a ∉ X.fs := fun hb => by
  obtain ⟨_, o, ho, _⟩ := I.ok.funs.mem hb
  exact absurd (Nat.lt_of_lt_of_le (Heap.lt_size ho) (Nat.le_trans I.sz h)) (Nat.lt_irrefl _)
theorem Inv.cne (I : Inv X pins σ H s) : ∀ x c, X.env.cells.lookup x = some c → c ≠ X.env.locals := fun x c e z => by
  obtain ⟨v, o, ho, hd⟩ := I.cell x c e
  obtain ⟨m, ⟨o', es, ep, ho', hd', _⟩, _⟩ := I.loc
  rw [z, ho'] at ho; cases ho; rw [hd'] at hd; cases hd
theorem Inv.funs (I : Inv X pins σ H s) : s.heap.FunFrames X.base X.outer := by
  have all : ∀ (l : List Env), (∀ b ∈ frs l, b ∈ X.fs) → X.s₀.heap.FunFrames X.base l → s.heap.FunFrames X.base l := by
    intro l
    induction l with
    | nil => intro _ _; trivial
    | cons env r ih =>
      intro hs hl
      obtain ⟨hk, ⟨L, o, hf, hn, ho, hd⟩, hr⟩ := hl
      have hL : L ∈ X.fs := hs L (by unfold frs; rw [List.filterMap_cons, hf]; exact List.mem_cons_self)
      obtain ⟨sl, e⟩ := I.base.slot L o ho (I.ok.frf L hL) hL fun z => I.ok.exfs L z hL
      exact ⟨hk, ⟨L, _, hf, hn, e, hd⟩, ih (fun b hb => hs b (by unfold frs; rw [List.filterMap_cons, hf]; exact List.mem_cons_of_mem _ hb)) hr⟩
  exact all X.outer (fun _ hb => hb) I.ok.funs

theorem Inv.stack (I : Inv X pins σ H s) : s.heap.FunFrames X.base X.stack := by
  rcases I.ok.stk with e | ⟨e, hf⟩
  · rw [e]; exact I.funs
  · rw [e]
    obtain ⟨m, hn, _⟩ := I.loc
    refine .cons (by rw [I.ok.kind]; decide) hf hn ?_ I.funs
    exact Heap.get?_none_of_le (Nat.le_trans I.ok.bsz I.ok.above)
theorem Inv.stkSub (I : Inv X pins σ H s) : ∀ b ∈ frs X.stack, b ∈ X.env.locals :: X.fs := fun b hb => by
  rcases I.ok.stk with e | ⟨e, hf⟩
  · rw [e] at hb; exact List.mem_cons_of_mem _ hb
  · rw [e] at hb
    unfold frs at hb
    rw [List.filterMap_cons, hf] at hb
    exact hb
theorem Inv.stkFree (I : Inv X pins σ H s) : ∀ b ∈ frs X.stack, H b = none := fun b hb => by
  rcases List.mem_cons.mp (I.stkSub b hb) with e | hb
  · rw [e]; exact I.free
  · obtain ⟨_, o, ho, _⟩ := I.ok.funs.mem hb
    exact I.base.free b o ho (I.ok.frf b hb) fun z => I.ok.exfs b z hb

theorem Inv.step {g' : Array GenState} {t' : Nat} {d' : Drawn} {ch : List Addr} (I : Inv X pins σ H s)
    (hch : ∀ b ∈ ch, (b ∈ X.ex ∨ X.s₀.heap.objs.size ≤ b) ∧ b ≠ X.env.locals ∧ (∀ x c, X.env.cells.lookup x = some c → c ≠ b) ∧ ∀ p ∈ X.pn ++ pins, p.1 ≠ b)
    (keep : ∀ b o, b ≠ X.env.locals → b ∉ X.fs → b ∉ ch → s.heap.get? b = some o → H b = none → h'.get? b = some o)
    (slot : ∀ b o, b ≠ X.env.locals → b ∈ X.fs → b ∉ ch → s.heap.get? b = some o → H b = none → ∃ sl, h'.get? b = some { o with slots := sl }) (free : ∀ b o, b ∉ ch → s.heap.get? b = some o → H b = none → H' b = none)
    (there : ∀ b o, b ∉ ch → s.heap.get? b = some o → ∃ o', h'.get? b = some o')
    (tups : ∀ b xs, H b = some (.tup xs) → H' b = some (.tup xs)) (frzs : ∀ b o u, H b = some (.frz o u) → H' b = some (.frz o u)) (tbls : ∀ b ps, H b = some (.tbl ps) → ∃ more, H' b = some (.tbl (ps ++ more)))
    (ns : ∀ m, s.heap.Ns X.env.locals m → h'.Ns X.env.locals m) (hok : HOk X.prog X.w H' h') (hg : AllBare g') :
    Inv X pins σ H' { s with heap := h', gens := g', drawn := d', toks := t' } := by
  have neL : ∀ b o, X.s₀.heap.get? b = some o → b ≠ X.env.locals := fun b o e => Nat.ne_of_lt (Nat.lt_of_lt_of_le (Heap.lt_size e) I.ok.above)
  have neC : ∀ b o, X.s₀.heap.get? b = some o → b ∉ X.ex → b ∉ ch := fun b o e hx hb => by
    rcases (hch b hb).1 with z | z
    · exact hx z
    · exact absurd (Nat.lt_of_lt_of_le (Heap.lt_size e) z) (Nat.lt_irrefl _)
  have cellK : ∀ x c, X.env.cells.lookup x = some c → ∀ v, s.heap.IsCell c v → h'.IsCell c v := fun x c e v ⟨o, ho, hd⟩ => by
    have nch : c ∉ ch := fun z => (hch c z).2.2.1 x c e rfl
    by_cases hc : c ∈ X.fs
    · obtain ⟨sl, q⟩ := slot c o (I.cne x c e) hc nch ho (I.freeC x c e)
      exact ⟨_, q, hd⟩
    · exact ⟨o, keep c o (I.cne x c e) hc nch ho (I.freeC x c e), hd⟩
  refine ⟨I.ok, I.os, hg, ⟨fun b o e n hb hx => ?_, fun b o e n hb hx => ?_, fun b o e n hx => ?_, fun b o e hx => ?_, fun b xs e => tups b xs (I.base.tups b xs e), fun b o xs e => frzs b o xs (I.base.frzs b o xs e), fun b ps e => ?_⟩, ?_, fun x c e => ?_, ?_, fun x c e => ?_, fun p hp => ?_, hok, I.len⟩
  · exact keep b o (neL b o e) hb (neC b o e hx) (I.base.keep b o e n hb hx) (I.base.free b o e n hx)
  · obtain ⟨sl, e1⟩ := I.base.slot b o e n hb hx
    obtain ⟨sl', e2⟩ := slot b _ (neL b o e) hb (neC b o e hx) e1 (I.base.free b o e n hx)
    exact ⟨sl', e2⟩
  · obtain ⟨o', e1⟩ := I.base.there b o e hx
    exact free b o' (neC b o e hx) e1 (I.base.free b o e n hx)
  · obtain ⟨o', e1⟩ := I.base.there b o e hx
    exact there b o' (neC b o e hx) e1
  · obtain ⟨m1, e1⟩ := I.base.tbls b ps e
    obtain ⟨m2, e2⟩ := tbls b _ e1
    exact ⟨m1 ++ m2, by rw [e2, Array.append_assoc]⟩
  · obtain ⟨m, hn, hl⟩ := I.loc
    refine ⟨m, ns m hn, fun i x v e1 e2 e3 => ?_⟩
    obtain ⟨u, r, l⟩ := hl i x v e1 e2 e3
    refine ⟨u, r, ?_⟩
    rcases l with l | ⟨k, c, e, z⟩
    · exact .inl l
    · exact .inr ⟨k, c, e, cellK x c e _ z⟩
  · obtain ⟨v, z⟩ := I.cell x c e
    exact ⟨v, cellK x c e v z⟩
  · obtain ⟨m, ⟨o, _, _, ho, _⟩, _⟩ := I.loc
    exact free _ o (fun z => (hch _ z).2.1 rfl) ho I.free
  · obtain ⟨v, o, ho, hd⟩ := I.cell x c e
    exact free c o (fun z => (hch c z).2.2.1 x c e rfl) ho (I.freeC x c e)
  · obtain ⟨e, n, ne, nf, d⟩ := I.pin p hp
    have nch : p.1 ∉ ch := fun z => (hch p.1 z).2.2.2 p hp rfl
    exact ⟨keep p.1 p.2 ne nf nch e n, free p.1 p.2 nch e n, ne, nf, d⟩
theorem Inv.un {t' : Nat} (I : Inv X pins σ H s) (u : Un X.fs [] H H' s.heap h') (hok : HOk X.prog X.w H' h') : Inv X pins σ H' { s with heap := h', toks := t' } := by
  obtain ⟨m, ⟨o, es, ep, ho, r⟩, _⟩ := id I.loc
  obtain ⟨sl, hL⟩ := u.any ho I.free (by simp)
  exact I.step (g' := s.gens) (d' := s.drawn) (ch := []) (fun _ z => nomatch z) (fun b o _ hb _ e n => u.keep b o e n hb (by simp)) (fun b o _ hb _ e n => u.slot b o e n hb (by simp)) (fun b o _ e n => u.free b o e n (by simp)) (fun b o _ e => u.there b o e (by simp)) u.tups u.frzs u.tbls (fun m' hm => by
    obtain ⟨o', es', ep', ho', r'⟩ := hm
    rw [ho] at ho'; cases ho'
    exact ⟨_, es', ep', hL, r'⟩) hok I.bare
theorem Inv.call {g' : Array GenState} {t' : Nat} {d' : Drawn} {ch : List Addr} (I : Inv X pins σ H s) (u : Un (frs X.stack) ch H H' s.heap h') (hok : HOk X.prog X.w H' h') (hg : AllBare g')
    (hch : ∀ b ∈ ch, (b ∈ X.ex ∨ X.s₀.heap.objs.size ≤ b) ∧ b ≠ X.env.locals ∧ (∀ x c, X.env.cells.lookup x = some c → c ≠ b) ∧ ∀ p ∈ X.pn ++ pins, p.1 ≠ b) :
    Inv X pins σ H' { s with heap := h', gens := g', drawn := d', toks := t' } := by
  obtain ⟨m, ⟨o, es, ep, ho, r⟩, _⟩ := id I.loc
  obtain ⟨sl, hL⟩ := u.any ho I.free fun z => (hch _ z).2.1 rfl
  exact I.step (ch := ch) hch (fun b o hL hb hc e n => u.keep b o e n (fun z => (List.mem_cons.mp (I.stkSub b z)).elim hL hb) hc) (fun b o _ _ hc e n => u.any e n hc) (fun b o hc e n => u.free b o e n hc) (fun b o hc e => u.there b o e hc) u.tups u.frzs u.tbls (fun m' hm => by
    obtain ⟨o', es', ep', ho', r'⟩ := hm
    rw [ho] at ho'; cases ho'
    exact ⟨_, es', ep', hL, r'⟩) hok hg
theorem Inv.turned {t' : Nat} {it : Addr} (I : Inv X pins σ H s) (k : ∀ b o, b ≠ it → s.heap.get? b = some o → h'.get? b = some o) (hn : H it = none) (hL : it ≠ X.env.locals)
    (h1 : it ∈ X.ex ∨ X.s₀.heap.objs.size ≤ it) (h2 : ∀ x c, X.env.cells.lookup x = some c → c ≠ it) (h3 : ∀ p ∈ X.pn ++ pins, p.1 ≠ it) : Inv X pins σ H { s with heap := h', toks := t' } := by
  have nit : ∀ b u, H b = some u → b ≠ it := fun b u e z => by rw [z, hn] at e; cases e
  refine I.step (g' := s.gens) (d' := s.drawn) (ch := [it]) (fun b hb => ?_) (fun b o _ _ hc e _ => k b o (fun z => hc (by simp [z])) e) (fun b o _ _ hc e _ => ⟨o.slots, k b o (fun z => hc (by simp [z])) e⟩) (fun _ _ _ _ n => n)
    (fun b o hc e => ⟨o, k b o (fun z => hc (by simp [z])) e⟩) (fun _ _ e => e) (fun _ _ _ e => e) (fun b ps e => ⟨#[], by rw [e]; simp⟩) (fun m hm => ?_) (fun b u e => ?_) I.bare
  · have e : b = it := by simpa using hb
    subst e
    exact ⟨h1, hL, h2, h3⟩
  · obtain ⟨o, es, ep, ho, r⟩ := hm
    exact ⟨o, es, ep, k _ o (Ne.symm hL) ho, r⟩
  · refine (I.hok b u e).stay (fun c v hc q => k c v ?_ q) (fun _ q => q) fun _ _ q => q
    rcases hc with z | z
    · rw [z]; exact nit b u e
    · exact nit c _ z
theorem Inv.tok (I : Inv X pins σ H s) (t : Nat) : Inv X pins σ H { s with toks := t } := I.un (h' := s.heap) (t' := t) Un.refl I.hok
theorem Inv.kept {t' : Nat} (I : Inv X pins σ H s) (k : ∀ b u, s.heap.get? b = some u → h'.get? b = some u) : Inv X pins σ H { s with heap := h', toks := t' } := I.un (Un.kept k) (I.hok.kept k)
theorem Inv.laid {a : Addr} {o : HO} {t' : Nat} (I : Inv X pins σ H s) (k : ∀ b u, s.heap.get? b = some u → h'.get? b = some u) (hp : s.heap.objs.size ≤ a) (new : ObjOk X.prog X.w (upd H a o) h' a o) :
    Inv X pins σ (upd H a o) { s with heap := h', toks := t' } := I.un (Un.laid k hp (I.hok.fresh hp)) (I.hok.laid k hp new)
theorem Inv.write {x e : Addr} {o : HO} {t' : Nat} (I : Inv X pins σ H s) (mu : Mut (H x)) (he : e = x ∨ H e = some (.own x)) (k : ∀ b u, b ≠ e → s.heap.get? b = some u → h'.get? b = some u) (heo : ∃ u, h'.get? e = some u)
    (new : ObjOk X.prog X.w (upd H x o) h' x o) : Inv X pins σ (upd H x o) { s with heap := h', toks := t' } := I.un (Un.write mu he k heo) (I.hok.write mu he k heo new)
theorem Inv.pins_of {pins' : List (Addr × Obj)} (I : Inv X pins σ H s) (h : ∀ p ∈ pins', s.heap.get? p.1 = some p.2 ∧ H p.1 = none ∧ p.1 ≠ X.env.locals ∧ p.1 ∉ X.fs ∧ ∀ v, p.2.data ≠ .cell v) : Inv X pins' σ H s :=
  ⟨I.ok, I.os, I.bare, I.base, I.loc, I.cell, I.free, I.freeC, fun p hp => (List.mem_append.mp hp).elim (fun z => I.pin p (List.mem_append_left _ z)) (h p), I.hok, I.len⟩

theorem nodup_ix {N : List Str} (hN : N.Nodup) {i j : Nat} {x : Str} (a : N[i]? = some x) (b : N[j]? = some x) : i = j := by
  obtain ⟨h1, e1⟩ := List.getElem?_eq_some_iff.mp a
  obtain ⟨h2, e2⟩ := List.getElem?_eq_some_iff.mp b
  exact (List.getElem_inj hN).mp (e1.trans e2.symm)

theorem store_ok2 {M : Model} {A : Around} {E : Value → Shared → Prop} {i : Nat} {x : Str} {v : V} {u : Value} {Q : Unit → Shared → Prop} (I : Inv X pins σ H s) (hN : X.N.Nodup) (hi : X.N[i]? = some x) (hx : Loc X.env.scope x) (r : RelV v u)
    (h : ∀ s', Inv X pins (σ.set i (some v)) H s' → (∃ a, Heap.SameBut a s.heap s'.heap ∧ (a = X.env.locals ∨ X.env.cells.lookup x = some a)) → Q () s') (hf : X.fn x = true ∨ X.env.scope.names.lookup x = some .local := by first | exact .inl rfl | exact .inr rfl | assumption) : wpAny M A (storeName X.env x u) Q E s := by
  obtain ⟨m, hn, hl⟩ := id I.loc
  have hcls : (X.env.scope.kind == .class || (X.env.scope.kind == .module && X.env.locals != X.env.globals)) = false := by rw [I.ok.kind]; rfl
  have hiσ : i < σ.length := by rw [I.len]; exact (List.getElem?_eq_some_iff.mp hi).1
  have cne := I.cne
  have tracked : ∀ {a : Addr} {h' : Heap}, (∃ o, s.heap.get? a = some o ∧ H a = none) → Heap.SameBut a s.heap h' → HOk X.prog X.w H h' := fun {a h'} ha hs b ob e => by
    obtain ⟨_, _, hfree⟩ := ha
    refine (I.hok b ob e).stay (fun c w' hc q => (hs.2 c ?_).trans q) (fun _ q => q) fun _ _ q => q
    rintro rfl
    rcases hc with rfl | hc
    · rw [hfree] at e; cases e
    · rw [hfree] at hc; cases hc
  rcases hx with hk | hk
  · refine wpAny_storeName_local hk hn (fun h' hn' hs => ?_) hcls
    obtain ⟨oL, _, _, hoL, _⟩ := id hn
    refine h _ ⟨I.ok, I.os, I.bare, ⟨fun b o e n hb hx => ?_, fun b o e n hb hx => ?_, I.base.free, fun b o e hx => ?_, I.base.tups, I.base.frzs, I.base.tbls⟩, ⟨_, hn', fun j y v' e1 e2 e3 => ?_⟩, fun y c e => ?_, I.free, I.freeC, fun p hp => ?_, tracked ⟨oL, hoL, I.free⟩ hs, by simpa using I.len⟩ ⟨_, hs, .inl rfl⟩
    · exact (hs.2 b (Nat.ne_of_lt (Nat.lt_of_lt_of_le (Heap.lt_size e) I.ok.above))).trans (I.base.keep b o e n hb hx)
    · obtain ⟨sl, e1⟩ := I.base.slot b o e n hb hx
      exact ⟨sl, (hs.2 b (Nat.ne_of_lt (Nat.lt_of_lt_of_le (Heap.lt_size e) I.ok.above))).trans e1⟩
    · obtain ⟨o', e1⟩ := I.base.there b o e hx
      exact ⟨o', (hs.2 b (Nat.ne_of_lt (Nat.lt_of_lt_of_le (Heap.lt_size e) I.ok.above))).trans e1⟩
    · by_cases hj : j = i
      · subst hj
        rw [hi] at e1; cases e1
        rw [List.getElem?_set_self hiσ] at e2
        cases e2
        exact ⟨u, r, .inl ⟨hk, by simp⟩⟩
      · rw [List.getElem?_set_ne (Ne.symm hj)] at e2
        obtain ⟨u', r', q⟩ := hl j y v' e1 e2 e3
        refine ⟨u', r', ?_⟩
        rcases q with ⟨k, e⟩ | ⟨k, c, e, z⟩
        · refine .inl ⟨k, ?_⟩
          have : y ≠ x := fun e => hj (nodup_ix hN e1 (e ▸ hi))
          simp [this, e]
        · exact .inr ⟨k, c, e, z.sameBut hs (cne y c e)⟩
    · obtain ⟨w', z⟩ := I.cell y c e
      exact ⟨w', z.sameBut hs (cne y c e)⟩
    · obtain ⟨e, n, ne, nf, d⟩ := I.pin p hp
      exact ⟨(hs.2 p.1 ne).trans e, n, ne, nf, d⟩
  · have hfn : X.fn x = true := by
      rcases hf with z | z
      · exact z
      · rw [z] at hk; cases hk
    obtain ⟨c, hc⟩ := I.ok.has x (.inl hk)
    obtain ⟨w', z⟩ := I.cell x c hc
    refine wpAny_storeName_cell I.ok.kind hk hc z (fun h' hc' hs => ?_)
    obtain ⟨oc, hoc, hocd⟩ := id z
    refine h { s with heap := h' } ⟨I.ok, I.os, I.bare, ⟨fun b o e n hb hx => ?_, fun b o e n hb hx => ?_, I.base.free, fun b o e hx => ?_, I.base.tups, I.base.frzs, I.base.tbls⟩, ⟨m, hn.sameBut hs (Ne.symm (cne x c hc)), fun j y v' e1 e2 e3 => ?_⟩, fun y c' e => ?_, I.free, I.freeC, fun p hp => ?_, tracked ⟨oc, hoc, I.freeC x c hc⟩ hs, by simpa using I.len⟩ ⟨c, hs, .inr hc⟩
    · exact (hs.2 b (Nat.ne_of_lt (Nat.lt_of_lt_of_le (Heap.lt_size e) (I.ok.cab x c hfn hc)))).trans (I.base.keep b o e n hb hx)
    · obtain ⟨sl, e1⟩ := I.base.slot b o e n hb hx
      exact ⟨sl, (hs.2 b (Nat.ne_of_lt (Nat.lt_of_lt_of_le (Heap.lt_size e) (I.ok.cab x c hfn hc)))).trans e1⟩
    · obtain ⟨o', e1⟩ := I.base.there b o e hx
      exact ⟨o', (hs.2 b (Nat.ne_of_lt (Nat.lt_of_lt_of_le (Heap.lt_size e) (I.ok.cab x c hfn hc)))).trans e1⟩
    · by_cases hj : j = i
      · subst hj
        rw [hi] at e1; cases e1
        rw [List.getElem?_set_self hiσ] at e2
        cases e2
        exact ⟨u, r, .inr ⟨.inl hk, c, hc, hc'⟩⟩
      · rw [List.getElem?_set_ne (Ne.symm hj)] at e2
        obtain ⟨u', r', q⟩ := hl j y v' e1 e2 e3
        refine ⟨u', r', ?_⟩
        rcases q with q | ⟨k, c', e, z'⟩
        · exact .inl q
        · refine .inr ⟨k, c', e, z'.sameBut hs ?_⟩
          rintro rfl
          exact hj (nodup_ix hN e1 (I.ok.inj _ _ _ e hc ▸ hi))
    · by_cases hcc : c' = c
      · subst hcc; exact ⟨_, hc'⟩
      · obtain ⟨w2, z2⟩ := I.cell y c' e
        exact ⟨w2, z2.sameBut hs hcc⟩
    · obtain ⟨e, n, ne, nf, d⟩ := I.pin p hp
      refine ⟨(hs.2 p.1 ?_).trans e, n, ne, nf, d⟩
      intro q
      rw [q, hoc] at e
      have q' : oc = p.2 := Option.some.inj e
      exact d w' (by rw [← q']; exact hocd)
theorem store_ok {M : Model} {A : Around} {E : Value → Shared → Prop} {i : Nat} {x : Str} {v : V} {u : Value} {Q : Unit → Shared → Prop} (I : Inv X pins σ H s) (hN : X.N.Nodup) (hi : X.N[i]? = some x) (hx : Loc X.env.scope x) (r : RelV v u)
    (h : ∀ s', Inv X pins (σ.set i (some v)) H s' → Q () s') (hf : X.fn x = true ∨ X.env.scope.names.lookup x = some .local := by first | exact .inl rfl | exact .inr rfl | assumption) : wpAny M A (storeName X.env x u) Q E s :=
  store_ok2 I hN hi hx r (fun s' I' _ => h s' I') hf
theorem Inv.call' {s' : Shared} {ch : List Addr} (I : Inv X pins σ H s) (ho : s'.os = s.os) (u : Un (frs X.stack) ch H H' s.heap s'.heap) (hok : HOk X.prog X.w H' s'.heap) (hg : AllBare s'.gens)
    (hch : ∀ b ∈ ch, (b ∈ X.ex ∨ X.s₀.heap.objs.size ≤ b) ∧ b ≠ X.env.locals ∧ (∀ x c, X.env.cells.lookup x = some c → c ≠ b) ∧ ∀ p ∈ X.pn ++ pins, p.1 ≠ b) : Inv X pins σ H' s' := by
  obtain ⟨h', g', d', t', o'⟩ := s'
  have e : o' = s.os := ho
  subst e
  exact I.call (g' := g') (t' := t') (d' := d') u hok hg hch
end

abbrev XK := Value → Option Addr → Hp → Prop
abbrev St := List (Option V)
abbrev VK := V → Hp → Prop
abbrev TE := St → Hp → VK → Prop
abbrev TT := St → Hp → (Bool → Hp → Prop) → Prop
abbrev TA := St → Hp → (List V → Hp → Prop) → Prop
structure Ends where
  nx : St → Hp → Prop
  rt : VK
  bk : St → Hp → Prop := fun _ _ => False
  ct : St → Hp → Prop := fun _ _ => False
abbrev TS := Ends → St → Hp → Prop

def EP (X : Cx) (pins : List (Addr × Obj)) (σ : St) (Q : VK) (u : Value) (s' : Shared) : Prop := ∃ v H', Inv X pins σ H' s' ∧ RelV v u ∧ Q v H'
def TP (X : Cx) (pins : List (Addr × Obj)) (σ : St) (Q : Bool → Hp → Prop) (b : Bool) (s' : Shared) : Prop := ∃ H', Inv X pins σ H' s' ∧ Q b H'
def AP (X : Cx) (pins : List (Addr × Obj)) (σ : St) (Q : List V → Hp → Prop) (us : List Value) (s' : Shared) : Prop := ∃ vs H', Inv X pins σ H' s' ∧ Vals vs us ∧ Q vs H'
def SP (X : Cx) (pins : List (Addr × Obj)) (D : Ends) (f : Flow) (s' : Shared) : Prop :=
  match f with
  | .next => ∃ σ' H', Inv X pins σ' H' s' ∧ D.nx σ' H'
  | .brk => ∃ σ' H', Inv X pins σ' H' s' ∧ D.bk σ' H'
  | .cont => ∃ σ' H', Inv X pins σ' H' s' ∧ D.ct σ' H'
  | .ret u => ∃ v σ' H', Inv X pins σ' H' s' ∧ RelV v u ∧ D.rt v H'

def PE (X : Cx) (e : Expr) (t : TE) : Prop :=
  ∀ (pins : List (Addr × Obj)) (s : Shared) (σ : St) (H : Hp) (Q : VK), Inv X pins σ H s → t σ H Q → wpAny (model X.prog X.w) X.A (eval e X.env) (EP X pins σ Q) X.xe s
def PT (X : Cx) (e : Expr) (t : TT) : Prop :=
  ∀ (pins : List (Addr × Obj)) (s : Shared) (σ : St) (H : Hp) (Q : Bool → Hp → Prop), Inv X pins σ H s → t σ H Q → wpAny (model X.prog X.w) X.A (isTrue e X.env (eval e X.env)) (TP X pins σ Q) X.xe s
def PW (X : Cx) (e : Expr) (t : TT) : Prop :=
  ∀ (whole : Sem Value) (pins : List (Addr × Obj)) (s : Shared) (σ : St) (H : Hp) (Q : Bool → Hp → Prop), Inv X pins σ H s → t σ H Q → wpAny (model X.prog X.w) X.A (isTrue e X.env whole) (TP X pins σ Q) X.xe s
theorem PW.pt {X : Cx} {e : Expr} {t : TT} (h : PW X e t) : PT X e t := h _
def PA (X : Cx) (es : List Expr) (t : TA) : Prop :=
  ∀ (pos : Pos) (pins : List (Addr × Obj)) (s : Shared) (σ : St) (H : Hp) (Q : List V → Hp → Prop), Inv X pins σ H s → t σ H Q → wpAny (model X.prog X.w) X.A (spliced (backTo pos (starEach es X.env))) (AP X pins σ Q) X.xe s
def PS (X : Cx) (st : Stmt) (t : TS) : Prop :=
  ∀ (pins : List (Addr × Obj)) (s : Shared) (σ : St) (H : Hp) (D : Ends), Inv X pins σ H s → t D σ H → wpAny (model X.prog X.w) X.A (exec st X.env) (SP X pins D) X.xe s
def PSs (X : Cx) (st : List Stmt) (t : TS) : Prop :=
  ∀ (pins : List (Addr × Obj)) (s : Shared) (σ : St) (H : Hp) (D : Ends), Inv X pins σ H s → t D σ H → wpAny (model X.prog X.w) X.A (execs st X.env) (SP X pins D) X.xe s
theorem thn {α : Type} {t : Sem α} {Q Q' : α → Shared → Prop} {M : Model} {A : Around} {E : Value → Shared → Prop} {s : Shared} (h : wpAny M A t Q E s) (hQ : ∀ a s, Q a s → Q' a s) : wpAny M A t Q' E s := wpAny_mono h hQ fun _ _ x => x
end L2

namespace L2
open PySem PySem.Spec PyProof.Rows
section
variable {X : Cx}

def tVar (i : Nat) : TE := fun σ H Q => ∃ v, σ[i]? = some (some v) ∧ Q v H
def tC (v : V) : TE := fun _ H Q => Q v H
theorem pe_var {i : Nat} {x : Str} {pos : Pos} (hN : X.N[i]? = some x) (hv : Vis X.env.scope x) (hd : (x == ("__debug__" : Str)) = false := by decide) (hcd : (x == ("__classdict__" : Str)) = false := by decide) : PE X (.Name x pos) (tVar i) := by
  intro pins s σ H Q I h
  obtain ⟨v, e, h⟩ := h
  obtain ⟨m, hn, hl⟩ := I.loc
  obtain ⟨u, r, l⟩ := hl i x v hN e hv
  have fin : EP X pins σ Q u s := ⟨v, H, I, r, h⟩
  rcases l with ⟨hk, hm⟩ | ⟨hk, c, hc, hcell⟩
  · exact wpAny_Name (wpAny_loadName_local I.ok.kind hk hn hm fin) hd
  · rcases hk with hk | hk
    · exact wpAny_Name (wpAny_loadName_cell I.ok.kind hk hc hcell fin) hd
    · exact wpAny_Name (wpAny_loadName_free I.ok.kind hk hc hcell fin hcd) hd
theorem pe_int {i j pos} : PE X (.Constant (.int i) j pos) (tC (.int i)) := fun _ _ _ H _ I h => wpAny_Constant_int ⟨.int i, H, I.tok _, ⟨_, rfl⟩, h⟩
theorem pe_bl {b j pos} : PE X (.Constant (.bool b) j pos) (tC (.bl b)) := fun _ _ _ H _ I h => Constant_bool ⟨.bl b, H, I, rfl, h⟩
theorem pe_non {j pos} : PE X (.Constant .none j pos) (tC .non) := fun _ _ _ H _ I h => Constant_none ⟨.non, H, I, rfl, h⟩
theorem pe_str {x j pos} : PE X (.Constant (.str x) j pos) (tC (.str x)) := fun _ _ _ H _ I h => Calls.Constant_str ⟨.str x, H, I.tok _, ⟨_, rfl⟩, h⟩

def Gl (X : Cx) (x : Str) : Prop := X.env.kindOf x = some .globalImplicit
theorem ld_glob {E : Value → Shared → Prop} {pins : List (Addr × Obj)} {s : Shared} {σ : St} {H : Hp} {x : Str} {u : Value} {pos : Pos} {Q : Value → Shared → Prop} (I : Inv X pins σ H s) (hg : Gl X x) (hm : X.mg x = some u) (h : Q u s)
    (hd : (x == ("__debug__" : Str)) = false := by decide) : wpAny (model X.prog X.w) X.A (eval (.Name x pos) X.env) Q E s :=
  Calls.Name_function_global I.ok.kind hg (Calls.loadGlobal_global (by rw [I.ok.glob]; exact I.mod.glob.keeps I.bk) hm h) hd
theorem ld_blt {E : Value → Shared → Prop} {pins : List (Addr × Obj)} {s : Shared} {σ : St} {H : Hp} {x : Str} {u : Value} {pos : Pos} {Q : Value → Shared → Prop} (I : Inv X pins σ H s) (hg : Gl X x) (hm : X.mg x = none) (hv : bootBuiltins x = some u) (h : Q u s)
    (hn : x ≠ "__name__" := by decide) (hd : (x == ("__debug__" : Str)) = false := by decide) : wpAny (model X.prog X.w) X.A (eval (.Name x pos) X.env) Q E s := by
  obtain ⟨mb, h1, h2⟩ := I.mod.blt
  exact Calls.Name_function_global I.ok.kind hg (Calls.loadGlobal_builtin (by rw [I.ok.glob]; exact I.mod.glob.keeps I.bk) hm (by rw [I.ok.blt]; exact h1.keeps I.bk) ((h2 x hn).trans hv) h) hd
theorem pe_glob {x : Str} {v : V} {u : Value} {pos : Pos} (hg : Gl X x) (hm : X.mg x = some u) (r : RelV v u) (hd : (x == ("__debug__" : Str)) = false := by decide) : PE X (.Name x pos) (tC v) :=
  fun _ _ _ H _ I h => ld_glob I hg hm ⟨v, H, I, r, h⟩ hd
theorem pe_bltn {x : Str} {v : V} {u : Value} {pos : Pos} (hg : Gl X x) (hm : X.mg x = none) (hv : bootBuiltins x = some u) (r : RelV v u) (hn : x ≠ "__name__" := by decide) (hd : (x == ("__debug__" : Str)) = false := by decide) : PE X (.Name x pos) (tC v) :=
  fun _ _ _ H _ I h => ld_blt I hg hm hv ⟨v, H, I, r, h⟩ hn hd

variable {a b : Expr} {ta tb : TE} {pos : Pos}
variable {tA tB' : TT} {rest : List Expr}
def tAnd (t u : TT) : TT := fun σ H Q => t σ H fun c H1 => if c = true then u σ H1 Q else Q false H1
def tOr (t u : TT) : TT := fun σ H Q => t σ H fun c H1 => if c = true then Q true H1 else u σ H1 Q
def tNot (t : TT) : TT := fun σ H Q => t σ H fun c H1 => Q (!c) H1
theorem pw_and1 (ha : PT X a tA) : PW X (.BoolOp .And [a] pos) tA := by
  intro wh pins s σ H Q I h
  refine isTrue_and (thn (ha pins s σ H Q I h) fun c s1 e => ?_)
  cases c with
  | true => exact isTrue_and_nil e
  | false => exact e
theorem pw_or1 (ha : PT X a tA) : PW X (.BoolOp .Or [a] pos) tA := by
  intro wh pins s σ H Q I h
  refine isTrue_or (thn (ha pins s σ H Q I h) fun c s1 e => ?_)
  cases c with
  | false => exact isTrue_or_nil e
  | true => exact e
theorem pw_and (ha : PT X a tA) (hb : PW X (.BoolOp .And (b :: rest) pos) tB') : PW X (.BoolOp .And (a :: b :: rest) pos) (tAnd tA tB') := by
  intro wh pins s σ H Q I h
  refine isTrue_and (thn (ha pins s σ H _ I h) fun c s1 ⟨H1, I1, q1⟩ => ?_)
  cases c with
  | true => exact hb wh pins s1 σ H1 Q I1 q1
  | false => exact ⟨H1, I1, q1⟩
theorem pw_or (ha : PT X a tA) (hb : PW X (.BoolOp .Or (b :: rest) pos) tB') : PW X (.BoolOp .Or (a :: b :: rest) pos) (tOr tA tB') := by
  intro wh pins s σ H Q I h
  refine isTrue_or (thn (ha pins s σ H _ I h) fun c s1 ⟨H1, I1, q1⟩ => ?_)
  cases c with
  | true => exact ⟨H1, I1, q1⟩
  | false => exact hb wh pins s1 σ H1 Q I1 q1
theorem pt_not (ha : PT X a tA) : PT X (.UnaryOp .Not a pos) (tNot tA) := by
  intro pins s σ H Q I h
  exact isTrue_not (ha pins s σ H (fun c H1 => Q (!c) H1) I h)
theorem pe_one {op} {t : TE} (h : PE X a t) : PE X (.BoolOp op [a] pos) t := fun pins s σ H Q I hw => BoolOp_one (h pins s σ H Q I hw)
end
end L2

namespace L2
open PySem PySem.Spec PyProof.Rows

def SqL (K : PySem.W.Frag) (H : Hp) (a : Addr) (xs : List V) : Prop :=
  Rd H a (.lst xs) ∨
    ∃ (o : Obj) (its : Array Value) (n : Nat), K.lookup a = some o ∧ o.cls = .type "list" ∧ o.dict = none ∧ o.data = .seq its n ∧ its.size ≤ sizeLine ∧ Vals xs its.toList
def SqT (K : PySem.W.Frag) (H : Hp) (a : Addr) (xs : List V) : Prop :=
  Rd H a (.tup xs) ∨
    ∃ (o : Obj) (its : Array Value) (n : Nat), K.lookup a = some o ∧ o.cls = .type "tuple" ∧ o.data = .seq its n ∧ its.size ≤ sizeLine ∧ Vals xs its.toList
def absV : Value → Option V
  | .none => some .non
  | .bool b => some (.bl b)
  | .int i _ => some (.int i)
  | .str x _ => some (.str x)
  | .bytes b _ => some (.byt b)
  | .float b _ => some (.flt b)
  | .ref a => some (.ref a)
  | .type n => some (.ty n)
  | _ => none
theorem RelV.abs {x : V} {u : Value} (r : RelV x u) : absV u = some x := by
  cases x with
  | non => cases r; rfl
  | bl _ => cases r; rfl
  | int _ => obtain ⟨t, rfl⟩ := r; rfl
  | str _ => obtain ⟨t, rfl⟩ := r; rfl
  | byt _ => obtain ⟨t, rfl⟩ := r; rfl
  | flt _ => obtain ⟨t, rfl⟩ := r; rfl
  | ref _ => cases r; rfl
  | ty _ => cases r; rfl
theorem RelV.inj {x y : V} {u : Value} (r : RelV x u) (q : RelV y u) : x = y := Option.some.inj (r.abs.symm.trans q.abs)
theorem Vals.inj : ∀ {xs ys : List V} {us : List Value}, Vals xs us → Vals ys us → xs = ys
  | _, _, _, .nil, .nil => rfl
  | _, _, _, .cons r t, .cons r' t' => by rw [r.inj r', Vals.inj t t']
section
variable {X : Cx} {pins : List (Addr × Obj)} {σ : St} {H : Hp} {s : Shared} {a : Addr} {xs ys : List V}
theorem SqL.of {K : PySem.W.Frag} (h : H a = some (.lst xs)) : SqL K H a xs := .inl (.inl h)
theorem SqT.of {K : PySem.W.Frag} (h : H a = some (.tup xs)) : SqT K H a xs := .inl (.inl h)
theorem Inv.list (I : Inv X pins σ H s) (h : SqL X.K H a xs) : ∃ its : List Value, Vals xs its ∧ PlainL s.heap a its.toArray ∧ xs.length ≤ sizeLine := by
  rcases h with h | ⟨o, its, n, hk, hc, hd, hs, hz, r⟩
  · obtain ⟨z, its, n, r, e⟩ := h.ok I.hok
    exact ⟨its, r, ⟨_, n, e, rfl, rfl, rfl⟩, z⟩
  · refine ⟨its.toList, r, ⟨o, n, I.kIn a o hk, hc, hd, by simpa using hs⟩, ?_⟩
    have e := r.length
    simp only [Array.length_toList] at e
    omega
theorem Inv.tuple (I : Inv X pins σ H s) (h : SqT X.K H a xs) : ∃ its : List Value, Vals xs its ∧ IsTup s.heap a its.toArray ∧ xs.length ≤ sizeLine := by
  rcases h with h | ⟨o, its, n, hk, hc, hs, hz, r⟩
  · obtain ⟨z, its, r, p⟩ := h.ok I.hok
    exact ⟨its, r, p, z⟩
  · refine ⟨its.toList, r, ⟨o, I.kIn a o hk, hc, n, by simpa using hs⟩, ?_⟩
    have e := r.length
    simp only [Array.length_toList] at e
    omega
theorem Inv.list_inj (I : Inv X pins σ H s) (h : SqL X.K H a xs) (h' : SqL X.K H a ys) : xs = ys := by
  obtain ⟨its, r, ⟨o, n, e, _, _, d⟩, _⟩ := I.list h
  obtain ⟨its', r', ⟨o', n', e', _, _, d'⟩, _⟩ := I.list h'
  rw [e] at e'; cases e'
  rw [d] at d'
  injection d' with d1 _
  have : its = its' := by simpa using congrArg Array.toList d1
  subst this
  exact r.inj r'
end

abbrev Cx.wish (X : Cx) (E : Value → Shared → Prop) : Cx := { X with xe := E }
abbrev Cx.nox (X : Cx) : Cx := X.wish fun _ _ => False
theorem Cx.Ok.wish {X : Cx} (ok : X.Ok) (E : Value → Shared → Prop) : (X.wish E).Ok :=
  ⟨ok.mod, ok.kind, ok.glob, ok.blt, ok.above, ok.inj, ok.has, ok.cab, ok.hd, ok.frames, ok.stk, ok.exf, ok.bs, ok.bsz, ok.noex, ok.exfs, ok.funs, ok.frf⟩
theorem Cx.Ok.unwish {X : Cx} {E : Value → Shared → Prop} (ok : (X.wish E).Ok) : X.Ok :=
  ⟨ok.mod, ok.kind, ok.glob, ok.blt, ok.above, ok.inj, ok.has, ok.cab, ok.hd, ok.frames, ok.stk, ok.exf, ok.bs, ok.bsz, ok.noex, ok.exfs, ok.funs, ok.frf⟩
section
variable {X : Cx} {pins : List (Addr × Obj)} {σ : St} {H : Hp} {s : Shared} {E : Value → Shared → Prop}
theorem Inv.wish (I : Inv X pins σ H s) (E : Value → Shared → Prop) : Inv (X.wish E) pins σ H s := ⟨I.ok.wish E, I.os, I.bare, I.base, I.loc, I.cell, I.free, I.freeC, I.pin, I.hok, I.len⟩
theorem Inv.unwish (I : Inv (X.wish E) pins σ H s) : Inv X pins σ H s := ⟨I.ok.unwish, I.os, I.bare, I.base, I.loc, I.cell, I.free, I.freeC, I.pin, I.hok, I.len⟩
theorem SP.unwish {D : Ends} {f : Flow} {s' : Shared} (h : SP (X.wish E) pins D f s') : SP X pins D f s' := by
  cases f with
  | next => obtain ⟨σ', H', I, q⟩ := h; exact ⟨σ', H', I.unwish, q⟩
  | brk => obtain ⟨σ', H', I, q⟩ := h; exact ⟨σ', H', I.unwish, q⟩
  | cont => obtain ⟨σ', H', I, q⟩ := h; exact ⟨σ', H', I.unwish, q⟩
  | ret u => obtain ⟨v, σ', H', I, r, q⟩ := h; exact ⟨v, σ', H', I.unwish, r, q⟩
theorem PE.nox {e : Expr} {t : TE} (h : PE X.nox e t) : PE X e t := fun pins s σ H Q I hw =>
  wpAny_mono (h pins s σ H Q (I.wish _) hw) (fun _ _ ⟨v, H', I', r, q⟩ => ⟨v, H', I'.unwish, r, q⟩) fun _ _ z => False.elim z
theorem PT.nox {e : Expr} {t : TT} (h : PT X.nox e t) : PT X e t := fun pins s σ H Q I hw =>
  wpAny_mono (h pins s σ H Q (I.wish _) hw) (fun _ _ ⟨H', I', q⟩ => ⟨H', I'.unwish, q⟩) fun _ _ z => False.elim z
theorem PSs.nox {st : List Stmt} {t : TS} (h : PSs X.nox st t) : PSs X st t := fun pins s σ H D I hw =>
  wpAny_mono (h pins s σ H D (I.wish _) hw) (fun _ _ q => q.unwish) fun _ _ z => False.elim z
end

section
variable {X : Cx} {st : Stmt} {rest : List Stmt} {t u : TS} {e : Expr} {te : TE} {pos : Pos}
def tNext : TS := fun D σ H => D.nx σ H
def tSeq (t u : TS) : TS := fun D σ H => t { D with nx := u D } σ H
theorem pss_nil : PSs X [] tNext := fun _ _ σ H _ I h => wpAny_execs_nil ⟨σ, H, I, h⟩
theorem pss_cons (h1 : PS X st t) (h2 : PSs X rest u) : PSs X (st :: rest) (tSeq t u) := by
  intro pins s σ H D I h
  refine wpAny_execs_cons (thn (h1 pins s σ H { D with nx := u D } I h) fun f s1 q => ?_)
  cases f with
  | next =>
    obtain ⟨σ', H', I', q⟩ := q
    exact h2 pins s1 σ' H' D I' q
  | ret v => exact q
  | brk => exact q
  | cont => exact q
theorem pss_one (h1 : PS X st t) : PSs X [st] t := by
  intro pins s σ H D I h
  refine wpAny_execs_cons (thn (h1 pins s σ H D I h) fun f s1 q => ?_)
  cases f with
  | next => exact wpAny_execs_nil q
  | ret v => exact q
  | brk => exact q
  | cont => exact q
theorem Inv.quiet {pins : List (Addr × Obj)} {σ : St} {H : Hp} {s : Shared} (I : Inv X pins σ H s) : interactive X.env = false := by simp [interactive, I.ok.kind]
def tDrop (te : TE) : TS := fun D σ H => te σ H fun _ H1 => D.nx σ H1
theorem ps_expr (he : PE X e te) (hs : swapsWith e none pos.line X.env = pure false := by rfl) : PS X (.Expr e pos) (tDrop te) := by
  intro pins s σ H D I h
  exact wpAny_Expr_any (thn (he pins s σ H _ I h) fun v s1 ⟨x, H1, I1, r1, q1⟩ => ⟨σ, H1, I1, q1⟩) I.quiet hs
def tRet (te : TE) : TS := fun D σ H => te σ H D.rt
theorem ps_ret (he : PE X e te) : PS X (.Return (some e) pos) (tRet te) := by
  intro pins s σ H D I h
  exact wpAny_Return_some (thn (he pins s σ H _ I h) fun v s1 ⟨x, H1, I1, r1, q1⟩ => ⟨x, σ, H1, I1, r1, q1⟩)
def tIfS (c : TT) (t u : TS) : TS := fun D σ H => c σ H fun b H1 => if b = true then t D σ H1 else u D σ H1
theorem ps_if {c : Expr} {a b : List Stmt} {tc : TT} (hc : PT X c tc) (ha : PSs X a t) (hb : PSs X b u) : PS X (.If c a b pos) (tIfS tc t u) := by
  intro pins s σ H D I h
  refine wpAny_If (thn (hc pins s σ H _ I h) fun d s1 ⟨H1, I1, q1⟩ => ?_)
  cases d with
  | true => exact ha pins s1 σ H1 D I1 q1
  | false => exact hb pins s1 σ H1 D I1 q1
end

abbrev TG := V → St → Hp → (St → Hp → Prop) → Prop
abbrev TGs := List V → St → Hp → (St → Hp → Prop) → Prop
def PG (X : Cx) (target : Expr) (t : TG) : Prop :=
  ∀ (pins : List (Addr × Obj)) (s : Shared) (σ : St) (H : Hp) (v : V) (u : Value) (Q : St → Hp → Prop), Inv X pins σ H s → RelV v u → t v σ H Q →
    wpAny (model X.prog X.w) X.A (assign target X.env u) (fun _ s' => ∃ σ' H', Inv X pins σ' H' s' ∧ Q σ' H') X.xe s
def PGs (X : Cx) (ts : List Expr) (t : TGs) : Prop :=
  ∀ (pins : List (Addr × Obj)) (s : Shared) (σ : St) (H : Hp) (vs : List V) (us : List Value) (Q : St → Hp → Prop), Inv X pins σ H s → Vals vs us → t vs σ H Q →
    wpAny (model X.prog X.w) X.A (assignInOrder ((assignEach ts X.env).map (·.2)) us) (fun _ s' => ∃ σ' H', Inv X pins σ' H' s' ∧ Q σ' H') X.xe s
abbrev TSet := V → V → V → Hp → (Hp → Prop) → Prop
def PSet (X : Cx) (t : TSet) : Prop :=
  ∀ (pins : List (Addr × Obj)) (s : Shared) (σ : St) (H : Hp) (o i v : V) (ov iv u : Value) (Q : Hp → Prop), Inv X pins σ H s → RelV o ov → RelV i iv → RelV v u → t o i v H Q →
    wpAny (model X.prog X.w) X.A (setItem ov iv u) (fun _ s' => ∃ H', Inv X pins σ H' s' ∧ Q H') X.xe s
abbrev TIp := V → V → Hp → VK → Prop
def PIp (X : Cx) (op : Operator) (t : TIp) : Prop :=
  ∀ (pins : List (Addr × Obj)) (s : Shared) (σ : St) (H : Hp) (x y : V) (v u : Value) (Q : VK), Inv X pins σ H s → RelV x v → RelV y u → t x y H Q →
    wpAny (model X.prog X.w) X.A (inplaceOp op v u) (EP X pins σ Q) X.xe s
section
variable {X : Cx} {pos : Pos}
def gName (i : Nat) : TG := fun v σ H Q => Q (σ.set i (some v)) H
theorem pg_name {i : Nat} {x : Str} (hN : X.N.Nodup) (hi : X.N[i]? = some x) (hx : Loc X.env.scope x) (hf : X.fn x = true ∨ X.env.scope.names.lookup x = some .local := by first | exact .inl rfl | exact .inr rfl | assumption) : PG X (.Name x pos) (gName i) := by
  intro pins s σ H v u Q I r h
  exact wpAny_assign_Name (store_ok I hN hi hx r (fun s' I' => ⟨_, H, I', h⟩) hf)
def gNil : TGs := fun vs σ H Q => vs = [] ∧ Q σ H
def gCons (t : TG) (u : TGs) : TGs := fun vs σ H Q => ∃ v r, vs = v :: r ∧ t v σ H fun σ' H' => u r σ' H' Q
theorem pgs_nil : PGs X [] gNil := by
  intro pins s σ H vs us Q I r h
  obtain ⟨e, h⟩ := h
  subst e
  cases r
  exact assignInOrder_nil ⟨σ, H, I, h⟩
theorem pgs_cons {e : Expr} {es : List Expr} {t : TG} {u : TGs} (h1 : PG X e t) (h2 : PGs X es u)
    (hs : (assignEach (e :: es) X.env).map (·.2) = assign e X.env :: (assignEach es X.env).map (·.2) := by rfl) : PGs X (e :: es) (gCons t u) := by
  intro pins s σ H vs us Q I r h
  obtain ⟨v, vr, e1, h⟩ := h
  subst e1
  cases r with
  | cons r rr =>
    rw [hs]
    refine assignInOrder_cons (thn (h1 pins s σ H _ _ _ I r h) fun _ s1 ⟨σ1, H1, I1, q1⟩ => ?_)
    exact h2 pins s1 σ1 H1 _ _ Q I1 rr q1
def gTup (K : PySem.W.Frag) (n : Nat) (t : TGs) : TG := fun v σ H Q => ∃ a xs, v = .ref a ∧ SqT K H a xs ∧ xs.length = n ∧ t xs σ H Q
theorem pg_tup {es : List Expr} {k : Nat} {t : TGs} {n : Nat} (hc : X.calm = true) (h : PGs X es t)
    (hn : (assignEach es X.env).length = n := by rfl) (hst : (assignEach es X.env).findIdx? (·.1) = none := by rfl) : PG X (.Tuple es k pos) (gTup X.K n t) := by
  intro pins s σ H v u Q I r hw
  obtain ⟨a, xs, e1, hq, hl, hw⟩ := hw
  subst e1
  cases r
  obtain ⟨its, rv, ht, hz⟩ := I.tuple hq
  refine assign_Tuple_tuple (I.ok.hd hc) ht (by simp [hn, ← hl, rv.length]) hst fun h' hx => ?_
  have I1 : Inv X pins σ H { s with heap := h' } := I.kept (t' := s.toks) fun b o e => hx b o (Nat.ne_of_lt (Heap.lt_size e)) e
  exact h pins _ σ H xs _ Q I1 (by simpa using rv) hw
def gSub (to ti : TE) (t : TSet) : TG := fun v σ H Q => to σ H fun o H1 => ti σ H1 fun i H2 => t o i v H2 fun H3 => Q σ H3
theorem pg_sub {o i : Expr} {to ti : TE} {t : TSet} (ho : PE X o to) (hi : PE X i ti) (hs : PSet X t)
    (ha : ∀ v, assign (.Subscript o i pos) X.env v = (do
      let ov ← holding [v] (eval o X.env)
      let iv ← holding [v, ov] (eval i X.env)
      standAt pos
      holding [v, ov, iv] (setItem ov iv v)
      release [v, ov, iv] []) := by intro _; rfl) : PG X (.Subscript o i pos) (gSub to ti t) := by
  intro pins s σ H v u Q I r h
  rw [ha]
  refine wpAny_bind (wpAny_holding (thn (ho pins s σ H _ I h) fun ov s1 ⟨x, H1, I1, r1, q1⟩ => ?_))
  refine wpAny_bind (wpAny_holding (thn (hi pins s1 σ H1 _ I1 q1) fun iv s2 ⟨y, H2, I2, r2, q2⟩ => ?_))
  refine wpAny_bind (wpAny_standAt (wpAny_bind (wpAny_holding (thn (hs pins s2 σ H2 x y v ov iv u _ I2 r1 r2 r q2) fun _ s3 ⟨H3, I3, q3⟩ => ?_))))
  exact wpAny_release ⟨σ, H3, I3, q3⟩
def tAsg (te : TE) (g : TG) : TS := fun D σ H => te σ H fun x H1 => g x σ H1 D.nx
theorem ps_asg {tg e : Expr} {te : TE} {g : TG} (he : PE X e te) (hg : PG X tg g) (hs : swapsWithSole [tg] e pos.line X.env = pure false := by rfl) (hw : swappedStores [tg] e X.env = pure none := by rfl)
    (h1 : (assignEach [tg] X.env).map (·.2) = [assign tg X.env] := by rfl) : PS X (.Assign [tg] e pos) (tAsg te g) := by
  intro pins s σ H D I h
  refine wpAny_Assign_stores (thn (he pins s σ H _ I h) fun v s1 ⟨x, H1, I1, r1, q1⟩ => ?_) hs hw
  rw [h1]
  exact thn (hg pins s1 σ H1 x v _ I1 r1 q1) fun _ s2 q => q
def tAug (i : Nat) (te : TE) (ti : TIp) : TS := fun D σ H => ∃ x, σ[i]? = some (some x) ∧ te σ H fun y H1 => ti x y H1 fun z H2 => D.nx (σ.set i (some z)) H2
theorem ps_aug {i : Nat} {x : Str} {e : Expr} {te : TE} {op : Operator} {ti : TIp} {pos' : Pos} (hN : X.N.Nodup) (hi : X.N[i]? = some x) (hx : Loc X.env.scope x) (he : PE X e te) (ho : PIp X op ti) (hf : X.fn x = true ∨ X.env.scope.names.lookup x = some .local := by first | exact .inl rfl | exact .inr rfl | assumption) :
    PS X (.AugAssign (.Name x pos') op e pos) (tAug i te ti) := by
  intro pins s σ H D I h
  obtain ⟨v, e1, h⟩ := h
  obtain ⟨m, hn, hl⟩ := I.loc
  have vis : Vis X.env.scope x := by rcases hx with k | k; exact .inl k; exact .inr (.inl k)
  obtain ⟨u, r, l⟩ := hl i x v hi e1 vis
  refine wpAny_AugAssign_Name ?_
  have go : wpAny (model X.prog X.w) X.A (eval e X.env) (fun w s₂ => wpAny (model X.prog X.w) X.A (inplaceOp op u w) (fun r s₃ => wpAny (model X.prog X.w) X.A (storeName X.env x r) (fun _ => SP X pins D .next) X.xe s₃) X.xe s₂) X.xe s := by
    refine thn (he pins s σ H _ I h) fun w s1 ⟨y, H1, I1, r1, q1⟩ => ?_
    refine thn (ho pins s1 σ H1 v y u w _ I1 r r1 q1) fun z s2 ⟨zv, H2, I2, r2, q2⟩ => ?_
    exact store_ok I2 hN hi hx r2 (fun s3 I3 => ⟨_, H2, I3, q2⟩) hf
  rcases l with ⟨hk, hm⟩ | ⟨hk, c, hc, hcell⟩
  · exact wpAny_loadName_local I.ok.kind hk hn hm go
  · rcases hk with hk | hk
    · exact wpAny_loadName_cell I.ok.kind hk hc hcell go
    · rcases hx with k | k
      · have : X.env.scope.names.lookup x = some .free := hk
        rw [k] at this; cases this
      · have : X.env.scope.names.lookup x = some .free := hk
        rw [k] at this; cases this
def ipI (f : Int → Int → Int) : TIp := fun x y H Q => ∃ i j, x = .int i ∧ y = .int j ∧ Q (.int (f i j)) H
theorem ip_add : PIp X .Add (ipI fun i j => i + j) := by
  intro pins s σ H x y v u Q I r1 r2 h
  obtain ⟨i, j, e1, e2, q⟩ := h
  subst e1; subst e2
  obtain ⟨t, rfl⟩ := r1
  obtain ⟨t', rfl⟩ := r2
  exact iadd_int ⟨.int _, H, I.tok _, ⟨_, rfl⟩, q⟩
end

section
variable {X : Cx} {pos : Pos}
def tWhile (c : TT) (tb : TS) : TS := fun D σ H => ∃ W : Nat → St → Hp → Prop, (∃ m, W m σ H) ∧ ∀ m σ H, W m σ H →
  c σ H fun b H1 => if b = true then ∃ N : St → Hp → Prop, (∀ σ' H', N σ' H' → ∃ m', m' < m ∧ W m' σ' H') ∧ tb { D with nx := N, ct := N, bk := D.nx } σ H1 else D.nx σ H1
theorem ps_while {c : Expr} {body : List Stmt} {tc : TT} {tb : TS} (hp : PassesOwn (model X.prog X.w) X.A X.env X.xe) (hc : PT X c tc) (hb : PSs X body tb) : PS X (.While c body [] pos) (tWhile tc tb) := by
  intro pins s σ H D I h
  obtain ⟨W, ⟨m0, w0⟩, turn⟩ := h
  refine wpAny_While (codeAny_whileLoop (fun n s' => ∃ σ' H', Inv X pins σ' H' s' ∧ W n σ' H') ?_ m0 ⟨σ, H, I, w0⟩)
  rintro n s1 ⟨σ1, H1, I1, w1⟩
  refine wpAny_passesOwn hp (thn (hc pins s1 σ1 H1 _ I1 (turn n σ1 H1 w1)) fun b s2 ⟨H2, I2, q2⟩ => ?_)
  cases b with
  | true =>
    obtain ⟨N, hN, q2⟩ := q2
    rw [if_pos rfl]
    refine wpAny_passesOwn hp (thn (hb pins s2 σ1 H2 _ I2 q2) fun f s3 q3 => ?_)
    cases f with
    | next =>
      obtain ⟨σ3, H3, I3, n3⟩ := q3
      obtain ⟨m', hm, w3⟩ := hN σ3 H3 n3
      exact ⟨m', hm, σ3, H3, I3, w3⟩
    | cont =>
      obtain ⟨σ3, H3, I3, n3⟩ := q3
      obtain ⟨m', hm, w3⟩ := hN σ3 H3 n3
      exact ⟨m', hm, σ3, H3, I3, w3⟩
    | brk => exact q3
    | ret v => exact q3
  | false =>
    rw [if_neg Bool.false_ne_true]
    exact wpAny_execs_nil ⟨σ1, H2, I2, q2⟩
end

structure It where
  go : Nat → Hp → Prop
  yld : Nat → Hp → V → Hp → Prop
  stop : Nat → Hp → Prop
def FpOk (X : Cx) (pins : List (Addr × Obj)) (H : Hp) (b : Addr) : Prop :=
  H b = none ∧ b ≠ X.env.locals ∧ b ∉ X.fs ∧ (b ∈ X.ex ∨ X.s₀.heap.objs.size ≤ b) ∧ (∀ x c, X.env.cells.lookup x = some c → c ≠ b) ∧ ∀ p ∈ X.pn ++ pins, p.1 ≠ b
theorem Inv.fpOk {X : Cx} {pins : List (Addr × Obj)} {σ : St} {H H' : Hp} {s : Shared} {b : Addr} (I : Inv X pins σ H s) (hb : s.heap.objs.size ≤ b) (hn : H' b = none) : FpOk X pins H' b := by
  refine ⟨hn, Nat.ne_of_gt (Nat.lt_of_lt_of_le I.lt hb), I.nofs hb, .inr (Nat.le_trans I.sz hb), fun x c e z => ?_, fun p hp z => ?_⟩
  · obtain ⟨v, q⟩ := I.cell x c e
    exact absurd (Nat.lt_of_lt_of_le q.lt (by rw [z]; exact hb)) (Nat.lt_irrefl _)
  · exact absurd (Nat.lt_of_lt_of_le (Heap.lt_size (I.pin p hp).1) (by rw [z]; exact hb)) (Nat.lt_irrefl _)
structure Turn (P : Program) (w : World) (K : PySem.W.Frag) (tg : Expr) (J : It) (fp : List Addr) (it : Addr) (tn : Nat → Heap → Prop) : Prop where
  mem : it ∈ fp
  obj : ∀ i h, tn i h → ∀ b ∈ fp, ∃ o, h.get? b = some o ∧ ∀ v, o.data ≠ .cell v
  keep : ∀ i h h', tn i h → (∀ b ∈ fp, ∀ o, h.get? b = some o → h'.get? b = some o) → tn i h'
  item : ∀ (X : Cx), X.prog = P → X.w = w → X.K = K → X.calm = true → ∀ (i : Nat) (pins : List (Addr × Obj)) (s : Shared) (σ : St) (H : Hp) (E : Value → Shared → Prop), Inv X pins σ H s → (∀ b ∈ fp, FpOk X pins H b) → tn i s.heap → J.go i H →
    wpAny (model P w) X.A (pyNext (.ref it)) (fun r s1 => ∃ u, r = some u ∧
      wpAny (model P w) X.A (letOwnedTupleGo tg (.ref it) u) (fun _ s2 => ∃ x H', Inv X pins σ H' s2 ∧ RelV x u ∧ J.yld i H x H' ∧ tn (i + 1) s2.heap ∧ ∀ b ∈ fp, H' b = none) E s1) E s
  done : ∀ (X : Cx), X.prog = P → X.w = w → X.K = K → X.calm = true → ∀ (i : Nat) (pins : List (Addr × Obj)) (s : Shared) (σ : St) (H : Hp) (E : Value → Shared → Prop), Inv X pins σ H s → (∀ b ∈ fp, FpOk X pins H b) → tn i s.heap → J.stop i H →
    wpAny (model P w) X.A (pyNext (.ref it)) (fun r s1 => r = none ∧ Inv X pins σ H s1) E s
  self : ∀ (A : Around) (i : Nat) (s : Shared) (Q : Value → Shared → Prop) (E : Value → Shared → Prop), tn i s.heap → Q (.ref it) s → wpAny (model P w) A (pyIter (.ref it)) Q E s
abbrev TI := St → Hp → (It → Hp → Prop) → Prop
def PIE (X : Cx) (pins : List (Addr × Obj)) (σ : St) (tg : Expr) (R : It → Hp → Prop) (itv : Value) (s2 : Shared) : Prop :=
  ∃ (it : Addr) (fp : List Addr) (tn : Nat → Heap → Prop) (J : It) (H' : Hp), itv = .ref it ∧ Inv X pins σ H' s2 ∧ Turn X.prog X.w X.K tg J fp it tn ∧ tn 0 s2.heap ∧ (∀ b ∈ fp, FpOk X pins H' b) ∧ R J H'
def PI (X : Cx) (tg iter : Expr) (wi : TI) : Prop :=
  ∀ (pins : List (Addr × Obj)) (s : Shared) (σ : St) (H : Hp) (R : It → Hp → Prop), Inv X pins σ H s → wi σ H R →
    wpAny (model X.prog X.w) X.A (eval iter X.env) (fun v s1 => wpAny (model X.prog X.w) X.A (pyIter v) (PIE X pins σ tg R) X.xe s1) X.xe s

theorem go_of {M : Model} {A : Around} {E : Value → Shared → Prop} {s : Shared} {tg : Expr} {it : Addr} {u : Value} {o : Obj} {n : String} {vs : Array Value} {Q : Unit → Shared → Prop} (ho : s.heap.get? it = some o) (hc : o.cls = .type n) (hd : o.data = .fields vs)
    (hn : ["enumerate", "zip", "dict_itemiterator", "dict_reverseitemiterator", "odict_iterator", "itertools.zip_longest", "itertools.pairwise"].contains n = false) (hQ : Q () s) : wpAny M A (letOwnedTupleGo tg (.ref it) u) Q E s := by
  unfold letOwnedTupleGo
  cases tg <;> first
    | exact wpAny_pure hQ
    | (cases u <;> first
        | exact wpAny_pure hQ
        | (refine wpAny_bind (wpAny_load ho ?_)
           rw [hc, hd]
           show wpAny M A (if (["enumerate", "zip", "dict_itemiterator", "dict_reverseitemiterator", "odict_iterator", "itertools.zip_longest", "itertools.pairwise"].contains n && vs[0]? == some (rawInt _)) = true then _ else _) Q E s
           rw [if_neg (by intro h; rw [hn, Bool.false_and] at h; cases h)]
           exact wpAny_pure hQ))

def Itl (K : PySem.W.Frag) (a : Addr) : It :=
  ⟨fun i H => ∃ xs x, SqL K H a xs ∧ xs[i]? = some x, fun i H x H' => H' = H ∧ ∀ xs, SqL K H a xs → xs[i]? = some x, fun i H => ∃ xs, SqL K H a xs ∧ xs.length ≤ i⟩
def Itr (lo : Int) (n : Nat) : It := ⟨fun i _ => i < n, fun i H x H' => H' = H ∧ x = .int (lo + i), fun i _ => n ≤ i⟩
theorem turn_list {P : Program} {w : World} {K : PySem.W.Frag} {tg : Expr} (a it : Addr) : Turn P w K tg (Itl K a) [it] it (fun i h => h.IsListIter it a i) where
  mem := by simp
  obj := fun i h st b hb => by
    have e : b = it := by simpa using hb
    subst e
    obtain ⟨o, e, c, d⟩ := st
    exact ⟨o, e, fun v z => by rw [d] at z; cases z⟩
  keep := fun i h h' st k => st.at fun o e => k it (by simp) o e
  item := by
    intro X hP hw hK hc i pins s σ H E I hf st hg
    subst hP hw hK
    obtain ⟨xs, x, hq, hx⟩ := hg
    obtain ⟨its, rv, p, hz⟩ := I.list hq
    obtain ⟨u, hu, ru⟩ := rv.get hx
    obtain ⟨f0, f1, f2, f3, f4, f5⟩ := hf it (by simp)
    refine wpAny_pyNext_list_item st p.isList (x := u) (by simpa using hu) fun h' st' sb => ?_
    have I1 : Inv X pins σ H { s with heap := h' } := I.turned (t' := s.toks) (fun b o hb e => (sb.2 b hb).trans e) f0 f1 f3 f4 f5
    obtain ⟨o, e, c, d⟩ := id st'
    exact ⟨u, rfl, go_of (s := { s with heap := h' }) e c d (by decide) ⟨x, H, I1, ru, ⟨rfl, fun ys hy => by rw [I.list_inj hy hq]; exact hx⟩, st', fun b hb => (hf b hb).1⟩⟩
  done := by
    intro X hP hw hK hc i pins s σ H E I hf st hg
    subst hP hw hK
    obtain ⟨xs, hq, hx⟩ := hg
    obtain ⟨its, rv, p, hz⟩ := I.list hq
    obtain ⟨f0, f1, f2, f3, f4, f5⟩ := hf it (by simp)
    have hl := rv.length
    exact wpAny_pyNext_list_end (I.ok.hd hc) st p.isList (by simp; omega) fun h' eb => ⟨rfl, I.turned (t' := s.toks) (fun b o hb e => eb b o hb e) f0 f1 f3 f4 f5⟩
  self := fun _ _ _ _ _ st h => wpAny_pyIter_listiter st h
theorem turn_range {P : Program} {w : World} {K : PySem.W.Frag} {tg : Expr} (it : Addr) (lo : Int) (n : Nat) : Turn P w K tg (Itr lo n) [it] it (fun i h => IsRangeIter h it (lo + (i : Nat) * 1) ((n : Int) - (i : Nat)) 1) where
  mem := by simp
  obj := fun i h st b hb => by
    have e : b = it := by simpa using hb
    subst e
    exact ⟨_, st, fun v z => by
      have z' : Data.fields _ = Data.cell v := z
      cases z'⟩
  keep := fun i h h' st k => k it (by simp) _ st
  item := by
    intro X hP hw hK hc i pins s σ H E I hf st hg
    subst hP hw hK
    obtain ⟨f0, f1, f2, f3, f4, f5⟩ := hf it (by simp)
    have W := Walks.range (prog := X.prog) (w := X.w) (I.ok.hd hc) it lo 1 n
    refine W.item i s _ _ hg st fun v h' tk hv st' kk => ?_
    obtain ⟨t, rfl⟩ := hv
    have I1 : Inv X pins σ H { s with heap := h', toks := tk } := I.turned (fun b o hb e => kk b o (by simpa using hb) e) f0 f1 f3 f4 f5
    refine ⟨_, rfl, go_of (s := { s with heap := h', toks := tk }) (n := "range_iterator") st' rfl rfl (by decide) ⟨.int (lo + i), H, I1, ⟨t, ?_⟩, ⟨rfl, rfl⟩, st', fun b hb => (hf b hb).1⟩⟩
    rw [Int.mul_one]
  done := by
    intro X hP hw hK hc i pins s σ H E I hf st hg
    subst hP hw hK
    obtain ⟨f0, f1, f2, f3, f4, f5⟩ := hf it (by simp)
    exact wpAny_pyNext_range_end (I.ok.hd hc) st (by have : n ≤ i := hg; omega) fun h' eb => ⟨rfl, I.turned (t' := s.toks) (fun b o hb e => eb b o hb e) f0 f1 f3 f4 f5⟩
  self := fun _ _ _ _ _ st h => wpAny_pyIter_rangeiter st h
end L2

namespace L2
open PySem PySem.Spec PyProof.Rows
section
variable {X : Cx} {tg : Expr}
theorem range_it {pins : List (Addr × Obj)} {σ : St} {H : Hp} {s : Shared} {R : It → Hp → Prop} {E : Value → Shared → Prop} {lo hi : Int} {t u v : Tok} {tk : Nat} (I : Inv X pins σ H s) (h1 : -(2 ^ 62) ≤ lo) (h2 : lo < 2 ^ 62) (h3 : -(2 ^ 62) ≤ hi) (h4 : hi < 2 ^ 62)
    (q : R (Itr lo (hi - lo).toNat) H) : wpAny (model X.prog X.w) X.A (pyIter (.ref s.heap.objs.size)) (PIE X pins σ tg R) E { s with heap := s.heap.push { cls := .type "range", data := .fields #[.int lo t, .int hi u, .int 1 v] }, toks := tk } := by
  refine wpAny_pyIter_range (IsRange.new ..) (small_one h1 h2 h3 h4) ?_
  have I1 : Inv X pins σ H { s with heap := s.heap.push { cls := .type "range", data := .fields #[.int lo t, .int hi u, .int 1 v] }, toks := tk } := I.kept fun b o e => Heap.get?_push_of_some _ e
  refine ⟨(s.heap.push { cls := .type "range", data := .fields #[.int lo t, .int hi u, .int 1 v] }).objs.size, [(s.heap.push { cls := .type "range", data := .fields #[.int lo t, .int hi u, .int 1 v] }).objs.size], _, _, H, rfl,
    I1.kept (t' := tk) fun b o e => Heap.get?_push_of_some _ e, turn_range _ lo (hi - lo).toNat, ?_, fun b hb => ?_, q⟩
  · have e1 : lo + ((0 : Nat) : Int) * 1 = lo := by simp
    have e2 : (((hi - lo).toNat : Nat) : Int) - ((0 : Nat) : Int) = Builtin.Range.rangeSize lo hi 1 := by rw [rangeSize_one]; split <;> omega
    show IsRangeIter _ _ (lo + ((0 : Nat) : Int) * 1) ((((hi - lo).toNat : Nat) : Int) - ((0 : Nat) : Int)) 1
    rw [e1, e2]
    exact Heap.get?_push_size _ rfl
  · have e : b = (s.heap.push { cls := .type "range", data := .fields #[.int lo t, .int hi u, .int 1 v] }).objs.size := by simpa using hb
    subst e
    exact I1.fpOk (Nat.le_refl _) (I1.hok.fresh (Nat.le_refl _))
def tFor (wi : TI) (g : TG) (tb : TS) : TS := fun D σ H => wi σ H fun J H1 => ∃ W : Nat → Nat → St → Hp → Prop, (∃ m, W 0 m σ H1) ∧ ∀ i m σ H, W i m σ H →
  (J.stop i H ∧ D.nx σ H) ∨ (J.go i H ∧ ∃ N : St → Hp → Prop, (∀ σ' H', N σ' H' → ∃ m', m' < m ∧ W (i + 1) m' σ' H') ∧ ∀ x H', J.yld i H x H' → g x σ H' fun σ2 H2 => tb { D with nx := N, ct := N, bk := D.nx } σ2 H2)
def pinsAt (fp : List Addr) (h : Heap) : List (Addr × Obj) := fp.filterMap fun b => (h.get? b).map fun o => (b, o)
theorem mem_pinsAt {fp : List Addr} {h : Heap} {b : Addr} {o : Obj} (hb : b ∈ fp) (e : h.get? b = some o) : (b, o) ∈ pinsAt fp h := List.mem_filterMap.mpr ⟨b, hb, by rw [e]; rfl⟩
theorem of_pinsAt {fp : List Addr} {h : Heap} {p : Addr × Obj} (hp : p ∈ pinsAt fp h) : p.1 ∈ fp ∧ h.get? p.1 = some p.2 := by
  obtain ⟨b, hb, e⟩ := List.mem_filterMap.mp hp
  cases q : h.get? b with
  | none => rw [q] at e; cases e
  | some o =>
    rw [q] at e
    have e' : (b, o) = p := Option.some.inj e
    subst e'
    exact ⟨hb, q⟩
theorem Inv.pinned {pins : List (Addr × Obj)} {σ : St} {H : Hp} {s : Shared} {fp : List Addr} (I : Inv X pins σ H s) (hf : ∀ b ∈ fp, FpOk X pins H b) (ho : ∀ b ∈ fp, ∃ o, s.heap.get? b = some o ∧ ∀ v, o.data ≠ .cell v) : Inv X (pins ++ pinsAt fp s.heap) σ H s :=
  I.pins_of fun p hp => (List.mem_append.mp hp).elim (fun z => I.pin p (List.mem_append_right _ z)) fun z => by
    obtain ⟨hb, e⟩ := of_pinsAt z
    obtain ⟨f0, f1, f2, _⟩ := hf p.1 hb
    obtain ⟨o, e', d⟩ := ho p.1 hb
    rw [e] at e'; cases e'
    exact ⟨e, f0, f1, f2, d⟩
theorem Inv.unpinned {pins pl : List (Addr × Obj)} {σ : St} {H : Hp} {s : Shared} (I : Inv X (pins ++ pl) σ H s) : Inv X pins σ H s := I.pins_of fun p hp => I.pin p (List.mem_append_right _ (List.mem_append_left _ hp))
theorem ps_for {iter : Expr} {body : List Stmt} {wi : TI} {g : TG} {tb : TS} {pos : Pos} (hp : PassesOwn (model X.prog X.w) X.A X.env X.xe) (hc : X.calm = true) (hi : PI X tg iter wi) (hg : PG X tg g) (hb : PSs X body tb)
    (hs : ∀ x, foldedSetIterable iter X.env x = pure x := by intro _; rfl) : PS X (.For tg iter body [] pos) (tFor wi g tb) := by
  intro pins s σ H D I h
  refine wpAny_For (thn (hi pins s σ H _ I h) fun v s1 h1 => thn h1 fun itv s2 h2 => ?_) hs
  obtain ⟨it, fp, tn, J, H2, e, I2, T, st2, f2, W, ⟨m0, w0⟩, turn⟩ := h2
  subst e
  -- what stays true of the iterator's objects through the loop
  have stat : ∀ {H' : Hp}, (∀ b ∈ fp, H' b = none) → ∀ b ∈ fp, FpOk X pins H' b := fun hn b hb => ⟨hn b hb, (f2 b hb).2⟩
  refine codeAny_forLoop_any (fun n s' => ∃ i σ' H', Inv X pins σ' H' s' ∧ tn i s'.heap ∧ (∀ b ∈ fp, H' b = none) ∧ W i n σ' H') ?_ m0 ⟨0, σ, H2, I2, st2, fun b hb => (f2 b hb).1, w0⟩
  rintro n s3 ⟨i, σ3, H3, I3, st3, fr3, w3⟩
  rcases turn i n σ3 H3 w3 with ⟨stop, qn⟩ | ⟨go, N, hN, step⟩
  · refine wpAny_passesOwn hp (thn (T.done X rfl rfl rfl hc i pins s3 σ3 H3 X.xe I3 (stat fr3) st3 stop) fun r s4 ⟨hr, I4⟩ => ?_)
    subst hr
    exact wpAny_execs_nil ⟨σ3, H3, I4, qn⟩
  · refine wpAny_passesOwn hp (thn (T.item X rfl rfl rfl hc i pins s3 σ3 H3 X.xe I3 (stat fr3) st3 go) fun r s4 ⟨u, hr, h4⟩ => ?_)
    subst hr
    refine wpAny_passesOwn hp (thn h4 fun _ s5 ⟨x, H5, I5, r5, y5, st5, fr5⟩ => ?_)
    have I5' := I5.pinned (stat fr5) (T.obj _ _ st5)
    refine wpAny_passesOwn hp (thn (hg _ s5 σ3 H5 x u _ I5' r5 (step x H5 y5)) fun _ s6 ⟨σ6, H6, I6, q6⟩ => ?_)
    refine wpAny_passesOwn hp (thn (hb _ s6 σ6 H6 _ I6 q6) fun f s7 q7 => ?_)
    have again : ∀ {σ7 : St} {H7 : Hp}, Inv X (pins ++ pinsAt fp s5.heap) σ7 H7 s7 → N σ7 H7 → ∃ m, m < n ∧ ∃ i σ' H', Inv X pins σ' H' s7 ∧ tn i s7.heap ∧ (∀ b ∈ fp, H' b = none) ∧ W i m σ' H' := fun {σ7 H7} I7 n7 => by
      obtain ⟨m', hm, w7⟩ := hN σ7 H7 n7
      refine ⟨m', hm, i + 1, σ7, H7, I7.unpinned, T.keep _ _ _ st5 fun b hb o e => (I7.pin (b, o) (List.mem_append_right _ (List.mem_append_right _ (mem_pinsAt hb e)))).1, fun b hb => ?_, w7⟩
      obtain ⟨o, e, d⟩ := T.obj _ _ st5 b hb
      exact (I7.pin (b, o) (List.mem_append_right _ (List.mem_append_right _ (mem_pinsAt hb e)))).2.1
    cases f with
    | next => obtain ⟨σ7, H7, I7, n7⟩ := q7; exact again I7 n7
    | cont => obtain ⟨σ7, H7, I7, n7⟩ := q7; exact again I7 n7
    | brk => obtain ⟨σ7, H7, I7, q7⟩ := q7; exact ⟨σ7, H7, I7.unpinned, q7⟩
    | ret v => obtain ⟨x7, σ7, H7, I7, r7, q7⟩ := q7; exact ⟨x7, σ7, H7, I7.unpinned, r7, q7⟩
end

end L2

namespace L2
open PySem PySem.Spec PyProof.Rows

abbrev R2 := V → V → Hp → VK → Prop
def OpR (X : Cx) (f : Value → Value → Sem Value) (r : R2) : Prop :=
  ∀ (pins : List (Addr × Obj)) (s : Shared) (σ : St) (H : Hp) (x y : V) (v u : Value) (Q : VK), Inv X pins σ H s → RelV x v → RelV y u → r x y H Q →
    wpAny (model X.prog X.w) X.A (f v u) (EP X pins σ Q) X.xe s
def UnR (X : Cx) (f : Value → Sem Value) (r : V → Hp → VK → Prop) : Prop :=
  ∀ (pins : List (Addr × Obj)) (s : Shared) (σ : St) (H : Hp) (x : V) (v : Value) (Q : VK), Inv X pins σ H s → RelV x v → r x H Q →
    wpAny (model X.prog X.w) X.A (f v) (EP X pins σ Q) X.xe s
def CallR (X : Cx) (f : Value) (r : List V → Hp → VK → Prop) : Prop :=
  ∀ (pins : List (Addr × Obj)) (s : Shared) (σ : St) (H : Hp) (xs : List V) (us : List Value) (Q : VK), Inv X pins σ H s → Vals xs us → r xs H Q →
    wpAny (model X.prog X.w) X.A (call f us) (EP X pins σ Q) X.xe s
def TruR (X : Cx) (r : V → Hp → (Bool → Hp → Prop) → Prop) : Prop :=
  ∀ (pins : List (Addr × Obj)) (s : Shared) (σ : St) (H : Hp) (x : V) (v : Value) (Q : Bool → Hp → Prop), Inv X pins σ H s → RelV x v → r x H Q →
    wpAny (model X.prog X.w) X.A (truthy v) (TP X pins σ Q) X.xe s

def tOp (r : R2) (ta tb : TE) : TE := fun σ H Q => ta σ H fun x H1 => tb σ H1 fun y H2 => r x y H2 Q
def tUn (r : V → Hp → VK → Prop) (ta : TE) : TE := fun σ H Q => ta σ H fun x H1 => r x H1 Q
def rI (C : Int → Int → Prop) (g : Int → Int → V) : R2 := fun x y H Q => ∃ i j, x = .int i ∧ y = .int j ∧ C i j ∧ Q (g i j) H
def rI0 (g : Int → Int → V) : R2 := fun x y H Q => ∃ i j, x = .int i ∧ y = .int j ∧ Q (g i j) H
def rU (g : Int → V) : V → Hp → VK → Prop := fun x H Q => ∃ i, x = .int i ∧ Q (g i) H

section
variable {X : Cx} {a b c : Expr} {ta tb tc : TE} {pos : Pos}

theorem binT (ha : PE X a ta) (hb : PE X b tb) {pins : List (Addr × Obj)} {s : Shared} {σ : St} {H : Hp} {R : V → V → Hp → Prop} (I : Inv X pins σ H s)
    (h : ta σ H fun x H1 => tb σ H1 fun y H2 => R x y H2) {Q : Value → Shared → Prop} {f : Value → Value → Sem Value}
    (hf : ∀ v u s2 x y H2, Inv X pins σ H2 s2 → RelV x v → RelV y u → R x y H2 → wpAny (model X.prog X.w) X.A (f v u) Q X.xe s2) :
    wpAny (model X.prog X.w) X.A (eval a X.env) (fun v s₁ => wpAny (model X.prog X.w) X.A (eval b X.env) (fun u s₂ => wpAny (model X.prog X.w) X.A (f v u) Q X.xe s₂) X.xe s₁) X.xe s := by
  refine thn (ha pins s σ H _ I h) fun v s1 ⟨x, H1, I1, r1, q1⟩ => ?_
  refine thn (hb pins s1 σ H1 _ I1 q1) fun u s2 ⟨y, H2, I2, r2, q2⟩ => ?_
  exact hf v u s2 x y H2 I2 r1 r2 q2

theorem pe_op {op : Operator} {r : R2} (ho : OpR X (binaryOp op) r) (ha : PE X a ta) (hb : PE X b tb) : PE X (.BinOp a op b pos) (tOp r ta tb) := by
  intro pins s σ H Q I h
  exact wpAny_BinOp (binT ha hb I h fun v u s2 x y H2 I2 rx ry q => ho pins s2 σ H2 x y v u Q I2 rx ry q)
theorem pe_un {op : UnaryOp} {r : V → Hp → VK → Prop} (ho : UnR X (unaryOp op) r) (ha : PE X a ta) : PE X (.UnaryOp op a pos) (tUn r ta) := by
  intro pins s σ H Q I h
  exact UnaryOp_ (thn (ha pins s σ H _ I h) fun v s1 ⟨x, H1, I1, r1, q1⟩ => ho pins s1 σ H1 x v Q I1 r1 q1)
theorem opI {f : Value → Value → Sem Value} {C : Int → Int → Prop} {g : Int → Int → Int}
    (rule : ∀ (i j : Int) (t u : Tok) (s : Shared) (Q : Value → Shared → Prop) (E : Value → Shared → Prop), C i j → Q (.int (g i j) s.toks) { s with toks := s.toks + 1 } → wpAny (model X.prog X.w) X.A (f (.int i t) (.int j u)) Q E s) :
    OpR X f (rI C fun i j => .int (g i j)) := by
  intro pins s σ H x y v u Q I rx ry h
  obtain ⟨i, j, rfl, rfl, hc, q⟩ := h
  obtain ⟨t, rfl⟩ := rx
  obtain ⟨t', rfl⟩ := ry
  exact rule i j t t' s _ _ hc ⟨.int (g i j), H, I.tok _, ⟨_, rfl⟩, q⟩
theorem opI0 {f : Value → Value → Sem Value} {g : Int → Int → Int}
    (rule : ∀ (i j : Int) (t u : Tok) (s : Shared) (Q : Value → Shared → Prop) (E : Value → Shared → Prop), Q (.int (g i j) s.toks) { s with toks := s.toks + 1 } → wpAny (model X.prog X.w) X.A (f (.int i t) (.int j u)) Q E s) :
    OpR X f (rI0 fun i j => .int (g i j)) := by
  intro pins s σ H x y v u Q I rx ry h
  obtain ⟨i, j, rfl, rfl, q⟩ := h
  obtain ⟨t, rfl⟩ := rx
  obtain ⟨t', rfl⟩ := ry
  exact rule i j t t' s _ _ ⟨.int (g i j), H, I.tok _, ⟨_, rfl⟩, q⟩
theorem opB0 {f : Value → Value → Sem Value} {g : Int → Int → Bool}
    (rule : ∀ (i j : Int) (t u : Tok) (s : Shared) (Q : Value → Shared → Prop) (E : Value → Shared → Prop), Q (.bool (g i j)) s → wpAny (model X.prog X.w) X.A (f (.int i t) (.int j u)) Q E s) :
    OpR X f (rI0 fun i j => .bl (g i j)) := by
  intro pins s σ H x y v u Q I rx ry h
  obtain ⟨i, j, rfl, rfl, q⟩ := h
  obtain ⟨t, rfl⟩ := rx
  obtain ⟨t', rfl⟩ := ry
  exact rule i j t t' s _ _ ⟨.bl (g i j), H, I, rfl, q⟩

def CDiv (i j : Int) : Prop := 0 < j ∧ j < 1073741824
def CMul (i j : Int) : Prop := (-(2 ^ 64) < i ∧ i < 2 ^ 64) ∨ (-(2 ^ 64) < j ∧ j < 2 ^ 64)
theorem CMul.ok {i j : Int} (h : CMul i j) : IntMulOk i j := by
  rcases h with ⟨h1, h2⟩ | ⟨h1, h2⟩
  · exact .of_left (intBits_le_64 h1 h2)
  · exact .of_right (intBits_le_64 h1 h2)
theorem op_add : OpR X (binaryOp .Add) (rI0 fun i j => .int (i + j)) := opI0 fun _ _ _ _ _ _ _ q => add_int q
theorem op_sub : OpR X (binaryOp .Sub) (rI0 fun i j => .int (i - j)) := opI0 fun _ _ _ _ _ _ _ q => sub_int q
theorem op_mul : OpR X (binaryOp .Mult) (rI CMul fun i j => .int (i * j)) := opI fun _ _ _ _ _ _ _ hc q => mul_int q hc.ok
theorem op_fdiv : OpR X (binaryOp .FloorDiv) (rI CDiv fun i j => .int (i / j)) := opI fun i j _ _ _ _ _ hc q => by
  have h1 : (0 : Int) < j := hc.1
  have h2 : j < 1073741824 := hc.2
  exact floordiv_int (by omega) (by rw [Int.fdiv_eq_ediv_of_nonneg i (by omega)]; exact q) (.inl (PyProof.noPylong_small (by omega)))
theorem op_mod : OpR X (binaryOp .Mod) (rI (fun _ j => 0 < j) fun i j => .int (i % j)) := opI fun i j _ _ _ _ _ hc q => by
  have h1 : (0 : Int) < j := hc
  exact mod_int' (by omega) (by rw [Int.fmod_eq_emod_of_nonneg i (by omega)]; exact q)
theorem unI {f : Value → Sem Value} {g : Int → Int}
    (rule : ∀ (i : Int) (t : Tok) (s : Shared) (Q : Value → Shared → Prop) (E : Value → Shared → Prop), Q (.int (g i) s.toks) { s with toks := s.toks + 1 } → wpAny (model X.prog X.w) X.A (f (.int i t)) Q E s) :
    UnR X f (rU fun i => .int (g i)) := by
  intro pins s σ H x v Q I rx h
  obtain ⟨i, rfl, q⟩ := h
  obtain ⟨t, rfl⟩ := rx
  exact rule i t s _ _ ⟨.int (g i), H, I.tok _, ⟨_, rfl⟩, q⟩
theorem un_neg : UnR X (unaryOp .USub) (rU fun i => .int (-i)) := unI fun _ _ _ _ _ q => neg_int q
end

def scal : V → V → Bool
  | .non, .non => true | .non, .int _ => true | .int _, .non => true | .non, .bl _ => true | .bl _, .non => true | .non, .str _ => true | .str _, .non => true
  | .int _, .int _ => true | .bl _, .bl _ => true | .str _, .str _ => true | .byt _, .byt _ => true
  | .int _, .str _ => true | .str _, .int _ => true | .bl _, .str _ => true | .str _, .bl _ => true
  | _, _ => false
def rEq : R2 := fun x y H Q => scal x y = true ∧ Q (.bl (decide (x = y))) H
def rNe : R2 := fun x y H Q => scal x y = true ∧ Q (.bl (!decide (x = y))) H

theorem dec_int {i j : Int} : decide (V.int i = V.int j) = (i == j) := by
  rw [Bool.eq_iff_iff]
  simp
theorem dec_bl {i j : Bool} : decide (V.bl i = V.bl j) = (i == j) := by
  rw [Bool.eq_iff_iff]
  simp
theorem dec_str {i j : Str} : decide (V.str i = V.str j) = (i == j) := by
  rw [Bool.eq_iff_iff]
  simp
theorem dec_byt {i j : Array UInt8} : decide (V.byt i = V.byt j) = (i.toList == j.toList) := by
  rw [Bool.eq_iff_iff]
  cases i
  cases j
  simp

section
variable {X : Cx} {a b c : Expr} {ta tb tc : TE} {pos : Pos}
theorem fin_bl {pins : List (Addr × Obj)} {σ : St} {H : Hp} {s : Shared} {Q : VK} {k k' : Bool} (I : Inv X pins σ H s) (q : Q (.bl k) H) (e : k = k') : EP X pins σ Q (.bool k') s := by
  subst e
  exact ⟨.bl k, H, I, rfl, q⟩
theorem op_eq : OpR X (compareOp .Eq) rEq := by
  intro pins s σ H x y v u Q I rx ry h
  obtain ⟨hs, q⟩ := h
  cases x with
  | non =>
    cases rx
    cases y with
    | non => cases ry; exact PySem.EqNone.eq_none_none (fin_bl I q (by simp))
    | bl j => cases ry; exact PySem.EqNone.eq_none_bool (fin_bl I q (by simp))
    | int j => obtain ⟨t', rfl⟩ := ry; exact PySem.EqNone.eq_none_int (fin_bl I q (by simp))
    | str j => obtain ⟨t', rfl⟩ := ry; exact PySem.EqNone.eq_none_str (fin_bl I q (by simp))
    | _ => exact absurd (show false = true from hs) Bool.false_ne_true
  | bl i =>
    cases rx
    cases y with
    | non => cases ry; exact PySem.EqNone.eq_bool_none (fin_bl I q (by simp))
    | bl j => cases ry; exact eq_bool (fin_bl I q dec_bl)
    | str j => obtain ⟨t', rfl⟩ := ry; exact PySem.EqMixed.eq_bool_str (fin_bl I q (by simp))
    | _ => exact absurd (show false = true from hs) Bool.false_ne_true
  | int i =>
    obtain ⟨t, rfl⟩ := rx
    cases y with
    | non => cases ry; exact PySem.EqNone.eq_int_none (fin_bl I q (by simp))
    | int j => obtain ⟨t', rfl⟩ := ry; exact eq_int (fin_bl I q dec_int)
    | str j => obtain ⟨t', rfl⟩ := ry; exact PySem.EqMixed.eq_int_str (fin_bl I q (by simp))
    | _ => exact absurd (show false = true from hs) Bool.false_ne_true
  | str i =>
    obtain ⟨t, rfl⟩ := rx
    cases y with
    | non => cases ry; exact PySem.EqNone.eq_str_none (fin_bl I q (by simp))
    | bl j => cases ry; exact PySem.EqMixed.eq_str_bool (fin_bl I q (by simp))
    | int j => obtain ⟨t', rfl⟩ := ry; exact PySem.EqMixed.eq_str_int (fin_bl I q (by simp))
    | str j => obtain ⟨t', rfl⟩ := ry; exact eq_str (fin_bl I q dec_str)
    | _ => exact absurd (show false = true from hs) Bool.false_ne_true
  | byt i =>
    obtain ⟨t, rfl⟩ := rx
    cases y with
    | byt j => obtain ⟨t', rfl⟩ := ry; exact PySem.W.eq_bytes (fin_bl I q dec_byt)
    | _ => exact absurd (show false = true from hs) Bool.false_ne_true
  | _ => cases y <;> exact absurd (show false = true from hs) Bool.false_ne_true
theorem op_ne : OpR X (compareOp .NotEq) rNe := by
  intro pins s σ H x y v u Q I rx ry h
  obtain ⟨hs, q⟩ := h
  cases x with
  | non =>
    cases rx
    cases y with
    | non => cases ry; exact PySem.EqNone.ne_none_none (fin_bl I q (by simp))
    | bl j => cases ry; exact PySem.EqNone.ne_none_bool (fin_bl I q (by simp))
    | int j => obtain ⟨t', rfl⟩ := ry; exact PySem.EqNone.ne_none_int (fin_bl I q (by simp))
    | str j => obtain ⟨t', rfl⟩ := ry; exact PySem.EqNone.ne_none_str (fin_bl I q (by simp))
    | _ => exact absurd (show false = true from hs) Bool.false_ne_true
  | bl i =>
    cases rx
    cases y with
    | non => cases ry; exact PySem.EqNone.ne_bool_none (fin_bl I q (by simp))
    | bl j => cases ry; exact ne_bool (fin_bl I q (congrArg not dec_bl))
    | str j => obtain ⟨t', rfl⟩ := ry; exact PySem.EqMixed.ne_bool_str (fin_bl I q (by simp))
    | _ => exact absurd (show false = true from hs) Bool.false_ne_true
  | int i =>
    obtain ⟨t, rfl⟩ := rx
    cases y with
    | non => cases ry; exact PySem.EqNone.ne_int_none (fin_bl I q (by simp))
    | int j => obtain ⟨t', rfl⟩ := ry; exact ne_int (fin_bl I q (congrArg not dec_int))
    | str j => obtain ⟨t', rfl⟩ := ry; exact PySem.EqMixed.ne_int_str (fin_bl I q (by simp))
    | _ => exact absurd (show false = true from hs) Bool.false_ne_true
  | str i =>
    obtain ⟨t, rfl⟩ := rx
    cases y with
    | non => cases ry; exact PySem.EqNone.ne_str_none (fin_bl I q (by simp))
    | bl j => cases ry; exact PySem.EqMixed.ne_str_bool (fin_bl I q (by simp))
    | int j => obtain ⟨t', rfl⟩ := ry; exact PySem.EqMixed.ne_str_int (fin_bl I q (by simp))
    | str j => obtain ⟨t', rfl⟩ := ry; exact ne_str (fin_bl I q (congrArg not dec_str))
    | _ => exact absurd (show false = true from hs) Bool.false_ne_true
  | byt i =>
    obtain ⟨t, rfl⟩ := rx
    cases y with
    | byt j => obtain ⟨t', rfl⟩ := ry; exact PySem.W.ne_bytes (fin_bl I q (congrArg not dec_byt))
    | _ => exact absurd (show false = true from hs) Bool.false_ne_true
  | _ => cases y <;> exact absurd (show false = true from hs) Bool.false_ne_true

theorem op_lt : OpR X (compareOp .Lt) (rI0 fun i j => .bl (decide (i < j))) := opB0 fun _ _ _ _ _ _ _ q => lt_int q
theorem op_le : OpR X (compareOp .LtE) (rI0 fun i j => .bl (decide (i ≤ j))) := opB0 fun _ _ _ _ _ _ _ q => le_int q
theorem op_gt : OpR X (compareOp .Gt) (rI0 fun i j => .bl (decide (j < i))) := opB0 fun _ _ _ _ _ _ _ q => gt_int q
theorem op_in_str : OpR X (compareOp .In) (fun x y H Q => ∃ i j, x = .str i ∧ y = .str j ∧ Q (.bl (!(Builtin.Str.occurrences j i 0 j.length 1).isEmpty)) H) := by
  intro pins s σ H x y v u Q I rx ry h
  obtain ⟨i, j, rfl, rfl, q⟩ := h
  obtain ⟨t, rfl⟩ := rx
  obtain ⟨t', rfl⟩ := ry
  exact in_str (fin_bl I q rfl)

theorem OpR.or {f : Value → Value → Sem Value} {r r' : R2} (h : OpR X f r) (h' : OpR X f r') : OpR X f (fun x y H Q => r x y H Q ∨ r' x y H Q) := by
  intro pins s σ H x y v u Q I rx ry q
  rcases q with q | q
  · exact h pins s σ H x y v u Q I rx ry q
  · exact h' pins s σ H x y v u Q I rx ry q

theorem nomark (b : Expr) {op : CmpOp} (h : op ≠ .In := by decide) (h2 : op ≠ .NotIn := by decide) : behindInMarks op b = false := by
  have e1 : (op == CmpOp.In) = false := by cases op <;> first | rfl | exact absurd rfl h
  have e2 : (op == CmpOp.NotIn) = false := by cases op <;> first | rfl | exact absurd rfl h2
  cases b <;> simp [behindInMarks, e1, e2]
theorem pe_cmpR {op : CmpOp} {r : R2} (ho : OpR X (compareOp op) r) (ha : PE X a ta) (hb : PE X b tb) (hm : behindInMarks op b = false) : PE X (.Compare a [op] [b] pos) (tOp r ta tb) := by
  intro pins s σ H Q I h
  exact wpAny_Compare1 (binT ha hb I h fun v u s2 x y H2 I2 rx ry q => ho pins s2 σ H2 x y v u Q I2 rx ry q) hm
def TruV (K : PySem.W.Frag) (x : V) (H : Hp) (k : Bool) : Prop :=
  match x with
  | .non => k = false
  | .bl b => k = b
  | .int i => k = (i != 0)
  | .str y => y.length ≤ sizeLine ∧ k = ((y.length : Int) != 0)
  | .byt y => y.size ≤ sizeLine ∧ k = ((y.size : Int) != 0)
  | .ref p => (∃ xs, SqL K H p xs ∧ k = !xs.isEmpty) ∨ (∃ xs, SqT K H p xs ∧ k = !xs.isEmpty) ∨ ∃ kvs, H p = some (.dK kvs) ∧ k = !kvs.isEmpty
  | _ => False
theorem isEmpty_kv {κ : Type} {kvs : List (κ × V)} {vs : List (κ × Value)} (r : KV kvs vs) : (!vs.isEmpty) = !kvs.isEmpty := by
  cases r <;> rfl
theorem isEmpty_of {xs : List V} {its : List Value} (r : Vals xs its) : (!its.toArray.isEmpty) = !xs.isEmpty := by
  cases r <;> simp
theorem line63 : (sizeLine : Nat) < 2 ^ 63 := by rw [sizeLine_eq]; decide
theorem tru_ok : TruR X (fun x H Q => ∃ k, TruV X.K x H k ∧ Q k H) := by
  intro pins s σ H x v Q I rx h
  obtain ⟨k, e, q⟩ := h
  have hl := line63
  have hs : sizeLine = 16777216 := sizeLine_eq
  cases x with
  | non =>
    cases rx
    have e' : k = false := e
    subst e'
    exact truthy_none ⟨H, I, q⟩
  | bl b =>
    cases rx
    have e' : k = b := e
    subst e'
    exact wpAny_truthy_bool ⟨H, I, q⟩
  | int i =>
    obtain ⟨t, rfl⟩ := rx
    have e' : k = (i != 0) := e
    subst e'
    exact PySem.P.truthy_int ⟨H, I, q⟩
  | str y =>
    obtain ⟨t, rfl⟩ := rx
    obtain ⟨hy, e'⟩ : y.length ≤ sizeLine ∧ k = ((y.length : Int) != 0) := e
    subst e'
    exact PySem.P.truthy_str (by omega) ⟨H, I.tok _, q⟩
  | byt y =>
    obtain ⟨t, rfl⟩ := rx
    obtain ⟨hy, e'⟩ : y.size ≤ sizeLine ∧ k = ((y.size : Int) != 0) := e
    subst e'
    exact PySem.W.truthy_bytes (by omega) ⟨H, I.tok _, q⟩
  | ref p =>
    cases rx
    have e' : (∃ xs, SqL X.K H p xs ∧ k = !xs.isEmpty) ∨ (∃ xs, SqT X.K H p xs ∧ k = !xs.isEmpty) ∨ ∃ kvs, H p = some (.dK kvs) ∧ k = !kvs.isEmpty := e
    rcases e' with ⟨xs, hx, e'⟩ | ⟨xs, hx, e'⟩ | ⟨kvs, hx, e'⟩
    · subst e'
      obtain ⟨its, r, pl, hz⟩ := I.list hx
      have hlen := r.length
      exact wpAny_truthy_list pl.isList (by simp only [List.size_toArray]; omega) ⟨H, I.tok _, by rw [isEmpty_of r]; exact q⟩
    · subst e'
      obtain ⟨its, r, pl, hz⟩ := I.tuple hx
      have hlen := r.length
      exact truthy_tuple pl (by simp only [List.size_toArray]; omega) ⟨H, I.tok _, by rw [isEmpty_of r]; exact q⟩
    · subst e'
      obtain ⟨hz, hS, vs, r, m⟩ : kvs.length ≤ sizeLine ∧ (p == sysModules) = false ∧ ∃ vs, KV kvs vs ∧ s.heap.DictOf (mixKind X.prog X.w) p vs := I.hok p _ hx
      have hlen : kvs.length = vs.length := Paired.length r
      exact wpAny_truthy_dict hS m (by omega) ⟨H, I.tok _, by rw [isEmpty_kv r]; exact q⟩
  | _ => exact (show False from e).elim
theorem op_add_str : OpR X (binaryOp .Add) (fun x y H Q => ∃ i j, x = .str i ∧ y = .str j ∧ i.length + j.length ≤ sizeLine ∧ Q (.str (i ++ j)) H) := by
  intro pins s σ H x y v u Q I rx ry h
  obtain ⟨i, j, rfl, rfl, hz, q⟩ := h
  obtain ⟨t, rfl⟩ := rx
  obtain ⟨t', rfl⟩ := ry
  exact add_str (fun t' tk => ⟨.str (i ++ j), H, I.tok _, ⟨_, rfl⟩, q⟩) hz
theorem vals1 {x : V} {us : List Value} (r : Vals [x] us) : ∃ u, us = [u] ∧ RelV x u := by
  cases r with
  | cons r1 r2 => cases r2; exact ⟨_, rfl, r1⟩
theorem vals2 {x y : V} {us : List Value} (r : Vals [x, y] us) : ∃ u w', us = [u, w'] ∧ RelV x u ∧ RelV y w' := by
  cases r with
  | cons r1 r2 =>
    cases r2 with
    | cons r3 r4 => cases r4; exact ⟨_, _, rfl, r1, r3⟩
theorem call_max2 (hc : X.calm = true) : CallR X (.builtin "max") (fun xs H Q => ∃ i j, xs = [.int i, .int j] ∧ Q (.int (if j > i then j else i)) H) := by
  intro pins s σ H xs us Q I r h
  obtain ⟨i, j, rfl, q⟩ := h
  obtain ⟨u, w', rfl, ⟨t, rfl⟩, ⟨t', rfl⟩⟩ := vals2 r
  refine max_two_ints (I.ok.hd hc) fun h' tk k => ⟨_, H, I.kept k, ?_, q⟩
  by_cases hj : j > i
  · rw [if_pos hj, if_pos hj]; exact ⟨_, rfl⟩
  · rw [if_neg hj, if_neg hj]; exact ⟨_, rfl⟩
theorem call_min2 (hc : X.calm = true) : CallR X (.builtin "min") (fun xs H Q => ∃ i j, xs = [.int i, .int j] ∧ Q (.int (if j < i then j else i)) H) := by
  intro pins s σ H xs us Q I r h
  obtain ⟨i, j, rfl, q⟩ := h
  obtain ⟨u, w', rfl, ⟨t, rfl⟩, ⟨t', rfl⟩⟩ := vals2 r
  refine min_two_ints (I.ok.hd hc) fun h' tk k => ⟨_, H, I.kept k, ?_, q⟩
  by_cases hj : j < i
  · rw [if_pos hj, if_pos hj]; exact ⟨_, rfl⟩
  · rw [if_neg hj, if_neg hj]; exact ⟨_, rfl⟩
theorem call_int1 : CallR X (.type "int") (fun xs H Q => (∃ i, xs = [.int i] ∧ Q (.int i) H) ∨ ∃ k, xs = [.bl k] ∧ Q (.int (if k then 1 else 0)) H) := by
  intro pins s σ H xs us Q I r h
  rcases h with ⟨i, rfl, q⟩ | ⟨k, rfl, q⟩
  · obtain ⟨u, rfl, t, rfl⟩ := vals1 r
    exact call_int_int ⟨.int i, H, I, ⟨_, rfl⟩, q⟩
  · obtain ⟨u, rfl, r1⟩ := vals1 r
    cases r1
    exact call_int_bool ⟨.int (if k then 1 else 0), H, I.tok _, ⟨_, rfl⟩, q⟩
end
end L2

namespace L2
open PySem PySem.Spec PyProof.Rows

section
variable {prog : Program} {w : World} {A : Around} {E : Value → Shared → Prop} {s : Shared} {K : PySem.W.Frag} {x dx C f : Addr} {mA : Str → Option Value} {name : Str} {v : Value}

end

theorem RelO.some_of {v : V} {o : Option Value} (r : RelO (some v) o) : ∃ u, o = some u ∧ RelV v u := by
  cases o with
  | none => exact (show False from r).elim
  | some u => exact ⟨u, rfl, r⟩
section
variable {P : Program} {w : World} {H H' : Hp} {h h' : Heap} {a C dx : Addr} {fs fs' : List (Str × V)}
end

section
variable {X : Cx} {pins : List (Addr × Obj)} {σ : St} {H : Hp} {s : Shared} {a C dx : Addr} {fs : List (Str × V)} {f : Str} {v : V} {A : Around} {E : Value → Shared → Prop}

end

section
variable {X : Cx} {o e value : Expr} {f : Str} {pos pos' tpos : Pos} {ta tv : TE}
end

section
variable {X : Cx} {pins : List (Addr × Obj)} {σ : St} {H : Hp} {s : Shared} {A : Around} {E : Value → Shared → Prop} {Q : Value → Shared → Prop} {c : Value} {b : Bool}
end
end L2

namespace L2
open PySem PySem.Spec PyProof.Rows

structure Room (k : Nat) (A : Around) : Prop where
  hd : A.handled = none
  dp : A.depth + 3 * k + 5 < recursionLimit
  un : A.units + 16 * k + 200 < cLine
theorem Room.mono {j k : Nat} {A : Around} (r : Room k A) (h : j ≤ k) : Room j A := ⟨r.hd, by have := r.dp; omega, by have := r.un; omega⟩
theorem Room.deeper {k : Nat} {A : Around} (r : Room (k + 1) A) (env : Env) : Room k (A.deeper env) :=
  ⟨r.hd, by have := r.dp; show A.depth + 1 + 3 * k + 5 < _; omega, by have := r.un; show A.units + 3 + 16 * k + 200 < _; omega⟩
theorem Room.in1 {k : Nat} {A : Around} (r : Room (k + 1) A) : Room k A.in1 :=
  ⟨r.hd, by have := r.dp; show A.depth + 3 * k + 5 < _; omega, by have := r.un; show A.units + 1 + 16 * k + 200 < _; omega⟩
theorem Room.depth {k : Nat} {A : Around} (r : Room k A) : A.depth < recursionLimit := by have := r.dp; omega
theorem Room.units {k : Nat} {A : Around} (r : Room k A) : A.units + 64 < cLine := by have := r.un; omega
def tNil : TA := fun _ H Q => Q [] H
def tCons (ta : TE) (tr : TA) : TA := fun σ H Q => ta σ H fun x H1 => tr σ H1 fun xs H2 => Q (x :: xs) H2
section
variable {X : Cx} {e : Expr} {es : List Expr} {te : TE} {t : TA} {pos : Pos}
theorem pa_nil : PA X [] tNil := fun _ _ _ _ H Q I h => Calls.spliced_nil ⟨[], H, I, .nil, h⟩
theorem pa_cons (ha : PE X e te) (hr : PA X es t) (hs : starEach (e :: es) X.env = (false, eval e X.env) :: starEach es X.env := by rfl) : PA X (e :: es) (tCons te t) := by
  intro pos pins s σ H Q I h
  rw [hs]
  show wpAny _ _ (spliced ((false, eval e X.env) :: backTo pos (starEach es X.env))) _ _ s
  refine Calls.spliced_cons (thn (ha pins s σ H _ I h) fun u s1 ⟨x, H1, I1, r1, q1⟩ => ?_)
  exact thn (hr pos pins s1 σ H1 _ I1 q1) fun us s2 ⟨xs, H2, I2, r2, q2⟩ => ⟨x :: xs, H2, I2, .cons r1 r2, q2⟩

def tTup (t : TA) : TE := fun σ H Q => t σ H fun xs H1 => xs.length ≤ sizeLine ∧ ∀ p, H1 p = none → Q (.ref p) (upd H1 p (.tup xs))
def tLst (t : TA) : TE := fun σ H Q => t σ H fun xs H1 => xs.length ≤ sizeLine ∧ ∀ p, H1 p = none → Q (.ref p) (upd H1 p (.lst xs))
theorem pe_tup {x1} (h : PA X es t) : PE X (.Tuple es x1 pos) (tTup t) := by
  intro pins s σ H Q I hq
  refine wpAny_Tuple_spliced (thn (h pos pins s σ H _ I hq) fun us s1 ⟨xs, H1, I1, r, z, q⟩ => ⟨by rw [← r.length]; exact z, ?_⟩)
  have hf : H1 s1.heap.objs.size = none := I1.hok.fresh (Nat.le_refl _)
  refine ⟨.ref s1.heap.objs.size, upd H1 s1.heap.objs.size (.tup xs), I1.laid (t' := s1.toks) (fun b u e => Heap.get?_push_of_some _ e) (Nat.le_refl _) ?_, rfl, q _ hf⟩
  exact ⟨z, us, r, ⟨_, Heap.get?_push_size _ rfl, rfl, _, rfl⟩⟩
theorem pe_lst (h : PA X es t) : PE X (.List es pos) (tLst t) := by
  intro pins s σ H Q I hq
  refine wpAny_List_spliced (thn (h pos pins s σ H _ I hq) fun us s1 ⟨xs, H1, I1, r, z, q⟩ => ⟨by rw [← r.length]; exact z, ?_⟩)
  have hf : H1 s1.heap.objs.size = none := I1.hok.fresh (Nat.le_refl _)
  refine ⟨.ref s1.heap.objs.size, upd H1 s1.heap.objs.size (.lst xs), I1.laid (t' := s1.toks) (fun b u e => Heap.get?_push_of_some _ e) (Nat.le_refl _) ?_, rfl, q _ hf⟩
  exact ⟨z, us, 0, r, Heap.get?_push_size _ rfl⟩
end

abbrev Sp := List V → Hp → VK → XK → Prop
abbrev CXT := List Env → Hp → Shared → XK → Value → Shared → Prop

structure Env0 (P : Program) (w : World) (K : PySem.W.Frag) (mg : Str → Option Value) (base : Heap) (A : Around) (outer : List Env) (s : Shared) (H : Hp) : Prop where
  frames : A.frames = some outer
  mod : Mod K mg base
  bs : ∀ b o, base.get? b = some o → s.heap.get? b = some o ∧ H b = none
  bsz : base.objs.size ≤ s.heap.objs.size
  funs : s.heap.FunFrames base outer
  frf : ∀ b ∈ frs outer, H b = none
  hok : HOk P w H s.heap
  bare : AllBare s.gens
def CE (outer : List Env) (P : Program) (w : World) (H : Hp) (s : Shared) (Q : VK) (u : Value) (s' : Shared) : Prop :=
  ∃ v H', s'.os = s.os ∧ AllBare s'.gens ∧ Un (frs outer) [] H H' s.heap s'.heap ∧ HOk P w H' s'.heap ∧ RelV v u ∧ Q v H'
def CR (CX : CXT) (outer : List Env) (P : Program) (w : World) (H : Hp) (s : Shared) (Q : VK) (E : XK) (r : Result) (s' : Shared) : Prop :=
  match r with
  | .ok (.ret u) => CE outer P w H s Q u s'
  | .ok _ => False
  | .error e => CX outer H s E e s'
structure FnOk (P : Program) (w : World) (K : PySem.W.Frag) (mg : Str → Option Value) (base : Heap) (CX : CXT) (k : Nat) (f : Addr) (fd : FuncData) (ps : List Str) (sp : Sp) : Prop where
  len : ∀ vs H Q E, sp vs H Q E → vs.length = ps.length
  run : ∀ (A : Around) (outer : List Env) (s : Shared) (H : Hp) (args : Args) (us : List Value) (vs : List V) (Q : VK) (E : XK), Room k A → Env0 P w K mg base A outer s H → BindsTo s fd args (ps.zip us) → Vals vs us → sp vs H Q E →
    codeAny (model P w) A (.call (.ref f) args) (CR CX outer P w H s Q E) s
theorem FnOk.mono {P : Program} {w : World} {K : PySem.W.Frag} {mg : Str → Option Value} {base : Heap} {CX : CXT} {j k : Nat} {f : Addr} {fd : FuncData} {ps : List Str} {sp : Sp} (F : FnOk P w K mg base CX j f fd ps sp) (h : j ≤ k) :
    FnOk P w K mg base CX k f fd ps sp := ⟨F.len, fun A outer s H args us vs Q E hr => F.run A outer s H args us vs Q E (hr.mono h)⟩
theorem FnOk.imp {P : Program} {w : World} {K : PySem.W.Frag} {mg : Str → Option Value} {base : Heap} {CX : CXT} {k : Nat} {f : Addr} {fd : FuncData} {ps : List Str} {sp sp' : Sp} (F : FnOk P w K mg base CX k f fd ps sp)
    (h : ∀ vs H Q E, sp' vs H Q E → sp vs H Q E) : FnOk P w K mg base CX k f fd ps sp' :=
  ⟨fun vs H Q E q => F.len vs H Q E (h _ _ _ _ q), fun A outer s H args us vs Q E hr he hb hv hs => F.run A outer s H args us vs Q E hr he hb hv (h _ _ _ _ hs)⟩

theorem Env0.in1 {P : Program} {w : World} {K : PySem.W.Frag} {mg : Str → Option Value} {base : Heap} {A : Around} {outer : List Env} {s : Shared} {H : Hp} (e : Env0 P w K mg base A outer s H) :
    Env0 P w K mg base A.in1 outer s H := ⟨e.frames, e.mod, e.bs, e.bsz, e.funs, e.frf, e.hok, e.bare⟩

section
variable {X : Cx} {pins : List (Addr × Obj)} {σ : St} {H : Hp} {s s' : Shared}
theorem Inv.env0 (I : Inv X pins σ H s) : Env0 X.prog X.w X.K X.mg X.base X.A X.stack s H :=
  ⟨I.ok.frames, I.ok.mod, I.bs, Nat.le_trans I.ok.bsz I.sz, I.stack, I.stkFree, I.hok, I.bare⟩
theorem Inv.after {Q : VK} {u : Value} (I : Inv X pins σ H s) (h : CE X.stack X.prog X.w H s Q u s') : EP X pins σ Q u s' := by
  obtain ⟨v, H', os, bare, un, hok, r, q⟩ := h
  obtain ⟨hh, g, d, t, os'⟩ := s'
  obtain rfl : os' = s.os := os
  exact ⟨v, H', I.call (h' := hh) (g' := g) (d' := d) (t' := t) (ch := []) un hok bare (fun b z => absurd z (by simp)), r, q⟩
end

def tCall (sp : Sp) (dvs : List V) (E : XK) (t : TA) : TE := fun σ H Q => t σ H fun vs H1 => sp (vs ++ dvs) H1 Q E
def Binds (K : PySem.W.Frag) (fd : FuncData) (ps : List Str) (ds : List Value) : Prop :=
  ∀ (s : Shared) (us : List Value), K.In s.heap → (us ++ ds).length = ps.length → BindsTo s fd ⟨us, []⟩ (ps.zip (us ++ ds))
theorem Binds.all {K : PySem.W.Frag} {fd : FuncData} {ps : List Str} (h : ∀ us : List Value, us.length = ps.length → bindArgs fd ⟨us, []⟩ = pure (ps.zip us)) : Binds K fd ps [] := fun s us _ hl => by
  rw [List.append_nil] at hl ⊢
  exact .of_eq (h us hl)

def Passes (CX : CXT) (X : Cx) (E : XK) : Prop := ∀ (pins : List (Addr × Obj)) (σ : St) (H : Hp) (s : Shared) (e : Value) (s' : Shared), Inv X pins σ H s → CX X.stack H s E e s' → X.xe e s'

section
variable {X : Cx} {CX : CXT} {k : Nat} {f C : Addr} {fd : FuncData} {ps : List Str} {sp : Sp} {dvs : List V} {ds : List Value} {E : XK} {x m : Str} {p pos apos : Pos} {e o : Expr} {es : List Expr} {ta : TE} {t : TA}

theorem run_fn {pins : List (Addr × Obj)} {σ : St} {H : Hp} {s : Shared} {Q : VK} {us : List Value} {vs : List V} (F : FnOk X.prog X.w X.K X.mg X.base CX k f fd ps sp) (hr : Room k X.A) (hb : Binds X.K fd ps ds) (hd : Vals dvs ds) (hx : Passes CX X E)
    (I : Inv X pins σ H s) (r : Vals vs us) (h : sp (vs ++ dvs) H Q E) : wpAny (model X.prog X.w) X.A (call (.ref f) us) (EP X pins σ Q) X.xe s := by
  have r2 : Vals (vs ++ dvs) (us ++ ds) := r.append hd
  have hl : (us ++ ds).length = ps.length := by rw [← r2.length]; exact F.len _ _ _ _ h
  refine wpAny_call (codeAny_mono (F.run X.A X.stack s H ⟨us, []⟩ (us ++ ds) (vs ++ dvs) Q E hr I.env0 (hb s us I.kIn hl) r2 h) fun r s' hq => ?_)
  cases r with
  | error e => exact hx pins σ H s e s' I hq
  | ok fl =>
    cases fl with
    | ret u => exact I.after hq
    | next => exact False.elim hq
    | brk => exact False.elim hq
    | cont => exact False.elim hq

theorem pe_call (F : FnOk X.prog X.w X.K X.mg X.base CX k f fd ps sp) (hr : Room k X.A) (hg : Gl X x) (hm : X.mg x = some (.ref f)) (hk : PySem.W.keepIn X.K (.ref f) = true) (hb : Binds X.K fd ps ds) (hd : Vals dvs ds) (hx : Passes CX X E)
    (ha : PA X (e :: es) t) (hdb : (x == ("__debug__" : Str)) = false := by decide) (he : starEach (e :: es) X.env = (false, eval e X.env) :: starEach es X.env := by rfl) (hpl : (backTo pos (starEach es X.env)).any (·.1) = false := by rfl) :
    PE X (.Call (.Name x p) (e :: es) [] pos) (tCall sp dvs E t) := by
  intro pins s σ H Q I h
  refine wpAny_Call_Name_kw (ld_glob I hg hm ?_ hdb)
  refine PySem.W.callWith_K (h₀ := X.base) I.ok.mod.kin hk (thn (ha pos pins s σ H _ I h) fun us s1 ⟨vs, H1, I1, r, q⟩ => ⟨I1.kIn, ?_⟩) he hpl
  exact run_fn F hr hb hd hx I1 r q
end

section
variable {X : Cx} {CX : CXT} {k : Nat} {f C : Addr} {fd : FuncData} {ps ks : List Str} {sp : Sp} {E : XK} {x m : Str} {p pos apos kpos : Pos} {e o : Expr} {es : List Expr} {kws : List Keyword} {te ta : TE} {t tk : TA} {nm : Option Str}
variable {g : List Value → List Value → List Value} {gV : List V → List V → List V}
end

structure FnScope (N P : List Str) (sc : Scope) : Prop where
  kind : sc.kind = .function
  co : sc.isCoroutine = false
  gen : sc.isGenerator = false
  nd : N.Nodup
  pre : N.take P.length = P
  par : ∀ x ∈ P, sc.names.lookup x = some .local ∨ sc.names.lookup x = some .cell
  nofree : ∀ y ∈ sc.names, y.2 ≠ .free

theorem bindL_out {kindOf : Str → Option NameKind} {x : Str} : ∀ {binds : List (Str × Value)} {m : Str → Option Value}, (∀ v, (x, v) ∉ binds) → bindL kindOf binds m x = m x
  | [], _, _ => rfl
  | (n, v) :: r, m, h => by
    unfold bindL
    rw [bindL_out fun w hw => h w (List.mem_cons_of_mem _ hw)]
    split
    · have : x ≠ n := by rintro rfl; exact h v List.mem_cons_self
      simp [this]
    · rfl
theorem bindC_out {kindOf : Str → Option NameKind} {x : Str} : ∀ {binds : List (Str × Value)} {m : Str → Option Value}, (∀ v, (x, v) ∉ binds) → bindC kindOf binds m x = m x
  | [], _, _ => rfl
  | (n, v) :: r, m, h => by
    unfold bindC
    rw [bindC_out fun w hw => h w (List.mem_cons_of_mem _ hw)]
    split
    · rfl
    · have : x ≠ n := by rintro rfl; exact h v List.mem_cons_self
      simp [this]
theorem bindL_get {kindOf : Str → Option NameKind} {x : Str} {v : Value} : ∀ {P : List Str} {vs : List Value} {i : Nat} {m : Str → Option Value}, P.Nodup → P[i]? = some x → vs[i]? = some v → kindOf x = some .local →
    bindL kindOf (P.zip vs) m x = some v
  | [], _, _, _, _, h, _, _ => by simp at h
  | _ :: _, [], _, _, _, _, h, _ => by simp at h
  | p :: P, w :: vs, 0, m, nd, h1, h2, hk => by
    simp at h1 h2; subst h1; subst h2
    show bindL kindOf ((p, w) :: P.zip vs) m p = _
    unfold bindL
    rw [bindL_out fun v hv => (List.nodup_cons.mp nd).1 (List.of_mem_zip hv).1, if_pos hk]
    simp
  | p :: P, w :: vs, i + 1, m, nd, h1, h2, hk => by
    show bindL kindOf ((p, w) :: P.zip vs) m x = _
    unfold bindL
    exact bindL_get (i := i) (List.nodup_cons.mp nd).2 (by simpa using h1) (by simpa using h2) hk
theorem bindC_get {kindOf : Str → Option NameKind} {x : Str} {v : Value} : ∀ {P : List Str} {vs : List Value} {i : Nat} {m : Str → Option Value}, P.Nodup → P[i]? = some x → vs[i]? = some v → kindOf x ≠ some .local →
    bindC kindOf (P.zip vs) m x = some v
  | [], _, _, _, _, h, _, _ => by simp at h
  | _ :: _, [], _, _, _, _, h, _ => by simp at h
  | p :: P, w :: vs, 0, m, nd, h1, h2, hk => by
    simp at h1 h2; subst h1; subst h2
    show bindC kindOf ((p, w) :: P.zip vs) m p = _
    unfold bindC
    rw [bindC_out fun v hv => (List.nodup_cons.mp nd).1 (List.of_mem_zip hv).1, if_neg hk]
    simp
  | p :: P, w :: vs, i + 1, m, nd, h1, h2, hk => by
    show bindC kindOf ((p, w) :: P.zip vs) m x = _
    unfold bindC
    exact bindC_get (i := i) (List.nodup_cons.mp nd).2 (by simpa using h1) (by simpa using h2) hk

def start (N : List Str) (vs : List V) : St := vs.map some ++ List.replicate (N.length - vs.length) none

def cxOf (CX : CXT) (P : Program) (w : World) (K : PySem.W.Frag) (mg : Str → Option Value) (base : Heap) (N : List Str) (qual : Str) (scope : Scope) (f : Addr) (cd : Value) (A : Around) (outer : List Env) (s : Shared) (H : Hp) (E : XK) : Cx where
  prog := P
  w := w
  K := K
  mg := mg
  base := base
  A := A.deeper (envOfC qual scope s.heap.objs.size f cd)
  N := N
  s₀ := s
  H₀ := H
  env := envOfC qual scope s.heap.objs.size f cd
  outer := outer
  stack := envOfC qual scope s.heap.objs.size f cd :: outer
  ex := []
  calm := true
  fn := fun _ => true
  pn := []
  xe := fun e s' => wpAny (model P w) (A.deeper (envOfC qual scope s.heap.objs.size f cd)) (leaving (envOfC qual scope s.heap.objs.size f cd) e) (fun _ s'' => CX outer H s E e s'') (fun e' s'' => CX outer H s E e' s'') s'

theorem cell_has {sc : Scope} {n : Nat} {x : Str} (h : sc.names.lookup x = some .cell) : ∃ c, (cellsFrom n sc.names []).lookup x = some c := by
  have q := PySem.W.cellsFrom_some sc.names n [] (.inl h)
  exact Option.isSome_iff_exists.mp q

theorem inv_start {CX : CXT} {P : Program} {w : World} {K : PySem.W.Frag} {mg : Str → Option Value} {base : Heap} {N ps : List Str} {qual : Str} {scope : Scope} {f : Addr} {cd : Value} {A : Around} {outer : List Env} {s s1 : Shared} {H : Hp} {E : XK} {us : List Value} {vs : List V}
    (S : FnScope N ps scope) (hd : A.handled = none) (e0 : Env0 P w K mg base A outer s H) (hl : vs.length = ps.length) (r : Vals vs us)
    (x : InCallC s s.heap.objs.size (bindL (envOfC qual scope s.heap.objs.size f cd).kindOf (ps.zip us) fun _ => none) (cellsFrom (s.heap.objs.size + 1) scope.names []) (bindC (envOfC qual scope s.heap.objs.size f cd).kindOf (ps.zip us) fun _ => none) s1) :
    Inv (cxOf CX P w K mg base N qual scope f cd A outer s H E) [] (start N vs) H s1 := by
  have hpl : ps.length ≤ N.length := by have := congrArg List.length S.pre; rw [List.length_take] at this; omega
  obtain ⟨h1, tk, rfl, hk⟩ := x.done
  have noA : ∀ b : Addr, b ∉ (cxOf CX P w K mg base N qual scope f cd A outer s H E).ex := fun b z => absurd (show b ∈ ([] : List Addr) from z) (by simp)
  refine ⟨⟨e0.mod, S.kind, rfl, rfl, Nat.le_refl _, fun y z c h1 h2 => ?_, fun y hy => ?_, fun y c _ h => ?_, fun _ => hd, Around.frames_deeper e0.frames, .inr ⟨rfl, rfl⟩, fun b z => absurd z (noA b), e0.bs, e0.bsz, fun b _ _ => noA b, fun b z => absurd z (noA b), e0.funs, e0.frf⟩,
    rfl, e0.bare, Un.kept hk, ⟨_, x.toInCall.ns, fun i y v h1 h2 h3 => ?_⟩, fun y c h => ⟨_, x.cell y c h⟩, e0.hok.fresh (Nat.le_refl _), fun y c h => ?_, fun p hp => absurd (show p ∈ ([] : List (Addr × Obj)) from hp) (by simp), e0.hok.kept hk, ?_⟩
  · exact name_of_addr x.apart (PySem.mem_of_lookup h1) (PySem.mem_of_lookup h2)
  · have hy : scope.names.lookup y = some .cell ∨ scope.names.lookup y = some .free := hy
    rcases hy with hy | hy
    · exact cell_has hy
    · exact absurd rfl (S.nofree _ (PySem.mem_of_lookup hy))
  · exact Nat.le_of_lt (x.above y c (PySem.mem_of_lookup h))
  · have hi : i < vs.length := by
      unfold start at h2
      by_cases hi : i < vs.length
      · exact hi
      · rw [List.getElem?_append_right (by simpa using hi)] at h2
        rw [List.getElem?_replicate] at h2
        split at h2 <;> cases h2
    have ha : vs[i]? = some v := by
      unfold start at h2
      rw [List.getElem?_append_left (by simpa using hi), List.getElem?_map] at h2
      cases e : vs[i]? with
      | none => rw [e] at h2; cases h2
      | some a => rw [e] at h2; cases h2; rfl
    obtain ⟨u, hu, rv⟩ := r.get ha
    have hp : ps[i]? = some y := by
      rw [← S.pre, List.getElem?_take_of_lt (by omega)]; exact h1
    have ndP : ps.Nodup := by rw [← S.pre]; exact S.nd.sublist (List.take_sublist _ _)
    refine ⟨u, rv, ?_⟩
    rcases S.par y (List.mem_of_getElem? hp) with k | k
    · exact .inl ⟨k, bindL_get ndP hp hu k⟩
    · obtain ⟨c, e⟩ := cell_has (n := s.heap.objs.size + 1) k
      refine .inr ⟨.inl k, c, e, ?_⟩
      have q := x.cell y c e
      rw [bindC_get ndP hp hu (by show scope.names.lookup y ≠ _; rw [k]; decide)] at q
      exact q
  · exact e0.hok.fresh (Nat.le_of_lt (x.above y c (PySem.mem_of_lookup h)))
  · unfold start
    show _ = N.length
    rw [List.length_append, List.length_map, List.length_replicate]
    omega

theorem fn_of {CX : CXT} {P : Program} {w : World} {K : PySem.W.Frag} {mg : Str → Option Value} {base : Heap} {k : Nat} {f : Addr} {name qual : Str} {params : Arguments} {body : List Stmt} {scope : Scope} {dV kV doc pm cdv ct oc : Value} {an od : Option Addr}
    {osl : Array (Option Value)} {N ps : List Str} {sp : Sp} (lk : K.lookup f = some ⟨oc, od, .func (PySem.W.fnOf name qual params body scope dV kV doc pm an cdv ct), osl⟩) (hcd : PySem.W.codeIn K cdv qual = true) (S : FnScope N ps scope)
    (len : ∀ vs H Q E, sp vs H Q E → vs.length = ps.length)
    (hbody : ∀ (A : Around) (outer : List Env) (s : Shared) (H : Hp) (vs : List V) (Q : VK) (E : XK), Room k (A.deeper (envOfC qual scope s.heap.objs.size f cdv)) → sp vs H Q E →
      ∃ t, PSs (cxOf CX P w K mg base N qual scope f cdv A outer s H E) body t ∧ t { nx := fun _ H' => Q .non H', rt := Q } (start N vs) H) :
    FnOk P w K mg base CX (k + 1) f (PySem.W.fnOf name qual params body scope dV kV doc pm an cdv ct) ps sp := by
  refine ⟨len, fun A outer s H args us vs Q E hr e0 hb r hsp => ?_⟩
  have hl := len _ _ _ _ hsp
  have KX : K.In s.heap := e0.mod.kin.keeps fun b o e => (e0.bs b o e).1
  have lim : s.heap.NoLimit := e0.mod.nolimit.keeps fun b o e => (e0.bs b o e).1
  have hkind : ∀ y ∈ ps.zip us, scope.names.lookup y.1 = some .local ∨ (scope.names.lookup y.1 = some .cell ∧ ((cellsFrom (s.heap.objs.size + 1) scope.names []).lookup y.1).isSome = true) := fun ⟨n, v⟩ hy => by
    rcases S.par n (List.of_mem_zip hy).1 with q | q
    · exact .inl q
    · exact .inr ⟨q, PySem.W.cellsFrom_some _ _ _ (.inl q)⟩
  refine codeAny_call_function hr.depth (KX _ _ lk) rfl S.co S.gen rfl (PySem.W.codeRec_of KX hcd) (hb _ _ _ _ ?_)
  refine wpAny_newFunctionEnv_cells S.kind hkind fun env he s1 x => ?_
  subst he
  refine ⟨lim.keeps x.toInCall.keep, codeAny_func ?_⟩
  obtain ⟨t, ht, hq⟩ := hbody A outer s H vs Q E (hr.deeper _) hsp
  have I : Inv (cxOf CX P w K mg base N qual scope f cdv A outer s H E) [] (start N vs) H s1 := inv_start S hr.hd e0 hl r x
  refine wpAny_mono (ht [] s1 (start N vs) H _ I hq) (fun fl s' hs => ?_) fun e s' hs => hs
  have fin : ∀ {σ' : St} {H' : Hp} {v : V} {u : Value}, Inv (cxOf CX P w K mg base N qual scope f cdv A outer s H E) [] σ' H' s' → RelV v u → Q v H' → CE outer P w H s Q u s' :=
    fun {σ' H' v u} J rv q => ⟨v, H', J.os, J.bare, J.base, J.hok, rv, q⟩
  cases fl with
  | ret u =>
    obtain ⟨v, σ', H', J, rv, q⟩ := hs
    exact fin J rv q
  | next =>
    obtain ⟨σ', H', J, q⟩ := hs
    exact fin (v := V.non) (u := Value.none) J rfl q
  | brk =>
    obtain ⟨_, _, _, q⟩ := hs
    exact False.elim q
  | cont =>
    obtain ⟨_, _, _, q⟩ := hs
    exact False.elim q
end L2

namespace L2
open PySem PySem.Spec PyProof.Rows
section
variable {X : Cx} {x : Str} {p pos : Pos} {e : Expr} {es : List Expr} {t : TA} {id T : String} {r : List V → Hp → VK → Prop}

def tCB (r : List V → Hp → VK → Prop) (t : TA) : TE := fun σ H Q => t σ H fun vs H1 => r vs H1 Q
theorem pe_callB (hc : CallR X (.builtin id) r) (hg : Gl X x) (hm : X.mg x = none) (hv : bootBuiltins x = some (.builtin id)) (ha : PA X (e :: es) t) (hn : x ≠ "__name__" := by decide) (hdb : (x == ("__debug__" : Str)) = false := by decide)
    (he : starEach (e :: es) X.env = (false, eval e X.env) :: starEach es X.env := by rfl) (hpl : (backTo pos (starEach es X.env)).any (·.1) = false := by rfl) : PE X (.Call (.Name x p) (e :: es) [] pos) (tCB r t) := by
  intro pins s σ H Q I h
  refine wpAny_Call_Name_kw (ld_blt I hg hm hv ?_ hn hdb)
  exact PyProof.Rows.callWith_builtin1 (thn (ha pos pins s σ H _ I h) fun us s1 ⟨vs, H1, I1, r1, q1⟩ => hc pins s1 σ H1 vs us Q I1 r1 q1) he hpl
theorem pe_callTy (hc : CallR X (.type T) r) (hg : Gl X x) (hm : X.mg x = none) (hv : bootBuiltins x = some (.type T)) (ha : PA X (e :: es) t) (hn : x ≠ "__name__" := by decide) (hdb : (x == ("__debug__" : Str)) = false := by decide)
    (he : starEach (e :: es) X.env = (false, eval e X.env) :: starEach es X.env := by rfl) (hpl : (backTo pos (starEach es X.env)).any (·.1) = false := by rfl) : PE X (.Call (.Name x p) (e :: es) [] pos) (tCB r t) := by
  intro pins s σ H Q I h
  refine wpAny_Call_Name_kw (ld_blt I hg hm hv ?_ hn hdb)
  exact PyProof.Rows.callWith_type1 (thn (ha pos pins s σ H _ I h) fun us s1 ⟨vs, H1, I1, r1, q1⟩ => hc pins s1 σ H1 vs us Q I1 r1 q1) he hpl
end
end L2

namespace HT
open PySem PyProof.Rows

section
open PySem.SeqAt
open PySem.AutoSeq1 (wpAny_loadPart')
open PySem.MeetsSeq PySem.MeetsSeq2 PySem.MeetsSeq3

end

section
variable {prog : Program} {w : World} {A : Around} {E : Value → Shared → Prop} {s : Shared}

def sIx (n d : Nat) : Option Int → Nat
  | none => d
  | some v => if v < 0 then (v + (n : Int)).toNat else min v.toNat n
end
end HT

namespace L2
open PySem PySem.Spec PyProof.Rows

abbrev TO := St → Hp → (Option Int → Hp → Prop) → Prop
def PO (X : Cx) (e : Option Expr) (t : TO) : Prop :=
  ∀ (pins : List (Addr × Obj)) (s : Shared) (σ : St) (H : Hp) (Q : Option Int → Hp → Prop), Inv X pins σ H s → t σ H Q →
    wpAny (model X.prog X.w) X.A (evalPart e X.env) (fun u s' => ∃ o H', Inv X pins σ H' s' ∧ IsPart u o ∧ Q o H') X.xe s
def tNoPart : TO := fun _ H Q => Q none H
section
variable {X : Cx} {e : Expr} {te : TE} {lo hi : Option Expr} {tl th : TO} {pos p2 : Pos}

theorem po_none : PO X none tNoPart := by
  intro pins s σ H Q I h
  rw [evalPart_none]
  exact wpAny_pure ⟨none, H, I, .none, h⟩
def SlR (X : Cx) (r : V → Option Int → Option Int → Hp → VK → Prop) : Prop :=
  ∀ (pins : List (Addr × Obj)) (s : Shared) (σ : St) (H : Hp) (x : V) (v vl vu : Value) (lo hi : Option Int) (sl : Addr) (Q : VK), Inv X pins σ H s → RelV x v → s.heap.IsSliceOf sl vl vu .none → IsPart vl lo → IsPart vu hi → r x lo hi H Q →
    ∃ T id, typeLookup (.type T) "__getitem__" = pure (some (.builtin id)) ∧ s.TypeIs v T ∧ wpAny (model X.prog X.w) X.A (getItem v (.ref sl)) (EP X pins σ Q) X.xe s
theorem SlR.or {r r' : V → Option Int → Option Int → Hp → VK → Prop} (h : SlR X r) (h' : SlR X r') : SlR X (fun x lo hi H Q => r x lo hi H Q ∨ r' x lo hi H Q) := by
  intro pins s σ H x v vl vu lo hi sl Q I rx hs pl pu q
  rcases q with q | q
  · exact h pins s σ H x v vl vu lo hi sl Q I rx hs pl pu q
  · exact h' pins s σ H x v vl vu lo hi sl Q I rx hs pl pu q
def tSl (r : V → Option Int → Option Int → Hp → VK → Prop) (te : TE) (tl th : TO) : TE := fun σ H Q => te σ H fun x H1 => tl σ H1 fun l H2 => th σ H2 fun u H3 => r x l u H3 Q
theorem pe_slice {r : V → Option Int → Option Int → Hp → VK → Prop} (hr : SlR X r) (he : PE X e te) (hl : PO X lo tl) (hu : PO X hi th) : PE X (.Subscript e (.Slice lo hi none p2) pos) (tSl r te tl th) := by
  intro pins s σ H Q I h
  refine Subscript_ (thn (he pins s σ H _ I h) fun v s1 ⟨x, H1, I1, r1, q1⟩ => ?_)
  refine wpAny_Slice (thn (hl pins s1 σ H1 _ I1 q1) fun vl s2 ⟨l, H2, I2, pl, q2⟩ => thn (hu pins s2 σ H2 _ I2 q2) fun vu s3 ⟨u, H3, I3, pu, q3⟩ => ?_)
  rw [evalPart_none]
  refine wpAny_pure ?_
  have I4 : Inv X pins σ H3 { s3 with heap := s3.heap.push { cls := .type "slice", data := .fields #[vl, vu, .none] } } := I3.kept (t' := s3.toks) fun b ob q => Heap.get?_push_of_some _ q
  obtain ⟨T, id, hT, ht, hg⟩ := hr pins { s3 with heap := s3.heap.push { cls := .type "slice", data := .fields #[vl, vu, .none] } } σ H3 x v vl vu l u s3.heap.objs.size Q I4 r1 (Heap.IsSliceOf.new ..) pl pu q3
  show wpAny (model X.prog X.w) X.A (subscriptTail e (.Slice lo hi none p2) v (.ref s3.heap.objs.size)) (EP X pins σ Q) X.xe { s3 with heap := s3.heap.push { cls := .type "slice", data := .fields #[vl, vu, .none] } }
  exact tail_any (ops := [.ref s3.heap.objs.size, v]) ht hT hg (by with_unfolding_all rfl)

def cutV (xs : List V) (lo hi : Option Int) : List V := (xs.drop (HT.sIx xs.length 0 lo)).take (HT.sIx xs.length xs.length hi - HT.sIx xs.length 0 lo)
theorem cutV_length (xs : List V) (lo hi : Option Int) : (cutV xs lo hi).length ≤ xs.length := by
  unfold cutV
  rw [List.length_take, List.length_drop]
  omega
end
end L2

namespace L2
open PySem PySem.Spec PyProof.Rows

def ixN (n : Nat) (i : Int) : Option Nat := if 0 ≤ i then (if i < n then some i.toNat else none) else if -(n : Int) ≤ i then some (i + n).toNat else none
def atI {α : Type} (xs : List α) (i : Int) : Option α := (ixN xs.length i).bind fun j => xs[j]?
theorem ixN_seq {n : Nat} {i : Int} {j : Nat} (h : ixN n i = some j) : seqIndex? i n = some j ∧ j < n ∧ -(n : Int) ≤ i ∧ i < n := by
  unfold ixN at h
  by_cases h0 : 0 ≤ i
  · rw [if_pos h0] at h
    by_cases h1 : i < n
    · rw [if_pos h1] at h
      have e : i.toNat = j := Option.some.inj h
      exact ⟨by rw [seqIndex_of h0 h1, e], by omega, by omega, h1⟩
    · rw [if_neg h1] at h; cases h
  · rw [if_neg h0] at h
    by_cases h1 : -(n : Int) ≤ i
    · rw [if_pos h1] at h
      have e : (i + n).toNat = j := Option.some.inj h
      exact ⟨by rw [seqIndex_neg (by omega) h1, e], by omega, h1, by omega⟩
    · rw [if_neg h1] at h; cases h
theorem atI_get {α : Type} {xs : List α} {i : Int} {v : α} (h : atI xs i = some v) : ∃ j, seqIndex? i xs.length = some j ∧ xs[j]? = some v ∧ j < xs.length ∧ -(xs.length : Int) ≤ i ∧ i < xs.length := by
  unfold atI at h
  cases e : ixN xs.length i with
  | none => rw [e] at h; cases h
  | some j =>
    rw [e] at h
    obtain ⟨h1, h2, h3, h4⟩ := ixN_seq e
    exact ⟨j, h1, h, h2, h3, h4⟩
theorem atI_nat {α : Type} {xs : List α} {j : Nat} {v : α} (h : xs[j]? = some v) : atI xs (j : Int) = some v := by
  have hj : j < xs.length := (List.getElem?_eq_some_iff.mp h).1
  have e : ixN xs.length (j : Int) = some j := by
    unfold ixN
    rw [if_pos (by omega), if_pos (by omega)]; simp
  unfold atI; rw [e]; exact h
def PlainIx (b : Expr) : Prop := ∀ o i, subscripted b false o i = operate [o, i] (getItem o i)
def IxR (X : Cx) (r : R2) : Prop :=
  ∀ (value slice : Expr) (pins : List (Addr × Obj)) (s : Shared) (σ : St) (H : Hp) (x y : V) (v u : Value) (Q : VK), Inv X pins σ H s → RelV x v → RelV y u → r x y H Q →
    subscripted slice false v u = operate [v, u] (getItem v u) → wpAny (model X.prog X.w) X.A (subscriptTail value slice v u) (EP X pins σ Q) X.xe s
section
variable {X : Cx} {a b : Expr} {ta tb : TE} {pos : Pos}
theorem IxR.or {r r' : R2} (h : IxR X r) (h' : IxR X r') : IxR X (fun x y H Q => r x y H Q ∨ r' x y H Q) := by
  intro value slice pins s σ H x y v u Q I rx ry q hs
  rcases q with q | q
  · exact h value slice pins s σ H x y v u Q I rx ry q hs
  · exact h' value slice pins s σ H x y v u Q I rx ry q hs
theorem pe_ix {r : R2} (hr : IxR X r) (ha : PE X a ta) (hb : PE X b tb) (hs : PlainIx b) : PE X (.Subscript a b pos) (tOp r ta tb) := by
  intro pins s σ H Q I h
  exact Subscript_ (binT ha hb I h fun v u s2 x y H2 I2 rx ry q => hr a b pins s2 σ H2 x y v u Q I2 rx ry q (hs _ _))

def rIxL (K : PySem.W.Frag) : R2 := fun x y H Q => ∃ p xs i v, x = .ref p ∧ y = .int i ∧ SqL K H p xs ∧ atI xs i = some v ∧ Q v H
def rIxT (K : PySem.W.Frag) : R2 := fun x y H Q => ∃ p xs i v, x = .ref p ∧ y = .int i ∧ SqT K H p xs ∧ atI xs i = some v ∧ Q v H
def rIxS : R2 := fun x y H Q => ∃ z i c, x = .str z ∧ y = .int i ∧ z.length ≤ sizeLine ∧ atI z.cps.toList i = some c ∧ Q (.str ⟨#[c]⟩) H
theorem ix_list : IxR X (rIxL X.K) := by
  intro value slice pins s σ H x y v u Q I rx ry h hs
  obtain ⟨p, xs, i, z, rfl, rfl, hq, he, q⟩ := h
  cases rx
  obtain ⟨t, rfl⟩ := ry
  obtain ⟨its, r, pl, hz⟩ := I.list hq
  obtain ⟨j, h1, h2, h3, h4, h5⟩ := atI_get he
  obtain ⟨w, ew, rw'⟩ := r.get h2
  have hl := r.length
  have hn := line63
  have fin : EP X pins σ Q w s := ⟨z, H, I, rw', q⟩
  by_cases h0 : 0 ≤ i
  · have hj : i.toNat = j := by
      rw [seqIndex_of h0 h5] at h1
      exact Option.some.inj h1
    exact item_listR pl.isList h0 (by omega) (by rw [hj]; simpa using ew) fin hs
  · have hj : (i + (its.toArray.size : Int)).toNat = j := by
      rw [seqIndex_neg (by omega) h4] at h1
      rw [List.size_toArray, ← hl]
      exact Option.some.inj h1
    exact subscriptTail_builtinR (x := w) pl.isList.typeIs slot_list_getitem.lookup
      (wpAny_getItem_list_neg (Q := fun r s' => r = w ∧ EP X pins σ Q r s') pl.isList (by omega) (by rw [List.size_toArray] <;> omega) (by omega) (by rw [hj]; simpa using ew) ⟨rfl, fin⟩) hs
theorem ix_tup : IxR X (rIxT X.K) := by
  intro value slice pins s σ H x y v u Q I rx ry h hs
  obtain ⟨p, xs, i, z, rfl, rfl, hq, he, q⟩ := h
  cases rx
  obtain ⟨t, rfl⟩ := ry
  obtain ⟨its, r, pl, hz⟩ := I.tuple hq
  obtain ⟨j, h1, h2, h3, h4, h5⟩ := atI_get he
  obtain ⟨w, ew, rw'⟩ := r.get h2
  have hl := r.length
  have hn := line63
  have fin : EP X pins σ Q w s := ⟨z, H, I, rw', q⟩
  exact subscriptTail_builtinR (x := w) pl.typeIs slot_tuple_getitem.lookup
    (getItem_tuple (j := j) (Q := fun r s' => r = w ∧ EP X pins σ Q r s') pl (by omega) (by omega) (by rw [List.size_toArray, ← hl]; exact h1) (by simpa using ew) ⟨rfl, fin⟩) hs
theorem ix_str : IxR X rIxS := by
  intro value slice pins s σ H x y v u Q I rx ry h hs
  obtain ⟨z, i, c, rfl, rfl, hz, he, q⟩ := h
  obtain ⟨t, rfl⟩ := rx
  obtain ⟨t', rfl⟩ := ry
  obtain ⟨j, h1, h2, h3, h4, h5⟩ := atI_get he
  have hl : z.cps.toList.length = z.length := by simp [Str.length]
  rw [hl] at h1 h4 h5
  have hn := line63
  exact tail_any (typeIs_str s z t) slot_str_getitem.lookup (getItem_str (c := c) (by
    have e1 : decide (i < -(2 ^ 63 : Int)) = false := decide_eq_false (by omega)
    have e2 : decide (i ≥ 2 ^ 63) = false := decide_eq_false (by omega)
    rw [e1, e2, Bool.or_false]) (by rw [h1]; simpa using h2) ⟨.str ⟨#[c]⟩, H, I.tok _, ⟨_, rfl⟩, q⟩) hs
def rIx (K : PySem.W.Frag) : R2 := fun x y H Q => rIxL K x y H Q ∨ rIxT K x y H Q ∨ rIxS x y H Q
theorem ix_seq : IxR X (rIx X.K) := ix_list.or (ix_tup.or ix_str)

theorem mapSeq_set (its : List Value) (n j : Nat) (u : Value) : Obj.mapSeq (·.setIfInBounds j u) { cls := .type "list", data := .seq its.toArray n } = { cls := .type "list", data := .seq (its.set j u).toArray n } := by
  simp [Obj.mapSeq]
theorem Inv.lst {pins : List (Addr × Obj)} {σ : St} {H : Hp} {s : Shared} {p : Addr} {xs : List V} (I : Inv X pins σ H s) (h : H p = some (.lst xs)) :
    ∃ (its : List Value) (n : Nat), Vals xs its ∧ s.heap.get? p = some { cls := .type "list", data := .seq its.toArray n } ∧ xs.length ≤ sizeLine := by
  obtain ⟨z, its, n, r, e⟩ := I.hok p _ h
  exact ⟨its, n, r, e, z⟩
theorem Inv.lstUpd {pins : List (Addr × Obj)} {σ : St} {H : Hp} {s : Shared} {p : Addr} {xs ys : List V} {its its' : List Value} {n n' : Nat} {f : Obj → Obj} (I : Inv X pins σ H s) (h : H p = some (.lst xs))
    (ho : s.heap.get? p = some { cls := .type "list", data := .seq its.toArray n }) (hf : f { cls := .type "list", data := .seq its.toArray n } = { cls := .type "list", data := .seq its'.toArray n' }) (r : Vals ys its') (hz : ys.length ≤ sizeLine) (t : Nat) :
    Inv X pins σ (upd H p (.lst ys)) { s with heap := s.heap.update p f, toks := t } := by
  have e : (s.heap.update p f).get? p = some { cls := .type "list", data := .seq its'.toArray n' } := by
    rw [Heap.get?_update_self f ho (by rw [hf] <;> rfl), hf]
  refine I.write (x := p) (e := p) (by rw [h]; trivial) (.inl rfl) (fun b u hb q => (Heap.get?_update_other _ _ (Ne.symm hb)).trans q) ⟨_, e⟩ ?_
  exact ⟨hz, its', n', r, e⟩
def rSetL : V → V → V → Hp → (Hp → Prop) → Prop := fun o i v H Q => ∃ p xs k j, o = .ref p ∧ i = .int k ∧ H p = some (.lst xs) ∧ ixN xs.length k = some j ∧ Q (upd H p (.lst (xs.set j v)))
theorem set_list : PSet X rSetL := by
  intro pins s σ H o i v ov iv u Q I ro ri rv h
  obtain ⟨p, xs, k, j, rfl, rfl, hp, hj, q⟩ := h
  cases ro
  obtain ⟨t, rfl⟩ := ri
  obtain ⟨its, n, r, ho, hz⟩ := I.lst hp
  obtain ⟨h1, h2, h3, h4⟩ := ixN_seq hj
  have hl := r.length
  have hn := line63
  have I' : Inv X pins σ (upd H p (.lst (xs.set j v))) { s with heap := s.heap.update p (Obj.mapSeq (·.setIfInBounds j u)) } :=
    I.lstUpd hp ho (mapSeq_set its n j u) (r.set rv j) (by rw [List.length_set]; exact hz) s.toks
  by_cases h0 : 0 ≤ k
  · have hk : k.toNat = j := by
      rw [seqIndex_of h0 h4] at h1
      exact Option.some.inj h1
    exact PySem.W.ki_setAt ho h0 (by omega) (by rw [List.size_toArray, ← hl]; exact h4) (by rw [hk]; exact ⟨_, I', q⟩)
  · have hk : (k + (its.toArray.size : Int)).toNat = j := by
      rw [seqIndex_neg (by omega) h3] at h1
      rw [List.size_toArray, ← hl]
      exact Option.some.inj h1
    exact PySem.W.ki_setBack ho (by omega) (by rw [List.size_toArray, ← hl]; exact h3) (by omega) (by rw [hk]; exact ⟨_, I', q⟩)

theorem slice_bounds (lo hi : Option Int) (n : Nat) : (sliceBounds lo hi none n).1 = ((HT.sIx n 0 lo : Nat) : Int) ∧ (sliceBounds lo hi none n).2.1 = ((HT.sIx n n hi : Nat) : Int) ∧ (sliceBounds lo hi none n).2.2 = 1 := by
  refine ⟨?_, ?_, rfl⟩
  · cases lo with
    | none => simp [sliceBounds, HT.sIx]
    | some i =>
      simp only [sliceBounds, HT.sIx, Option.getD_none, show (1 : Int) > 0 by decide, if_true]
      by_cases h : i < 0
      · simp only [h, if_true] <;> omega
      · simp only [h, if_false] <;> omega
  · cases hi with
    | none => simp [sliceBounds, HT.sIx]
    | some i =>
      simp only [sliceBounds, HT.sIx, Option.getD_none, show (1 : Int) > 0 by decide, if_true]
      by_cases h : i < 0
      · simp only [h, if_true] <;> omega
      · simp only [h, if_false] <;> omega
theorem slicePick_cut (its : List Value) (lo hi : Option Int) : slicePick its.toArray lo hi none = ((its.drop (HT.sIx its.length 0 lo)).take (HT.sIx its.length its.length hi - HT.sIx its.length 0 lo)).toArray := by
  obtain ⟨h1, h2, h3⟩ := slice_bounds lo hi its.toArray.size
  unfold slicePick
  rw [h1, h2, h3]
  simp only [sliceRange_one, pick_run, List.size_toArray] <;> rfl
def rSlL (K : PySem.W.Frag) : V → Option Int → Option Int → Hp → VK → Prop := fun x lo hi H Q => ∃ a xs, x = .ref a ∧ SqL K H a xs ∧ ∀ p, H p = none → Q (.ref p) (upd H p (.lst (cutV xs lo hi)))
theorem sl_list : SlR X (rSlL X.K) := by
  intro pins s σ H x v vl vu lo hi sl Q I rx hs pl pu h
  obtain ⟨a, xs, rfl, hx, q⟩ := h
  cases rx
  obtain ⟨its, r, ht, hz⟩ := I.list hx
  have hlen := r.length
  refine ⟨"list", _, slot_list_getitem.lookup, ht.isList.typeIs, ?_⟩
  refine wpAny_getItem_list_slice ht.isList hs pl pu .none (by simp) ?_ (by rw [List.size_toArray] <;> omega)
  rw [slicePick_cut, ← hlen]
  refine ⟨.ref s.heap.objs.size, _, I.laid (t' := s.toks) (o := .lst (cutV xs lo hi)) (fun b ob q => Heap.get?_push_of_some _ q) (Nat.le_refl _) ?_, rfl, q _ (I.hok.fresh (Nat.le_refl _))⟩
  exact ⟨Nat.le_trans (cutV_length xs lo hi) hz, _, 0, (r.drop (HT.sIx xs.length 0 lo)).take (HT.sIx xs.length xs.length hi - HT.sIx xs.length 0 lo), Heap.get?_push_size _ rfl⟩

def flatV : V → Bool
  | .non => true
  | .bl _ => true
  | .int _ => true
  | .str _ => true
  | _ => false
def eqV : V → V → Bool
  | .non, .non => true
  | .bl a, .bl b => a == b
  | .bl a, .int b => (if a then 1 else 0) == b
  | .int a, .bl b => a == (if b then 1 else 0)
  | .int a, .int b => a == b
  | .str a, .str b => a == b
  | _, _ => false
theorem eqAt_V {A : Around} {s : Shared} {y x : V} {u v : Value} (ry : RelV y u) (rx : RelV x v) (fy : flatV y = true) (fx : flatV x = true) : SeqAt.EqAt A s u v (eqV y x) := by
  cases y with
  | non =>
    cases ry
    cases x with
    | non => cases rx; exact SeqAt.EqAt.same _
    | bl b => cases rx; exact SeqAt.EqAt.none_bool b
    | int b => obtain ⟨t, rfl⟩ := rx; exact SeqAt.EqAt.none_int b t
    | str b => obtain ⟨t, rfl⟩ := rx; exact SeqAt.EqAt.none_str b t
    | _ => exact absurd (show false = true from fx) Bool.false_ne_true
  | bl a =>
    cases ry
    cases x with
    | non => cases rx; exact SeqAt.EqAt.bool_none a
    | bl b => cases rx; exact SeqAt.EqAt.bool_bool a b
    | int b => obtain ⟨t, rfl⟩ := rx; exact SeqAt.EqAt.bool_int a b t
    | str b => obtain ⟨t, rfl⟩ := rx; exact SeqAt.EqAt.bool_str a b t
    | _ => exact absurd (show false = true from fx) Bool.false_ne_true
  | int a =>
    obtain ⟨t', rfl⟩ := ry
    cases x with
    | non => cases rx; exact SeqAt.EqAt.int_none a t'
    | bl b => cases rx; exact SeqAt.EqAt.int_bool a t' b
    | int b => obtain ⟨t, rfl⟩ := rx; exact SeqAt.EqAt.int_int a t' b t
    | str b => obtain ⟨t, rfl⟩ := rx; exact SeqAt.EqAt.int_str a t' b t
    | _ => exact absurd (show false = true from fx) Bool.false_ne_true
  | str a =>
    obtain ⟨t', rfl⟩ := ry
    cases x with
    | non => cases rx; exact SeqAt.EqAt.str_none a t'
    | bl b => cases rx; exact SeqAt.EqAt.str_bool a t' b
    | int b => obtain ⟨t, rfl⟩ := rx; exact SeqAt.EqAt.str_int a t' b t
    | str b => obtain ⟨t, rfl⟩ := rx; exact SeqAt.EqAt.str_str a t' b t
    | _ => exact absurd (show false = true from fx) Bool.false_ne_true
  | _ => exact absurd (show false = true from fy) Bool.false_ne_true
def eqU (x : V) (u : Value) : Bool := match u with
  | .none => eqV .non x
  | .bool b => eqV (.bl b) x
  | .int i _ => eqV (.int i) x
  | .str z _ => eqV (.str z) x
  | _ => false
theorem eqU_of {x y : V} {u : Value} (r : RelV y u) (f : flatV y = true) : eqU x u = eqV y x := by
  cases y with
  | non => cases r; rfl
  | bl b => cases r; rfl
  | int i => obtain ⟨t, rfl⟩ := r; rfl
  | str z => obtain ⟨t, rfl⟩ := r; rfl
  | _ => exact absurd (show false = true from f) Bool.false_ne_true
theorem any_eqU {x : V} : ∀ {xs : List V} {us : List Value}, Vals xs us → xs.all flatV = true → us.any (eqU x) = xs.any fun y => eqV y x
  | _, _, .nil, _ => rfl
  | y :: xs, u :: us, .cons r t, f => by
    rw [List.all_cons, Bool.and_eq_true] at f
    rw [List.any_cons, List.any_cons, eqU_of r f.1, any_eqU t f.2]
theorem mem_eqAt {A : Around} {s : Shared} {x : V} {v : Value} (rx : RelV x v) (fx : flatV x = true) : ∀ {xs : List V} {us : List Value}, Vals xs us → xs.all flatV = true → ∀ u ∈ us, SeqAt.EqAt A s u v (eqU x u)
  | _, _, .nil, _ => fun u hu => by cases hu
  | y :: xs, u :: us, .cons r t, f => fun u' hu => by
    rw [List.all_cons, Bool.and_eq_true] at f
    rcases List.mem_cons.mp hu with rfl | hu
    · rw [eqU_of r f.1]; exact eqAt_V r rx f.1 fx
    · exact mem_eqAt rx fx t f.2 u' hu
def inV (x : V) (xs : List V) : Bool := xs.any fun y => eqV y x
def rIn (K : PySem.W.Frag) (neg : Bool) : R2 := fun x y H Q => ∃ p xs, y = .ref p ∧ (SqL K H p xs ∨ SqT K H p xs) ∧ flatV x = true ∧ xs.all flatV = true ∧ Q (.bl (if neg then !inV x xs else inV x xs)) H
theorem op_in_seq : OpR X (compareOp .In) (rIn X.K false) := by
  intro pins s σ H x y v u Q I rx ry h
  obtain ⟨p, xs, rfl, hq, fx, fs, q⟩ := h
  cases ry
  rcases hq with hq | hq
  · obtain ⟨its, r, pl, hz⟩ := I.list hq
    refine SeqAt.in_listAt (eqU x) pl.isList (fun w hw => mem_eqAt rx fx r fs w (by simpa using hw)) ⟨.bl _, H, I, rfl, ?_⟩
    rw [show its.toArray.any (eqU x) = its.any (eqU x) by simp, any_eqU r fs]
    exact q
  · obtain ⟨its, r, pl, hz⟩ := I.tuple hq
    refine SeqAt.in_tupleAt (eqU x) pl (fun w hw => mem_eqAt rx fx r fs w (by simpa using hw)) ⟨.bl _, H, I, rfl, ?_⟩
    rw [show its.toArray.any (eqU x) = its.any (eqU x) by simp, any_eqU r fs]
    exact q
theorem call_len_seq : CallR X (.builtin "len") (fun xs H Q => ∃ p ys, xs = [.ref p] ∧ (SqL X.K H p ys ∨ SqT X.K H p ys) ∧ Q (.int ys.length) H) := by
  intro pins s σ H xs us Q I r h
  obtain ⟨p, ys, rfl, hq, q⟩ := h
  obtain ⟨u, rfl, rx⟩ := vals1 r
  cases rx
  have hn := line63
  rcases hq with hq | hq
  · obtain ⟨its, r', pl, hz⟩ := I.list hq
    have hlen := r'.length
    exact Calls.call_len_list pl.isList (by simp only [List.size_toArray] <;> omega) ⟨.int ys.length, H, I.tok _, ⟨s.toks + 1, by rw [List.size_toArray, hlen]⟩, q⟩
  · obtain ⟨its, r', pl, hz⟩ := I.tuple hq
    have hlen := r'.length
    exact len_tuple pl (by simp only [List.size_toArray] <;> omega) ⟨.int ys.length, H, I.tok _, ⟨s.toks + 1, by rw [List.size_toArray, hlen]⟩, q⟩
theorem call_len_str : CallR X (.builtin "len") (fun xs H Q => ∃ z, xs = [.str z] ∧ z.length ≤ sizeLine ∧ Q (.int z.length) H) := by
  intro pins s σ H xs us Q I r h
  obtain ⟨z, rfl, hz, q⟩ := h
  obtain ⟨u, rfl, t, rfl⟩ := vals1 r
  have hn := line63
  exact len_str (by omega) ⟨.int z.length, H, I.tok _, ⟨_, rfl⟩, q⟩
theorem CallR.or {f : Value} {r r' : List V → Hp → VK → Prop} (h : CallR X f r) (h' : CallR X f r') : CallR X f (fun xs H Q => r xs H Q ∨ r' xs H Q) := by
  intro pins s σ H xs us Q I rs q
  rcases q with q | q
  · exact h pins s σ H xs us Q I rs q
  · exact h' pins s σ H xs us Q I rs q
theorem call_list_of : CallR X (.type "list") (fun xs H Q => ∃ p ys, xs = [.ref p] ∧ (SqL X.K H p ys ∨ SqT X.K H p ys) ∧ ∀ l, H l = none → Q (.ref l) (upd H l (.lst ys))) := by
  intro pins s σ H xs us Q I r h
  obtain ⟨p, ys, rfl, hq, q⟩ := h
  obtain ⟨u, rfl, rx⟩ := vals1 r
  cases rx
  have fin : ∀ (its : List Value), Vals ys its → ys.length ≤ sizeLine → ∀ (h' : Heap) (c' : Nat), (∀ b o', s.heap.get? b = some o' → h'.get? b = some o') →
      h'.get? s.heap.objs.size = some { cls := .type "list", dict := none, data := .seq its.toArray c', slots := #[] } → EP X pins σ Q (.ref s.heap.objs.size) { s with heap := h' } := fun its r' hz h' c' kp e =>
    ⟨.ref s.heap.objs.size, _, I.laid (t' := s.toks) kp (Nat.le_refl _) (show ObjOk X.prog X.w _ h' _ (.lst ys) from ⟨hz, its, c', r', e⟩), rfl, q _ (I.hok.fresh (Nat.le_refl _))⟩
  rcases hq with hq | hq
  · obtain ⟨its, r', pl, hz⟩ := I.list hq
    have hlen := r'.length
    obtain ⟨o, ho, hc, n, hd⟩ := pl.isList
    exact call_list_seq p (.inl rfl) ho hc hd (fun h' c' kp e => fin its r' hz h' c' kp e) (by simp only [List.size_toArray] <;> omega)
  · obtain ⟨its, r', pl, hz⟩ := I.tuple hq
    have hlen := r'.length
    obtain ⟨o, ho, hc, n, hd⟩ := pl
    exact call_list_seq p (.inr rfl) ho hc hd (fun h' c' kp e => fin its r' hz h' c' kp e) (by simp only [List.size_toArray] <;> omega)
def tyV (K : PySem.W.Frag) (T : String) (x : V) (H : Hp) : Prop := match x with
  | .str _ => T = "str"
  | .int _ => T = "int"
  | .ref p => (T = "list" ∧ ∃ xs, SqL K H p xs) ∨ (T = "tuple" ∧ ∃ o, K.lookup p = some o ∧ o.cls = .type "tuple" ∧ o.dict = none) ∨
      (T = "dict" ∧ ((∃ kvs, H p = some (.dK kvs)) ∨ ∃ kvs, H p = some (.dT kvs))) ∨ (T = "set" ∧ ∃ S n, H p = some (.set S n))
  | _ => False
theorem tyV_is {pins : List (Addr × Obj)} {σ : St} {H : Hp} {s : Shared} {T : String} {x : V} {v : Value} (I : Inv X pins σ H s) (r : RelV x v) (ty : tyV X.K T x H) :
    s.TypeIs v T ∧ ∀ a, v = .ref a → ∃ ob, s.heap.get? a = some ob ∧ ob.dict = none := by
  cases x with
  | str z =>
    obtain ⟨t, rfl⟩ := r
    cases (show T = "str" from ty)
    exact ⟨typeIs_str s z t, fun _ e => nomatch e⟩
  | int i =>
    obtain ⟨t, rfl⟩ := r
    cases (show T = "int" from ty)
    exact ⟨typeIs_int s i t, fun _ e => nomatch e⟩
  | ref p =>
    cases r
    rcases ty with ⟨rfl, xs, hq⟩ | ⟨rfl, o, hk, hc, hd⟩ | ⟨rfl, hk⟩ | ⟨rfl, S, n, hk⟩
    · obtain ⟨its, _, pl, _⟩ := I.list hq
      refine ⟨pl.isList.typeIs, fun a e => ?_⟩
      cases e
      obtain ⟨o, n, e, c, hd, _⟩ := pl
      exact ⟨o, e, hd⟩
    · refine ⟨⟨o, I.kIn p o hk, hc⟩, fun a e => ?_⟩
      cases e
      exact ⟨o, I.kIn _ o hk, hd⟩
    · have z : ∃ o, s.heap.get? p = some o ∧ o.ExactDict := by
        rcases hk with ⟨kvs, hk⟩ | ⟨kvs, hk⟩
        · obtain ⟨_, _, _, _, o, _, _, e, ex, _⟩ := I.hok p _ hk
          exact ⟨o, e, ex⟩
        · obtain ⟨_, _, _, _, o, _, _, e, ex, _⟩ := I.hok p _ hk
          exact ⟨o, e, ex⟩
      obtain ⟨o, e, ex⟩ := z
      refine ⟨⟨o, e, ex.1⟩, fun a e2 => ?_⟩
      cases e2
      exact ⟨o, e, ex.2.1⟩
    · obtain ⟨o, _, _, _, e, ex, _⟩ := I.hok p _ hk
      refine ⟨⟨o, e, ex.1⟩, fun a e2 => ?_⟩
      cases e2
      exact ⟨o, e, ex.2.1⟩
  | _ => exact False.elim ty
variable {o e : Expr} {es : List Expr} {to : TE} {t : TA} {name : Str} {apos cpos : Pos} {T id : String} {r : V → List V → Hp → VK → Prop}
/- xs.append(e), list.index on a module's tuple .. are MtR facts of 06m -/
end
end L2

namespace L2
open PySem PySem.Spec PyProof.Rows

def MtM (X : Cx) (id : String) (r : V → List V → Hp → VK → Prop) : Prop :=
  ∀ (pins : List (Addr × Obj)) (s : Shared) (σ : St) (H : Hp) (x : V) (xs : List V) (v : Value) (us : List Value) (Q : VK), Inv X pins σ H s → RelV x v → Vals xs us → r x xs H Q →
    wpAny (model X.prog X.w) X.A (call (.builtin id) (v :: us)) (EP X pins σ Q) X.xe s

theorem Vals.one : ∀ {x : V} {us : List Value}, Vals [x] us → ∃ u, us = [u] ∧ RelV x u
  | _, _, .cons r .nil => ⟨_, rfl, r⟩
theorem Vals.zero : ∀ {us : List Value}, Vals [] us → us = []
  | _, .nil => rfl
theorem Vals.dropLast {xs : List V} {us : List Value} (h : Vals xs us) : Vals xs.dropLast us.dropLast := by
  induction h with
  | nil => exact .nil
  | cons r t ih =>
    cases t with
    | nil => exact .nil
    | cons q t' => exact .cons r ih
theorem Vals.eraseIdx : ∀ {xs : List V} {us : List Value} (i : Nat), Vals xs us → Vals (xs.eraseIdx i) (us.eraseIdx i)
  | _, _, _, .nil => .nil
  | _, _, 0, .cons _ t => t
  | _, _, i + 1, .cons r t => .cons r (Vals.eraseIdx i t)
theorem Vals.reverse {xs : List V} {us : List Value} (h : Vals xs us) : Vals xs.reverse us.reverse := by
  induction h with
  | nil => exact .nil
  | cons r t ih => rw [List.reverse_cons, List.reverse_cons]; exact Vals.append ih (.cons r .nil)
theorem Vals.rep {xs : List V} {us : List Value} (h : Vals xs us) : ∀ k : Nat, Vals (List.replicate k xs).flatten (List.replicate k us).flatten
  | 0 => .nil
  | k + 1 => by
    rw [List.replicate_succ, List.replicate_succ, List.flatten_cons, List.flatten_cons]
    exact Vals.append h (Vals.rep h k)
theorem erase_last {α : Type} (l : List α) : l.eraseIdx (l.length - 1) = l.dropLast := by
  induction l with
  | nil => rfl
  | cons a r ih =>
    cases r with
    | nil => rfl
    | cons b r =>
      have e : (a :: b :: r).length - 1 = ((b :: r).length - 1) + 1 := by
        have h1 : (a :: b :: r).length = r.length + 2 := rfl
        have h2 : (b :: r).length = r.length + 1 := rfl
        omega
      rw [e, List.eraseIdx_cons_succ, ih]
      all_goals rfl
theorem foldl_rep (its : List Value) : ∀ (k : Nat) (acc : List Value),
    List.foldl (fun x1 x2 => x1 ++ x2) acc.toArray (List.replicate k its.toArray) = (acc ++ (List.replicate k its).flatten).toArray
  | 0, acc => by simp
  | k + 1, acc => by
    have e : acc.toArray ++ its.toArray = (acc ++ its).toArray := by simp
    have e2 : (acc ++ its) ++ (List.replicate k its).flatten = acc ++ (List.replicate (k + 1) its).flatten := by
      rw [List.replicate_succ, List.flatten_cons, List.append_assoc]
    rw [← e2, ← foldl_rep its k (acc ++ its), ← e, List.replicate_succ, List.foldl_cons]

section
variable {X : Cx} {pins : List (Addr × Obj)} {σ : St} {H : Hp} {s : Shared} {l b : Addr} {xs ys zs : List V}

theorem Inv.lset {its its' : List Value} {n : Nat} {f : Array Value → Array Value} {t' : Nat} (I : Inv X pins σ H s) (hH : H l = some (.lst xs))
    (e : s.heap.get? l = some { cls := .type "list", data := .seq its.toArray n }) (hf : f its.toArray = its'.toArray) (hv : Vals ys its') (hz : ys.length ≤ sizeLine) :
    Inv X pins σ (upd H l (.lst ys)) { s with heap := s.heap.update l (Obj.mapSeq f), toks := t' } := by
  have q := PySem.IsL.update e f
  rw [hf] at q
  refine I.write (x := l) (e := l) (by rw [hH]; exact trivial) (.inl rfl) (fun b' u hb hu => (Heap.get?_update_other s.heap (Obj.mapSeq f) (Ne.symm hb)).trans hu) ⟨_, q⟩ ?_
  exact ⟨hz, its', _, hv, q⟩
theorem Inv.lnew {its : List Value} {t' : Nat} (I : Inv X pins σ H s) (hv : Vals ys its) (hz : ys.length ≤ sizeLine) :
    Inv X pins σ (upd H s.heap.objs.size (.lst ys)) { s with heap := s.heap.push { cls := .type "list", data := .seq its.toArray }, toks := t' } :=
  I.laid (fun _ _ q => Heap.get?_push_of_some _ q) (Nat.le_refl _) ⟨hz, its, 0, hv, Heap.get?_push_size _ rfl⟩
theorem Inv.fresh (I : Inv X pins σ H s) : H s.heap.objs.size = none := I.hok.fresh (Nat.le_refl _)
theorem Inv.lstM (I : Inv X pins σ H s) (hH : H l = some (.lst xs)) : xs.length ≤ sizeLine ∧ ∃ (its : List Value) (n : Nat), Vals xs its ∧ xs.length = its.length ∧ s.heap.get? l = some { cls := .type "list", data := .seq its.toArray n } := by
  obtain ⟨z, its, n, r, e⟩ := I.hok l _ hH
  exact ⟨z, its, n, r, r.length, e⟩

theorem notLongL {n : Nat} (h : n ≤ sizeLine) : Builtin.List.listTooLong n = false := by
  unfold Builtin.List.listTooLong
  exact decide_eq_false (by omega)
end

section
variable {X : Cx}

def rAppend : V → List V → Hp → VK → Prop := fun x vs H Q => ∃ l xs y, x = .ref l ∧ vs = [y] ∧ H l = some (.lst xs) ∧ xs.length < sizeLine ∧ Q .non (upd H l (.lst (xs ++ [y])))
theorem mt_append : MtM X "list.append" rAppend := by
  intro pins s σ H x vs v us Q I rx rv h
  obtain ⟨l, xs, y, rfl, rfl, hH, hz, q⟩ := h
  cases rx
  obtain ⟨u, rfl, ru⟩ := rv.one
  obtain ⟨z, its, n, r, hl, e⟩ := I.lstM hH
  refine call_meets F.slot_list_append ⟨_, e, rfl⟩ F.entry_list_append (F.args_list_append_2 _ _) (PySem.list_append l its.toArray n u (by rw [List.size_toArray]; omega)) ⟨e, ?_⟩
  refine ⟨.non, _, I.lset (its' := its ++ [u]) hH e (by simp) (r.append (.cons ru .nil)) ?_, rfl, q⟩
  rw [List.length_append, List.length_singleton]
  omega

def rPop : V → List V → Hp → VK → Prop := fun x vs H Q => ∃ l xs y, x = .ref l ∧ vs = [] ∧ H l = some (.lst xs) ∧ xs[xs.length - 1]? = some y ∧ Q y (upd H l (.lst xs.dropLast))
theorem mt_pop : MtM X "list.pop" rPop := by
  intro pins s σ H x vs v us Q I rx rv h
  obtain ⟨l, xs, y, rfl, rfl, hH, hy, q⟩ := h
  cases rx
  have hus := rv.zero
  subst hus
  obtain ⟨z, its, n, r, hl, e⟩ := I.lstM hH
  obtain ⟨u, hu, ru⟩ := r.get hy
  have hy' : its.toArray[its.toArray.size - 1]? = some u := by
    show its.toArray[its.length - 1]? = some u
    rw [← Array.getElem?_toList, ← hl]
    exact hu
  refine call_meets F.slot_list_pop ⟨_, e, rfl⟩ F.entry_list_pop (F.args_list_pop_1 _) (MeetsSeq.list_pop_last l its.toArray n u hy' (by rw [List.size_toArray]; omega)) ⟨e, ?_⟩
  refine ⟨y, _, I.lset (its' := its.dropLast) hH e ?_ r.dropLast ?_, ru, q⟩
  · show its.toArray.eraseIdxIfInBounds (its.toArray.size - 1) = its.dropLast.toArray
    rw [List.size_toArray, List.eraseIdxIfInBounds_toArray, erase_last]
  · rw [List.length_dropLast]
    omega

def rCat : R2 := fun x y H Q => ∃ l b xs zs, x = .ref l ∧ y = .ref b ∧ H l = some (.lst xs) ∧ H b = some (.lst zs) ∧ xs.length + zs.length ≤ sizeLine ∧ ∀ p, H p = none → Q (.ref p) (upd H p (.lst (xs ++ zs)))
theorem op_cat : OpR X (binaryOp .Add) rCat := by
  intro pins s σ H x y v u Q I rx ry h
  obtain ⟨l, b, xs, zs, rfl, rfl, hH, hB, hz, q⟩ := h
  cases rx
  cases ry
  obtain ⟨z, its, n, r, hl, e⟩ := I.lstM hH
  obtain ⟨z2, its2, n2, r2, hl2, e2⟩ := I.lstM hB
  refine PySem.P.add_list e e2 ?_ (by rw [List.size_toArray, List.size_toArray]; omega)
  have ea : its.toArray ++ its2.toArray = (its ++ its2).toArray := by simp
  rw [ea]
  exact ⟨.ref _, _, I.lnew (t' := s.toks) (r.append r2) (by rw [List.length_append]; omega), rfl, q _ I.fresh⟩
def rRep : R2 := fun x y H Q => ∃ l k xs, x = .ref l ∧ y = .int k ∧ H l = some (.lst xs) ∧ -(2 ^ 63) ≤ k ∧ k < 2 ^ 63 ∧ xs.length * k.toNat ≤ sizeLine ∧
  ∀ p, H p = none → Q (.ref p) (upd H p (.lst (List.replicate k.toNat xs).flatten))
theorem len_rep {α : Type} (xs : List α) (k : Nat) : (List.replicate k xs).flatten.length = k * xs.length := by
  induction k with
  | zero => simp
  | succ k ih => rw [List.replicate_succ, List.flatten_cons, List.length_append, ih, Nat.succ_mul, Nat.add_comm]
theorem op_rep : OpR X (binaryOp .Mult) rRep := by
  intro pins s σ H x y v u Q I rx ry h
  obtain ⟨l, k, xs, rfl, rfl, hH, h1, h2, hz, q⟩ := h
  cases rx
  obtain ⟨t, rfl⟩ := ry
  obtain ⟨z, its, n, r, hl, e⟩ := I.lstM hH
  have hlen : its.toArray.size * k.toNat ≤ sizeLine := by rw [List.size_toArray, ← hl]; exact hz
  have hcap : ¬ its.toArray.size * k.toNat > (2 ^ 63 - 1) / 8 := by
    have : (sizeLine : Nat) ≤ (2 ^ 63 - 1) / 8 := by decide
    omega
  have hfit : ¬ (!Builtin.List.listFitsIndex k) = true := by
    rw [fitsIndex_both h1 h2]
    exact Bool.false_ne_true
  have hlong : ¬ Builtin.List.listTooLong (its.toArray.size * k.toNat) = true := by
    rw [notLongL hlen]
    exact Bool.false_ne_true
  have hnew : List.foldl (fun x1 x2 => x1 ++ x2) #[] (List.replicate (if its.toArray.isEmpty = true then 0 else k.toNat) its.toArray) = (List.replicate k.toNat its).flatten.toArray := by
    have f0 : ∀ m : Nat, List.foldl (fun x1 x2 => x1 ++ x2) #[] (List.replicate m its.toArray) = (List.replicate m its).flatten.toArray := fun m => by
      have := foldl_rep its m []
      rw [List.nil_append] at this
      exact this
    rw [f0]
    cases its with
    | nil => simp
    | cons a r' => rw [if_neg (by simp)]
  refine wpAny_binaryOp_repeat_ref (T := "list") (U := "int") (by decide) ⟨_, e, rfl⟩ (fun s' => typeIs_int s' k t) noFill_list_mul F.fills_int_mul F.slot_int_rmul repeat_list F.slot_int_index.lookup
    (call_meets F.slot_int_rmul (typeIs_int s k t) F.entry_int_rmul (F.args_int_rmul_2 _ _) (int___rmul___int_list k t l its.toArray n)
      ⟨e, rfl, ⟨_, e, rfl⟩, call_meets F.slot_list_mul ⟨_, e, rfl⟩ F.entry_list_mul (F.args_list_mul_2 _ _) (AutoListH.list___mul___list_int_3 l its.toArray n k t hfit hcap hlong) ⟨e, ?_⟩⟩)
  rw [hnew]
  exact ⟨.ref _, _, I.lnew (t' := s.toks) (r.rep k.toNat) (by rw [len_rep, Nat.mul_comm]; exact hz), rfl, q _ I.fresh⟩

end

section
variable {prog : Program} {w : World} {A : Around} {E : Value → Shared → Prop} {s : Shared}
set_option maxRecDepth 100000 in
end

section
variable {X : Cx}
end
end L2

namespace Att
open PySem PySem.W PySem.Calls PyProof.Rows

theorem ints_of_wellAll {P : Params} {h : Heap} : ∀ (ns : List Int) (vs : List Value), WellAll P h vs (ns.map WData.int) → IntsAre vs ns := by
  intro ns
  induction ns with
  | nil =>
    intro vs w
    rw [List.map_nil] at w
    cases w
    exact .nil
  | cons n ns ih =>
    intro vs w
    rw [List.map_cons] at w
    cases w with
    | cons a b =>
      cases a
      exact .cons _ _ (ih _ b)

theorem script_of {l : OpenLaw} {n : Nat} (hn : l.most = some n) {P : Params} {h : Heap} {args : List WData} {vals : List Value}
    (hpre : l.row.toRowW.claim.pre args = true) (hwl : WellAll P h vals args) :
    ∃ a vs ns, vals = [Value.ref a] ∧ args = [WData.list (ns.map WData.int)] ∧ h.get? a = some { cls := .type "list", data := .seq vs.toArray } ∧ IntsAre vs ns ∧ ns.length ≤ n := by
  have hsh : WShape.hasAll [] args [.list .int] = true := (pre_splitW hpre).1
  have hc : l.pre.holds [] { args := args } = true := (pre_splitW hpre).2
  obtain ⟨d, r, rfl, h1, h2⟩ := hasAllW_cons hsh
  obtain rfl := hasAllW_nil h2
  obtain ⟨xs, rfl, h3⟩ := hasW_list h1
  obtain ⟨ns, rfl⟩ := items_int h3
  have hlen : ns.length ≤ n := by
    unfold OpenLaw.pre at hc
    have h4 : (WTm.not (.lt (.lit (.int (n : Int))) (.len (.arg 0)))).holds [] { args := [.list (ns.map .int)] } = true := by
      have h4 := (holds_andW hc).1
      rw [hn] at h4
      exact h4
    have h5 := condW_of h4 (w_not (w_lt w_lit (w_len_list (w_arg rfl))))
    rw [List.length_map] at h5
    refine Nat.le_of_not_lt fun q => ?_
    have q' : (n : Int) < ((ns.length : Nat) : Int) := by omega
    first
      | (rw [decide_eq_true q'] at h5; exact absurd h5 (by decide))
      | (simp at h5; omega)
  cases hwl with
  | cons w1 w2 =>
    cases w2
    cases w1 with
    | list ho hall => exact ⟨_, _, ns, rfl, rfl, ho, ints_of_wellAll ns _ hall, hlen⟩

theorem post_true (l : OpenLaw) (args : List WData) : l.row.toRowW.claim.post args (.bool true) args = true :=
  postW_of (r := l.row.toRowW) (X := (true == true))
    (show WShape.has [] (.bool true) .bool = true by first | rfl | decide | simp [WShape.has, WShape.arms, WShape.armsAll])
    (show (WTm.eq .res (.lit (.bool true))).value [] { args := args, res := some (.bool true), after := args } = some (.bool (true == true)) from w_eq_bool (w_res rfl) w_lit) rfl

theorem attach_call {l : OpenLaw} {n : Nat} {q : Program} {loose : List Str} {XP : (Str → Option Value) → Heap → Prop} {YP : World → Heap → Prop} {d : DefRec}
    (hn : l.most = some n) (hdf : d.params.defaults = [])
    (call : ∀ (w : World) (s₀ s₁ : Shared) (mg mb : Str → Option Value) (fa : Addr) (o : Obj) (pm cd doc : Value) (a : Addr) (vs : List Value) (ns : List Int),
      Ground q loose [] XP w s₀ mg mb s₁.heap → YP w s₁.heap →
      s₁.heap.get? fa = some o → o.data = .func (docDef d.name d.params d.body d.scope pm cd doc) → s₁.heap.CodeRec cd d.name → mg d.name = some (.ref fa) →
      s₁.heap.get? a = some { cls := .type "list", data := .seq vs.toArray } → IntsAre vs ns → ns.length ≤ n → s₁.gens = #[] →
      codeAny (model l.prog w) callerA (.call (.ref fa) ⟨[.ref a], []⟩) (fun r s' => r = .ok (.ret (.bool true)) ∧ OldK s₁.heap s'.heap ∧ s'.os = s₁.os ∧ AllBare s'.gens) s₁) :
    WalkO q loose XP YP l.row.toRowW d [] (fun f vs => PySem.call f vs) := by
  intro w s₀ s₁ mg mb G Y fa o pm cd doc dV kV ho hd hcd hD hmg hg args vals as hpre hlay hrd hwl hlo
  obtain rfl : dV = .none := Dflts.none hD hdf
  obtain rfl : kV = .none := Dflts.noKw hD
  obtain ⟨a, vs, ns, rfl, rfl, hobj, hints, hlen⟩ := script_of hn hpre hwl
  refine enter_call (codeAny_mono (call w s₀ s₁ mg mb fa o pm cd doc a vs ns G Y ho (fd_plain hd) hcd hmg hobj hints hlen hg) fun r s' hq => ?_)
  obtain ⟨rfl, h2, h3, h4⟩ := hq
  exact ⟨.inl ⟨.bool true, .bool true, [], rfl, fun _ => rfl, .bool true, post_true l _, fun _ => ⟨List.Pairwise.nil, fun _ hm => (nomatch hm)⟩⟩, h2, h3, h4⟩

section
variable {prog : Program} {w : World} {A : Around} {E : Value → Shared → Prop} {s : Shared} {K : Frag}

end
end Att

namespace L2
open PySem PySem.Spec PyProof.Rows

theorem vals_ints : ∀ {vs : List Value} {ns : List Int}, IntsAre vs ns → Vals (ns.map V.int) vs
  | _, _, .nil => .nil
  | _, _, .cons n t h => .cons ⟨t, rfl⟩ (vals_ints h)

def Only (H : Hp) : Prop := ∀ b, H b = none ∨ ∃ o xs, H b = some (.frz o (.lst xs))

theorem law_call {P : Program} {w : World} {K : PySem.W.Frag} {mg mb : Str → Option Value} {CX : CXT} {k : Nat} {fa a : Addr} {fd : FuncData} {x : Str} {sp : Sp} {s₁ : Shared} {vs : List Value} {ns : List Int}
    (KX : K.In s₁.heap) (hns : s₁.heap.Ns mainGlobals mg) (hb : s₁.heap.Ns builtinsNs mb) (hbb : ∀ x : Str, x ≠ "__name__" → mb x = bootBuiltins x) (hlim : s₁.heap.NoLimit) (hg : s₁.gens = #[])
    (ha : s₁.heap.get? a = some { cls := .type "list", data := .seq vs.toArray }) (hi : IntsAre vs ns) (hl : ns.length ≤ sizeLine) (hr : Room k callerA)
    (F : ∀ base : Heap, K.In base → base.Ns mainGlobals mg → FnOk P w K mg base CX k fa fd [x] sp) (hbind : ∀ (s : Shared) (u : Value), BindsTo s fd ⟨[u], []⟩ [(x, u)])
    (hsp : ∀ H : Hp, Only H → SqL K H a (ns.map V.int) → sp [.ref a] H (fun v _ => v = .bl true) fun _ _ _ => False)
    (hCX : ∀ H e s', CX [] H s₁ (fun _ _ _ => False) e s' → False) :
    codeAny (model P w) callerA (.call (.ref fa) ⟨[.ref a], []⟩) (fun r s' => r = .ok (.ret (.bool true)) ∧ OldK s₁.heap s'.heap ∧ s'.os = s₁.os ∧ AllBare s'.gens) s₁ := by
  have rv := vals_ints hi
  have lenV := hi.length
  -- from an abstract heap in which nothing but the script may be tracked
  have core : ∀ H : Hp, Only H → SqL K H a (ns.map V.int) → HOk P w H s₁.heap → (∀ b, H b ≠ none → b = a) → (H a ≠ none → K.lookup a = none) →
      codeAny (model P w) callerA (.call (.ref fa) ⟨[.ref a], []⟩) (fun r s' => r = .ok (.ret (.bool true)) ∧ OldK s₁.heap s'.heap ∧ s'.os = s₁.os ∧ AllBare s'.gens) s₁ := by
    intro H hO hS hok hA hK
    have base_of : ∀ {b : Addr} {o : Obj}, s₁.heap.get? b = some o → H b = none → (hidT s₁.heap H).get? b = some o := fun e n => hidT_get e n
    have noA : ∀ {b : Addr} {o : Obj} {es : Array DictEntry} {ep : Nat}, s₁.heap.get? b = some o → o.data = .dict es ep → H b = none := fun {b o es ep} e d => by
      cases q : H b with
      | none => rfl
      | some u =>
        have e' : b = a := hA b (by rw [q]; simp)
        subst e'
        rw [ha] at e; cases e
        have d' : Data.seq vs.toArray _ = Data.dict es ep := d
        cases d'
    have nsK : ∀ {b : Addr} {m : Str → Option Value}, s₁.heap.Ns b m → (hidT s₁.heap H).Ns b m := fun {b m} ⟨o, es, ep, e, d, r⟩ => ⟨o, es, ep, base_of e (noA e d), d, r⟩
    have hKb : K.In (hidT s₁.heap H) := fun b o e => base_of (KX b o e) (by
      cases q : H b with
      | none => rfl
      | some u =>
        have e' : b = a := hA b (by rw [q]; simp)
        subst e'
        rw [hK (by rw [q]; simp)] at e; cases e)
    have hM : Mod K mg (hidT s₁.heap H) := ⟨hKb, nsK hns, ⟨mb, nsK hb, hbb⟩, let ⟨mc, h1, h2⟩ := hlim; ⟨mc, nsK h1, h2⟩⟩
    have e0 : Env0 P w K mg (hidT s₁.heap H) callerA [] s₁ H := ⟨rfl, hM, fun b o e => of_hidT e, Nat.le_of_eq (hidT_size _ _), trivial, fun b hb => absurd (show b ∈ ([] : List Addr) from hb) (by simp), hok, .of_eq hg⟩
    refine codeAny_mono ((F _ hKb (nsK hns)).run callerA [] s₁ H ⟨[.ref a], []⟩ [.ref a] [.ref a] _ _ hr e0 (hbind s₁ (.ref a)) (.cons rfl .nil) (hsp H hO hS)) fun r s' h => ?_
    cases r with
    | error e => exact (hCX H e s' h).elim
    | ok fl =>
      cases fl with
      | next => exact False.elim h
      | brk => exact False.elim h
      | cont => exact False.elim h
      | ret u =>
        obtain ⟨v, H', os, bare, un, hok', r', q⟩ := h
        have q' : v = .bl true := q
        subst q'
        obtain rfl : u = Value.bool true := r'
        refine ⟨rfl, OldK.of_keep fun b o e => ?_, os, bare⟩
        cases q : H b with
        | none => exact un.keep b o e q (by intro z; exact absurd (show b ∈ ([] : List Addr) from z) (by simp)) (by simp)
        | some u =>
          rcases hO b with z | ⟨ob, xs, z⟩
          · rw [q] at z; cases z
          · have z2 := un.frzs b ob _ z
            obtain ⟨e1, _⟩ := hok b _ z
            obtain ⟨e2, _⟩ := hok' b _ z2
            rw [e] at e1; cases e1
            exact e2
  cases hk : K.lookup a with
  | some o =>
    -- the script is one of the module's own objects
    have e := KX a o hk
    rw [ha] at e
    cases e
    refine core (fun _ => none) (fun _ => .inl rfl) (.inr ⟨_, vs.toArray, _, hk, rfl, rfl, rfl, by rw [List.size_toArray, lenV]; exact hl, by simpa using rv⟩) (fun b u z => by have z' : (none : Option HO) = some u := z; cases z') (fun b z => absurd rfl z) fun z => absurd rfl z
  | none =>
    refine core (fun b => if b = a then some (.frz { cls := .type "list", data := .seq vs.toArray } (.lst (ns.map V.int))) else none) (fun b => ?_) (.inl (.inr ⟨{ cls := .type "list", data := .seq vs.toArray }, if_pos rfl⟩)) (fun b u z => ?_) (fun b z => ?_) fun _ => hk
    · by_cases hb : b = a
      · exact .inr ⟨_, _, if_pos hb⟩
      · exact .inl (if_neg hb)
    · by_cases hb : b = a
      · have z' := (if_pos hb).symm.trans z
        cases z'
        subst hb
        exact ⟨ha, by rw [List.length_map]; exact hl, vs, _, rv, ha⟩
      · have z' := (if_neg hb).symm.trans z
        cases z'
    · by_cases hb : b = a
      · exact hb
      · exact absurd (if_neg hb) z
end L2

namespace L2
open PySem PySem.Spec PyProof.Rows

abbrev KOf {K : PySem.W.Frag} {h : Heap} (_ : K.In h) : PySem.W.Frag := K

theorem walk_of {l : PySem.W.OpenLaw} {n k : Nat} {q : Program} {loose : List Str} {XP : (Str → Option Value) → Heap → Prop} {YP : World → Heap → Prop} {d : DefRec} {K : Params → PySem.W.Frag} {CX : World → CXT} {sp : World → Sp} {x : Str}
    (hn : l.most = some n) (hn2 : n ≤ sizeLine) (hdf : d.params.defaults = []) (hr : Room k callerA)
    (hY : ∀ (w : World) (h : Heap), YP w h → (K w.params).In h)
    (F : ∀ (w : World) (mg : Str → Option Value) (fa : Addr) (h : Heap), (K w.params).In h → h.Ns mainGlobals mg → mg d.name = some (.ref fa) →
      ∃ fd : FuncData, (∀ (s : Shared) (u : Value), BindsTo s fd ⟨[u], []⟩ [(x, u)]) ∧
        ∀ base : Heap, (K w.params).In base → base.Ns mainGlobals mg → FnOk l.prog w (K w.params) mg base (CX w) k fa fd [x] (sp w))
    (hsp : ∀ (w : World) (H : Hp) (a : Addr) (ns : List Int), ns.length ≤ n → Only H → SqL (K w.params) H a (ns.map V.int) → sp w [.ref a] H (fun v _ => v = .bl true) fun _ _ _ => False)
    (hCX : ∀ (w : World) (H : Hp) (s : Shared) (e : Value) (s' : Shared), CX w [] H s (fun _ _ _ => False) e s' → False) :
    PySem.W.WalkO q loose XP YP l.row.toRowW d [] (fun f vs => PySem.call f vs) := by
  refine Att.attach_call hn hdf fun w s₀ s₁ mg mb fa o pm cd doc a vs ns G Y ho hd hcd hmg hobj hints hlen hg => ?_
  have KX := hY w _ Y
  obtain ⟨fd, hb, hF⟩ := F w mg fa _ KX G.T.g hmg
  exact law_call KX G.T.g G.T.b G.T.builtins G.T.nolimit hg hobj hints (Nat.le_trans hlen hn2) hr hF hb (fun H hO hS => hsp w H a ns hlen hO hS) fun H e s' => hCX w H s₁ e s'
end L2

/- THE LAST THEOREM (shape; LID, My.* are yours):
   My.Adr: a structure of the addresses that your layer names (classes, functions); My.Txt K t: a structure (Prop) of the equations over K;
   My.txt_mk : {K} {implicit addresses ..} (e1 : nsIn K mainGlobals "law" = some (some (.ref f))) (e2 : K.lookup f = some ⟨oc, od, .func (fnOf "law" "law" params body scope dV kV doc pm an cdv ct), sl⟩) (e3 : codeIn K cdv "law" = true) .. : ∃ t, My.Txt K t

set_option maxRecDepth 100000 in
set_option maxHeartbeats 0 in
theorem PySem.Challenge.cw_LID_holds : PySem.Challenge.rw_LID.Holds := by
  w_on; o_law; k_head; (case hw => w_witness2)
  k_fill
  refine L2.walk_of (l := PySem.Challenge.rw_LID) (n := 63) (k := 40) (x := "script") (CX := fun w => ..) (sp := fun _ => My.sp_law) rfl (by decide) rfl ⟨rfl, by decide, by decide⟩ (fun w h Y => PySem.W.kIn_of Y) ?F ?S ?C
  case F =>
    intro w mg fa h KX G hmg
    have T : ∃ t, My.Txt (L2.KOf KX) t := by
      dsimp only [L2.KOf]                          -- K must stand as «<heap const> w.params» for k_is
      refine' My.txt_mk ?e1 ?e2 ?e3 ..
      (case e1 => PySem.W.k_is)                    -- in the order: a name -> its address -> its object -> its parts
      (case e2 => PySem.W.k_is)
      ..
    obtain ⟨t, T⟩ := T
    have e0 := hmg.symm.trans (PySem.W.mg_of KX G T.law)
    cases e0                                       -- fa is the law's own address
    exact ⟨_, fun s u => .of_eq rfl, fun base kb nb => My.law_fn T kb nb⟩     -- if «.of_eq rfl» comes too early: refine' ⟨_, ?b, fun base kb nb => My.law_fn T kb nb⟩; exact fun s u => .of_eq rfl
  case S => exact fun w H a ns hl hO hS => ..
  case C => exact ..
(the tactic k_is has no namespace: write k_is) -/

namespace L2
open PySem PySem.Spec PyProof.Rows

def defArgs (s : Stmt) : Arguments := match s with
  | .FunctionDef _ a _ _ _ _ _ _ _ _ => a
  | _ => { posonlyargs := [], args := [], vararg := none, kwonlyargs := [], kw_defaults := [], kwarg := none, defaults := [] }
def defBody (s : Stmt) : List Stmt := match s with
  | .FunctionDef _ _ b _ _ _ _ _ _ _ => b
  | _ => []
def defScope (s : Stmt) : Scope := match s with
  | .FunctionDef _ _ _ _ _ _ sc _ _ _ => sc
  | _ => { kind := .function, names := [], isGenerator := false, isCoroutine := false }

abbrev CX0 : CXT := fun _ _ _ _ _ _ => False
abbrev E0 : XK := fun _ _ _ => False
theorem pass0 {X : Cx} : Passes CX0 X E0 := fun _ _ _ _ _ _ _ h => h.elim

structure Fun (K : PySem.W.Frag) (x qual : Str) (st : Stmt) (f : Addr) (fd : FuncData) : Prop where
  ex : ∃ (oc : Value) (od : Option Addr) (kV doc pm : Value) (an : Option Addr) (cdv ct : Value) (osl : Array (Option Value)),
    fd = PySem.W.fnOf x qual (defArgs st) (defBody st) (defScope st) .none kV doc pm an cdv ct ∧ K.lookup f = some ⟨oc, od, .func fd, osl⟩ ∧ PySem.W.codeIn K cdv qual = true
  kp : PySem.W.keepIn K (.ref f) = true
section
variable {P : Program} {w : World} {K : PySem.W.Frag} {mg : Str → Option Value} {base : Heap}
theorem Fun.ok {x qual : Str} {st : Stmt} {f : Addr} {fd : FuncData} {N ps : List Str} {k : Nat} {sp : Sp} (F : Fun K x qual st f fd) (S : FnScope N ps (defScope st)) (len : ∀ vs H Q E, sp vs H Q E → vs.length = ps.length)
    (hbody : ∀ (cdv : Value) (A : Around) (outer : List Env) (s : Shared) (H : Hp) (vs : List V) (Q : VK) (E : XK), Room k (A.deeper (envOfC qual (defScope st) s.heap.objs.size f cdv)) → sp vs H Q E →
      ∃ t, PSs (cxOf CX0 P w K mg base N qual (defScope st) f cdv A outer s H E).nox (defBody st) t ∧ t { nx := fun _ H' => Q .non H', rt := Q } (start N vs) H) : FnOk P w K mg base CX0 (k + 1) f fd ps sp := by
  obtain ⟨oc, od, kV, doc, pm, an, cdv, ct, osl, rfl, lk, hcd⟩ := F.ex
  refine fn_of lk hcd S len fun A outer s H vs Q E hr hsp => ?_
  obtain ⟨t, h, q⟩ := hbody cdv A outer s H vs Q E hr hsp
  exact ⟨t, h.nox, q⟩
theorem Fun.binds {x qual : Str} {st : Stmt} {f : Addr} {fd : FuncData} {ps : List Str} (F : Fun K x qual st f fd)
    (h : ∀ (kV doc pm : Value) (an : Option Addr) (cdv ct : Value) (us : List Value), us.length = ps.length → bindArgs (PySem.W.fnOf x qual (defArgs st) (defBody st) (defScope st) .none kV doc pm an cdv ct) ⟨us, []⟩ = pure (ps.zip us)) : Binds K fd ps [] := by
  obtain ⟨oc, od, kV, doc, pm, an, cdv, ct, osl, rfl, lk, hcd⟩ := F.ex
  exact .all (h kV doc pm an cdv ct)
theorem fun_mk {x qual : Str} {st : Stmt} {f : Addr} {oc : Value} {od an : Option Addr} {osl : Array (Option Value)} {kV doc pm cdv ct : Value} (l : K.lookup f = some ⟨oc, od, .func (PySem.W.fnOf x qual (defArgs st) (defBody st) (defScope st) .none kV doc pm an cdv ct), osl⟩)
    (c : PySem.W.codeIn K cdv qual = true) (k : PySem.W.keepIn K (.ref f) = true) : Fun K x qual st f (PySem.W.fnOf x qual (defArgs st) (defBody st) (defScope st) .none kV doc pm an cdv ct) := ⟨⟨oc, od, kV, doc, pm, an, cdv, ct, osl, rfl, l, c⟩, k⟩
end
section
variable {X : Cx}
end

theorem iteF {A B : Prop} (h : B) : if false = true then A else B := by
  rw [if_neg Bool.false_ne_true]
  exact h
theorem ite2 {c A B : Prop} [Decidable c] (h1 : c → A) (h2 : ¬ c → B) : if c then A else B := by
  by_cases h : c
  · rw [if_pos h]
    exact h1 h
  · rw [if_neg h]
    exact h2 h
def Same (H H' : Hp) : Prop := ∀ b o, H b = some o → H' b = some o
theorem Same.refl (H : Hp) : Same H H := fun _ _ h => h
theorem Same.trans {H H1 H2 : Hp} (a : Same H H1) (b : Same H1 H2) : Same H H2 := fun c o h => b c o (a c o h)
theorem Same.free {H H' : Hp} (e : Same H H') {l : Addr} (h : H' l = Option.none) : H l = Option.none := by
  cases q : H l with
  | none => rfl
  | some o =>
    rw [e l o q] at h
    cases h
theorem Same.seq {K : PySem.W.Frag} {H H' : Hp} {a : Addr} {xs : List V} (e : Same H H') (h : SqL K H a xs) : SqL K H' a xs := by
  rcases h with (h | ⟨o, h⟩) | h
  · exact .inl (.inl (e _ _ h))
  · exact .inl (.inr ⟨o, e _ _ h⟩)
  · exact .inr h

end L2

section
set_option Elab.async false
set_option maxRecDepth 100000
namespace L2
open PySem
section
variable {prog : Program} {w : World} {A : Around} {R : Result → Shared → Prop} {s : Shared}
theorem compLoop_any {elt target iter : Expr} {ifs : List Expr} {scope : Scope} {pos : Pos} {it acc : Value} {env : Env} (I : Nat → Shared → Prop)
    (turn : ∀ n s, I n s → wpAny (model prog w) A (pyNext it) (fun r s₁ => match r with
      | none => R (.ok .next) s₁
      | some v => wpAny (model prog w) A (letOwnedTupleGo target it v) (fun _ s₁' => wpAny (model prog w) A (assign target env v) (fun _ s₂ =>
          wpAny (model prog w) A (forIn ifs true fun c r => if r = true then do let ok ← isTrue c env (eval c env); pure (ForInStep.yield ok) else pure (ForInStep.yield r)) (fun ok s₃ =>
            if ok = true then wpAny (model prog w) A (eval elt env) (fun x s₄ =>
              wpAny (model prog w) A (call (.builtin "list.append") [acc, x]) (fun _ s₅ => ∃ m, m < n ∧ I m s₅) (fun _ _ => False) s₄) (fun _ _ => False) s₃
            else ∃ m, m < n ∧ I m s₃) (fun _ _ => False) s₂) (fun _ _ => False) s₁') (fun _ _ => False) s₁) (fun _ _ => False) s)
    (n : Nat) (h : I n s) :
    codeAny (model prog w) A (.compLoop (.ListComp elt [⟨target, iter, ifs, 0⟩] scope pos) 0 it acc env) R s := by
  refine codeAny_loop rfl I (fun n s hI => ?_) n h
  show wpAny _ A ((compTurn (.ListComp elt [⟨target, iter, ifs, 0⟩] scope pos) 0 it acc env).onRaise (fun x => do noteFrame x env; theTreesLotGoes x)) _ _ s
  refine wpAny_noted ?_
  rw [compTurn_list]
  refine wpAny_bind (wpAny_standAt (wpAny_bind (wpAny_mono (turn n s hI) (fun r s₁ h₁ => ?_) fun _ _ h' => h'.elim)))
  cases r with
  | none => exact wpAny_pure h₁
  | some v =>
    refine wpAny_bind (wpAny_mono h₁ (fun _ s₁' h₁' => ?_) fun _ _ h' => h'.elim)
    refine wpAny_bind (wpAny_mono h₁' (fun _ s₂ h₂ => wpAny_bind (wpAny_mono h₂ (fun ok s₃ h₃ => ?_) fun _ _ h' => h'.elim)) fun _ _ h' => h'.elim)
    cases ok with
    | false => exact wpAny_pure ⟨rfl, h₃⟩
    | true =>
      exact wpAny_bind (wpAny_bind (wpAny_mono h₃ (fun x s₄ h₄ => wpAny_bind (wpAny_mono h₄ (fun _ s₅ h₅ => wpAny_pure (wpAny_pure ⟨rfl, h₅⟩)) fun _ _ h' => h'.elim)) fun _ _ h' => h'.elim))
end
theorem closure_from {env : Env} : ∀ (names : List (Str × NameKind)) (acc : List (Str × Addr)), (∀ y ∈ names, y.2 = .free → ∃ c, env.cells.lookup y.1 = some c) → (∀ x c, acc.lookup x = some c → env.cells.lookup x = some c) →
    ∃ cl : List (Str × Addr), (forIn names acc fun (x : Str × NameKind) (r : List (Str × Addr)) => (match x with | (name, kind) => if (kind == NameKind.free) = true then do let a ← cellOf env name; pure (ForInStep.yield ((name, a) :: r)) else pure (ForInStep.yield r) : Sem (ForInStep (List (Str × Addr))))) = pure cl ∧
      (∀ x c, cl.lookup x = some c → env.cells.lookup x = some c) ∧ (∀ y ∈ names, y.2 = .free → ∃ c, cl.lookup y.1 = some c) ∧ ∀ x c, acc.lookup x = some c → ∃ c', cl.lookup x = some c'
  | [], acc, _, h => ⟨acc, rfl, h, (fun y z => by cases z), fun _ c e => ⟨c, e⟩⟩
  | (name, kind) :: r, acc, hf, h => by
    by_cases hk : kind = .free
    · subst hk
      obtain ⟨c, hc⟩ := hf (name, .free) List.mem_cons_self rfl
      have h2 : ∀ x d, ((name, c) :: acc).lookup x = some d → env.cells.lookup x = some d := fun x d e => by
        rw [List.lookup_cons] at e
        cases hx : x == name with
        | true => rw [hx] at e; cases e; rw [eq_of_beq hx]; exact hc
        | false => rw [hx] at e; exact h x d e
      obtain ⟨cl, e, h3, h4, h5⟩ := closure_from r ((name, c) :: acc) (fun y hy => hf y (List.mem_cons_of_mem _ hy)) h2
      refine ⟨cl, ?_, h3, fun y hy hyf => ?_, fun x d hx => ?_⟩
      · rw [List.forIn_cons]
        simp only [beq_self_eq_true, if_true, cellOf, hc, pure_bind]
        exact e
      · rcases List.mem_cons.mp hy with rfl | hy
        · exact h5 name c (by simp [List.lookup_cons])
        · exact h4 y hy hyf
      · cases hxn : x == name with
        | true => exact h5 x c (by rw [List.lookup_cons, hxn])
        | false => exact h5 x d (by rw [List.lookup_cons, hxn]; exact hx)
    · obtain ⟨cl, e, h3, h4, h5⟩ := closure_from r acc (fun y hy => hf y (List.mem_cons_of_mem _ hy)) h
      have hb : (kind == NameKind.free) = false := by simpa using hk
      refine ⟨cl, ?_, h3, fun y hy hyf => ?_, h5⟩
      · rw [List.forIn_cons]
        simp only [hb, Bool.false_eq_true, if_false, pure_bind]
        exact e
      · rcases List.mem_cons.mp hy with rfl | hy
        · exact absurd hyf hk
        · exact h4 y hy hyf
theorem closure_ok {env : Env} {scope : Scope} (hf : ∀ y ∈ scope.names, y.2 = .free → ∃ c, env.cells.lookup y.1 = some c) :
    ∃ cl, closureFor scope env = pure cl ∧ (∀ x c, cl.lookup x = some c → env.cells.lookup x = some c) ∧ ∀ y ∈ scope.names, y.2 = .free → ∃ c, cl.lookup y.1 = some c := by
  obtain ⟨cl, e, h1, h2, _⟩ := closure_from (env := env) scope.names [] hf (fun x c e => by simp at e)
  refine ⟨cl, ?_, h1, h2⟩
  unfold closureFor
  exact (congrArg (· >>= pure) e).trans (pure_bind _ _)
end L2
end
section
set_option Elab.async false
set_option linter.all false
set_option maxRecDepth 100000
set_option maxHeartbeats 4000000
namespace L2
open PySem PySem.Spec PyProof.Rows

abbrev Cx.block (X : Cx) (scope : Scope) (cl : List (Str × Addr)) (C : Addr) (N : List Str) (s : Shared) (H : Hp) (fp : List Addr) : Cx :=
  { X with N := N, s₀ := s, H₀ := H, env := compEnvC scope cl C X.env, outer := X.stack, ex := fp, fn := fun _ => false, pn := [], xe := fun _ _ => False }
def compOk (osc : Scope) (oN : List Str) (sc : Scope) (N : List Str) (js : List Nat) : Bool :=
  sc.names.all (fun y => y.2 != .cell) && (sc.names.all (fun y => y.2 != .local || sc.names.lookup y.1 == some .local) && (decide (js.length ≤ N.length) &&
    (sc.names.all (fun y => y.2 != .free || (osc.names.lookup y.1 == some .cell || osc.names.lookup y.1 == some .free)) &&
      (List.range js.length).all (fun i => match N[N.length - js.length + i]?, oN[js.getD i 0]? with | some x, some y => x == y && sc.names.lookup x == some .free | _, _ => false))))
structure CompSc (osc : Scope) (oN : List Str) (sc : Scope) (N : List Str) (js : List Nat) : Prop where
  nocell : ∀ y ∈ sc.names, y.2 ≠ .cell
  names : ∀ y ∈ sc.names, y.2 = .local → sc.names.lookup y.1 = some .local
  len : js.length ≤ N.length
  tk : ∀ y ∈ sc.names, y.2 = .free → osc.names.lookup y.1 = some .cell ∨ osc.names.lookup y.1 = some .free
  fr : ∀ (i j : Nat), js[i]? = some j → ∃ x, N[N.length - js.length + i]? = some x ∧ oN[j]? = some x ∧ sc.names.lookup x = some .free
theorem compOk_sc {osc : Scope} {oN : List Str} {sc : Scope} {N : List Str} {js : List Nat} (h : compOk osc oN sc N js = true) : CompSc osc oN sc N js := by
  unfold compOk at h
  simp only [Bool.and_eq_true] at h
  obtain ⟨h1, h2, h3, h4, h5⟩ := h
  refine ⟨fun y hy => ?_, fun y hy hl => ?_, of_decide_eq_true h3, fun y hy hf => ?_, fun i j hj => ?_⟩
  · have := List.all_eq_true.mp h1 y hy
    simpa using this
  · have := List.all_eq_true.mp h2 y hy
    rw [hl] at this
    simpa using this
  · have := List.all_eq_true.mp h4 y hy
    rw [hf] at this
    simpa using this
  · have hi : i < js.length := (List.getElem?_eq_some_iff.mp hj).1
    have := List.all_eq_true.mp h5 i (List.mem_range.mpr hi)
    have e : js.getD i 0 = j := by rw [List.getD_eq_getElem?_getD, hj]; rfl
    rw [e] at this
    split at this
    · rename_i x y e1 e2
      simp only [Bool.and_eq_true, beq_iff_eq] at this
      obtain ⟨rfl, h⟩ := this
      exact ⟨x, e1, e2, h⟩
    · cases this
def blk (n : Nat) (js : List Nat) (σ : St) : St := List.replicate n none ++ js.map fun j => (σ[j]?).join
theorem blk_get {n : Nat} {js : List Nat} {σ : St} {i : Nat} {v : V} (h : (blk n js σ)[i]? = some (some v)) : ∃ k j, i = n + k ∧ js[k]? = some j ∧ σ[j]? = some (some v) := by
  unfold blk at h
  by_cases hi : i < n
  · rw [List.getElem?_append_left (by simpa using hi), List.getElem?_replicate] at h
    split at h <;> cases h
  · rw [List.getElem?_append_right (by simpa using hi), List.length_replicate, List.getElem?_map] at h
    cases e : js[i - n]? with
    | none => rw [e] at h; cases h
    | some j =>
      rw [e] at h
      refine ⟨i - n, j, by omega, e, ?_⟩
      have h' : (σ[j]?).join = some v := by simpa using h
      cases q : σ[j]? with
      | none => rw [q] at h'; cases h'
      | some o =>
        rw [q] at h'
        have : o = some v := h'
        rw [this]

theorem relabel_lookup {env : Env} : ∀ {names : List (Str × NameKind)} {x : Str} {k : NameKind},
    (names.map fun (n, k) => if (k == NameKind.free && env.scope.kind == .function && env.kindOf n == some .cell) then (n, NameKind.cell) else (n, k)).lookup x = some k → k = .cell ∨ k = .free → (∀ y ∈ names, y.2 ≠ .cell) → (x, NameKind.free) ∈ names
  | [], _, _, h, _, _ => by simp at h
  | (n, k1) :: r, x, k, h, hk, hc => by
    have ih := @relabel_lookup env r x k
    have hc' : ∀ y ∈ r, y.2 ≠ .cell := fun y hy => hc y (List.mem_cons_of_mem _ hy)
    have h1 : k1 ≠ .cell := hc (n, k1) List.mem_cons_self
    have h : List.lookup x ((if (k1 == NameKind.free && env.scope.kind == .function && env.kindOf n == some .cell) = true then (n, NameKind.cell) else (n, k1)) :: _) = some k := h
    by_cases c : (k1 == NameKind.free && env.scope.kind == .function && env.kindOf n == some .cell) = true
    · rw [if_pos c, List.lookup_cons] at h
      cases hx : x == n with
      | true =>
        have e : k1 = .free := by simp only [Bool.and_eq_true, beq_iff_eq] at c; exact c.1.1
        rw [eq_of_beq hx, e]
        exact List.mem_cons_self
      | false => rw [hx] at h; exact List.mem_cons_of_mem _ (ih h hk hc')
    · rw [if_neg c, List.lookup_cons] at h
      cases hx : x == n with
      | true =>
        rw [hx] at h
        have e : k1 = k := Option.some.inj h
        have e2 : k1 = .free := by
          rcases hk with z | z
          · exact absurd (e.trans z) h1
          · exact e.trans z
        rw [eq_of_beq hx, e2]
        exact List.mem_cons_self
      | false => rw [hx] at h; exact List.mem_cons_of_mem _ (ih h hk hc')
theorem relabel_free {env : Env} : ∀ {names : List (Str × NameKind)} {x : Str}, names.lookup x = some .free →
    (names.map fun (n, k) => if (k == NameKind.free && env.scope.kind == .function && env.kindOf n == some .cell) then (n, NameKind.cell) else (n, k)).lookup x = some .cell ∨
    (names.map fun (n, k) => if (k == NameKind.free && env.scope.kind == .function && env.kindOf n == some .cell) then (n, NameKind.cell) else (n, k)).lookup x = some .free
  | [], _, h => by simp at h
  | (n, k1) :: r, x, h => by
    have ih := @relabel_free env r x
    show List.lookup x ((if (k1 == NameKind.free && env.scope.kind == .function && env.kindOf n == some .cell) = true then (n, NameKind.cell) else (n, k1)) :: _) = _ ∨ List.lookup x ((if (k1 == NameKind.free && env.scope.kind == .function && env.kindOf n == some .cell) = true then (n, NameKind.cell) else (n, k1)) :: _) = _
    rw [List.lookup_cons] at h
    by_cases c : (k1 == NameKind.free && env.scope.kind == .function && env.kindOf n == some .cell) = true
    · rw [if_pos c, List.lookup_cons]
      cases hx : x == n with
      | true => exact .inl rfl
      | false => rw [hx] at h; exact ih h
    · rw [if_neg c, List.lookup_cons]
      cases hx : x == n with
      | true => rw [hx] at h; exact .inr h
      | false => rw [hx] at h; exact ih h

def PF (X : Cx) (ifs : List Expr) (t : TT) : Prop :=
  ∀ (pins : List (Addr × Obj)) (s : Shared) (σ : St) (H : Hp) (Q : Bool → Hp → Prop), Inv X pins σ H s → t σ H Q →
    wpAny (model X.prog X.w) X.A (forIn ifs true fun c r => if r = true then do let ok ← isTrue c X.env (eval c X.env); pure (ForInStep.yield ok) else pure (ForInStep.yield r)) (TP X pins σ Q) X.xe s
def tYes : TT := fun _ H Q => Q true H
theorem pf_nil {X : Cx} : PF X [] tYes := fun _ _ _ H _ I h => wpAny_tests_nil ⟨H, I, h⟩
theorem pf_one {X : Cx} {c : Expr} {t : TT} (h : PT X c t) : PF X [c] t := fun pins s σ H Q I hw => wpAny_tests_one (h pins s σ H Q I hw)

def tComp (n : Nat) (js : List Nat) (wi : TI) (g : TG) (tt : TT) (te : TE) : TE := fun σ H Q => wi σ H fun J H1 => ∀ D, H1 D = none → ∃ W : Nat → Nat → St → Hp → List V → Prop,
  (∃ m, W 0 m (blk n js σ) (upd H1 D (.lst [])) []) ∧ ∀ i m τ H2 ys, W i m τ H2 ys → H2 D = some (.lst ys) ∧
    ((J.stop i H2 ∧ Q (.ref D) H2) ∨ (J.go i H2 ∧ ys.length < sizeLine ∧ ∃ N : St → Hp → List V → Prop, (∀ τ' H' ys', N τ' H' ys' → ∃ m', m' < m ∧ W (i + 1) m' τ' H' ys') ∧ ∀ x H3, J.yld i H2 x H3 → g x τ H3 fun τ4 H4 => tt τ4 H4 fun b H5 =>
      if b = true then te τ4 H5 fun y H6 => H6 D = some (.lst ys) ∧ N τ4 (upd H6 D (.lst (ys ++ [y]))) (ys ++ [y])
      else N τ4 H5 ys))

section
variable {X : Cx}
theorem block_inv {pins : List (Addr × Obj)} {σ : St} {H : Hp} {s : Shared} {h₁ : Heap} {tk : Nat} {scope : Scope} {N : List Str} {js : List Nat} {cl : List (Str × Addr)} {fp : List Addr}
    (I : Inv X pins σ H s) (hk : scope.kind = .function) (hN : N.Nodup) (S : CompSc X.env.scope X.N scope N js) (hcl : ∀ x c, cl.lookup x = some c → X.env.cells.lookup x = some c) (hcl2 : ∀ y ∈ scope.names, y.2 = .free → ∃ c, cl.lookup y.1 = some c)
    (hf : ∀ b ∈ fp, b < s.heap.objs.size ∧ b ≠ X.env.locals ∧ b ∉ X.fs ∧ (b ∈ X.ex ∨ X.s₀.heap.objs.size ≤ b) ∧ (∀ x c, X.env.cells.lookup x = some c → c ≠ b))
    (hns : h₁.Ns s.heap.objs.size fun _ => none) (old : ∀ b o, s.heap.get? b = some o → h₁.get? b = some o) :
    Inv (X.block scope cl s.heap.objs.size N s H fp) [] (blk (N.length - js.length) js σ) H { s with heap := h₁, toks := tk } := by
  have look : ∀ x, ((relabel scope X.env).names.lookup x = some .cell ∨ (relabel scope X.env).names.lookup x = some .free) → ∃ c, cl.lookup x = some c := fun x hx => by
    have hm : (x, NameKind.free) ∈ scope.names := by
      rcases hx with z | z
      · exact relabel_lookup z (.inl rfl) S.nocell
      · exact relabel_lookup z (.inr rfl) S.nocell
    exact hcl2 _ hm rfl
  refine ⟨⟨I.ok.mod, hk, I.ok.glob, I.ok.blt, Nat.le_refl _, fun x y c h1 h2 => I.ok.inj x y c (hcl x c h1) (hcl y c h2), look, fun x c h => (by cases h), I.ok.hd, I.ok.frames, .inl rfl, fun b hb => ?_, I.bs, Nat.le_trans I.ok.bsz I.sz, fun b o e hb => ?_, fun b hb z => ?_, I.stack, I.stkFree⟩,
    rfl, I.bare, Un.kept old, ⟨_, hns, fun i x v h1 h2 h3 => ?_⟩, fun x c h => ?_, I.hok.fresh (Nat.le_refl _), fun x c h => I.freeC x c (hcl x c h), fun p hp => absurd (show p ∈ ([] : List (Addr × Obj)) from hp) (by simp), I.hok.kept old, ?_⟩
  · exact ⟨Nat.ne_of_lt (hf b hb).1, fun x c h => (hf b hb).2.2.2.2 x c (hcl x c h)⟩
  · rcases (hf b hb).2.2.2.1 with z | z
    · exact I.ok.noex b o e z
    · exact absurd (Nat.lt_of_lt_of_le (Heap.lt_size e) (Nat.le_trans I.ok.bsz z)) (Nat.lt_irrefl _)
  · rcases List.mem_cons.mp (I.stkSub b z) with q | q
    · exact (hf b hb).2.1 q
    · exact (hf b hb).2.2.1 q
  · obtain ⟨k, j, rfl, hj, hσ⟩ := blk_get h2
    obtain ⟨x', e1, e2, e3⟩ := S.fr k j hj
    rw [e1] at h1
    have ex : x' = x := Option.some.inj h1
    subst ex
    have ok := S.tk _ (PySem.mem_of_lookup e3) rfl
    obtain ⟨m, _, hl⟩ := I.loc
    obtain ⟨u, r, l⟩ := hl j x' v e2 hσ (.inr ok)
    refine ⟨u, r, ?_⟩
    rcases l with ⟨hk', _⟩ | ⟨_, c, hc, hcell⟩
    · have hk2 : X.env.scope.names.lookup x' = some .local := hk'
      rcases ok with z | z <;> (rw [hk2] at z; cases z)
    · obtain ⟨c', hc'⟩ := hcl2 _ (PySem.mem_of_lookup e3) rfl
      have : c' = c := Option.some.inj ((hcl _ _ hc').symm.trans hc)
      subst this
      obtain ⟨o, ho, hd⟩ := hcell
      exact .inr ⟨relabel_free e3, c', hc', ⟨o, old _ _ ho, hd⟩⟩
  · obtain ⟨v, o, ho, hd⟩ := I.cell x c (hcl x c h)
    exact ⟨v, o, old _ _ ho, hd⟩
  · show (blk (N.length - js.length) js σ).length = N.length
    unfold blk
    rw [List.length_append, List.length_replicate, List.length_map]
    have := S.len
    omega

theorem comp_block {pins : List (Addr × Obj)} {σ : St} {H : Hp} {s : Shared} {elt target iter : Expr} {ifs : List Expr} {scope : Scope} {pos : Pos} {N : List Str} {js : List Nat} {cl : List (Str × Addr)} {J : It} {fp : List Addr} {it : Addr} {tn : Nat → Heap → Prop}
    {g : TG} {tt : TT} {te : TE} {E : Value → Shared → Prop} {RR : Value → Addr → Result → Shared → Prop} {Q : VK}
    (hc : X.calm = true) (I : Inv X pins σ H s) (T : Turn X.prog X.w X.K target J fp it tn) (st : tn 0 s.heap) (hf : ∀ b ∈ fp, FpOk X pins H b)
    (hk : scope.kind = .function) (hN : N.Nodup) (S : CompSc X.env.scope X.N scope N js) (hcl : ∀ x c, cl.lookup x = some c → X.env.cells.lookup x = some c) (hcl2 : ∀ y ∈ scope.names, y.2 = .free → ∃ c, cl.lookup y.1 = some c)
    (hg : ∀ cl C s H fp, PG (X.block scope cl C N s H fp) target g) (ht : ∀ cl C s H fp, PF (X.block scope cl C N s H fp) ifs tt) (he : ∀ cl C s H fp, PE (X.block scope cl C N s H fp) elt te)
    (h : ∀ D, H D = none → ∃ W : Nat → Nat → St → Hp → List V → Prop, (∃ m, W 0 m (blk (N.length - js.length) js σ) (upd H D (.lst [])) []) ∧ ∀ i m τ H2 ys, W i m τ H2 ys → H2 D = some (.lst ys) ∧
      ((J.stop i H2 ∧ Q (.ref D) H2) ∨ (J.go i H2 ∧ ys.length < sizeLine ∧ ∃ N : St → Hp → List V → Prop, (∀ τ' H' ys', N τ' H' ys' → ∃ m', m' < m ∧ W (i + 1) m' τ' H' ys') ∧ ∀ x H3, J.yld i H2 x H3 → g x τ H3 fun τ4 H4 => tt τ4 H4 fun b H5 =>
        if b = true then te τ4 H5 fun y H6 => H6 D = some (.lst ys) ∧ N τ4 (upd H6 D (.lst (ys ++ [y]))) (ys ++ [y])
        else N τ4 H5 ys)))
    (hend : ∀ D C H' s', (∃ m, s'.heap.Ns C m) → FpOk X pins H' C → Inv X pins σ H' s' → Q (.ref D) H' → RR (.ref D) C (.ok .next) s') :
    wpAny (model X.prog X.w) X.A (newList []) (fun acc s₃ => wpAny (model X.prog X.w) X.A (newFunctionEnv scope X.env.globals cl [] X.env.qual none .none (some X.env)) (fun cenv s₄ =>
      codeAny (model X.prog X.w) X.A (.compStart (.ListComp elt [⟨target, iter, ifs, 0⟩] scope pos) 0 (.ref it) acc { cenv with scope := relabel scope X.env }) (RR acc cenv.locals) s₄) E s₃) E s := by
  obtain ⟨W, ⟨m0, w0⟩, turn⟩ := h s.heap.objs.size I.fresh
  refine wpAny_newObj_type (wpAny_newFunctionEnv S.nocell (by intro y hy; simp at hy) (fun h₁ hns₁ hsb₁ => ?_) hk)
  have I3 : Inv X pins σ (upd H s.heap.objs.size (.lst [])) { s with heap := s.heap.push { cls := .type "list", dict := none, data := .seq ([] : List Value).toArray } } := I.lnew (its := []) (ys := []) (t' := s.toks) .nil (Nat.zero_le _)
  have hF3 : ∀ b ∈ fp, b < s.heap.objs.size := fun b hb => by
    obtain ⟨o, e, _⟩ := T.obj 0 s.heap st b hb
    exact Heap.lt_size e
  have st3 : tn 0 (s.heap.push { cls := .type "list", dict := none, data := .seq ([] : List Value).toArray }) := T.keep 0 _ _ st fun b hb o e => Heap.get?_push_of_some _ e
  generalize hs3 : ({ s with heap := s.heap.push { cls := .type "list", dict := none, data := .seq ([] : List Value).toArray } } : Shared) = s3 at I3 hns₁ hsb₁ ⊢
  have e3 : s3.heap = s.heap.push { cls := .type "list", dict := none, data := .seq ([] : List Value).toArray } := by rw [← hs3]
  rw [← e3] at st3
  have z3 : s.heap.objs.size ≤ s3.heap.objs.size := by rw [e3, Heap.size_push]; exact Nat.le_succ _
  have old : ∀ b o, s3.heap.get? b = some o → h₁.get? b = some o := fun b o e => hsb₁.extBut b o (Nat.ne_of_lt (Heap.lt_size e)) (Heap.get?_push_of_some _ e)
  have hf3 : ∀ b ∈ fp, b < s3.heap.objs.size ∧ b ≠ X.env.locals ∧ b ∉ X.fs ∧ (b ∈ X.ex ∨ X.s₀.heap.objs.size ≤ b) ∧ (∀ x c, X.env.cells.lookup x = some c → c ≠ b) := fun b hb =>
    let ⟨_, q1, q2, q3, q4, _⟩ := hf b hb
    ⟨Nat.lt_of_lt_of_le (hF3 b hb) z3, q1, q2, q3, q4⟩
  have nD : ∀ b ∈ fp, upd H s.heap.objs.size (.lst []) b = none := fun b hb => by
    rw [upd_ne (Nat.ne_of_lt (hF3 b hb))]
    exact (hf b hb).1
  have I4 : Inv (X.block scope cl s3.heap.objs.size N s3 (upd H s.heap.objs.size (.lst [])) fp) [] (blk (N.length - js.length) js σ) (upd H s.heap.objs.size (.lst [])) { s3 with heap := h₁, toks := s3.toks + ([] : List (Str × Value)).length } :=
    block_inv I3 hk hN S hcl hcl2 hf3 hns₁ old
  have st4 : tn 0 h₁ := T.keep 0 _ _ st3 fun b hb o e => old b o e
  have hg' := hg cl s3.heap.objs.size s3 (upd H s.heap.objs.size (.lst [])) fp
  have ht' := ht cl s3.heap.objs.size s3 (upd H s.heap.objs.size (.lst [])) fp
  have he' := he cl s3.heap.objs.size s3 (upd H s.heap.objs.size (.lst [])) fp
  -- what stays true of the iterator's objects
  have stat : ∀ {H' : Hp}, (∀ b ∈ fp, H' b = none) → ∀ b ∈ fp, FpOk (X.block scope cl s3.heap.objs.size N s3 (upd H s.heap.objs.size (.lst [])) fp) [] H' b := fun hn b hb =>
    ⟨hn b hb, (I4.ok.exf b hb).1, I4.ok.exfs b hb, .inl hb, (I4.ok.exf b hb).2, fun p hp => absurd (show p ∈ ([] : List (Addr × Obj)) from hp) (by simp)⟩
  have loop : codeAny (model X.prog X.w) X.A (.compLoop (.ListComp elt [⟨target, iter, ifs, 0⟩] scope pos) 0 (.ref it) (.ref s.heap.objs.size) (compEnvC scope cl s3.heap.objs.size X.env)) (RR (.ref s.heap.objs.size) s3.heap.objs.size) { s3 with heap := h₁, toks := s3.toks + ([] : List (Str × Value)).length } := by
    refine compLoop_any (fun n s' => ∃ i τ H' ys, Inv (X.block scope cl s3.heap.objs.size N s3 (upd H s.heap.objs.size (.lst [])) fp) [] τ H' s' ∧ tn i s'.heap ∧ (∀ b ∈ fp, H' b = none) ∧ W i n τ H' ys) ?_ m0 ⟨0, _, _, [], I4, st4, nD, w0⟩
    rintro n s5 ⟨i, τ, H5, ys, I5, st5, fr5, w5⟩
    obtain ⟨hD, hw⟩ := turn i n τ H5 ys w5
    rcases hw with ⟨stop, qn⟩ | ⟨go, hz, M, hM, step⟩
    · refine thn (T.done (X.block scope cl s3.heap.objs.size N s3 (upd H s.heap.objs.size (.lst [])) fp) rfl rfl rfl hc i [] s5 τ H5 (fun _ _ => False) I5 (stat fr5) st5 stop) fun r s6 ⟨hr, I6⟩ => ?_
      subst hr
      refine hend _ _ H5 s6 (let ⟨m, hn, _⟩ := I6.loc; ⟨m, hn⟩) (I3.fpOk (Nat.le_refl _) I6.free) ?_ qn
      exact I3.call' (ch := fp) I6.os I6.base I6.hok I6.bare fun b hb => ⟨(hf b hb).2.2.2.1, (hf b hb).2.1, (hf b hb).2.2.2.2.1, (hf b hb).2.2.2.2.2⟩
    · refine thn (T.item (X.block scope cl s3.heap.objs.size N s3 (upd H s.heap.objs.size (.lst [])) fp) rfl rfl rfl hc i [] s5 τ H5 (fun _ _ => False) I5 (stat fr5) st5 go) fun r s6 ⟨u, hr, h6⟩ => ?_
      subst hr
      refine thn h6 fun _ s7 ⟨x, H7, I7, r7, y7, st7, fr7⟩ => ?_
      have I7' := I7.pinned (stat fr7) (T.obj _ _ st7)
      refine thn (hg' _ s7 τ H7 x u _ I7' r7 (step x H7 y7)) fun _ s8 ⟨τ8, H8, I8, q8⟩ => ?_
      refine thn (ht' _ s8 τ8 H8 _ I8 q8) fun b s9 ⟨H9, I9, q9⟩ => ?_
      have again : ∀ {τ' : St} {H' : Hp} {s' : Shared} {ys' : List V}, Inv (X.block scope cl s3.heap.objs.size N s3 (upd H s.heap.objs.size (.lst [])) fp) ([] ++ pinsAt fp s7.heap) τ' H' s' → M τ' H' ys' →
          ∃ m, m < n ∧ ∃ i τ H' ys, Inv (X.block scope cl s3.heap.objs.size N s3 (upd H s.heap.objs.size (.lst [])) fp) [] τ H' s' ∧ tn i s'.heap ∧ (∀ b ∈ fp, H' b = none) ∧ W i m τ H' ys := fun {τ' H' s' ys'} I' hm' => by
        obtain ⟨m', hm, w'⟩ := hM _ _ _ hm'
        refine ⟨m', hm, i + 1, τ', H', ys', I'.unpinned, T.keep _ _ _ st7 fun b hb o e => (I'.pin (b, o) (List.mem_append_right _ (List.mem_append_right _ (mem_pinsAt hb e)))).1, fun b hb => ?_, w'⟩
        obtain ⟨o, e, d⟩ := T.obj _ _ st7 b hb
        exact (I'.pin (b, o) (List.mem_append_right _ (List.mem_append_right _ (mem_pinsAt hb e)))).2.1
      cases b with
      | false => exact again I9 q9
      | true =>
        refine thn (he' _ s9 τ8 H9 _ I9 q9) fun y s10 ⟨v10, H10, I10, r10, hD10, q10⟩ => ?_
        refine thn (mt_append (X := X.block scope cl s3.heap.objs.size N s3 (upd H s.heap.objs.size (.lst [])) fp) _ s10 τ8 H10 (.ref s.heap.objs.size) [v10] (.ref s.heap.objs.size) [y] (fun _ H' => M τ8 H' (ys ++ [v10])) I10 rfl (.cons r10 .nil) ⟨_, ys, v10, rfl, rfl, hD10, hz, q10⟩) fun _ s11 ⟨_, H11, I11, _, q11⟩ => ?_
        exact again I11 q11
  exact codeAny_compStart_list loop (T.self X.A 0 _ _ _ st4 loop)

variable {elt target iter : Expr} {ifs : List Expr} {scope : Scope} {pos spos : Pos} {wi : TI} {g : TG} {tt : TT} {te : TE}
theorem pe_comp (N : List Str) (js : List Nat) (hok : compOk X.env.scope X.N scope N js = true) (hN : N.Nodup) (hc : X.calm = true) (hi : PI X target iter wi)
    (hg : ∀ cl C s H fp, PG (X.block scope cl C N s H fp) target g) (ht : ∀ cl C s H fp, PF (X.block scope cl C N s H fp) ifs tt) (he : ∀ cl C s H fp, PE (X.block scope cl C N s H fp) elt te)
    (hk : scope.kind = .function := by rfl) (hs : ∀ x, foldedSetIterable iter X.env x = pure x := by intro _; rfl) :
    PE X (.ListComp elt [⟨target, iter, ifs, 0⟩] scope pos) (tComp (N.length - js.length) js wi g tt te) := by
  intro pins s σ H Q I h
  have S := compOk_sc hok
  obtain ⟨cl, hclos, hcl, hcl2⟩ := closure_ok (env := X.env) (scope := scope) fun y hy hf => I.ok.has _ (S.tk y hy hf)
  rw [eval_ListComp]
  refine wpAny_comprehension_free (use := none) rfl hs hclos hk S.names (thn (hi pins s σ H _ I h) fun v s1 h1 => thn h1 fun itv s2 h2 => ?_)
  obtain ⟨it, fp, tn, J, H2, e, I2, T, st2, f2, hw⟩ := h2
  subst e
  refine comp_block (RR := fun acc C => compPost (model X.prog X.w) X.A X.xe none (EP X pins σ Q) acc C) (Q := Q) hc I2 T st2 f2 hk hN S hcl hcl2 hg ht he hw ?_
  rintro D C H' s' ⟨m, hn⟩ ⟨c0, c1, c2, c3, c4, c5⟩ I' q
  exact ⟨m, hn, fun h' hs' => ⟨.ref D, H', I'.turned (t' := s'.toks) (fun b o hb e => (hs'.2 b hb).trans e) c0 c1 c3 c4 c5, rfl, q⟩⟩
end

structure ItOk (J : It) (xs : List V) (ok : Hp → Prop) : Prop where
  stop : ∀ H, ok H → J.stop xs.length H
  go : ∀ i H, ok H → i < xs.length → J.go i H
  yld : ∀ i H x H', ok H → i < xs.length → J.yld i H x H' → H' = H ∧ xs[i]? = some x
theorem it_list (K : PySem.W.Frag) (a : Addr) (xs : List V) : ItOk (Itl K a) xs fun H => SqL K H a xs :=
  ⟨fun H h => ⟨xs, h, Nat.le_refl _⟩, fun i H h hi => ⟨xs, xs[i], h, by simp [hi]⟩, fun i H x H' h hi y => ⟨y.1, y.2 xs h⟩⟩
theorem it_range (lo : Int) (n : Nat) : ItOk (Itr lo n) ((List.range n).map fun i => V.int (lo + (i : Nat))) fun _ => True :=
  ⟨fun H _ => by show n ≤ _; simp, fun i H _ hi => (by show i < n; simpa using hi), fun i H x H' _ hi y => ⟨y.1, by
    have hi' : i < n := by simpa using hi
    obtain ⟨_, rfl⟩ := y
    simp [hi']⟩⟩
theorem comp_by {J : It} {D : Addr} {xs : List V} {ok : Hp → Prop} {g : TG} {tt : TT} {te : TE} {Q : Hp → Prop} {τ : St} {H : Hp} (IO : ItOk J xs ok) (Pv : Nat → St → Hp → List V → Prop) (hz : xs.length ≤ sizeLine) (h0 : Pv 0 τ H [])
    (hl : ∀ i τ H ys, i ≤ xs.length → Pv i τ H ys → ok H ∧ H D = some (.lst ys) ∧ ys.length ≤ i)
    (hs : ∀ i x τ H ys, i < xs.length → xs[i]? = some x → Pv i τ H ys → g x τ H fun τ4 H4 => tt τ4 H4 fun b H5 =>
      if b = true then te τ4 H5 fun y H6 => H6 D = some (.lst ys) ∧ Pv (i + 1) τ4 (upd H6 D (.lst (ys ++ [y]))) (ys ++ [y]) else Pv (i + 1) τ4 H5 ys)
    (hd : ∀ τ H ys, Pv xs.length τ H ys → Q H) :
    ∃ W : Nat → Nat → St → Hp → List V → Prop, (∃ m, W 0 m τ H []) ∧ ∀ i m τ H2 ys, W i m τ H2 ys → H2 D = some (.lst ys) ∧
      ((J.stop i H2 ∧ Q H2) ∨ (J.go i H2 ∧ ys.length < sizeLine ∧ ∃ N : St → Hp → List V → Prop, (∀ τ' H' ys', N τ' H' ys' → ∃ m', m' < m ∧ W (i + 1) m' τ' H' ys') ∧ ∀ x H3, J.yld i H2 x H3 → g x τ H3 fun τ4 H4 => tt τ4 H4 fun b H5 =>
        if b = true then te τ4 H5 fun y H6 => H6 D = some (.lst ys) ∧ N τ4 (upd H6 D (.lst (ys ++ [y]))) (ys ++ [y])
        else N τ4 H5 ys)) := by
  refine ⟨fun i m τ H ys => m = xs.length - i ∧ i ≤ xs.length ∧ Pv i τ H ys, ⟨xs.length, by simp, Nat.zero_le _, h0⟩, ?_⟩
  rintro i m τ H ys ⟨rfl, hi, p⟩
  obtain ⟨q, hD, hy⟩ := hl i τ H ys hi p
  refine ⟨hD, ?_⟩
  by_cases hlt : i < xs.length
  · refine .inr ⟨IO.go i H q hlt, by omega, Pv (i + 1), fun τ' H' ys' p' => ⟨xs.length - (i + 1), by omega, rfl, hlt, p'⟩, fun x H' y => ?_⟩
    obtain ⟨e, hx⟩ := IO.yld i H x H' q hlt y
    subst e
    exact hs i x τ _ ys hlt hx p
  · have e : i = xs.length := by omega
    subst e
    exact .inl ⟨IO.stop H q, hd τ H ys p⟩
theorem for_by {J : It} {xs : List V} {ok : Hp → Prop} {g : TG} {tb : TS} {D : Ends} {σ : St} {H : Hp} (IO : ItOk J xs ok) (Pv : Nat → St → Hp → Prop) (h0 : Pv 0 σ H) (hl : ∀ i σ H, i ≤ xs.length → Pv i σ H → ok H)
    (hs : ∀ i x σ H, i < xs.length → xs[i]? = some x → Pv i σ H → g x σ H fun σ2 H2 => tb { D with nx := Pv (i + 1), ct := Pv (i + 1), bk := D.nx } σ2 H2) (hd : ∀ σ H, Pv xs.length σ H → D.nx σ H) :
    ∃ W : Nat → Nat → St → Hp → Prop, (∃ m, W 0 m σ H) ∧ ∀ i m σ H, W i m σ H →
      (J.stop i H ∧ D.nx σ H) ∨ (J.go i H ∧ ∃ N : St → Hp → Prop, (∀ σ' H', N σ' H' → ∃ m', m' < m ∧ W (i + 1) m' σ' H') ∧ ∀ x H', J.yld i H x H' → g x σ H' fun σ2 H2 => tb { D with nx := N, ct := N, bk := D.nx } σ2 H2) := by
  refine ⟨fun i m σ H => m = xs.length - i ∧ i ≤ xs.length ∧ Pv i σ H, ⟨xs.length, by simp, Nat.zero_le _, h0⟩, ?_⟩
  rintro i m σ H ⟨rfl, hi, p⟩
  have q := hl i σ H hi p
  by_cases hlt : i < xs.length
  · refine .inr ⟨IO.go i H q hlt, Pv (i + 1), fun σ' H' p' => ⟨xs.length - (i + 1), by omega, rfl, hlt, p'⟩, fun x H' y => ?_⟩
    obtain ⟨e, hx⟩ := IO.yld i H x H' q hlt y
    subst e
    exact hs i x σ _ hlt hx p
  · have e : i = xs.length := by omega
    subst e
    exact .inl ⟨IO.stop H q, hd σ H p⟩
end L2
end
section
set_option Elab.async false
set_option linter.all false
set_option maxRecDepth 100000
set_option maxHeartbeats 4000000
namespace L2
open PySem PySem.Spec PyProof.Rows

section
variable {X : Cx}
def tyN (H : Hp) : V → Option String
  | .non => some "NoneType"
  | .bl _ => some "bool"
  | .int _ => some "int"
  | .str _ => some "str"
  | .ref a => match H a with
    | some (.lst _) => some "list"
    | some (.tup _) => some "tuple"
    | some (.dK _) => some "dict"
    | _ => none
  | _ => none
theorem call_isinst : CallR X (.builtin "isinstance") (fun xs H Q => ∃ x T Tx, xs = [x, .ty T] ∧ tyN H x = some Tx ∧ T ∈ ["int", "bool", "list", "tuple", "str"] ∧ Q (.bl (Tx == T || (Tx == "bool" && T == "int"))) H) := by
  intro pins s σ H xs us Q I r h
  obtain ⟨x, T, Tx, rfl, hT, hm, q⟩ := h
  obtain ⟨u, w', rfl, r1, r2⟩ := vals2 r
  obtain rfl : w' = .type T := r2
  have no : ∀ {b : Bool}, b = (Tx == T || (Tx == "bool" && T == "int")) → ∀ tk, EP X pins σ Q (.bool b) { s with toks := tk } := fun {b} hb tk => ⟨.bl b, H, I.tok _, rfl, by rw [hb]; exact q⟩
  have ye : ∀ {b : Bool}, b = (Tx == T || (Tx == "bool" && T == "int")) → EP X pins σ Q (.bool b) s := fun {b} hb => ⟨.bl b, H, I, rfl, by rw [hb]; exact q⟩
  simp only [List.mem_cons, List.not_mem_nil, or_false] at hm
  cases x with
  | int i =>
    obtain ⟨t, rfl⟩ := r1
    cases hT
    rcases hm with rfl | rfl | rfl | rfl | rfl
    · exact IsiPair.int_int (ye (by decide))
    · exact IsiPair.int_bool (no (by decide) _)
    · exact IsiPair.int_list (no (by decide) _)
    · exact IsiPair.int_tuple (no (by decide) _)
    · exact IsiPair.int_str (no (by decide) _)
  | str i =>
    obtain ⟨t, rfl⟩ := r1
    cases hT
    rcases hm with rfl | rfl | rfl | rfl | rfl
    · exact IsiPair.str_int (no (by decide) _)
    · exact IsiPair.str_bool (no (by decide) _)
    · exact IsiPair.str_list (no (by decide) _)
    · exact IsiPair.str_tuple (no (by decide) _)
    · exact IsiPair.str_str (ye (by decide))
  | bl i =>
    cases r1
    cases hT
    rcases hm with rfl | rfl | rfl | rfl | rfl
    · exact IsiPair.bool_int (ye (by decide))
    · exact IsiPair.bool_bool (ye (by decide))
    · exact IsiPair.bool_list (no (by decide) _)
    · exact IsiPair.bool_tuple (no (by decide) _)
    · exact IsiPair.bool_str (no (by decide) _)
  | ref a =>
    cases r1
    cases hH : H a with
    | none => simp [tyN, hH] at hT
    | some o =>
      cases o with
      | lst ys =>
        simp [tyN, hH] at hT
        subst hT
        obtain ⟨_, its, n, _, e⟩ := I.hok a _ hH
        have hx : ∃ o, s.heap.get? a = some o ∧ o.cls = .type "list" := ⟨_, e, rfl⟩
        rcases hm with rfl | rfl | rfl | rfl | rfl
        · exact call_isinstance (isinstance_false_list (by decide +kernel) F.isi_meta_int F.sub_list_int) ⟨hx, no (by decide) _⟩
        · exact call_isinstance (isinstance_false_list (by decide +kernel) F.isi_meta_bool F.sub_list_bool) ⟨hx, no (by decide) _⟩
        · exact call_isinstance (isinstance_true (Tx := "list") F.isi_meta_list F.sub_list_list) ⟨⟨_, e, rfl⟩, ye (by decide)⟩
        · exact call_isinstance (isinstance_false_list (by decide +kernel) F.isi_meta_tuple F.sub_list_tuple) ⟨hx, no (by decide) _⟩
        · exact call_isinstance (isinstance_false_list (by decide +kernel) F.isi_meta_str F.sub_list_str) ⟨hx, no (by decide) _⟩
      | tup ys =>
        simp [tyN, hH] at hT
        subst hT
        obtain ⟨_, its, _, o, e, hc, _⟩ := I.hok a _ hH
        have hx : ∃ o, s.heap.get? a = some o ∧ o.cls = .type "tuple" := ⟨_, e, hc⟩
        rcases hm with rfl | rfl | rfl | rfl | rfl
        · exact call_isinstance (isinstance_false_tuple (by decide +kernel) F.isi_meta_int F.sub_tuple_int) ⟨hx, no (by decide) _⟩
        · exact call_isinstance (isinstance_false_tuple (by decide +kernel) F.isi_meta_bool F.sub_tuple_bool) ⟨hx, no (by decide) _⟩
        · exact call_isinstance (isinstance_false_tuple (by decide +kernel) F.isi_meta_list F.sub_tuple_list) ⟨hx, no (by decide) _⟩
        · exact call_isinstance (isinstance_true (Tx := "tuple") F.isi_meta_tuple F.sub_tuple_tuple) ⟨⟨_, e, hc⟩, ye (by decide)⟩
        · exact call_isinstance (isinstance_false_tuple (by decide +kernel) F.isi_meta_str F.sub_tuple_str) ⟨hx, no (by decide) _⟩
      | dK ys =>
        simp [tyN, hH] at hT
        subst hT
        obtain ⟨_, _, vs, _, dd⟩ := I.hok a _ hH
        obtain ⟨o, es, ep, e, hc, _⟩ := dd
        have hx : ∃ o, s.heap.get? a = some o ∧ o.cls = .type "dict" := ⟨o, e, hc.1⟩
        rcases hm with rfl | rfl | rfl | rfl | rfl
        · exact call_isinstance (isinstance_false_dict (by decide +kernel) F.isi_meta_int F.sub_dict_int) ⟨hx, no (by decide) _⟩
        · exact call_isinstance (isinstance_false_dict (by decide +kernel) F.isi_meta_bool F.sub_dict_bool) ⟨hx, no (by decide) _⟩
        · exact call_isinstance (isinstance_false_dict (by decide +kernel) F.isi_meta_list F.sub_dict_list) ⟨hx, no (by decide) _⟩
        · exact call_isinstance (isinstance_false_dict (by decide +kernel) F.isi_meta_tuple F.sub_dict_tuple) ⟨hx, no (by decide) _⟩
        · exact call_isinstance (isinstance_false_dict (by decide +kernel) F.isi_meta_str F.sub_dict_str) ⟨hx, no (by decide) _⟩
      | _ => simp [tyN, hH] at hT
  | non =>
    cases r1
    cases hT
    rcases hm with rfl | rfl | rfl | rfl | rfl
    · exact IsiPair.NoneType_int (no (by decide) _)
    · exact IsiPair.NoneType_bool (no (by decide) _)
    · exact IsiPair.NoneType_list (no (by decide) _)
    · exact IsiPair.NoneType_tuple (no (by decide) _)
    · exact IsiPair.NoneType_str (no (by decide) _)
  | _ => cases hT

theorem vals_bools : ∀ {bs : List Bool} {us : List Value}, Vals (bs.map V.bl) us → us = bs.map Value.bool
  | [], us, r => by cases r; rfl
  | b :: bs, us, r => by
    cases r with
    | cons r1 r2 =>
      cases r1
      rw [vals_bools r2]; rfl
theorem mt_strip : MtM X "str.strip" (fun x vs H Q => ∃ z y, x = .str z ∧ vs = [.str y] ∧ z.length ≤ sizeLine ∧ Q (.str (Txt.stripChars z y)) H) := by
  intro pins s σ H x vs v us Q I rx rv h
  obtain ⟨z, y, rfl, rfl, hz, q⟩ := h
  obtain ⟨t, rfl⟩ := rx
  obtain ⟨u, rfl, t', rfl⟩ := rv.one
  exact SC.stripChars (fun t' k => ⟨.str _, H, I.tok _, ⟨_, rfl⟩, q⟩) hz
theorem sl_str : SlR X (fun x lo hi H Q => ∃ z, x = .str z ∧ z.length ≤ sizeLine ∧ Q (.str (Txt.slice z lo hi)) H) := by
  intro pins s σ H x v vl vu lo hi sl Q I rx hs pl pu h
  obtain ⟨z, rfl, hz, q⟩ := h
  obtain ⟨t, rfl⟩ := rx
  have fin : ∀ t' k, EP X pins σ Q (.str (Txt.slice z lo hi) t') { s with toks := k } := fun t' k => ⟨.str _, H, I.tok _, ⟨_, rfl⟩, q⟩
  refine ⟨"str", _, F.slot_str_getitem.lookup, typeIs_str _ _ _, ?_⟩
  cases pl with
  | none =>
    cases pu with
    | none => exact wpAny_getItem_str_slice (l := none) (u := none) (st := none) hs rfl (post_val_or_str ⟨Nat.le_trans (Txt.slice_le z _ _) hz, fin⟩)
    | int j uj => exact wpAny_getItem_str_slice (l := none) (u := some (j, uj)) (st := none) hs rfl (post_val_or_str ⟨Nat.le_trans (Txt.slice_le z _ _) hz, fin⟩)
  | int i ui =>
    cases pu with
    | none => exact wpAny_getItem_str_slice (l := some (i, ui)) (u := none) (st := none) hs rfl (post_val_or_str ⟨Nat.le_trans (Txt.slice_le z _ _) hz, fin⟩)
    | int j uj => exact wpAny_getItem_str_slice (l := some (i, ui)) (u := some (j, uj)) (st := none) hs rfl (post_val_or_str ⟨Nat.le_trans (Txt.slice_le z _ _) hz, fin⟩)
theorem call_int_bit : CallR X (.type "int") (fun xs H Q => ∃ b : Bool, xs = [.str (if b then ("1" : Str) else "0")] ∧ Q (.int (if b then 1 else 0)) H) := by
  intro pins s σ H xs us Q I r h
  obtain ⟨b, rfl, q⟩ := h
  obtain ⟨u, rfl, t, rfl⟩ := vals1 r
  cases b with
  | true => exact PySem.W.KIN.call_text (x := ("1" : Str)) (n := 1) (by decide +kernel) (by decide +kernel) ⟨.int 1, H, I.tok _, ⟨_, rfl⟩, q⟩
  | false => exact PySem.W.KIN.call_text (x := ("0" : Str)) (n := 0) (by decide +kernel) (by decide +kernel) ⟨.int 0, H, I.tok _, ⟨_, rfl⟩, q⟩
end
end L2
end
section
set_option Elab.async false
set_option linter.all false
set_option maxRecDepth 100000
set_option maxHeartbeats 4000000
namespace L2
open PySem PySem.Spec PyProof.Rows

mutual
inductive DV (H : Hp) : V → PyData → Prop
  | non : DV H .non .none
  | bl (b : Bool) : DV H (.bl b) (.bool b)
  | int (i : Int) : DV H (.int i) (.int i)
  | str (x : Str) : DV H (.str x) (.str x)
  | lst {a : Addr} {xs : List V} {ds : List PyData} : H a = some (.lst xs) → DVs H xs ds → DV H (.ref a) (.list ds)
  | tup {a : Addr} {xs : List V} {ds : List PyData} : H a = some (.tup xs) → DVs H xs ds → DV H (.ref a) (.tuple ds)
  | dic {a : Addr} : H a = some (.dK []) → DV H (.ref a) (.dict [])
inductive DVs (H : Hp) : List V → List PyData → Prop
  | nil : DVs H [] []
  | cons {x : V} {d : PyData} {xs : List V} {ds : List PyData} : DV H x d → DVs H xs ds → DVs H (x :: xs) (d :: ds)
end
mutual
theorem DV.mono {H H' : Hp} (k : Same H H') : ∀ {v : V} {d : PyData}, DV H v d → DV H' v d
  | _, _, .non => .non
  | _, _, .bl b => .bl b
  | _, _, .int i => .int i
  | _, _, .str x => .str x
  | _, _, .lst h r => .lst (k _ _ h) (DVs.mono k r)
  | _, _, .tup h r => .tup (k _ _ h) (DVs.mono k r)
  | _, _, .dic h => .dic (k _ _ h)
theorem DVs.mono {H H' : Hp} (k : Same H H') : ∀ {vs : List V} {ds : List PyData}, DVs H vs ds → DVs H' vs ds
  | _, _, .nil => .nil
  | _, _, .cons h r => .cons (DV.mono k h) (DVs.mono k r)
end
section
variable {X : Cx} {pins : List (Addr × Obj)} {σ : St} {H : Hp} {s : Shared}
mutual
theorem DV.reads (I : Inv X pins σ H s) : ∀ {v : V} {d : PyData} {u : Value}, DV H v d → d.canLay0 = true → RelV v u → ∃ as, Reads s.heap u d as
  | _, _, _, .non, _, r => by cases r; exact ⟨_, .none⟩
  | _, _, _, .bl b, _, r => by cases r; exact ⟨_, .bool b⟩
  | _, _, _, .int i, _, r => by obtain ⟨t, rfl⟩ := r; exact ⟨_, .int i t⟩
  | _, _, _, .str x, _, r => by obtain ⟨t, rfl⟩ := r; exact ⟨_, .str x t⟩
  | _, _, _, .lst h rr, c, r => by
    cases r
    obtain ⟨_, its, n, rv, e⟩ := I.hok _ _ h
    obtain ⟨as, q⟩ := DVs.reads I rr (by simpa [PyData.canLay0] using c) rv
    exact ⟨_, .list e rfl rfl (by simpa using q)⟩
  | _, _, _, .tup h rr, c, r => by
    cases r
    obtain ⟨_, its, rv, o, e, hc, n, hd⟩ := I.hok _ _ h
    obtain ⟨as, q⟩ := DVs.reads I rr (by simpa [PyData.canLay0] using c) rv
    exact ⟨_, .tuple e hc hd (by simpa using q)⟩
  | _, _, _, .dic h, c, r => by simp [PyData.canLay0] at c
theorem DVs.reads (I : Inv X pins σ H s) : ∀ {vs : List V} {ds : List PyData} {us : List Value}, DVs H vs ds → PyData.canLayAll0 ds = true → Vals vs us → ∃ as, ReadsAll s.heap us ds as
  | _, _, _, .nil, _, r => by cases r; exact ⟨_, .nil⟩
  | _, _, _, .cons h rr, c, r => by
    have c' := by simpa [PyData.canLayAll0] using c
    cases r with
    | cons r1 r2 =>
      obtain ⟨as, q⟩ := DV.reads I h c'.1 r1
      obtain ⟨bs, p⟩ := DVs.reads I rr c'.2 r2
      exact ⟨_, .cons q p⟩
end
end
section
variable {X : Cx}
theorem op_eqD (hu : X.A.units + 64 < cLine) : OpR X (compareOp .Eq) (fun x y H Q => ∃ d e, DV H x d ∧ DV H y e ∧ SeqAt.shaped d = true ∧ SeqAt.shaped e = true ∧ Q (.bl (PyData.eqv d e)) H) := by
  intro pins s σ H x y v u Q I rx ry h
  obtain ⟨d, e, hd, he, sd, se, q⟩ := h
  obtain ⟨as, ra⟩ := hd.reads I (SeqAt.canLay_of_shaped sd) rx
  obtain ⟨bs, rb⟩ := he.reads I (SeqAt.canLay_of_shaped se) ry
  exact eq_dataH ra rb sd se hu ⟨.bl _, H, I, rfl, q⟩
theorem op_neD (hu : X.A.units + 64 < cLine) : OpR X (compareOp .NotEq) (fun x y H Q => ∃ d e, DV H x d ∧ DV H y e ∧ SeqAt.shaped d = true ∧ SeqAt.shaped e = true ∧ Q (.bl (!PyData.eqv d e)) H) := by
  intro pins s σ H x y v u Q I rx ry h
  obtain ⟨d, e, hd, he, sd, se, q⟩ := h
  obtain ⟨as, ra⟩ := hd.reads I (SeqAt.canLay_of_shaped sd) rx
  obtain ⟨bs, rb⟩ := he.reads I (SeqAt.canLay_of_shaped se) ry
  exact ne_dataH ra rb sd se hu ⟨.bl _, H, I, rfl, q⟩
end
mutual
theorem eqv_refl : ∀ d : PyData, d.canLay0 = true → PyData.eqv d d = true
  | .none, _ => by simp [PyData.eqv]
  | .bool b, _ => by simp [PyData.eqv]
  | .int i, _ => by simp [PyData.eqv]
  | .str x, _ => by simp [PyData.eqv]
  | .list xs, h => by rw [PyData.eqv]; exact eqvAll_refl xs (by simpa [PyData.canLay0] using h)
  | .tuple xs, h => by rw [PyData.eqv]; exact eqvAll_refl xs (by simpa [PyData.canLay0] using h)
  | .dict xs, h => by simp [PyData.canLay0] at h
theorem eqvAll_refl : ∀ ds : List PyData, PyData.canLayAll0 ds = true → PyData.eqvAll ds ds = true
  | [], _ => by simp [PyData.eqvAll]
  | d :: ds, h => by
    have h' : d.canLay0 = true ∧ PyData.canLayAll0 ds = true := by simpa [PyData.canLayAll0] using h
    rw [PyData.eqvAll, eqv_refl d h'.1, eqvAll_refl ds h'.2]; rfl
end
theorem eqv_nil (ds : List PyData) : PyData.eqv (.list ds) (.list []) = ds.isEmpty := by
  cases ds <;> simp [PyData.eqv, PyData.eqvAll]

def sg (b : Bool) : Nat := if b then 49 else 48
def bs (w : List Bool) : Str := ⟨(w.map sg).toArray⟩
theorem bs_len (w : List Bool) : (bs w).length = w.length := by show ((w.map sg).toArray).size = _; simp
theorem sg_inj {a b : Bool} (h : sg a = sg b) : a = b := by cases a <;> cases b <;> first | rfl | cases h
theorem bs_inj {v w : List Bool} (h : bs v = bs w) : v = w := by
  have h1 : (v.map sg).toArray = (w.map sg).toArray := congrArg Str.cps h
  have h2 : v.map sg = w.map sg := by simpa using congrArg Array.toList h1
  clear h h1
  induction v generalizing w with
  | nil => cases w <;> simp_all
  | cons a v ih =>
    cases w with
    | nil => simp at h2
    | cons b w =>
      simp only [List.map_cons, List.cons.injEq] at h2
      rw [sg_inj h2.1, ih h2.2]
theorem bs_app (v w : List Bool) : bs v ++ bs w = bs (v ++ w) := by
  show (⟨(v.map sg).toArray ++ (w.map sg).toArray⟩ : Str) = ⟨((v ++ w).map sg).toArray⟩
  simp
theorem bs_ok (w : List Bool) : PyData.strOk (bs w) = true := by
  unfold PyData.strOk bs
  rw [Array.all_eq_true']
  intro x hx
  have hx : x ∈ w.map sg := by simpa using hx
  obtain ⟨b, _, rfl⟩ := List.mem_map.mp hx
  cases b <;> decide
theorem bs_nil : ("" : Str) = bs [] := by decide +kernel
theorem bs_0 : ("0" : Str) = bs [false] := by decide +kernel
theorem bs_1 : ("1" : Str) = bs [true] := by decide +kernel
theorem bs_if (b : Bool) : bs [b] = (if b then ("1" : Str) else "0") := by cases b <;> decide +kernel
end L2
end
section
set_option Elab.async false
set_option linter.all false
set_option maxRecDepth 100000
set_option maxHeartbeats 4000000
namespace L2
open PySem PySem.Spec PyProof.Rows

section
variable {X : Cx} {a b c e o : Expr} {es : List Expr} {pos : Pos}
theorem PE.of {t t' : TE} (h : PE X e t) (k : ∀ σ H Q, t' σ H Q → t σ H Q) : PE X e t' := fun pins s σ H Q I q => h pins s σ H Q I (k _ _ _ q)
theorem OpR.of {f : Value → Value → Sem Value} {r r' : R2} (h : OpR X f r) (k : ∀ x y H Q, r' x y H Q → r x y H Q) : OpR X f r' := fun pins s σ H x y v u Q I rx ry q => h pins s σ H x y v u Q I rx ry (k _ _ _ _ q)
def tV (i : Nat) : TE := fun σ H Q => match σ[i]? with
  | some (some v) => Q v H
  | _ => False
theorem vr (i : Nat) {x : Str} (hN : X.N[i]? = some x := by rfl) (hv : Vis X.env.scope x := by first | exact Or.inl rfl | exact Or.inr (Or.inl rfl) | exact Or.inr (Or.inr rfl)) (hd : (x == ("__debug__" : Str)) = false := by decide)
    (hcd : (x == ("__classdict__" : Str)) = false := by decide) : PE X (.Name x pos) (tV i) := (pe_var hN hv hd hcd).of fun σ H Q q => by
  unfold tV at q
  split at q
  · exact ⟨_, by assumption, q⟩
  · exact q.elim
def rN (C : Int → Int → Prop) (g : Int → Int → V) : R2 := fun x y H Q => match x, y with
  | .int i, .int j => C i j ∧ Q (g i j) H
  | _, _ => False
def rN0 (g : Int → Int → V) : R2 := fun x y H Q => match x, y with
  | .int i, .int j => Q (g i j) H
  | _, _ => False
theorem OpR.n {f : Value → Value → Sem Value} {C : Int → Int → Prop} {g : Int → Int → V} (h : OpR X f (rI C g)) : OpR X f (rN C g) := h.of fun x y H Q q => by
  unfold rN at q
  split at q
  · exact ⟨_, _, rfl, rfl, q⟩
  · exact q.elim
theorem OpR.n0 {f : Value → Value → Sem Value} {g : Int → Int → V} (h : OpR X f (rI0 g)) : OpR X f (rN0 g) := h.of fun x y H Q q => by
  unfold rN0 at q
  split at q
  · exact ⟨_, _, rfl, rfl, q⟩
  · exact q.elim
def rAddU : R2 := fun x y H Q => match x, y with
  | .int i, .int j => Q (.int (i + j)) H
  | .str i, .str j => i.length + j.length ≤ sizeLine ∧ Q (.str (i ++ j)) H
  | .ref p, .ref q => ∃ xs zs, H p = some (.lst xs) ∧ H q = some (.lst zs) ∧ xs.length + zs.length ≤ sizeLine ∧ ∀ n, H n = none → Q (.ref n) (upd H n (.lst (xs ++ zs)))
  | _, _ => False
theorem op_addU : OpR X (binaryOp .Add) rAddU := (op_add.or (op_add_str.or op_cat)).of fun x y H Q q => by
  unfold rAddU at q
  split at q
  · exact .inl ⟨_, _, rfl, rfl, q⟩
  · exact .inr (.inl ⟨_, _, rfl, rfl, q⟩)
  · obtain ⟨xs, zs, h1, h2, h3, h4⟩ := q
    exact .inr (.inr ⟨_, _, xs, zs, rfl, rfl, h1, h2, h3, h4⟩)
  · exact q.elim
def rMulU : R2 := fun x y H Q => match x, y with
  | .int i, .int j => CMul i j ∧ Q (.int (i * j)) H
  | .ref p, .int k => ∃ xs, H p = some (.lst xs) ∧ -(2 ^ 63) ≤ k ∧ k < 2 ^ 63 ∧ xs.length * k.toNat ≤ sizeLine ∧ ∀ n, H n = none → Q (.ref n) (upd H n (.lst (List.replicate k.toNat xs).flatten))
  | _, _ => False
theorem op_mulU : OpR X (binaryOp .Mult) rMulU := (op_mul.or op_rep).of fun x y H Q q => by
  unfold rMulU at q
  split at q
  · exact .inl ⟨_, _, rfl, rfl, q⟩
  · obtain ⟨xs, h1, h2, h3, h4, h5⟩ := q
    exact .inr ⟨_, _, xs, rfl, rfl, h1, h2, h3, h4, h5⟩
  · exact q.elim
def rEqU : R2 := fun x y H Q => match x, y with
  | .int i, .int j => Q (.bl (decide (i = j))) H
  | .str i, .str j => Q (.bl (decide (i = j))) H
  | .bl i, .bl j => Q (.bl (decide (i = j))) H
  | .ref p, .ref q => ∃ d e, DV H (.ref p) d ∧ DV H (.ref q) e ∧ SeqAt.shaped d = true ∧ SeqAt.shaped e = true ∧ Q (.bl (PyData.eqv d e)) H
  | _, _ => False
theorem vint_dec (i j : Int) : decide (V.int i = V.int j) = decide (i = j) := by simp
theorem vstr_dec (i j : Str) : decide (V.str i = V.str j) = decide (i = j) := by simp
theorem vbl_dec (i j : Bool) : decide (V.bl i = V.bl j) = decide (i = j) := by simp
theorem op_eqU (hu : X.A.units + 64 < cLine) : OpR X (compareOp .Eq) rEqU := (op_eq.or (op_eqD hu)).of fun x y H Q q => by
  unfold rEqU at q
  split at q
  · exact .inl ⟨rfl, by rw [vint_dec]; exact q⟩
  · exact .inl ⟨rfl, by rw [vstr_dec]; exact q⟩
  · exact .inl ⟨rfl, by rw [vbl_dec]; exact q⟩
  · exact .inr q
  · exact q.elim
def rNeU : R2 := fun x y H Q => rEqU x y H fun v H' => match v with
  | .bl k => Q (.bl (!k)) H'
  | _ => False
theorem op_neU (hu : X.A.units + 64 < cLine) : OpR X (compareOp .NotEq) rNeU := (op_ne.or (op_neD hu)).of fun x y H Q q => by
  unfold rNeU rEqU at q
  split at q
  · exact .inl ⟨rfl, by rw [vint_dec]; exact q⟩
  · exact .inl ⟨rfl, by rw [vstr_dec]; exact q⟩
  · exact .inl ⟨rfl, by rw [vbl_dec]; exact q⟩
  · exact .inr q
  · exact q.elim
def getV (H : Hp) (x : V) (i : Int) : Option V := match x with
  | .ref p => match H p with
    | some (.lst xs) => atI xs i
    | some (.tup xs) => atI xs i
    | some (.frz _ (.lst xs)) => atI xs i
    | _ => none
  | .str z => if z.length ≤ sizeLine then (atI z.cps.toList i).map fun c => V.str ⟨#[c]⟩ else none
  | _ => none
theorem getV_lst {H : Hp} {p : Addr} {xs : List V} {i : Int} (h : H p = some (.lst xs)) : getV H (.ref p) i = atI xs i := by simp [getV, h]
theorem getV_tup {H : Hp} {p : Addr} {xs : List V} {i : Int} (h : H p = some (.tup xs)) : getV H (.ref p) i = atI xs i := by simp [getV, h]
def rIxU : R2 := fun x y H Q => match y with
  | .int i => ∃ v, getV H x i = some v ∧ Q v H
  | _ => False
theorem ixU : IxR X rIxU := by
  intro value slice pins s σ H x y v u Q I rx ry q hs
  refine ix_seq value slice pins s σ H x y v u Q I rx ry ?_ hs
  unfold rIxU at q
  split at q
  · obtain ⟨z, hz, q⟩ := q
    unfold getV at hz
    split at hz
    · split at hz
      · rename_i xs hx
        exact .inl ⟨_, xs, _, z, rfl, rfl, SqL.of hx, hz, q⟩
      · rename_i xs hx
        exact .inr (.inl ⟨_, xs, _, z, rfl, rfl, SqT.of hx, hz, q⟩)
      · rename_i oo xs hx
        exact .inl ⟨_, xs, _, z, rfl, rfl, .inl (.inr ⟨_, hx⟩), hz, q⟩
      · cases hz
    · split at hz
      · rename_i hl
        obtain ⟨c, hc, rfl⟩ := Option.map_eq_some_iff.mp hz
        exact .inr (.inr ⟨_, _, c, rfl, rfl, hl, hc, q⟩)
      · cases hz
    · cases hz
  · exact q.elim
def rSlU : V → Option Int → Option Int → Hp → VK → Prop := fun x lo hi H Q => match x with
  | .ref p => ∃ xs, H p = some (.lst xs) ∧ ∀ n, H n = none → Q (.ref n) (upd H n (.lst (cutV xs lo hi)))
  | .str z => z.length ≤ sizeLine ∧ Q (.str (Txt.slice z lo hi)) H
  | _ => False
theorem slU : SlR X rSlU := by
  intro pins s σ H x v vl vu lo hi sl Q I rx hs pl pu q
  refine (sl_list.or sl_str) pins s σ H x v vl vu lo hi sl Q I rx hs pl pu ?_
  unfold rSlU at q
  split at q
  · obtain ⟨xs, h, q⟩ := q
    exact .inl ⟨_, xs, rfl, SqL.of h, q⟩
  · exact .inr ⟨_, rfl, q⟩
  · exact q.elim
def tPartU (t : TE) : TO := fun σ H Q => t σ H fun x H1 => match x with
  | .int i => Q (some i) H1
  | _ => False
theorem po_someU {te : TE} (h : PE X e te) : PO X (some e) (tPartU te) := by
  intro pins s σ H Q I hw
  rw [evalPart_some]
  refine thn (h pins s σ H _ I hw) fun u s1 ⟨x, H1, I1, r1, q1⟩ => ?_
  dsimp only at q1
  split at q1
  · obtain ⟨t, rfl⟩ := r1
    exact ⟨some _, H1, I1, .int _ t, q1⟩
  · exact q1.elim
def tBU (t : TE) : TT := fun σ H Q => t σ H fun x H1 => match x with
  | .bl c => Q c H1
  | _ => False
theorem bu_of {Q : Bool → Hp → Prop} {x : V} {H1 : Hp} (q : match x with | .bl c => Q c H1 | _ => False) : ∃ c, x = .bl c ∧ Q c H1 := by
  split at q
  · exact ⟨_, rfl, q⟩
  · exact q.elim
theorem pt_cmpU {op : CmpOp} {r : R2} {ta tb : TE} (ho : OpR X (compareOp op) r) (ha : PE X a ta) (hb : PE X b tb) (hm : behindInMarks op b = false := by first | exact nomark _ | rfl | (with_unfolding_all rfl)) : PT X (.Compare a [op] [b] pos) (tBU (tOp r ta tb)) := by
  intro pins s σ H Q I h
  refine wpAny_isTrue_Compare1 (thn (ha pins s σ H _ I h) fun v s1 ⟨x, H1, I1, r1, q1⟩ => thn (hb pins s1 σ H1 _ I1 q1) fun u s2 ⟨y, H2, I2, r2, q2⟩ =>
    thn (ho pins s2 σ H2 x y v u _ I2 r1 r2 q2) fun c s3 ⟨z, H3, I3, r3, q3⟩ => ?_) hm
  obtain ⟨k, e, q3⟩ := bu_of q3
  subst e
  cases r3
  exact wpAny_truthy_bool ⟨H3, I3, q3⟩
theorem pe_cmpU {op : CmpOp} {r : R2} {ta tb : TE} (ho : OpR X (compareOp op) r) (ha : PE X a ta) (hb : PE X b tb) (hm : behindInMarks op b = false := by first | exact nomark _ | rfl | (with_unfolding_all rfl)) : PE X (.Compare a [op] [b] pos) (tOp r ta tb) := pe_cmpR ho ha hb hm
def tAndU (ta tb : TE) : TE := fun σ H Q => ta σ H fun x H1 => match x with
  | .bl c => if c = true then tb σ H1 Q else Q (.bl false) H1
  | _ => False
variable {ta tb tc : TE} {rest : List Expr}
theorem pe_andU (ha : PE X a ta) (hb : PE X (.BoolOp .And (b :: rest) pos) tb) : PE X (.BoolOp .And (a :: b :: rest) pos) (tAndU ta tb) := by
  intro pins s σ H Q I h
  refine BoolOp_and (thn (ha pins s σ H _ I h) fun v s1 ⟨x, H1, I1, r1, q1⟩ => ?_)
  dsimp only at q1
  split at q1
  · rename_i c
    cases r1
    refine wpAny_truthy_bool ?_
    cases c with
    | true => exact hb pins s1 σ H1 Q I1 q1
    | false => exact ⟨.bl false, H1, I1, rfl, q1⟩
  · exact q1.elim
theorem CallR.of {f : Value} {r r' : List V → Hp → VK → Prop} (h : CallR X f r) (k : ∀ xs H Q, r' xs H Q → r xs H Q) : CallR X f r' := fun pins s σ H xs us Q I rx q => h pins s σ H xs us Q I rx (k _ _ _ q)
theorem MtM.of {id : String} {r r' : V → List V → Hp → VK → Prop} (h : MtM X id r) (k : ∀ x xs H Q, r' x xs H Q → r x xs H Q) : MtM X id r' := fun pins s σ H x xs v us Q I rx rs q => h pins s σ H x xs v us Q I rx rs (k _ _ _ _ q)
def lenV (H : Hp) (x : V) : Option Nat := match x with
  | .str z => if z.length ≤ sizeLine then some z.length else none
  | .ref p => match H p with
    | some (.lst xs) => some xs.length
    | some (.tup xs) => some xs.length
    | some (.frz _ (.lst xs)) => some xs.length
    | _ => none
  | _ => none
def rLen : List V → Hp → VK → Prop := fun vs H Q => match vs with
  | [x] => ∃ k : Nat, lenV H x = some k ∧ Q (.int k) H
  | _ => False
theorem call_lenU : CallR X (.builtin "len") rLen := (call_len_seq.or call_len_str).of fun xs H Q q => by
  unfold rLen at q
  split at q
  · obtain ⟨k, hk, q⟩ := q
    unfold lenV at hk
    split at hk
    · split at hk
      · rename_i hl
        cases hk
        exact .inr ⟨_, rfl, hl, q⟩
      · cases hk
    · split at hk
      · cases hk; exact .inl ⟨_, _, rfl, .inl (SqL.of (by assumption)), q⟩
      · cases hk; exact .inl ⟨_, _, rfl, .inr (SqT.of (by assumption)), q⟩
      · cases hk; exact .inl ⟨_, _, rfl, .inl (.inl (.inr ⟨_, by assumption⟩)), q⟩
      · cases hk
    · cases hk
  · exact q.elim
def rListOf : List V → Hp → VK → Prop := fun vs H Q => match vs with
  | [.ref p] => ∃ xs, (H p = some (.lst xs) ∨ H p = some (.tup xs)) ∧ ∀ l, H l = none → Q (.ref l) (upd H l (.lst xs))
  | _ => False
theorem call_listU : CallR X (.type "list") rListOf := call_list_of.of fun xs H Q q => by
  unfold rListOf at q
  split at q
  · obtain ⟨ys, h, q⟩ := q
    exact ⟨_, ys, rfl, h.elim (fun z => .inl (SqL.of z)) (fun z => .inr (SqT.of z)), q⟩
  · exact q.elim
def rMax : List V → Hp → VK → Prop := fun vs H Q => match vs with
  | [.int i, .int j] => Q (.int (if j > i then j else i)) H
  | _ => False
theorem call_maxU (hc : X.calm = true) : CallR X (.builtin "max") rMax := (call_max2 hc).of fun xs H Q q => by
  unfold rMax at q
  split at q
  · exact ⟨_, _, rfl, q⟩
  · exact q.elim
def rMin : List V → Hp → VK → Prop := fun vs H Q => match vs with
  | [.int i, .int j] => Q (.int (if j < i then j else i)) H
  | _ => False
theorem call_minU (hc : X.calm = true) : CallR X (.builtin "min") rMin := (call_min2 hc).of fun xs H Q q => by
  unfold rMin at q
  split at q
  · exact ⟨_, _, rfl, q⟩
  · exact q.elim
def rIntOf : List V → Hp → VK → Prop := fun vs H Q => match vs with
  | [.int i] => Q (.int i) H
  | [.bl k] => Q (.int (if k then 1 else 0)) H
  | [.str z] => ∃ k : Bool, z = bs [k] ∧ Q (.int (if k then 1 else 0)) H
  | _ => False
theorem call_intU : CallR X (.type "int") rIntOf := (call_int1.or call_int_bit).of fun xs H Q q => by
  unfold rIntOf at q
  split at q
  · exact .inl (.inl ⟨_, rfl, q⟩)
  · exact .inl (.inr ⟨_, rfl, q⟩)
  · obtain ⟨k, h, q⟩ := q
    exact .inr ⟨k, by rw [h, bs_if], q⟩
  · exact q.elim
def rIsI : List V → Hp → VK → Prop := fun vs H Q => match vs with
  | [x, .ty T] => ∃ Tx, tyN H x = some Tx ∧ T ∈ ["int", "bool", "list", "tuple", "str"] ∧ Q (.bl (Tx == T || (Tx == "bool" && T == "int"))) H
  | _ => False
theorem call_isU : CallR X (.builtin "isinstance") rIsI := call_isinst.of fun xs H Q q => by
  unfold rIsI at q
  split at q
  · obtain ⟨Tx, h1, h2, q⟩ := q
    exact ⟨_, _, Tx, rfl, h1, h2, q⟩
  · exact q.elim
def rApp : V → List V → Hp → VK → Prop := fun x vs H Q => match x, vs with
  | .ref l, [y] => ∃ xs, H l = some (.lst xs) ∧ xs.length < sizeLine ∧ Q .non (upd H l (.lst (xs ++ [y])))
  | _, _ => False
theorem mt_appU : MtM X "list.append" rApp := mt_append.of fun x xs H Q q => by
  unfold rApp at q
  split at q
  · obtain ⟨ys, h1, h2, q⟩ := q
    exact ⟨_, ys, _, rfl, rfl, h1, h2, q⟩
  · exact q.elim
def rStrip : V → List V → Hp → VK → Prop := fun x vs H Q => match x, vs with
  | .str z, [.str y] => z.length ≤ sizeLine ∧ Q (.str (Txt.stripChars z y)) H
  | _, _ => False
theorem mt_stripU : MtM X "str.strip" rStrip := mt_strip.of fun x xs H Q q => by
  unfold rStrip at q
  split at q
  · exact ⟨_, _, rfl, rfl, q⟩
  · exact q.elim
def tyU (H : Hp) (T : String) : V → Prop
  | .str _ => T = "str"
  | .int _ => T = "int"
  | .ref p => ∃ xs, T = "list" ∧ H p = some (.lst xs)
  | _ => False
theorem tyU_of {K : PySem.W.Frag} {H : Hp} {T : String} {x : V} (h : tyU H T x) : tyV K T x H := by
  cases x with
  | str z => exact h
  | int z => exact h
  | ref p => obtain ⟨xs, h1, h2⟩ := h; exact .inl ⟨h1, xs, SqL.of h2⟩
  | _ => exact h.elim
end
theorem le_line {n : Nat} (h : n ≤ 1000) : n ≤ sizeLine := Nat.le_trans h (by decide)
theorem lt_line {n : Nat} (h : n ≤ 1000) : n < sizeLine := Nat.lt_of_le_of_lt h (by decide)
theorem Same.upd {H : Hp} {p : Addr} {o : HO} (h : H p = none) : Same H (upd H p o) := fun b u e => by rw [upd_ne (ne_of_none e h)]; exact e
theorem atI_int {α : Type} {xs : List α} {i : Int} {v : α} (h0 : 0 ≤ i) (h : xs[i.toNat]? = some v) : atI xs i = some v := by
  have e : i = (i.toNat : Int) := by omega
  rw [e]
  exact atI_nat h
theorem gl {H : Hp} {p : Addr} {xs : List V} {i : Int} {v : V} (h : H p = some (.lst xs)) (h0 : 0 ≤ i) (hv : xs[i.toNat]? = some v) : getV H (.ref p) i = some v := by rw [getV_lst h]; exact atI_int h0 hv
theorem gt {H : Hp} {p : Addr} {xs : List V} {i : Int} {v : V} (h : H p = some (.tup xs)) (h0 : 0 ≤ i) (hv : xs[i.toNat]? = some v) : getV H (.ref p) i = some v := by rw [getV_tup h]; exact atI_int h0 hv
theorem lenL {H : Hp} {p : Addr} {xs : List V} (h : H p = some (.lst xs)) : lenV H (.ref p) = some xs.length := by simp [lenV, h]
theorem gs {H : Hp} {w : List Bool} {i : Int} {b : Bool} (hz : w.length ≤ sizeLine) (h0 : 0 ≤ i) (hv : w[i.toNat]? = some b) : getV H (.str (bs w)) i = some (.str (bs [b])) := by
  show (if (bs w).length ≤ sizeLine then (atI (bs w).cps.toList i).map fun c => V.str ⟨#[c]⟩ else none) = _
  rw [if_pos (by rw [bs_len]; exact hz)]
  have : atI (bs w).cps.toList i = some (sg b) := atI_int h0 (by show ((w.map sg).toArray.toList)[i.toNat]? = _; simp [hv])
  rw [this]
  rfl
theorem lenS {H : Hp} {w : List Bool} (hz : w.length ≤ sizeLine) : lenV H (.str (bs w)) = some w.length := by
  show (if (bs w).length ≤ sizeLine then some (bs w).length else none) = _
  rw [if_pos (by rw [bs_len]; exact hz), bs_len]
end L2
end
section
namespace L2
open PySem
end L2
end
section
set_option Elab.async false
set_option linter.all false
set_option maxRecDepth 100000
set_option maxHeartbeats 4000000
namespace L2
open PySem PySem.Spec PyProof.Rows

def FnX (K : PySem.W.Frag) (mg : Str → Option Value) (x : Str) (st : Stmt) (ps : List Str) : Prop := ∃ f fd, Fun K x x st f fd ∧ mg x = some (.ref f) ∧ Binds K fd ps []
def Can (P : Program) (w : World) (K : PySem.W.Frag) (mg : Str → Option Value) (base : Heap) (x : Str) (k : Nat) (ps : List Str) (sp : Sp) : Prop :=
  ∃ f fd, FnOk P w K mg base CX0 k f fd ps sp ∧ mg x = some (.ref f) ∧ PySem.W.keepIn K (.ref f) = true ∧ Binds K fd ps []
section
variable {P : Program} {w : World} {K : PySem.W.Frag} {mg : Str → Option Value} {base : Heap}
theorem can_fn {x : Str} {st : Stmt} {N ps : List Str} {k : Nat} {sp : Sp} (D : FnX K mg x st ps) (S : FnScope N ps (defScope st)) (len : ∀ vs H Q E, sp vs H Q E → vs.length = ps.length)
    (hbody : ∀ (f : Addr) (cdv : Value) (A : Around) (outer : List Env) (s : Shared) (H : Hp) (vs : List V) (Q : VK) (E : XK), Room k (A.deeper (envOfC x (defScope st) s.heap.objs.size f cdv)) → sp vs H Q E →
      ∃ t, PSs (cxOf CX0 P w K mg base N x (defScope st) f cdv A outer s H E).nox (defBody st) t ∧ t { nx := fun _ H' => Q .non H', rt := Q } (start N vs) H) : Can P w K mg base x (k + 1) ps sp := by
  obtain ⟨f, fd, F, hm, hb⟩ := D
  exact ⟨f, fd, F.ok S len fun cdv A outer s H vs Q E hr h => hbody f cdv A outer s H vs Q E hr h, hm, F.kp, hb⟩
end
section
variable {X : Cx} {x : Str} {p pos apos : Pos} {e o : Expr} {es : List Expr} {t : TA} {te to ti : TE} {k : Nat} {ps : List Str} {sp : Sp}
def tCan (sp : Sp) (t : TA) : TE := fun σ H Q => t σ H fun vs H1 => sp vs H1 Q E0
theorem PA.of {t t' : TA} (h : PA X es t) (k : ∀ σ H Q, t' σ H Q → t σ H Q) : PA X es t' := fun pos pins s σ H Q I q => h pos pins s σ H Q I (k _ _ _ q)
theorem pe_can (C : Can X.prog X.w X.K X.mg X.base x k ps sp) (hr : Room k X.A) (ha : PA X (e :: es) t) (hg : Gl X x := by rfl)
    (hdb : (x == ("__debug__" : Str)) = false := by decide) (he : starEach (e :: es) X.env = (false, eval e X.env) :: starEach es X.env := by rfl) (hpl : (backTo pos (starEach es X.env)).any (·.1) = false := by rfl) :
    PE X (.Call (.Name x p) (e :: es) [] pos) (tCan sp t) := by
  obtain ⟨f, fd, F, hm, hk, hb⟩ := C
  have h := pe_call (pos := pos) (p := p) F hr hg hm hk hb .nil pass0 ha hdb he hpl
  intro pins s σ H Q I q
  refine thn (h pins s σ H Q I ?_) fun _ _ z => z
  have ee : tCall sp [] E0 t = tCan sp t := by funext σ H Q; unfold tCall tCan; simp only [List.append_nil]
  rw [ee]
  exact q
theorem pe_len (hm : X.mg "len" = none) (ha : PA X (e :: es) t) (hg : Gl X "len" := by rfl) (he : starEach (e :: es) X.env = (false, eval e X.env) :: starEach es X.env := by rfl) (hpl : (backTo pos (starEach es X.env)).any (·.1) = false := by rfl) :
    PE X (.Call (.Name "len" p) (e :: es) [] pos) (tCB rLen t) := pe_callB call_lenU hg hm PySem.boot_len ha (he := he) (hpl := hpl)
theorem pe_isinst (hm : X.mg "isinstance" = none) (ha : PA X (e :: es) t) (hg : Gl X "isinstance" := by rfl) (he : starEach (e :: es) X.env = (false, eval e X.env) :: starEach es X.env := by rfl) (hpl : (backTo pos (starEach es X.env)).any (·.1) = false := by rfl) :
    PE X (.Call (.Name "isinstance" p) (e :: es) [] pos) (tCB rIsI t) := pe_callB call_isU hg hm PyProof.Rows.boot_isinstance ha (he := he) (hpl := hpl)
theorem pe_max (hc : X.calm = true) (hm : X.mg "max" = none) (ha : PA X (e :: es) t) (hg : Gl X "max" := by rfl) (he : starEach (e :: es) X.env = (false, eval e X.env) :: starEach es X.env := by rfl) (hpl : (backTo pos (starEach es X.env)).any (·.1) = false := by rfl) :
    PE X (.Call (.Name "max" p) (e :: es) [] pos) (tCB rMax t) := pe_callB (call_maxU hc) hg hm PyProof.Rows.boot_max ha (he := he) (hpl := hpl)
theorem pe_min (hc : X.calm = true) (hm : X.mg "min" = none) (ha : PA X (e :: es) t) (hg : Gl X "min" := by rfl) (he : starEach (e :: es) X.env = (false, eval e X.env) :: starEach es X.env := by rfl) (hpl : (backTo pos (starEach es X.env)).any (·.1) = false := by rfl) :
    PE X (.Call (.Name "min" p) (e :: es) [] pos) (tCB rMin t) := pe_callB (call_minU hc) hg hm PyProof.Rows.boot_min ha (he := he) (hpl := hpl)
theorem pe_intf (hm : X.mg "int" = none) (ha : PA X (e :: es) t) (hg : Gl X "int" := by rfl) (he : starEach (e :: es) X.env = (false, eval e X.env) :: starEach es X.env := by rfl) (hpl : (backTo pos (starEach es X.env)).any (·.1) = false := by rfl) :
    PE X (.Call (.Name "int" p) (e :: es) [] pos) (tCB rIntOf t) := pe_callTy call_intU hg hm PyProof.Rows.boot_int ha (he := he) (hpl := hpl)
theorem pe_listf (hm : X.mg "list" = none) (ha : PA X (e :: es) t) (hg : Gl X "list" := by rfl) (he : starEach (e :: es) X.env = (false, eval e X.env) :: starEach es X.env := by rfl) (hpl : (backTo pos (starEach es X.env)).any (·.1) = false := by rfl) :
    PE X (.Call (.Name "list" p) (e :: es) [] pos) (tCB rListOf t) := pe_callTy call_listU hg hm PyProof.Rows.boot_list ha (he := he) (hpl := hpl)
theorem pe_ty {T : String} (hb : bootBuiltins x = some (.type T)) (hm : X.mg x = none) (hg : Gl X x := by rfl) (hn : x ≠ "__name__" := by decide) (hd : (x == ("__debug__" : Str)) = false := by decide) : PE X (.Name x pos) (tC (.ty T)) := pe_bltn hg hm hb rfl hn hd

def tMt (T : String) (r : V → List V → Hp → VK → Prop) (to : TE) (t : TA) : TE := fun σ H Q => to σ H fun x H1 => tyU H1 T x ∧ t σ H1 fun xs H2 => r x xs H2 Q
theorem pe_mt {T id : String} {name : Str} {cpos : Pos} {r : V → List V → Hp → VK → Prop} (pa : PlainAttrs T) (slot : Slot T name id) (hty : typeOf (.builtin id) = pure (.type "method_descriptor")) (hm : MtM X id r) (ho : PE X o to) (ha : PA X (e :: es) t)
    (hbase : attributeBase o name X.env (eval o X.env) = eval o X.env := by rfl)
    (hfew : ((backTo cpos (starEach (e :: es) X.env)).all (fun x => !x.1) && (backToKw cpos (keywordEach [] X.env)).all (fun x => x.1.isSome)
      && decide ((e :: es).length + ([] : List Keyword).length + (if ([] : List Keyword).isEmpty then 0 else 1) < 30)) = true := by rfl)
    (hline : (apos.endLine == cpos.line) = true := by rfl) (hs : starEach (e :: es) X.env = (false, eval e X.env) :: starEach es X.env := by rfl) (hplain : (backTo cpos (starEach es X.env)).any (·.1) = false := by rfl) :
    PE X (.Call (.Attribute o name apos) (e :: es) [] cpos) (tMt T r to t) := by
  intro pins s σ H Q I h
  refine wpAny_Call_method_late hbase hfew hline rfl (thn (ho pins s σ H _ I h) fun v s1 ⟨x, H1, I1, r1, ty, q1⟩ => ?_)
  obtain ⟨h1, h2⟩ := tyV_is I1 r1 (tyU_of ty)
  refine ⟨T, id, pa, slot, hty, h1, h2, ?_⟩
  have hA := ha cpos pins s1 σ H1 _ I1 q1
  rw [hs] at hA ⊢
  refine Calls.callWith_builtin (by show (false || (backTo cpos (starEach es X.env)).any (·.1)) = false; rw [hplain] <;> rfl) (Calls.evalArgs_plain ?_)
  exact thn hA fun us s2 ⟨vs, H2, I2, r2, q2⟩ => hm pins s2 σ H2 x vs v us Q I2 r1 r2 q2
theorem pe_mt0 {T id : String} {name : Str} {cpos : Pos} {r : V → List V → Hp → VK → Prop} (pa : PlainAttrs T) (slot : Slot T name id) (hty : typeOf (.builtin id) = pure (.type "method_descriptor")) (hm : MtM X id r) (ho : PE X o to)
    (hbase : attributeBase o name X.env (eval o X.env) = eval o X.env := by rfl) (hline : (apos.endLine == cpos.line) = true := by rfl) : PE X (.Call (.Attribute o name apos) [] [] cpos) (tMt T r to tNil) := by
  intro pins s σ H Q I h
  refine wpAny_Call_method0_late hbase hline (thn (ho pins s σ H _ I h) fun v s1 ⟨x, H1, I1, r1, ty, q1⟩ => ?_)
  obtain ⟨h1, h2⟩ := tyV_is I1 r1 (tyU_of ty)
  exact ⟨T, id, pa, slot, hty, h1, h2, Calls.callWith_builtin rfl (PySem.evalArgs_none (hm pins s1 σ H1 x [] v [] Q I1 r1 .nil q1))⟩

def rSetU : V → V → V → Hp → (Hp → Prop) → Prop := fun o i v H Q => match o, i with
  | .ref p, .int k => ∃ xs j, H p = some (.lst xs) ∧ ixN xs.length k = some j ∧ Q (upd H p (.lst (xs.set j v)))
  | _, _ => False
theorem setU : PSet X rSetU := by
  intro pins s σ H o i v ov iv u Q I ro ri rv q
  refine set_list pins s σ H o i v ov iv u Q I ro ri rv ?_
  unfold rSetU at q
  split at q
  · obtain ⟨xs, j, h1, h2, q⟩ := q
    exact ⟨_, xs, _, j, rfl, rfl, h1, h2, q⟩
  · exact q.elim
def gTupU (K : PySem.W.Frag) (n : Nat) (t : TGs) : TG := fun v σ H Q => match v with
  | .ref a => ∃ xs, H a = some (.tup xs) ∧ xs.length = n ∧ t xs σ H Q
  | _ => False
def gConsU (t : TG) (u : TGs) : TGs := fun vs σ H Q => match vs with
  | v :: r => t v σ H fun σ' H' => u r σ' H' Q
  | [] => False
theorem pgs_consU {es : List Expr} {t : TG} {u : TGs} (h1 : PG X e t) (h2 : PGs X es u)
    (hs : (assignEach (e :: es) X.env).map (·.2) = assign e X.env :: (assignEach es X.env).map (·.2) := by rfl) : PGs X (e :: es) (gConsU t u) := by
  intro pins s σ H vs us Q I r hw
  refine pgs_cons h1 h2 hs pins s σ H vs us Q I r ?_
  unfold gConsU at hw
  split at hw
  · exact ⟨_, _, rfl, hw⟩
  · exact hw.elim
variable {tg : Expr}
def iLst (K : PySem.W.Frag) (tl : TE) : TI := fun σ H R => tl σ H fun x H1 => match x with
  | .ref a => (∃ xs, SqL K H1 a xs) ∧ R (Itl K a) H1
  | _ => False
theorem pi_lst {l : Expr} {tl : TE} (hl : PE X l tl) : PI X tg l (iLst X.K tl) := by
  intro pins s σ H R I h
  refine thn (hl pins s σ H _ I h) fun v s1 ⟨x, H1, I1, r1, q1⟩ => ?_
  dsimp only at q1
  split at q1
  · rename_i a
    obtain ⟨⟨xs, hq⟩, q⟩ := q1
    cases r1
    obtain ⟨its, rv, p, hz⟩ := I1.list hq
    refine wpAny_pyIter_list p.isList ?_
    refine ⟨s1.heap.objs.size, [s1.heap.objs.size], _, _, H1, rfl, I1.kept (t' := s1.toks) fun b o e => Heap.get?_push_of_some _ e, turn_list a _, ⟨_, Heap.get?_push_size _ rfl, rfl, rfl⟩, fun b hb => ?_, q⟩
    have e : b = s1.heap.objs.size := by simpa using hb
    subst e
    exact I1.fpOk (Nat.le_refl _) (I1.hok.fresh (Nat.le_refl _))
  · exact q1.elim
def iR1 (ta : TA) : TI := fun σ H R => ta σ H fun vs H1 => match vs with
  | [.int j] => -(2 ^ 62) ≤ j ∧ j < 2 ^ 62 ∧ R (Itr 0 j.toNat) H1
  | _ => False
theorem PI.of {iter : Expr} {w w' : TI} (h : PI X tg iter w) (k : ∀ σ H R, w' σ H R → w σ H R) : PI X tg iter w' := fun pins s σ H R I q => h pins s σ H R I (k _ _ _ q)
theorem pi_r1 {a : Expr} {ta : TA} (hm : X.mg "range" = none) (ha : PA X [a] ta) (hg : Gl X "range" := by rfl) (hs : starEach [a] X.env = [(false, eval a X.env)] := by rfl) : PI X tg (.Call (.Name "range" p) [a] [] pos) (iR1 ta) := by
  intro pins s σ H R I h
  refine Call_ (ld_blt I hg hm boot_range (PyProof.Rows.callWith_type1 (thn (ha pos pins s σ H _ I h) fun us s1 ⟨vs, H1, I1, r1, q1⟩ => ?_) hs rfl))
  dsimp only at q1
  split at q1
  · obtain ⟨q1, q2, q⟩ := q1
    obtain ⟨u, rfl, t, rfl⟩ := vals1 r1
    exact call_range_1 (range_it I1 (by omega) (by omega) q1 q2 (by simpa using q))
  · exact q1.elim
def iR2 (ta : TA) : TI := fun σ H R => ta σ H fun vs H1 => match vs with
  | [.int i, .int j] => (-(2 ^ 62) ≤ i ∧ i < 2 ^ 62 ∧ -(2 ^ 62) ≤ j ∧ j < 2 ^ 62) ∧ R (Itr i (j - i).toNat) H1
  | _ => False
theorem pi_r2 {a b : Expr} {ta : TA} (hm : X.mg "range" = none) (ha : PA X [a, b] ta) (hg : Gl X "range" := by rfl) (hs : starEach [a, b] X.env = [(false, eval a X.env), (false, eval b X.env)] := by rfl) (hs2 : starEach [b] X.env = [(false, eval b X.env)] := by rfl) :
    PI X tg (.Call (.Name "range" p) [a, b] [] pos) (iR2 ta) := by
  intro pins s σ H R I h
  refine Call_ (ld_blt I hg hm boot_range (PyProof.Rows.callWith_type1 (thn (ha pos pins s σ H _ I h) fun us s1 ⟨vs, H1, I1, r1, q1⟩ => ?_) (by rw [hs, hs2]) (by rw [hs2]; rfl)))
  dsimp only at q1
  split at q1
  · obtain ⟨⟨q1, q2, q3, q4⟩, q⟩ := q1
    obtain ⟨u, u2, rfl, ⟨t, rfl⟩, ⟨t', rfl⟩⟩ := vals2 r1
    exact call_range_2 (range_it I1 q1 q2 q3 q4 q)
  · exact q1.elim
end
end L2
end
section
set_option Elab.async false
set_option linter.all false
set_option maxRecDepth 100000
set_option maxHeartbeats 4000000
namespace L2
open PySem PySem.Spec PyProof.Rows
def visB (sc : Scope) (x : Str) : Bool := (match sc.names.lookup x with
  | some .local => true
  | some .cell => true
  | some .free => true
  | _ => false) && (!(x == ("__debug__" : Str)) && !(x == ("__classdict__" : Str)))
theorem vis_of {sc : Scope} {x : Str} (h : visB sc x = true) : Vis sc x ∧ (x == ("__debug__" : Str)) = false ∧ (x == ("__classdict__" : Str)) = false := by
  unfold visB at h
  simp only [Bool.and_eq_true, Bool.not_eq_true'] at h
  obtain ⟨h1, h2, h3⟩ := h
  refine ⟨?_, h2, h3⟩
  split at h1
  · exact .inl (by assumption)
  · exact .inr (.inl (by assumption))
  · exact .inr (.inr (by assumption))
  · cases h1
def locB (sc : Scope) (x : Str) : Bool := match sc.names.lookup x with
  | some .local => true
  | some .cell => true
  | _ => false
theorem loc_of {sc : Scope} {x : Str} (h : locB sc x = true) : Loc sc x := by
  unfold locB at h
  split at h
  · exact .inl (by assumption)
  · exact .inr (by assumption)
  · cases h
section
variable {X : Cx} {x : Str} {pos : Pos}
theorem vk (i : Nat) (hN : X.N[i]? = some x := by rfl) (hv : visB X.env.scope x = true := by kernel_rfl) : PE X (.Name x pos) (tV i) :=
  vr i hN (vis_of hv).1 (vis_of hv).2.1 (vis_of hv).2.2
theorem gk (i : Nat) (hN : X.N.Nodup) (hi : X.N[i]? = some x := by rfl) (hx : locB X.env.scope x = true := by kernel_rfl) (hf : (X.fn x || X.env.scope.names.lookup x == some .local) = true := by kernel_rfl) : PG X (.Name x pos) (gName i) :=
  pg_name hN hi (loc_of hx) (by
    rw [Bool.or_eq_true] at hf
    exact hf.elim .inl fun z => .inr (eq_of_beq z))
theorem vn (x : Str) (i : Nat) (hN : X.N[i]? = some x := by with_unfolding_all rfl) (hv : visB X.env.scope x = true := by kernel_rfl) : PE X (.Name x pos) (tV i) := vk i hN hv
theorem gn (x : Str) (i : Nat) (hN : X.N.Nodup) (hi : X.N[i]? = some x := by with_unfolding_all rfl) (hx : locB X.env.scope x = true := by kernel_rfl) (hf : (X.fn x || X.env.scope.names.lookup x == some .local) = true := by kernel_rfl) : PG X (.Name x pos) (gName i) := gk i hN hi hx hf
def gB (X : Cx) (x : Str) : Bool := X.env.scope.names.lookup x == some .globalImplicit
theorem gl_of (h : gB X x = true) : Gl X x := eq_of_beq h
variable {p apos : Pos} {e o : Expr} {es : List Expr} {t : TA} {te to ti : TE} {k : Nat} {ps : List Str} {sp : Sp} {tg : Expr}
theorem fn_can (x : Str) {P' : Program} {w' : World} {K' : PySem.W.Frag} {mg' : Str → Option Value} {base' : Heap} (C : Can P' w' K' mg' base' x k ps sp) (hX : X.prog = P' ∧ X.w = w' ∧ X.K = K' ∧ X.mg = mg' ∧ X.base = base') (hr : Room k X.A) (ha : PA X (e :: es) t) (hg : gB X x = true := by kernel_rfl)
    (hdb : (x == ("__debug__" : Str)) = false := by kernel_rfl) (he : starEach (e :: es) X.env = (false, eval e X.env) :: starEach es X.env := by kernel_rfl) (hpl : (backTo pos (starEach es X.env)).any (·.1) = false := by kernel_rfl) :
    PE X (.Call (.Name x p) (e :: es) [] pos) (tCan sp t) := by
  obtain ⟨rfl, rfl, rfl, rfl, rfl⟩ := hX
  exact pe_can C hr ha (gl_of hg) hdb he hpl
theorem fn_len {mg' : Str → Option Value} (hm : mg' "len" = none) (hX : X.mg = mg') (ha : PA X (e :: es) t) (hg : gB X "len" = true := by kernel_rfl) (he : starEach (e :: es) X.env = (false, eval e X.env) :: starEach es X.env := by kernel_rfl) (hpl : (backTo pos (starEach es X.env)).any (·.1) = false := by kernel_rfl) :
    PE X (.Call (.Name "len" p) (e :: es) [] pos) (tCB rLen t) := pe_len (by rw [hX]; exact hm) ha (gl_of hg) he hpl
theorem fn_isinst {mg' : Str → Option Value} (hm : mg' "isinstance" = none) (hX : X.mg = mg') (ha : PA X (e :: es) t) (hg : gB X "isinstance" = true := by kernel_rfl) (he : starEach (e :: es) X.env = (false, eval e X.env) :: starEach es X.env := by kernel_rfl) (hpl : (backTo pos (starEach es X.env)).any (·.1) = false := by kernel_rfl) :
    PE X (.Call (.Name "isinstance" p) (e :: es) [] pos) (tCB rIsI t) := pe_isinst (by rw [hX]; exact hm) ha (gl_of hg) he hpl
theorem fn_max {mg' : Str → Option Value} (hm : mg' "max" = none) (hX : X.mg = mg') (ha : PA X (e :: es) t) (hc : X.calm = true := by kernel_rfl) (hg : gB X "max" = true := by kernel_rfl) (he : starEach (e :: es) X.env = (false, eval e X.env) :: starEach es X.env := by kernel_rfl) (hpl : (backTo pos (starEach es X.env)).any (·.1) = false := by kernel_rfl) :
    PE X (.Call (.Name "max" p) (e :: es) [] pos) (tCB rMax t) := pe_max hc (by rw [hX]; exact hm) ha (gl_of hg) he hpl
theorem fn_min {mg' : Str → Option Value} (hm : mg' "min" = none) (hX : X.mg = mg') (ha : PA X (e :: es) t) (hc : X.calm = true := by kernel_rfl) (hg : gB X "min" = true := by kernel_rfl) (he : starEach (e :: es) X.env = (false, eval e X.env) :: starEach es X.env := by kernel_rfl) (hpl : (backTo pos (starEach es X.env)).any (·.1) = false := by kernel_rfl) :
    PE X (.Call (.Name "min" p) (e :: es) [] pos) (tCB rMin t) := pe_min hc (by rw [hX]; exact hm) ha (gl_of hg) he hpl
theorem fn_int {mg' : Str → Option Value} (hm : mg' "int" = none) (hX : X.mg = mg') (ha : PA X (e :: es) t) (hg : gB X "int" = true := by kernel_rfl) (he : starEach (e :: es) X.env = (false, eval e X.env) :: starEach es X.env := by kernel_rfl) (hpl : (backTo pos (starEach es X.env)).any (·.1) = false := by kernel_rfl) :
    PE X (.Call (.Name "int" p) (e :: es) [] pos) (tCB rIntOf t) := pe_intf (by rw [hX]; exact hm) ha (gl_of hg) he hpl
theorem fn_list {mg' : Str → Option Value} (hm : mg' "list" = none) (hX : X.mg = mg') (ha : PA X (e :: es) t) (hg : gB X "list" = true := by kernel_rfl) (he : starEach (e :: es) X.env = (false, eval e X.env) :: starEach es X.env := by kernel_rfl) (hpl : (backTo pos (starEach es X.env)).any (·.1) = false := by kernel_rfl) :
    PE X (.Call (.Name "list" p) (e :: es) [] pos) (tCB rListOf t) := pe_listf (by rw [hX]; exact hm) ha (gl_of hg) he hpl
theorem ty_bool {mg' : Str → Option Value} (hm : mg' "bool" = none) (hX : X.mg = mg') (hg : gB X "bool" = true := by kernel_rfl) : PE X (.Name "bool" pos) (tC (.ty "bool")) := pe_ty PyProof.Rows.boot_bool (by rw [hX]; exact hm) (gl_of hg)
theorem ty_str {mg' : Str → Option Value} (hm : mg' "str" = none) (hX : X.mg = mg') (hg : gB X "str" = true := by kernel_rfl) : PE X (.Name "str" pos) (tC (.ty "str")) := pe_ty PyProof.Rows.boot_str (by rw [hX]; exact hm) (gl_of hg)
theorem it_r1 {a : Expr} {ta : TA} {mg' : Str → Option Value} (hm : mg' "range" = none) (hX : X.mg = mg') (ha : PA X [a] ta) (hg : gB X "range" = true := by kernel_rfl) (hs : starEach [a] X.env = [(false, eval a X.env)] := by kernel_rfl) : PI X tg (.Call (.Name "range" p) [a] [] pos) (iR1 ta) := pi_r1 (by rw [hX]; exact hm) ha (gl_of hg) hs
theorem it_r2 {a b : Expr} {ta : TA} {mg' : Str → Option Value} (hm : mg' "range" = none) (hX : X.mg = mg') (ha : PA X [a, b] ta) (hg : gB X "range" = true := by kernel_rfl) (hs : starEach [a, b] X.env = [(false, eval a X.env), (false, eval b X.env)] := by kernel_rfl) (hs2 : starEach [b] X.env = [(false, eval b X.env)] := by kernel_rfl) :
    PI X tg (.Call (.Name "range" p) [a, b] [] pos) (iR2 ta) := pi_r2 (by rw [hX]; exact hm) ha (gl_of hg) hs hs2
theorem ix_at {a b : Expr} {ta tb : TE} (ha : PE X a ta) (hb : PE X b tb) (hs : ∀ o i, subscripted b false o i = operate [o, i] (getItem o i) := by intro _ _; kernel_rfl) : PE X (.Subscript a b pos) (tOp rIxU ta tb) := pe_ix ixU ha hb hs
theorem a_cons {e : Expr} {es : List Expr} {te : TE} {t : TA} (ha : PE X e te) (hr : PA X es t) (hs : starEach (e :: es) X.env = (false, eval e X.env) :: starEach es X.env := by kernel_rfl) : PA X (e :: es) (tCons te t) := pa_cons ha hr hs
theorem t_cmp {op : CmpOp} {r : R2} {a b : Expr} {ta tb : TE} (ho : OpR X (compareOp op) r) (ha : PE X a ta) (hb : PE X b tb) (hm : behindInMarks op b = false := by kernel_rfl) : PT X (.Compare a [op] [b] pos) (tBU (tOp r ta tb)) := pt_cmpU ho ha hb hm
theorem e_cmp {op : CmpOp} {r : R2} {a b : Expr} {ta tb : TE} (ho : OpR X (compareOp op) r) (ha : PE X a ta) (hb : PE X b tb) (hm : behindInMarks op b = false := by kernel_rfl) : PE X (.Compare a [op] [b] pos) (tOp r ta tb) := pe_cmpU ho ha hb hm
theorem s_asg {tg e : Expr} {te : TE} {g : TG} (he : PE X e te) (hg : PG X tg g) (hs : swapsWithSole [tg] e pos.line X.env = pure false := by kernel_rfl) (hw : swappedStores [tg] e X.env = pure none := by kernel_rfl)
    (h1 : (assignEach [tg] X.env).map (·.2) = [assign tg X.env] := by kernel_rfl) : PS X (.Assign [tg] e pos) (tAsg te g) := ps_asg he hg hs hw h1
theorem s_expr {e : Expr} {te : TE} (he : PE X e te) (hs : swapsWith e none pos.line X.env = pure false := by kernel_rfl) : PS X (.Expr e pos) (tDrop te) := ps_expr he hs
theorem s_for {iter : Expr} {body : List Stmt} {wi : TI} {g : TG} {tb : TS} (hi : PI X tg iter wi) (hg : PG X tg g) (hb : PSs X body tb) (hp : PassesOwn (model X.prog X.w) X.A X.env X.xe := by exact PassesOwn.never) (hc : X.calm = true := by kernel_rfl)
    (hs : ∀ x, foldedSetIterable iter X.env x = pure x := by intro _; kernel_rfl) : PS X (.For tg iter body [] pos) (tFor wi g tb) := ps_for hp hc hi hg hb hs
theorem s_while {c : Expr} {body : List Stmt} {tc : TT} {tb : TS} (hc : PT X c tc) (hb : PSs X body tb) (hp : PassesOwn (model X.prog X.w) X.A X.env X.xe := by exact PassesOwn.never) : PS X (.While c body [] pos) (tWhile tc tb) := ps_while hp hc hb
theorem gs_cons {es : List Expr} {t : TG} {u : TGs} (h1 : PG X e t) (h2 : PGs X es u)
    (hs : (assignEach (e :: es) X.env).map (·.2) = assign e X.env :: (assignEach es X.env).map (·.2) := by kernel_rfl) : PGs X (e :: es) (gConsU t u) := pgs_consU h1 h2 hs
theorem m_append {cpos : Pos} (ho : PE X o to) (ha : PA X (e :: es) t)
    (hbase : attributeBase o "append" X.env (eval o X.env) = eval o X.env := by kernel_rfl)
    (hfew : ((backTo cpos (starEach (e :: es) X.env)).all (fun x => !x.1) && (backToKw cpos (keywordEach [] X.env)).all (fun x => x.1.isSome)
      && decide ((e :: es).length + ([] : List Keyword).length + (if ([] : List Keyword).isEmpty then 0 else 1) < 30)) = true := by kernel_rfl)
    (hline : (apos.endLine == cpos.line) = true := by kernel_rfl) (hs : starEach (e :: es) X.env = (false, eval e X.env) :: starEach es X.env := by kernel_rfl) (hplain : (backTo cpos (starEach es X.env)).any (·.1) = false := by kernel_rfl) :
    PE X (.Call (.Attribute o "append" apos) (e :: es) [] cpos) (tMt "list" rApp to t) := pe_mt PySem.F.plainAttrs_list PySem.F.slot_list_append PySem.F.type_list_append mt_appU ho ha hbase hfew hline hs hplain
theorem m_strip {cpos : Pos} (ho : PE X o to) (ha : PA X (e :: es) t)
    (hbase : attributeBase o "strip" X.env (eval o X.env) = eval o X.env := by kernel_rfl)
    (hfew : ((backTo cpos (starEach (e :: es) X.env)).all (fun x => !x.1) && (backToKw cpos (keywordEach [] X.env)).all (fun x => x.1.isSome)
      && decide ((e :: es).length + ([] : List Keyword).length + (if ([] : List Keyword).isEmpty then 0 else 1) < 30)) = true := by kernel_rfl)
    (hline : (apos.endLine == cpos.line) = true := by kernel_rfl) (hs : starEach (e :: es) X.env = (false, eval e X.env) :: starEach es X.env := by kernel_rfl) (hplain : (backTo cpos (starEach es X.env)).any (·.1) = false := by kernel_rfl) :
    PE X (.Call (.Attribute o "strip" apos) (e :: es) [] cpos) (tMt "str" rStrip to t) := pe_mt PySem.F.plainAttrs_str PySem.F.slot_str_strip PySem.F.type_str_strip mt_stripU ho ha hbase hfew hline hs hplain
theorem c_comp (N : List Str) (js : List Nat) {elt target iter : Expr} {ifs : List Expr} {scope : Scope} {wi : TI} {g : TG} {tt : TT} {te : TE} (hN : N.Nodup) (hi : PI X target iter wi)
    (hg : ∀ cl C s H fp, PG (X.block scope cl C N s H fp) target g) (ht : ∀ cl C s H fp, PF (X.block scope cl C N s H fp) ifs tt) (he : ∀ cl C s H fp, PE (X.block scope cl C N s H fp) elt te)
    (hok : compOk X.env.scope X.N scope N js = true := by kernel_rfl) (hc : X.calm = true := by kernel_rfl) (hk : scope.kind = .function := by kernel_rfl) (hs : ∀ x, foldedSetIterable iter X.env x = pure x := by intro _; kernel_rfl) :
    PE X (.ListComp elt [⟨target, iter, ifs, 0⟩] scope pos) (tComp (N.length - js.length) js wi g tt te) := pe_comp N js hok hN hc hi hg ht he hk hs
end
end L2
end
section
set_option Elab.async false
set_option linter.all false
set_option maxRecDepth 100000
set_option maxHeartbeats 4000000
namespace L2
open PySem PySem.Spec PyProof.Rows
def Off (F : Addr → Prop) (H H' : Hp) : Prop := ∀ b o, H b = some o → ¬ F b → H' b = some o
structure Deck (F : Addr → Prop) (H : Hp) (a : Addr) : Prop where
  ex : ∃ (p : Addr) (qs : List Addr) (n : Int), H a = some (.lst [.ref p, .int n]) ∧ H p = some (.lst (qs.map V.ref)) ∧ 0 < qs.length ∧ qs.length ≤ 63 ∧ (∀ q ∈ qs, ∃ c f m, H q = some (.lst [.int c, .int f, .int m])) ∧ ∀ b, F b ↔ b = a ∨ b = p ∨ b ∈ qs
theorem Off.refl {F : Addr → Prop} {H : Hp} : Off F H H := fun _ _ e _ => e
theorem Off.trans {F : Addr → Prop} {H H1 H2 : Hp} (h : Off F H H1) (k : Off F H1 H2) : Off F H H2 := fun b o e n => k b o (h b o e n) n
theorem Same.off {F : Addr → Prop} {H H1 : Hp} (h : Same H H1) : Off F H H1 := fun b o e _ => h b o e
theorem Deck.same {F : Addr → Prop} {H H1 : Hp} {a : Addr} (h : Deck F H a) (k : Same H H1) : Deck F H1 a := by
  obtain ⟨p, qs, n, h1, h2, h3, h4, h5, h6⟩ := h.ex
  exact ⟨p, qs, n, k _ _ h1, k _ _ h2, h3, h4, fun q hq => let ⟨c, f, m, e⟩ := h5 q hq; ⟨c, f, m, k _ _ e⟩, h6⟩
theorem Deck.there {F : Addr → Prop} {H : Hp} {a b : Addr} (h : Deck F H a) (hb : F b) : ∃ o, H b = some o := by
  obtain ⟨p, qs, n, h1, h2, h3, h4, h5, h6⟩ := h.ex
  rcases (h6 b).mp hb with rfl | rfl | z
  · exact ⟨_, h1⟩
  · exact ⟨_, h2⟩
  · obtain ⟨c, f, m, e⟩ := h5 b z
    exact ⟨_, e⟩
theorem Deck.new {F : Addr → Prop} {H : Hp} {a b : Addr} (h : Deck F H a) (hb : H b = none) : ¬ F b := fun z => by
  obtain ⟨o, e⟩ := h.there z
  rw [hb] at e
  cases e
end L2
namespace L2
open PySem PySem.Spec PyProof.Rows
section
variable {H : Hp}
theorem DV.lst_inv {v : V} {ds : List PyData} (h : DV H v (.list ds)) : ∃ a xs, v = .ref a ∧ H a = some (.lst xs) ∧ DVs H xs ds := by
  cases h with
  | lst h r => exact ⟨_, _, rfl, h, r⟩
theorem DV.tup_inv {v : V} {ds : List PyData} (h : DV H v (.tuple ds)) : ∃ a xs, v = .ref a ∧ H a = some (.tup xs) ∧ DVs H xs ds := by
  cases h with
  | tup h r => exact ⟨_, _, rfl, h, r⟩
theorem DV.int_inv {v : V} {i : Int} (h : DV H v (.int i)) : v = .int i := by cases h; rfl
theorem DV.str_inv {v : V} {x : Str} (h : DV H v (.str x)) : v = .str x := by cases h; rfl
theorem DVs.length : ∀ {xs : List V} {ds : List PyData}, DVs H xs ds → xs.length = ds.length
  | _, _, .nil => rfl
  | _, _, .cons _ r => by rw [List.length_cons, List.length_cons, DVs.length r]
theorem DVs.get : ∀ {xs : List V} {ds : List PyData} {i : Nat} {d : PyData}, DVs H xs ds → ds[i]? = some d → ∃ x, xs[i]? = some x ∧ DV H x d
  | _, _, _, _, .nil, h => by simp at h
  | _, _, 0, _, .cons h _, e => by
    simp at e
    subst e
    exact ⟨_, rfl, h⟩
  | _, _, i + 1, d, .cons _ r, e => by
    obtain ⟨x, h1, h2⟩ := DVs.get (i := i) (d := d) r (by simpa using e)
    exact ⟨x, by simpa using h1, h2⟩
theorem DVs.app : ∀ {xs ys : List V} {ds es : List PyData}, DVs H xs ds → DVs H ys es → DVs H (xs ++ ys) (ds ++ es)
  | _, _, _, _, .nil, s => s
  | _, _, _, _, .cons h r, s => .cons h (DVs.app r s)
theorem DVs.ints : ∀ (ns : List Int), DVs H (ns.map V.int) (ns.map PyData.int)
  | [] => .nil
  | n :: r => .cons (.int n) (DVs.ints r)
theorem DVs.strs : ∀ (ws : List Str), DVs H (ws.map V.str) (ws.map PyData.str)
  | [] => .nil
  | n :: r => .cons (.str n) (DVs.strs r)
end
end L2
end
section
namespace Om
abbrev Rows := List (List (List Bool × Nat))
structure CodeOk (k n : Nat) (rows : Rows) : Prop where
  k1 : 1 ≤ k
  k3 : k ≤ 3
  n1 : 1 ≤ n
  n6 : n ≤ 6
  s1 : 1 ≤ rows.length
  s8 : rows.length ≤ 8
  len : ∀ st ∈ rows, st.length = 2 ^ k
  row : ∀ st ∈ rows, ∀ r ∈ st, r.1.length = n ∧ r.2 < rows.length
def step (rows : Rows) (s l : Nat) : List Bool × Nat := (rows.getD s []).getD l ([], 0)
end Om
end
section
set_option Elab.async false
set_option linter.all false
set_option maxRecDepth 100000
set_option maxHeartbeats 4000000
namespace L2
open PySem PySem.Spec PyProof.Rows
theorem tw_all {α : Type} {p : α → Bool} : ∀ {l : List α}, (∀ x ∈ l, p x = true) → l.takeWhile p = l
  | [], _ => rfl
  | a :: l, h => by rw [List.takeWhile_cons, if_pos (h a List.mem_cons_self), tw_all fun x hx => h x (List.mem_cons_of_mem _ hx)]
theorem strip01 (w : List Bool) : Txt.stripChars (bs w) ("01" : Str) = bs [] := by
  unfold Txt.stripChars
  rw [stripBy_eq]
  have hg : ∀ b : Bool, (("01" : Str).cps.contains (sg b)) = true := by intro b; cases b <;> decide +kernel
  have hlo : stripLo ("01" : Str).cps.contains true (bs w) = w.length := by
    unfold stripLo
    rw [if_pos rfl]
    have e : (bs w).cps.toList = w.map sg := by show (w.map sg).toArray.toList = _; simp
    rw [e]
    have : (w.map sg).takeWhile ("01" : Str).cps.contains = w.map sg := tw_all fun x hx => by
      obtain ⟨b, _, rfl⟩ := List.mem_map.mp hx
      exact hg b
    rw [this, List.length_map]
  rw [hlo]
  show (⟨((w.map sg).toArray).extract w.length _⟩ : Str) = bs []
  have : ∀ j, ((w.map sg).toArray).extract w.length j = #[] := fun j => by
    apply Array.ext'
    simp
  rw [this]
  rfl
def rowD (r : List Bool × Nat) : PyData := .tuple [.str (bs r.1), .int (r.2 : Nat)]
def stateD (st : List (List Bool × Nat)) : PyData := .list (st.map rowD)
def codeD (k n : Nat) (rows : Om.Rows) : PyData := .tuple [.int (k : Nat), .int (n : Nat), .list (rows.map stateD)]
end L2
namespace L2
open PySem PySem.Spec PyProof.Rows
theorem comp_map1 {J : It} {D : Addr} {xs : List V} {ok : Hp → Prop} {te : TE} {Q : Hp → Prop} {v0 : Option V} {fr : St} {H : Hp} (IO : ItOk J xs ok) (f : V → V) (hz : xs.length ≤ sizeLine) (hok : ∀ o, ok (upd H D o))
    (hs : ∀ (i : Nat) (x : V) (ys : List V), xs[i]? = some x → ∀ C : VK, C (f x) (upd H D (.lst ys)) → te (some x :: fr) (upd H D (.lst ys)) C)
    (hd : Q (upd H D (.lst (xs.map f)))) :
    ∃ W : Nat → Nat → St → Hp → List V → Prop, (∃ m, W 0 m (v0 :: fr) (upd H D (.lst [])) []) ∧ ∀ i m τ H2 ys, W i m τ H2 ys → H2 D = some (.lst ys) ∧
      ((J.stop i H2 ∧ Q H2) ∨ (J.go i H2 ∧ ys.length < sizeLine ∧ ∃ N : St → Hp → List V → Prop, (∀ τ' H' ys', N τ' H' ys' → ∃ m', m' < m ∧ W (i + 1) m' τ' H' ys') ∧ ∀ x H3, J.yld i H2 x H3 → gName 0 x τ H3 fun τ4 H4 => tYes τ4 H4 fun b H5 =>
        if b = true then te τ4 H5 fun y H6 => H6 D = some (.lst ys) ∧ N τ4 (upd H6 D (.lst (ys ++ [y]))) (ys ++ [y])
        else N τ4 H5 ys)) := by
  refine comp_by IO (fun i τ H2 ys => (∃ v, τ = v :: fr) ∧ H2 = upd H D (.lst ys) ∧ ys = (xs.take i).map f ∧ i ≤ xs.length) hz ⟨⟨v0, rfl⟩, rfl, rfl, Nat.zero_le _⟩ ?_ ?_ ?_
  · rintro i τ H2 ys hi ⟨_, rfl, rfl, _⟩
    exact ⟨hok _, upd_same, by simp [List.length_take]; omega⟩
  · rintro i x τ H2 ys hi hx ⟨⟨v, rfl⟩, rfl, rfl, _⟩
    refine hs i x _ hx _ ⟨upd_same, ⟨_, rfl⟩, upd_upd, ?_, hi⟩
    rw [List.take_add_one, hx, List.map_append]
    rfl
  · rintro τ H2 ys ⟨_, rfl, rfl, _⟩
    rw [List.take_length]
    exact hd
theorem SqL.upd {K : PySem.W.Frag} {H : Hp} {a D : Addr} {xs : List V} {o : HO} (h : H a = some (.lst xs)) (hD : H D = none) : SqL K (upd H D o) a xs := SqL.of (Same.upd hD _ _ h)
end L2
end
section
set_option Elab.async false
set_option linter.all false
set_option maxRecDepth 100000
set_option maxHeartbeats 4000000
namespace L2
open PySem PySem.Spec PyProof.Rows
section
variable {prog : Program} {w : World} {A : Around} {E : Value → Shared → Prop}
theorem draw_list {it l : Addr} {items : Array Value} (hne : l ≠ it) : ∀ (n i : Nat) (s : Shared) (Q : List Value → Shared → Prop), s.heap.IsListIter it l i → s.heap.IsList l items → i + n ≤ items.size →
    (∀ h', h'.IsListIter it l (i + n) → Heap.SameBut it s.heap h' → Q ((items.toList.drop i).take n) { s with heap := h' }) → wpAny (model prog w) A (draw (.ref it) n) Q E s
  | 0, i, s, Q, hit, _, _, hQ => by
    show wpAny _ _ (pure []) Q E s
    exact wpAny_pure (by simpa using hQ s.heap hit (Heap.SameBut.refl ..))
  | n + 1, i, s, Q, hit, ht, hle, hQ => by
    have hlt : i < items.size := by omega
    show wpAny _ _ (pyNext (.ref it) >>= _) Q E s
    refine wpAny_bind (wpAny_pyNext_list_item hit ht (x := items[i]) (by simp [hlt]) fun h₁ hit₁ hs₁ => ?_)
    refine wpAny_bind (wpAny_holding (draw_list hne n (i + 1) _ _ hit₁ (ht.extBut hs₁.extBut hne) (by omega) fun h₂ hit₂ hs₂ => wpAny_pure ?_))
    have hd : items.toList.drop i = items[i] :: items.toList.drop (i + 1) := by simp [List.drop_eq_getElem_cons, hlt]
    have := hQ h₂ (by rw [show i + (n + 1) = i + 1 + n by omega]; exact hit₂) (hs₁.trans hs₂)
    rw [hd, List.take_succ_cons] at this
    exact this
theorem unpackItems_list {s : Shared} {t : Addr} {items : Array Value} {Q : List Value → Shared → Prop} (hh : A.handled = none) (ht : s.heap.IsList t items)
    (hQ : ∀ h', Heap.ExtBut s.heap.objs.size s.heap h' → Q items.toList { s with heap := h' }) : wpAny (model prog w) A (unpackItems (.ref t) items.size none) Q E s := by
  have hlt : t ≠ s.heap.objs.size := by obtain ⟨o, ho, _⟩ := ht; exact Nat.ne_of_lt (Heap.lt_size ho)
  unfold unpackItems
  refine wpAny_bind ?_
  · unfold notIterableAtAll
    refine wpAny_bind (wpAny_specialOf ht.typeIs slot_list_iter.lookup ?_)
    refine wpAny_pure ?_
    simp only [Bool.false_eq_true, if_false]
    refine wpAny_bind (wpAny_holding (wpAny_pyIter_list ht ?_))
    refine wpAny_bind (wpAny_holding (draw_list hlt items.size 0 _ _ ⟨_, Heap.get?_push_size _ rfl, rfl, rfl⟩ (ht.push _) (by omega) fun h₁ hit₁ hs₁ => ?_))
    have hall : List.take items.size (List.drop 0 items.toList) = items.toList := by
      rw [List.drop_zero]; exact List.take_of_length_le (by simp)
    rw [hall]
    rw [if_neg (by simp)]
    have ht₁ : h₁.IsList t items := (ht.push _).extBut hs₁.extBut hlt
    refine wpAny_bind (wpAny_holding (wpAny_pyNext_list_end hh hit₁ ht₁ (by simp) fun h₂ he₂ => ?_))
    simp only [Option.isSome_none, Bool.false_eq_true, if_false]
    refine wpAny_pure (hQ h₂ fun b o hb e => he₂ b o hb (hs₁.extBut b o hb (Heap.get?_push_of_some _ e)))
theorem assign_Tuple_list {s : Shared} {env : Env} {elts : List Expr} {x1} {pos : Pos} {t : Addr} {items : Array Value} {Q : Unit → Shared → Prop} (hh : A.handled = none) (ht : s.heap.IsList t items)
    (hn : (assignEach elts env).length = items.size) (hstar : (assignEach elts env).findIdx? (·.1) = none)
    (h : ∀ h', Heap.ExtBut s.heap.objs.size s.heap h' → wpAny (model prog w) A (assignInOrder ((assignEach elts env).map (·.2)) items.toList) Q E { s with heap := h' }) :
    wpAny (model prog w) A (assign (.Tuple elts x1 pos) env (.ref t)) Q E s := by
  rw [assign_Tuple]
  refine wpAny_bind (wpAny_standAt ?_)
  unfold unpack
  rw [hn, hstar]
  exact wpAny_bind (wpAny_holding (unpackItems_list hh ht h))
end
section
variable {X : Cx} {pos : Pos}
def gTupL (K : PySem.W.Frag) (n : Nat) (t : TGs) : TG := fun v σ H Q => match v with
  | .ref a => ∃ xs, (H a = some (.tup xs) ∨ H a = some (.lst xs)) ∧ xs.length = n ∧ t xs σ H Q
  | _ => False
theorem g_tupL {es : List Expr} {k : Nat} {t : TGs} (h : PGs X es t) (hc : X.calm = true := by kernel_rfl)
    (hst : (assignEach es X.env).findIdx? (·.1) = none := by kernel_rfl) : PG X (.Tuple es k pos) (gTupL X.K (assignEach es X.env).length t) := by
  intro pins s σ H v u Q I r hw
  unfold gTupL at hw
  split at hw
  · obtain ⟨xs, h1 | h1, h2, hw⟩ := hw
    · exact pg_tup hc h rfl hst pins s σ H _ u Q I r ⟨_, xs, rfl, SqT.of h1, h2, hw⟩
    · cases r
      obtain ⟨its, rv, p, hz⟩ := I.list (SqL.of h1)
      refine assign_Tuple_list (I.ok.hd hc) p.isList (by simp [← rv.length, h2]) hst fun h' hx => ?_
      have I1 : Inv X pins σ H { s with heap := h' } := I.kept (t' := s.toks) fun b o e => hx b o (Nat.ne_of_lt (Heap.lt_size e)) e
      exact h pins _ σ H xs _ Q I1 (by simpa using rv) hw
  · exact hw.elim
end
section
variable {X : Cx}
def tTru (t : TE) : TT := fun σ H Q => t σ H fun x H1 => match x with
  | .bl c => Q c H1
  | .ref p => ∃ xs, H1 p = some (.lst xs) ∧ Q (!xs.isEmpty) H1
  | _ => False
theorem t_tru {e : Expr} {t : TE} (h : PE X e t) (he : ∀ whole, isTrue e X.env whole = (do let v ← whole; standAt e.pos; holding [v] (truthy v)) := by intro _; kernel_rfl) : PT X e (tTru t) := by
  intro pins s σ H Q I hw
  refine isTrue_plain (thn (h pins s σ H _ I hw) fun v s1 ⟨x, H1, I1, r1, q1⟩ => ?_) (he _)
  refine tru_ok pins s1 σ H1 x v Q I1 r1 ?_
  dsimp only at q1
  split at q1
  · exact ⟨_, rfl, q1⟩
  · obtain ⟨xs, h1, q⟩ := q1
    exact ⟨_, .inl ⟨xs, SqL.of h1, rfl⟩, q⟩
  · exact q1.elim
end
section
variable {X : Cx}
def rNeg : V → Hp → VK → Prop := fun x H Q => match x with
  | .int i => Q (.int (-i)) H
  | _ => False
theorem e_neg {a : Expr} {ta : TE} {pos : Pos} (ha : PE X a ta) : PE X (.UnaryOp .USub a pos) (tUn rNeg ta) := by
  refine pe_un (fun pins s σ H x v Q I rx q => ?_) ha
  unfold rNeg at q
  split at q
  · exact un_neg pins s σ H _ v Q I rx ⟨_, rfl, q⟩
  · exact q.elim
end
section
variable {H : Hp}
theorem code_inv {cv : V} {k n : Nat} {rows : Om.Rows} (h : DV H cv (codeD k n rows)) : ∃ a b ss, cv = .ref a ∧ H a = some (.tup [.int k, .int n, .ref b]) ∧ H b = some (.lst ss) ∧ DVs H ss (rows.map stateD) := by
  obtain ⟨a, xs, rfl, ha, hx⟩ := h.tup_inv
  cases hx with
  | cons h1 hx =>
    cases hx with
    | cons h2 hx =>
      cases hx with
      | cons h3 hx =>
        cases hx
        obtain rfl := h1.int_inv
        obtain rfl := h2.int_inv
        obtain ⟨b, ss, rfl, hb, hs⟩ := h3.lst_inv
        exact ⟨a, b, ss, rfl, ha, hb, hs⟩
theorem state_at {ss : List V} {rows : Om.Rows} (h : DVs H ss (rows.map stateD)) {s : Nat} {st : List (List Bool × Nat)} (hs : rows[s]? = some st) : ∃ q rs, ss[s]? = some (.ref q) ∧ H q = some (.lst rs) ∧ DVs H rs (st.map rowD) := by
  obtain ⟨x, hx, d⟩ := h.get (i := s) (d := stateD st) (by rw [List.getElem?_map, hs]; rfl)
  obtain ⟨q, rs, rfl, hq, hr⟩ := d.lst_inv
  exact ⟨q, rs, hx, hq, hr⟩
theorem row_at {rs : List V} {st : List (List Bool × Nat)} (h : DVs H rs (st.map rowD)) {l : Nat} {r : List Bool × Nat} (hl : st[l]? = some r) : ∃ p, rs[l]? = some (.ref p) ∧ H p = some (.tup [.str (bs r.1), .int (r.2 : Nat)]) := by
  obtain ⟨x, hx, d⟩ := h.get (i := l) (d := rowD r) (by rw [List.getElem?_map, hl]; rfl)
  obtain ⟨p, xs, rfl, hp, hd⟩ := d.tup_inv
  cases hd with
  | cons h1 hd =>
    cases hd with
    | cons h2 hd =>
      cases hd
      obtain rfl := h1.str_inv
      obtain rfl := h2.int_inv
      exact ⟨p, hx, hp⟩
end
end L2
namespace Om
end Om
end
section
set_option Elab.async false
set_option linter.all false
set_option maxRecDepth 100000
set_option maxHeartbeats 4000000
namespace L2
open PySem PySem.Spec PyProof.Rows
section
variable {X : Cx} {x : Str} {p pos : Pos} {e : Expr} {es : List Expr} {t : TA}
def rLenS (K : PySem.W.Frag) : List V → Hp → VK → Prop := fun vs H Q => match vs with
  | [.ref a] => ∃ ys, SqL K H a ys ∧ Q (.int (ys.length : Nat)) H
  | _ => False
theorem fn_lenS {mg' : Str → Option Value} (hm : mg' "len" = none) (hX : X.mg = mg') (ha : PA X (e :: es) t) (hg : gB X "len" = true := by kernel_rfl) (he : starEach (e :: es) X.env = (false, eval e X.env) :: starEach es X.env := by kernel_rfl) (hpl : (backTo pos (starEach es X.env)).any (·.1) = false := by kernel_rfl) :
    PE X (.Call (.Name "len" p) (e :: es) [] pos) (tCB (rLenS X.K) t) := pe_callB (call_len_seq.of fun xs H Q q => by
      unfold rLenS at q
      split at q
      · obtain ⟨ys, h, q⟩ := q
        exact ⟨_, ys, rfl, .inl h, q⟩
      · exact q.elim) (gl_of hg) (by rw [hX]; exact hm) PySem.boot_len ha (he := he) (hpl := hpl)
def rIxS' (K : PySem.W.Frag) : R2 := fun x y H Q => match x, y with
  | .ref a, .int i => ∃ ys v, SqL K H a ys ∧ atI ys i = some v ∧ Q v H
  | _, _ => False
theorem ix_atS {a b : Expr} {ta tb : TE} (ha : PE X a ta) (hb : PE X b tb) (hs : ∀ o i, subscripted b false o i = operate [o, i] (getItem o i) := by intro _ _; kernel_rfl) : PE X (.Subscript a b pos) (tOp (rIxS' X.K) ta tb) :=
  pe_ix (fun value slice pins s σ H x y v u Q I rx ry q hs => ix_list value slice pins s σ H x y v u Q I rx ry (by
    unfold rIxS' at q
    split at q
    · obtain ⟨ys, z, h1, h2, q⟩ := q
      exact ⟨_, ys, _, z, rfl, rfl, h1, h2, q⟩
    · exact q.elim) hs) ha hb hs
end
theorem SqL.same {K : PySem.W.Frag} {H H' : Hp} {a : Addr} {xs : List V} (h : SqL K H a xs) (s : Same H H') : SqL K H' a xs := s.seq h
theorem bs_01 : ("01" : Str) = bs [false, true] := by decide +kernel
theorem g01 {H : Hp} {r : Int} (h0 : 0 ≤ r) (h1 : r < 2) : getV H (.str ("01" : Str)) r = some (.str (bs [decide (r = 1)])) := by
  rw [bs_01]
  refine gs (le_line (Nat.le_of_ble_eq_true rfl)) h0 ?_
  have : r = 0 ∨ r = 1 := by omega
  rcases this with rfl | rfl <;> rfl
theorem Deck.own {F : Addr → Prop} {H : Hp} {a p : Addr} {o : HO} (h : Deck F H a) (hp : ¬ F p) : Deck F (upd H p o) a := by
  obtain ⟨q, qs, n, h1, h2, h3, h4, h5, h6⟩ := h.ex
  refine ⟨q, qs, n, ?_, ?_, h3, h4, fun x hx => ?_, h6⟩
  · rw [upd_ne (fun z => hp ((h6 p).mpr (.inl z.symm)))]; exact h1
  · rw [upd_ne (fun z => hp ((h6 p).mpr (.inr (.inl z.symm))))]; exact h2
  · obtain ⟨c, f, m, e⟩ := h5 x hx
    have np : x ≠ p := fun z => hp ((h6 p).mpr (.inr (.inr (by rw [← z]; exact hx))))
    exact ⟨c, f, m, by rw [upd_ne np]; exact e⟩
end L2
end
section
set_option Elab.async false
set_option linter.all false
set_option maxRecDepth 100000
set_option maxHeartbeats 4000000
namespace L2
open PySem PySem.Spec PyProof.Rows
theorem seq_by {t u : TS} {D : Ends} {σ : St} {H : Hp} (M : St → Hp → Prop) (fin : ∀ σ' H', M σ' H' → u D σ' H') (h : (∀ σ' H', M σ' H' → u D σ' H') → t { D with nx := u D } σ H) : tSeq t u D σ H := h fin
def WS (ws : List (List Bool)) : HO := .lst (ws.map fun w => V.str (bs w))
theorem ws_len {ws : List (List Bool)} : (ws.map fun w => V.str (bs w)).length = ws.length := by simp
theorem ws_get {ws : List (List Bool)} {i : Nat} {w : List Bool} (h : ws[i]? = some w) : (ws.map fun w => V.str (bs w))[i]? = some (.str (bs w)) := by rw [List.getElem?_map, h]; rfl
theorem lay_all : ∀ {ds : List PyData}, (∀ d ∈ ds, d.canLay0 = true) → PyData.canLayAll0 ds = true
  | [], _ => rfl
  | d :: ds, h => by rw [PyData.canLayAll0, h d List.mem_cons_self, lay_all fun x hx => h x (List.mem_cons_of_mem _ hx)]; rfl
theorem depth_all {k : Nat} : ∀ {ds : List PyData}, (∀ d ∈ ds, d.depth ≤ k) → PyData.depthAll ds ≤ k
  | [], _ => Nat.zero_le _
  | d :: ds, h => by
    rw [PyData.depthAll]
    exact Nat.max_le.mpr ⟨h d List.mem_cons_self, depth_all fun x hx => h x (List.mem_cons_of_mem _ hx)⟩
theorem shaped_list {k : Nat} {ds : List PyData} (h1 : ∀ d ∈ ds, d.canLay0 = true) (h2 : ∀ d ∈ ds, d.depth ≤ k) (hk : k < 64) : SeqAt.shaped (.list ds) = true := by
  unfold SeqAt.shaped
  rw [Bool.and_eq_true]
  refine ⟨by rw [PyData.canLay0]; exact lay_all h1, decide_eq_true ?_⟩
  have := depth_all h2
  rw [PyData.depth]
  omega
theorem shaped_tup {k : Nat} {ds : List PyData} (h1 : ∀ d ∈ ds, d.canLay0 = true) (h2 : ∀ d ∈ ds, d.depth ≤ k) (hk : k < 64) : SeqAt.shaped (.tuple ds) = true := by
  unfold SeqAt.shaped
  rw [Bool.and_eq_true]
  refine ⟨by rw [PyData.canLay0]; exact lay_all h1, decide_eq_true ?_⟩
  have := depth_all h2
  rw [PyData.depth]
  omega
theorem nil_shaped : SeqAt.shaped (.list []) = true := by decide
end L2
namespace L2
open PySem PySem.Spec PyProof.Rows
end L2
end
section
set_option Elab.async false
set_option linter.all false
set_option maxRecDepth 100000
set_option maxHeartbeats 4000000
namespace L2
open PySem PySem.Spec PyProof.Rows
structure Sub (F : Addr → Prop) (st : Addr) (G H : Hp) : Prop where
  s : Same G H
  n : G st = none
  f : ∀ b, F b → G b = none
theorem ne_F {F : Addr → Prop} {b p : Addr} (hb : F b) (hp : ¬ F p) : b ≠ p := fun z => hp (by rw [← z]; exact hb)
section
variable {F : Addr → Prop} {st p : Addr} {G H H' : Hp} {o : HO}
theorem Sub.off (h : Sub F st G H) (k : Off F H H') : Sub F st G H' := ⟨fun b u e => k b u (h.s b u e) (fun z => by rw [h.f b z] at e; cases e), h.n, h.f⟩
theorem Sub.more (h : Sub F st G H) (hp : H p = none) : Sub F st G (upd H p o) := ⟨h.s.trans (Same.upd hp), h.n, h.f⟩
theorem Sub.write (h : Sub F st G H) : Sub F st G (upd H st o) := ⟨fun b u e => by rw [upd_ne (ne_of_none e h.n)]; exact h.s b u e, h.n, h.f⟩
theorem Sub.new (h : Sub F st G H) (hp : H p = none) (hst : st ≠ p) (hF : ¬ F p) : Sub F st (upd G p o) (upd H p o) := by
  refine ⟨fun b u e => ?_, by rw [upd_ne hst]; exact h.n, fun b hb => by rw [upd_ne (ne_F hb hF)]; exact h.f b hb⟩
  by_cases hb : b = p
  · subst hb
    rw [upd_same] at e ⊢
    exact e
  · rw [upd_ne hb] at e ⊢
    exact h.s b u e
theorem Sub.free (h : Sub F st G H) (hp : H p = none) : G p = none := h.s.free hp
theorem Off.free (h : Off F H H') {a : Addr} (d : Deck F H' a) (hp : H' p = none) : H p = none := by
  cases e : H p with
  | none => rfl
  | some u =>
    by_cases hf : F p
    · obtain ⟨o', e'⟩ := d.there hf
      rw [hp] at e'; cases e'
    · rw [h _ _ e hf] at hp; cases hp
end
end L2
end
section
set_option Elab.async false
set_option linter.all false
set_option maxRecDepth 100000
set_option maxHeartbeats 4000000
namespace L2
open PySem PySem.Spec PyProof.Rows
theorem DVs.of_get {H : Hp} : ∀ {xs : List V} {ds : List PyData}, xs.length = ds.length → (∀ (i : Nat) (d : PyData), ds[i]? = some d → ∃ x, xs[i]? = some x ∧ DV H x d) → DVs H xs ds
  | [], [], _, _ => .nil
  | [], _ :: _, h, _ => by simp at h
  | _ :: _, [], h, _ => by simp at h
  | x :: xs, d :: ds, h, k => by
    obtain ⟨x', e, hd⟩ := k 0 d rfl
    have : x = x' := Option.some.inj e
    subst this
    exact .cons hd (DVs.of_get (by simpa using h) fun i d' h' => by
      obtain ⟨y, e1, e2⟩ := k (i + 1) d' (by simpa using h')
      exact ⟨y, by simpa using e1, e2⟩)
end L2
namespace Om
section
variable {ord : List Nat} {rows : Rows} {k n : Nat}
end
end Om
end
section
set_option Elab.async false
set_option linter.all false
set_option maxRecDepth 100000
set_option maxHeartbeats 4000000
namespace L2
open PySem PySem.Spec PyProof.Rows
def tupD (w : List Bool) (s : Nat) : PyData := .tuple [.str (bs w), .int (s : Nat)]
theorem tupD_lay (w : List Bool) (s : Nat) : (tupD w s).canLay0 = true := by
  unfold tupD
  rw [PyData.canLay0]
  refine lay_all fun d hd => ?_
  rcases List.mem_cons.mp hd with rfl | hd
  · exact bs_ok w
  · rw [List.mem_singleton.mp hd]; rfl
theorem Deck.not_tup {F : Addr → Prop} {H : Hp} {a b : Addr} {xs : List V} (h : Deck F H a) (hb : H b = some (.tup xs)) : ¬ F b := fun z => by
  obtain ⟨p, qs, n, h1, h2, h3, h4, h5, h6⟩ := h.ex
  rcases (h6 b).mp z with rfl | rfl | z
  · rw [h1] at hb; cases hb
  · rw [h2] at hb; cases hb
  · obtain ⟨c, f, m, e⟩ := h5 b z
    rw [e] at hb; cases hb
end L2
end
section
set_option Elab.async false
set_option linter.all false
set_option maxRecDepth 100000
set_option maxHeartbeats 4000000
namespace L2
open PySem PySem.Spec PyProof.Rows
section
variable {X : Cx} {pins : List (Addr × Obj)} {σ : List (Option V)} {H : Hp} {s : Shared} {h' : Heap}
theorem Inv.turnedL {t' : Nat} {ch : List Addr} (I : Inv X pins σ H s) (hch : ∀ b ∈ ch, FpOk X pins H b) (k : ∀ b o, b ∉ ch → s.heap.get? b = some o → h'.get? b = some o) : Inv X pins σ H { s with heap := h', toks := t' } := by
  have nit : ∀ b u, H b = some u → b ∉ ch := fun b u e z => by rw [(hch b z).1] at e; cases e
  refine I.step (g' := s.gens) (d' := s.drawn) (ch := ch) (fun b hb => ?_) (fun b o _ _ hc e _ => k b o hc e) (fun b o _ _ hc e _ => ⟨o.slots, k b o hc e⟩) (fun _ _ _ _ n => n)
    (fun b o hc e => ⟨o, k b o hc e⟩) (fun _ _ e => e) (fun _ _ _ e => e) (fun b ps e => ⟨#[], by rw [e]; simp⟩) (fun m hm => ?_) (fun b u e => ?_) I.bare
  · obtain ⟨_, q1, _, q3, q4, q5⟩ := hch b hb
    exact ⟨q3, q1, q4, q5⟩
  · obtain ⟨o, es, ep, ho, r⟩ := hm
    exact ⟨o, es, ep, k _ o (fun z => (hch _ z).2.1 rfl) ho, r⟩
  · refine (I.hok b u e).stay (fun c v hc q => k c v ?_ q) (fun _ q => q) fun _ _ q => q
    rcases hc with z | z
    · rw [z]; exact nit b u e
    · exact nit c _ z
theorem Inv.turnLaid {t' : Nat} {ch : List Addr} {a : Addr} {o' : HO} (I : Inv X pins σ H s) (hch : ∀ b ∈ ch, FpOk X pins H b) (k : ∀ b o, b ∉ ch → s.heap.get? b = some o → h'.get? b = some o)
    (hp : s.heap.objs.size ≤ a) (new : ObjOk X.prog X.w (upd H a o') h' a o') : Inv X pins σ (upd H a o') { s with heap := h', toks := t' } := by
  have nit : ∀ b u, H b = some u → b ∉ ch := fun b u e z => by rw [(hch b z).1] at e; cases e
  have ha : H a = none := I.hok.fresh hp
  have na : ∀ b o, s.heap.get? b = some o → b ≠ a := fun b o e z => absurd (Nat.lt_of_lt_of_le (Heap.lt_size e) hp) (by rw [z]; exact Nat.lt_irrefl _)
  refine I.step (g' := s.gens) (d' := s.drawn) (ch := ch) (fun b hb => ?_) (fun b o _ _ hc e _ => k b o hc e) (fun b o _ _ hc e _ => ⟨o.slots, k b o hc e⟩) (fun b o _ e n => by rw [upd_ne (na b o e)]; exact n)
    (fun b o hc e => ⟨o, k b o hc e⟩) (fun b xs e => by rw [upd_ne (ne_of_none e ha)]; exact e) (fun b o u e => by rw [upd_ne (ne_of_none e ha)]; exact e) (fun b ps e => ⟨#[], by rw [upd_ne (ne_of_none e ha), e]; simp⟩) (fun m hm => ?_) (fun b u e => ?_) I.bare
  · obtain ⟨_, q1, _, q3, q4, q5⟩ := hch b hb
    exact ⟨q3, q1, q4, q5⟩
  · obtain ⟨o, es, ep, ho, r⟩ := hm
    exact ⟨o, es, ep, k _ o (fun z => (hch _ z).2.1 rfl) ho, r⟩
  · by_cases hb : b = a
    · subst hb
      rw [upd_same] at e
      cases e
      exact new
    · rw [upd_ne hb] at e
      refine (I.hok b u e).stay (fun c v hc q => k c v ?_ q) (fun c q => by rw [upd_ne (ne_of_none q ha)]; exact q) fun c xs q => by rw [upd_ne (ne_of_none q ha)]; exact q
      rcases hc with z | z
      · rw [z]; exact nit b u e
      · exact nit c _ z
end
def Ite (K : PySem.W.Frag) (a : Addr) : It :=
  ⟨fun i H => ∃ xs x, SqL K H a xs ∧ xs[i]? = some x, fun i H x H' => ∃ t y, (∀ xs, SqL K H a xs → xs[i]? = some y) ∧ H t = none ∧ x = .ref t ∧ H' = upd H t (.tup [.int (i : Nat), y]), fun i H => ∃ xs, SqL K H a xs ∧ xs.length ≤ i⟩
theorem turn_enum {P : Program} {w : World} {K : PySem.W.Frag} {es : List Expr} {k : Nat} {pos : Pos} (a it e : Addr) (hne : e ≠ it) : Turn P w K (.Tuple es k pos) (Ite K a) [e, it] e (fun i h => (∃ old, IsEnum h e it (i : Nat) old) ∧ h.IsListIter it a i) where
  mem := by simp
  obj := fun i h st b hb => by
    obtain ⟨⟨old, he⟩, o, ho, c, d⟩ := st
    have hb' : b = e ∨ b = it := by simpa using hb
    rcases hb' with rfl | rfl
    · exact ⟨_, he, fun v z => by cases z⟩
    · exact ⟨o, ho, fun v z => by rw [d] at z; cases z⟩
  keep := fun i h h' st k => ⟨let ⟨old, he⟩ := st.1; ⟨old, k e (by simp) _ he⟩, st.2.at fun o e => k it (by simp) o e⟩
  item := by
    intro X hP hw hK hc i pins s σ H E I hf st hg
    subst hP hw hK
    obtain ⟨xs, x, hq, hx⟩ := hg
    obtain ⟨its, rv, p, hz⟩ := I.list hq
    obtain ⟨u, hu, ru⟩ := rv.get hx
    obtain ⟨⟨old, he⟩, hit⟩ := st
    have helt : e < s.heap.objs.size := Heap.lt_size he
    have hilt : it < s.heap.objs.size := by obtain ⟨_, x, _⟩ := hit; exact Heap.lt_size x
    have fT := I.fresh
    refine wpAny_pyNext_enum_item he hit p.isList (x := u) (by simpa using hu) hne fun h' ho hit' hT hsz hk => ⟨_, rfl, ?_⟩
    refine wpAny_letOwnedTupleGo_enum ho fun h2 he2 hs2 => ?_
    have hs2 : Heap.SameBut e h' h2 := hs2
    have up : ∀ b o, b ∉ [e, it] → s.heap.get? b = some o → h2.get? b = some o := fun b o hb ee => by
      have h1 : b ≠ e := fun z => hb (by simp [z])
      have h2' : b ≠ it := fun z => hb (by simp [z])
      exact (hs2.2 b h1).trans (hk b o h1 h2' ee)
    have hT2 : h2.get? s.heap.objs.size = some { cls := .type "tuple", data := .seq #[.int (i : Nat) s.toks, u] } := (hs2.2 _ (Nat.ne_of_gt helt)).trans hT
    refine ⟨.ref s.heap.objs.size, upd H s.heap.objs.size (.tup [.int (i : Nat), x]), ?_, rfl, ⟨_, x, fun ys hy => by rw [I.list_inj hy hq]; exact hx, fT, rfl, rfl⟩, ⟨⟨_, by simpa using he2⟩, hit'.at fun o y => (hs2.2 it hne.symm).trans y⟩, fun b hb => ?_⟩
    · exact I.turnLaid (t' := s.toks + 1) hf up (Nat.le_refl _) ⟨Nat.le_of_ble_eq_true rfl, [.int (i : Nat) s.toks, u], .cons ⟨_, rfl⟩ (.cons ru .nil), ⟨_, hT2, rfl, 0, rfl⟩⟩
    · have hb' : b = e ∨ b = it := by simpa using hb
      rcases hb' with rfl | rfl
      · rw [upd_ne (Nat.ne_of_lt helt)]; exact (hf _ hb).1
      · rw [upd_ne (Nat.ne_of_lt hilt)]; exact (hf _ hb).1
  done := by
    intro X hP hw hK hc i pins s σ H E I hf st hg
    subst hP hw hK
    obtain ⟨xs, hq, hx⟩ := hg
    obtain ⟨its, rv, p, hz⟩ := I.list hq
    have hl := rv.length
    obtain ⟨⟨old, he⟩, hit⟩ := st
    exact wpAny_pyNext_enum_end (I.ok.hd hc) he hit p.isList (by simp; omega) fun h' eb => ⟨rfl, I.turnedL (t' := s.toks) hf fun b o hb e' => eb b o (fun z => hb (by simp [z])) e'⟩
  self := fun _ _ _ _ _ st h => let ⟨_, he⟩ := st.1; wpAny_pyIter_enum he h
section
variable {X : Cx} {p pos tpos : Pos} {a b : Expr} {es : List Expr} {tk : Nat}
def iEnum (K : PySem.W.Frag) (ta : TA) : TI := fun σ H R => ta σ H fun vs H1 => match vs with
  | [.ref l] => (∃ xs, SqL K H1 l xs) ∧ R (Ite K l) H1
  | _ => False
theorem it_enum {ta : TA} {mg' : Str → Option Value} (hm : mg' "enumerate" = none) (hX : X.mg = mg') (ha : PA X [a] ta) (hg : gB X "enumerate" = true := by kernel_rfl) (hs : starEach [a] X.env = [(false, eval a X.env)] := by kernel_rfl) :
    PI X (.Tuple es tk tpos) (.Call (.Name "enumerate" p) [a] [] pos) (iEnum X.K ta) := by
  intro pins s σ H R I h
  refine Call_ (ld_blt I (gl_of hg) (by rw [hX]; exact hm) boot_enumerate (PyProof.Rows.callWith_type1 (thn (ha pos pins s σ H _ I h) fun us s1 ⟨vs, H1, I1, r1, q1⟩ => ?_) hs rfl))
  dsimp only at q1
  split at q1
  · rename_i l
    obtain ⟨⟨xs, hq⟩, q⟩ := q1
    obtain ⟨u, rfl, r⟩ := vals1 r1
    cases r
    obtain ⟨its, rv, pl, hz⟩ := I1.list hq
    refine call_enumerate_list pl.isList fun h' hE hI hsz hk => wpAny_pyIter_enum hE ?_
    refine ⟨s1.heap.objs.size + 1, [s1.heap.objs.size + 1, s1.heap.objs.size], _, _, H1, rfl, I1.kept (t' := s1.toks) hk, turn_enum l s1.heap.objs.size (s1.heap.objs.size + 1) (Nat.succ_ne_self _), ⟨⟨_, hE⟩, hI⟩, fun c hc => ?_, q⟩
    have hb' : c = s1.heap.objs.size + 1 ∨ c = s1.heap.objs.size := by simpa using hc
    have hle : s1.heap.objs.size ≤ c := by rcases hb' with rfl | rfl <;> first | exact Nat.le_refl _ | exact Nat.le_add_right _ _
    exact I1.fpOk hle (I1.hok.fresh hle)
  · exact q1.elim
structure ItPr (J : It) (n : Nat) (row : Nat → List V) (ok : Hp → Prop) : Prop where
  stop : ∀ H, ok H → J.stop n H
  go : ∀ i H, ok H → i < n → J.go i H
  yld : ∀ i H x H', ok H → i < n → J.yld i H x H' → ∃ t, H t = none ∧ x = .ref t ∧ H' = upd H t (.tup (row i))
theorem for_pr {J : It} {n : Nat} {row : Nat → List V} {ok : Hp → Prop} {g : TG} {tb : TS} {D : Ends} {σ : St} {H : Hp} (IO : ItPr J n row ok) (Pv : Nat → St → Hp → Prop) (h0 : Pv 0 σ H) (hl : ∀ i σ H, i ≤ n → Pv i σ H → ok H)
    (hs : ∀ i t σ H, i < n → Pv i σ H → H t = none → g (.ref t) σ (upd H t (.tup (row i))) fun σ2 H2 => tb { D with nx := Pv (i + 1), ct := Pv (i + 1), bk := D.nx } σ2 H2) (hd : ∀ σ H, Pv n σ H → D.nx σ H) :
    ∃ W : Nat → Nat → St → Hp → Prop, (∃ m, W 0 m σ H) ∧ ∀ i m σ H, W i m σ H →
      (J.stop i H ∧ D.nx σ H) ∨ (J.go i H ∧ ∃ N : St → Hp → Prop, (∀ σ' H', N σ' H' → ∃ m', m' < m ∧ W (i + 1) m' σ' H') ∧ ∀ x H', J.yld i H x H' → g x σ H' fun σ2 H2 => tb { D with nx := N, ct := N, bk := D.nx } σ2 H2) := by
  refine ⟨fun i m σ H => m = n - i ∧ i ≤ n ∧ Pv i σ H, ⟨n, by simp, Nat.zero_le _, h0⟩, ?_⟩
  rintro i m σ H ⟨rfl, hi, p⟩
  have q := hl i σ H hi p
  by_cases hlt : i < n
  · refine .inr ⟨IO.go i H q hlt, Pv (i + 1), fun σ' H' p' => ⟨n - (i + 1), by omega, rfl, hlt, p'⟩, fun x H' y => ?_⟩
    obtain ⟨t, ht, rfl, rfl⟩ := IO.yld i H x H' q hlt y
    exact hs i t σ _ hlt p ht
  · have e : i = n := by omega
    subst e
    exact .inl ⟨IO.stop H q, hd σ H p⟩
theorem it_enumP (K : PySem.W.Frag) (a : Addr) (xs : List V) : ItPr (Ite K a) xs.length (fun i => [.int (i : Nat), xs.getD i .non]) fun H => H a = some (.lst xs) :=
  ⟨fun H h => ⟨xs, SqL.of h, Nat.le_refl _⟩, fun i H h hi => ⟨xs, xs[i], SqL.of h, by simp [hi]⟩, fun i H x H' h hi y => by
    obtain ⟨t, y', hq, ht, e1, e2⟩ := y
    have hy := hq xs (SqL.of h)
    have e3 : xs.getD i .non = y' := by rw [List.getD_eq_getElem?_getD, hy]; rfl
    exact ⟨t, ht, e1, by rw [e2, e3]⟩⟩
end
end L2
end
section
set_option Elab.async false
set_option linter.all false
set_option maxRecDepth 100000
set_option maxHeartbeats 4000000
namespace L2
open PySem PySem.Spec PyProof.Rows
section
variable {X : Cx} {a b c d e o : Expr} {es : List Expr} {pos apos : Pos} {ta tb tc td te to : TE}
def tChainT (r r' : R2) (ta tb tc : TE) : TT := fun σ H Q => ta σ H fun x H1 => tb σ H1 fun y H2 => r x y H2 fun z H3 => match z with
  | .bl k => if k = true then tc σ H3 fun w' H4 => r' y w' H4 fun z' H5 => match z' with
      | .bl k' => Q k' H5
      | _ => False
    else Q false H3
  | _ => False
theorem t_chain {op op' : CmpOp} {r r' : R2} (ho : OpR X (compareOp op) r) (ho' : OpR X (compareOp op') r') (ha : PE X a ta) (hb : PE X b tb) (hc : PE X c tc)
    (hm : lastMarks [op, op'] [b, c] = false := by kernel_rfl) : PT X (.Compare a [op, op'] [b, c] pos) (tChainT r r' ta tb tc) := by
  intro pins s σ H Q I h
  refine isTrue_chain (thn (ha pins s σ H _ I h) fun v s1 ⟨x, H1, I1, r1, q1⟩ => test_link (thn (hb pins s1 σ H1 _ I1 q1) fun u s2 ⟨y, H2, I2, r2, q2⟩ =>
    thn (ho pins s2 σ H2 x y v u _ I2 r1 r2 q2) fun d s3 ⟨z, H3, I3, r3, q3⟩ => ?_)) hm
  dsimp only at q3
  split at q3
  · rename_i k
    cases r3
    refine wpAny_truthy_bool ?_
    cases k with
    | false => exact ite_ff ⟨H3, I3, q3⟩
    | true =>
      refine ite_tt (test_last (thn (hc pins s3 σ H3 _ I3 q3) fun w' s4 ⟨z', H4, I4, r4, q4⟩ => thn (ho' pins s4 σ H4 y z' u w' _ I4 r2 r4 q4) fun d' s5 ⟨z5, H5, I5, r5, q5⟩ => ?_))
      obtain ⟨k', e, q5⟩ := bu_of q5
      subst e
      cases r5
      exact wpAny_truthy_bool ⟨H5, I5, q5⟩
  · exact q3.elim
end
theorem comp_pick {J : It} {D : Addr} {xs : List V} {ok : Hp → Prop} {tt : TT} {te : TE} {Q : Hp → Prop} {v0 : Option V} {fr : St} {H : Hp} (IO : ItOk J xs ok) (f : V → Bool) (hz : xs.length ≤ sizeLine) (hok : ∀ o, ok (upd H D o))
    (ht : ∀ (i : Nat) (x : V) (ys : List V), xs[i]? = some x → ∀ C : Bool → Hp → Prop, C (f x) (upd H D (.lst ys)) → tt (some x :: fr) (upd H D (.lst ys)) C)
    (hs : ∀ (i : Nat) (x : V) (ys : List V), xs[i]? = some x → ∀ C : VK, C x (upd H D (.lst ys)) → te (some x :: fr) (upd H D (.lst ys)) C)
    (hd : Q (upd H D (.lst (xs.filter f)))) :
    ∃ W : Nat → Nat → St → Hp → List V → Prop, (∃ m, W 0 m (v0 :: fr) (upd H D (.lst [])) []) ∧ ∀ i m τ H2 ys, W i m τ H2 ys → H2 D = some (.lst ys) ∧
      ((J.stop i H2 ∧ Q H2) ∨ (J.go i H2 ∧ ys.length < sizeLine ∧ ∃ N : St → Hp → List V → Prop, (∀ τ' H' ys', N τ' H' ys' → ∃ m', m' < m ∧ W (i + 1) m' τ' H' ys') ∧ ∀ x H3, J.yld i H2 x H3 → gName 0 x τ H3 fun τ4 H4 => tt τ4 H4 fun b H5 =>
        if b = true then te τ4 H5 fun y H6 => H6 D = some (.lst ys) ∧ N τ4 (upd H6 D (.lst (ys ++ [y]))) (ys ++ [y])
        else N τ4 H5 ys)) := by
  refine comp_by IO (fun i τ H2 ys => (∃ v, τ = v :: fr) ∧ H2 = upd H D (.lst ys) ∧ ys = (xs.take i).filter f ∧ i ≤ xs.length) hz ⟨⟨v0, rfl⟩, rfl, rfl, Nat.zero_le _⟩ ?_ ?_ ?_
  · rintro i τ H2 ys hi ⟨_, rfl, rfl, _⟩
    refine ⟨hok _, upd_same, ?_⟩
    have h1 := List.length_filter_le f (xs.take i)
    have h2 : (xs.take i).length ≤ i := by simp [List.length_take]; omega
    omega
  · rintro i x τ H2 ys hi hx ⟨⟨v, rfl⟩, rfl, rfl, _⟩
    refine ht i x _ hx _ ?_
    have e : (xs.take (i + 1)).filter f = (xs.take i).filter f ++ (if f x = true then [x] else []) := by
      rw [List.take_add_one, hx, List.filter_append]
      congr 1
      show List.filter f [x] = _
      rw [List.filter_cons]
      rfl
    by_cases hf : f x = true
    · rw [if_pos hf] at e ⊢
      refine hs i x _ hx _ ⟨upd_same, ⟨_, rfl⟩, upd_upd, ?_, hi⟩
      rw [e]
    · rw [if_neg hf] at e ⊢
      refine ⟨⟨_, rfl⟩, rfl, ?_, hi⟩
      rw [e, List.append_nil]
  · rintro τ H2 ys ⟨_, rfl, rfl, _⟩
    rw [List.take_length]
    exact hd
section
variable {H H' G : Hp} {a p : Addr} {o : HO}
theorem Same.own (h : Same G H) (hG : G p = none) : Same G (L2.upd H p o) := fun b u e => by rw [upd_ne (ne_of_none e hG)]; exact h b u e
end
end L2
end
section
set_option Elab.async false
set_option linter.all false
set_option maxRecDepth 100000
set_option maxHeartbeats 4000000
namespace L2
open PySem PySem.Spec PyProof.Rows
section
variable {G H0 H H' : Hp} {a p : Addr} {o : HO}
end
end L2
end
section
set_option Elab.async false
set_option linter.all false
set_option maxRecDepth 100000
set_option maxHeartbeats 4000000
namespace L2
open PySem PySem.Spec PyProof.Rows
theorem DVs.take {H : Hp} : ∀ {xs : List V} {ds : List PyData} (n : Nat), DVs H xs ds → DVs H (xs.take n) (ds.take n)
  | _, _, 0, _ => .nil
  | _, _, _ + 1, .nil => .nil
  | _, _, n + 1, .cons h r => .cons h (DVs.take n r)
section
variable {G H0 H : Hp} {L p : Addr} {vs : List V} {o : HO}
end
end L2
end
section
set_option Elab.async false
set_option linter.all false
set_option maxRecDepth 100000
set_option maxHeartbeats 4000000
namespace L2
open PySem PySem.Spec PyProof.Rows
theorem DVs.imp {H H' : Hp} : ∀ {xs : List V} {ds : List PyData}, (∀ x d, d ∈ ds → DV H x d → DV H' x d) → DVs H xs ds → DVs H' xs ds
  | _, _, _, .nil => .nil
  | _, _, f, .cons h r => .cons (f _ _ List.mem_cons_self h) (DVs.imp (fun x d hd => f x d (List.mem_cons_of_mem _ hd)) r)
section
variable {H H' : Hp} {a l : Addr}
end
section
variable {G H H2 H3 : Hp} {a T U L p : Addr} {xs ys : List Int} {vs : List V} {ps : List (Nat × Nat)} {m : Nat} {o : HO}
end
end L2
end
section
set_option Elab.async false
set_option linter.all false
set_option maxRecDepth 100000
set_option maxHeartbeats 4000000
namespace Om
end Om
namespace L2
open PySem PySem.Spec PyProof.Rows
end L2
end
section
set_option Elab.async false
set_option linter.all false
set_option maxRecDepth 100000
set_option maxHeartbeats 4000000
namespace L2
open PySem PySem.Spec PyProof.Rows
theorem rowD_lay (r : List Bool × Nat) : (rowD r).canLay0 = true := tupD_lay r.1 r.2
theorem rowD_depth (r : List Bool × Nat) : (rowD r).depth ≤ 1 := by
  rw [rowD, PyData.depth]
  have := depth_all (k := 0) (ds := [.str (bs r.1), .int (r.2 : Nat)]) (fun d hd => by
    rcases List.mem_cons.mp hd with rfl | hd
    · exact Nat.le_refl _
    · rw [List.mem_singleton.mp hd]; exact Nat.le_refl _)
  omega
theorem stateD_lay (st : List (List Bool × Nat)) : (stateD st).canLay0 = true := by
  rw [stateD, PyData.canLay0]
  refine lay_all fun d hd => ?_
  obtain ⟨r, _, rfl⟩ := List.mem_map.mp hd
  exact rowD_lay r
theorem stateD_depth (st : List (List Bool × Nat)) : (stateD st).depth ≤ 2 := by
  rw [stateD, PyData.depth]
  have := depth_all (k := 1) (ds := st.map rowD) (fun d hd => by
    obtain ⟨r, _, rfl⟩ := List.mem_map.mp hd
    exact rowD_depth r)
  omega
theorem states_lay (rows : Om.Rows) : PyData.canLay0 (.list (rows.map stateD)) = true := by
  rw [PyData.canLay0]
  refine lay_all fun d hd => ?_
  obtain ⟨r, _, rfl⟩ := List.mem_map.mp hd
  exact stateD_lay r
theorem states_depth (rows : Om.Rows) : PyData.depth (.list (rows.map stateD)) ≤ 3 := by
  rw [PyData.depth]
  have := depth_all (k := 2) (ds := rows.map stateD) (fun d hd => by
    obtain ⟨r, _, rfl⟩ := List.mem_map.mp hd
    exact stateD_depth r)
  omega
theorem codeD_lay (k n : Nat) (rows : Om.Rows) : (codeD k n rows).canLay0 = true := by
  rw [codeD, PyData.canLay0]
  refine lay_all fun d hd => ?_
  rcases List.mem_cons.mp hd with rfl | hd
  · rfl
  rcases List.mem_cons.mp hd with rfl | hd
  · rfl
  · rw [List.mem_singleton.mp hd]; exact states_lay rows
theorem codeD_shaped (k n : Nat) (rows : Om.Rows) : SeqAt.shaped (codeD k n rows) = true := by
  refine shaped_tup (k := 3) (fun d hd => ?_) (fun d hd => ?_) (by decide)
  · rcases List.mem_cons.mp hd with rfl | hd
    · rfl
    rcases List.mem_cons.mp hd with rfl | hd
    · rfl
    · rw [List.mem_singleton.mp hd]; exact states_lay rows
  · rcases List.mem_cons.mp hd with rfl | hd
    · exact Nat.zero_le _
    rcases List.mem_cons.mp hd with rfl | hd
    · exact Nat.zero_le _
    · rw [List.mem_singleton.mp hd]; exact states_depth rows
theorem codeD_eq (k n : Nat) (rows : Om.Rows) : PyData.eqv (codeD k n rows) (codeD k n rows) = true := SeqAt.eqv_refl _ (codeD_lay k n rows)
section
variable {G H0 H : Hp} {p : Addr}
end
section
variable {G H H' : Hp} {a T U p : Addr} {xs ys : List Int} {m : Nat} {o : HO}
end
end L2
end
section
set_option Elab.async false
set_option linter.all false
set_option maxRecDepth 100000
set_option maxHeartbeats 4000000
namespace L2
open PySem
def DefIn (K : PySem.W.Frag) (x : Str) (st : Stmt) : Prop := ∃ (f : Addr) (oc : Value) (od an : Option Addr) (osl : Array (Option Value)) (kV dc pm cd ct : Value), PySem.W.nsIn K mainGlobals x = some (some (.ref f)) ∧
  K.lookup f = some ⟨oc, od, .func (PySem.W.fnOf x x (defArgs st) (defBody st) (defScope st) .none kV dc pm an cd ct), osl⟩ ∧ PySem.W.codeIn K cd x = true ∧ PySem.W.keepIn K (.ref f) = true
theorem DefIn.mk {K : PySem.W.Frag} {x : Str} {st : Stmt} {f : Addr} {oc : Value} {od an : Option Addr} {osl : Array (Option Value)} {kV dc pm cd ct : Value} (a : PySem.W.nsIn K mainGlobals x = some (some (.ref f)))
    (l : K.lookup f = some ⟨oc, od, .func (PySem.W.fnOf x x (defArgs st) (defBody st) (defScope st) .none kV dc pm an cd ct), osl⟩) (c : PySem.W.codeIn K cd x = true) (k : PySem.W.keepIn K (.ref f) = true) : DefIn K x st := ⟨f, oc, od, an, osl, kV, dc, pm, cd, ct, a, l, c, k⟩
theorem DefIn.fnX {K : PySem.W.Frag} {h : Heap} {mg : Str → Option Value} {x : Str} {st : Stmt} {ps : List Str} (D : DefIn K x st) (X : K.In h) (G : h.Ns mainGlobals mg)
    (hb : ∀ (kV doc pm : Value) (an : Option Addr) (cdv ct : Value) (us : List Value), us.length = ps.length → bindArgs (PySem.W.fnOf x x (defArgs st) (defBody st) (defScope st) .none kV doc pm an cdv ct) ⟨us, []⟩ = pure (ps.zip us)) : FnX K mg x st ps := by
  obtain ⟨f, oc, od, an, osl, kV, dc, pm, cd, ct, h1, h2, h3, h4⟩ := D
  have F := fun_mk (st := st) h2 h3 h4
  exact ⟨f, _, F, PySem.W.mg_of X G h1, F.binds hb⟩
end L2
end
section
set_option Elab.async false
set_option linter.all false
set_option maxRecDepth 100000
set_option maxHeartbeats 4000000
namespace L2
open PySem PySem.Spec PyProof.Rows
section
variable {X : Cx} {p pos : Pos} {e : Expr} {es : List Expr} {t : TA}
end
end L2
end
section
set_option Elab.async false
set_option linter.all false
set_option maxRecDepth 100000
set_option maxHeartbeats 4000000
namespace L2
open PySem PySem.Spec PyProof.Rows
end L2
end
section
set_option Elab.async false
set_option linter.all false
set_option maxRecDepth 100000
set_option maxHeartbeats 4000000
namespace Om
end Om
namespace L2
open PySem PySem.Spec PyProof.Rows
theorem le_lineB {n : Nat} (h : n ≤ 100000) : n ≤ sizeLine := Nat.le_trans h (by decide)
theorem lt_lineB {n : Nat} (h : n ≤ 100000) : n < sizeLine := Nat.lt_of_le_of_lt h (by decide)
section
variable {F : Addr → Prop} {H0 H H' : Hp} {a p : Addr} {ob : HO}
end
end L2
end
section
set_option Elab.async false
set_option linter.all false
set_option maxRecDepth 100000
set_option maxHeartbeats 4000000
namespace L2
open PySem PySem.Spec PyProof.Rows
end L2
end
section
set_option Elab.async false
set_option linter.all false
set_option maxRecDepth 100000
set_option maxHeartbeats 4000000
namespace Om
def par (ts : List Int) (f : Nat → Bool) (i : Nat) : Bool := ts.foldr (fun t acc => xor (decide (0 ≤ (i : Int) - t) && f ((i : Int) - t).toNat) acc) false
def put (x P : List Int) : List Int := (List.range x.length).map fun i => (x.getD i 0 + (if ((i : Nat) : Int) ∈ P then 1 else 0)) % 2
section
variable {most : Int} {ts bits : List Int}
end
end Om
end
section
set_option Elab.async false
set_option linter.all false
set_option maxRecDepth 100000
set_option maxHeartbeats 4000000
namespace Om
section
variable {most : Int} {ts bits : List Int}
end
end Om
namespace L2
open PySem PySem.Spec PyProof.Rows
end L2
end
section
set_option Elab.async false
namespace L2
open PySem PySem.Spec PyProof.Rows

section
variable {κ : Type} [DecidableEq κ]
def valV (kvs : List (κ × V)) (k : κ) : Option V := (kvs.find? fun kv => decide (kv.1 = k)).map (·.2)
def putK (kvs : List (κ × V)) (k : κ) (v : V) : List (κ × V) :=
  if (kvs.any fun kv => decide (kv.1 = k)) = true then kvs.map (fun kv => if kv.1 = k then (kv.1, v) else kv) else kvs ++ [(k, v)]
def dropK (kvs : List (κ × V)) (k : κ) : List (κ × V) := kvs.filter fun kv => decide (kv.1 ≠ k)

theorem valV_pos {p : κ × V} {r : List (κ × V)} {k : κ} (e : p.1 = k) : valV (p :: r) k = some p.2 := by simp [valV, List.find?_cons, e]
theorem valV_neg {p : κ × V} {r : List (κ × V)} {k : κ} (e : ¬ p.1 = k) : valV (p :: r) k = valV r k := by simp [valV, List.find?_cons, e]
theorem valV_any (k : κ) : ∀ kvs : List (κ × V), (kvs.any fun kv => decide (kv.1 = k)) = (valV kvs k).isSome
  | [] => rfl
  | p :: r => by
    rw [List.any_cons]
    by_cases e : p.1 = k
    · simp only [valV_pos e, decide_eq_true e, Bool.true_or, Option.isSome_some]
    · rw [valV_neg e, decide_eq_false e, Bool.false_or]; exact valV_any k r
theorem valV_map (k j : κ) (y : V) : ∀ kvs : List (κ × V), valV (kvs.map fun kv => if kv.1 = k then (kv.1, y) else kv) j = (valV kvs j).map fun x => if j = k then y else x
  | [] => rfl
  | p :: r => by
    have ih := valV_map k j y r
    rw [List.map_cons]
    by_cases h : p.1 = k
    · rw [if_pos h]
      by_cases e : p.1 = j
      · rw [valV_pos (p := (p.1, y)) e, valV_pos e, Option.map_some, if_pos (e.symm.trans h)]
      · rw [valV_neg (p := (p.1, y)) e, valV_neg e, ih]
    · rw [if_neg h]
      by_cases e : p.1 = j
      · rw [valV_pos (p := p) e, valV_pos e, Option.map_some, if_neg (fun z => h (e.trans z))]
      · rw [valV_neg (p := p) e, valV_neg e, ih]
theorem valV_snoc (k j : κ) (y : V) : ∀ kvs : List (κ × V), valV kvs k = none → valV (kvs ++ [(k, y)]) j = if j = k then some y else valV kvs j
  | [], _ => by
    by_cases e : k = j
    · rw [if_pos e.symm]; exact valV_pos (p := (k, y)) e
    · rw [if_neg (fun z => e z.symm)]; exact valV_neg (p := (k, y)) e
  | p :: r, hn => by
    rw [List.cons_append]
    have hk : ¬ p.1 = k := fun z => by rw [valV_pos z] at hn; cases hn
    rw [valV_neg hk] at hn
    have ih := valV_snoc k j y r hn
    by_cases e : p.1 = j
    · rw [valV_pos e, valV_pos e, if_neg (fun z => hk (e.trans z))]
    · rw [valV_neg e, valV_neg e, ih]
theorem valV_put (kvs : List (κ × V)) (k j : κ) (y : V) : valV (putK kvs k y) j = if j = k then some y else valV kvs j := by
  unfold putK
  by_cases a : (kvs.any fun kv => decide (kv.1 = k)) = true
  · rw [if_pos a, valV_map]
    rw [valV_any] at a
    by_cases e : j = k
    · obtain ⟨x, hx⟩ := Option.isSome_iff_exists.mp a
      rw [if_pos e, e, hx, Option.map_some, if_pos rfl]
    · rw [if_neg e]
      cases valV kvs j with
      | none => rfl
      | some x => rw [Option.map_some, if_neg e]
  · rw [if_neg a]
    refine valV_snoc k j y kvs ?_
    rw [valV_any] at a
    cases q : valV kvs k with
    | none => rfl
    | some x => rw [q] at a; exact (a rfl).elim
theorem length_putK (kvs : List (κ × V)) (k : κ) (v : V) : (putK kvs k v).length ≤ kvs.length + 1 := by
  unfold putK
  split
  · rw [List.length_map]; omega
  · rw [List.length_append, List.length_cons, List.length_nil]; omega
theorem putK_new {kvs : List (κ × V)} {k : κ} (v : V) (h : valV kvs k = none) : putK kvs k v = kvs ++ [(k, v)] := by
  unfold putK
  rw [valV_any, h]
  exact if_neg (by decide)

theorem RelO.isSome_eq {o : Option V} {u : Option Value} (r : RelO o u) : o.isSome = u.isSome := by
  cases o with
  | none => cases u with
    | none => rfl
    | some _ => exact (show False from r).elim
  | some _ => cases u with
    | none => exact (show False from r).elim
    | some _ => rfl
theorem RelO.getD {o : Option V} {u : Option Value} {d : V} {d' : Value} (r : RelO o u) (rd : RelV d d') : RelV (o.getD d) (u.getD d') := by
  cases o with
  | none => cases u with
    | none => exact rd
    | some _ => exact (show False from r).elim
  | some _ => cases u with
    | none => exact (show False from r).elim
    | some _ => exact r

theorem KV.val {kvs : List (κ × V)} {vs : List (κ × Value)} (r : KV kvs vs) (k : κ) : RelO (valV kvs k) (valueAt vs k) := by
  unfold KV at r
  induction r with
  | nil => exact True.intro
  | @cons p q ps qs h t ih =>
    obtain ⟨h1, h2⟩ := h
    by_cases e : p.1 = k
    · have e' : q.1 = k := h1.symm.trans e
      have b : valueAt (q :: qs) k = some q.2 := by simp [valueAt, List.find?_cons, e']
      rw [valV_pos e, b]; exact h2
    · have e' : ¬ q.1 = k := fun z => e (h1.trans z)
      have b : valueAt (q :: qs) k = valueAt qs k := by simp [valueAt, List.find?_cons, e']
      rw [valV_neg e, b]; exact ih
theorem KV.any {kvs : List (κ × V)} {vs : List (κ × Value)} (r : KV kvs vs) (k : κ) : (kvs.any fun kv => decide (kv.1 = k)) = vs.any fun kv => decide (kv.1 = k) := by
  unfold KV at r
  induction r with
  | nil => rfl
  | cons h t ih => rw [List.any_cons, List.any_cons, ih, h.1]
theorem KV.repl {kvs : List (κ × V)} {vs : List (κ × Value)} (r : KV kvs vs) (k : κ) {y : V} {u : Value} (ry : RelV y u) :
    KV (kvs.map fun kv => if kv.1 = k then (kv.1, y) else kv) (vs.map fun kv => if kv.1 = k then (kv.1, u) else kv) := by
  unfold KV at r ⊢
  induction r with
  | nil => exact .nil
  | @cons p q ps qs h t ih =>
    rw [List.map_cons, List.map_cons]
    refine .cons ?_ ih
    obtain ⟨h1, h2⟩ := h
    by_cases e : p.1 = k
    · rw [if_pos e, if_pos (h1.symm.trans e)]; exact ⟨h1, ry⟩
    · rw [if_neg e, if_neg (fun z => e (h1.trans z))]; exact ⟨h1, h2⟩
theorem KV.put {kvs : List (κ × V)} {vs : List (κ × Value)} (r : KV kvs vs) (k : κ) {y : V} {u : Value} (ry : RelV y u) : KV (putK kvs k y) (stored vs k u) := by
  unfold putK stored
  rw [r.any k]
  by_cases e : (vs.any fun kv => decide (kv.1 = k)) = true
  · rw [if_pos e, if_pos e]; exact r.repl k ry
  · rw [if_neg e, if_neg e]; exact Paired.snoc r ⟨rfl, ry⟩
theorem KV.drop {kvs : List (κ × V)} {vs : List (κ × Value)} (r : KV kvs vs) (k : κ) : KV (dropK kvs k) (without vs k) := by
  unfold KV at r ⊢
  unfold dropK without
  induction r with
  | nil => exact .nil
  | @cons p q ps qs h t ih =>
    obtain ⟨h1, h2⟩ := h
    rw [List.filter_cons, List.filter_cons]
    by_cases e : p.1 = k
    · have a : ¬ decide (p.1 ≠ k) = true := by simp [e]
      have b : ¬ decide (q.1 ≠ k) = true := by simp [h1.symm.trans e]
      rw [if_neg a, if_neg b]; exact ih
    · have e' : ¬ q.1 = k := fun z => e (h1.trans z)
      have a : decide (p.1 ≠ k) = true := by simp [e]
      have b : decide (q.1 ≠ k) = true := by simp [e']
      rw [if_pos a, if_pos b]; exact .cons ⟨h1, h2⟩ ih
theorem KV.keys {kvs : List (κ × V)} {vs : List (κ × Value)} (r : KV kvs vs) : kvs.map (·.1) = vs.map (·.1) := by
  unfold KV at r
  induction r with
  | nil => rfl
  | cons h t ih => rw [List.map_cons, List.map_cons, ih, h.1]
theorem KV.length {kvs : List (κ × V)} {vs : List (κ × Value)} (r : KV kvs vs) : kvs.length = vs.length := Paired.length r
end


theorem kV_is {P : Program} {w : World} {k : Key} {u : Value} (r : RelV (kV k) u) : (mixKind P w).is k u = true := by
  cases k with
  | inl i => obtain ⟨t, e⟩ := (show ∃ t, u = Value.int i t from r); subst e; exact mixKind_int P w i t
  | inr x => obtain ⟨t, e⟩ := (show ∃ t, u = Value.str x t from r); subst e; exact mixKind_str P w x t
theorem items_are {P : Program} {w : World} : ∀ {ks : List Key} {us : List Value}, Vals (ks.map kV) us → ItemsAre (mixKind P w) ks us
  | [], _, r => by rw [List.map_nil] at r; cases r; exact .nil
  | k :: ks, _, r => by
    rw [List.map_cons] at r
    cases r with
    | cons h t => exact .cons (kV_is h) (items_are t)

abbrev KT (H : Hp) : List (List Key × V) → List (List Key × Addr × Value) → Prop := Paired fun p q => p.1 = q.1 ∧ H q.2.1 = some (.tup (p.1.map kV)) ∧ RelV p.2 q.2.2
theorem KT.val {H : Hp} {kvs : List (List Key × V)} {xs : List (List Key × Addr × Value)} (r : KT H kvs xs) (k : List Key) : RelO (valV kvs k) ((atKey xs k).map (·.2)) := by
  induction r with
  | nil => exact True.intro
  | @cons p q ps qs h t ih =>
    obtain ⟨h1, _, h2⟩ := h
    by_cases e : p.1 = k
    · have e' : q.1 = k := h1.symm.trans e
      have b : atKey (q :: qs) k = some q.2 := by simp [atKey, List.find?_cons, e']
      rw [valV_pos e, b]; exact h2
    · have e' : ¬ q.1 = k := fun z => e (h1.trans z)
      have b : atKey (q :: qs) k = atKey qs k := by simp [atKey, List.find?_cons, e']
      rw [valV_neg e, b]; exact ih
theorem KT.repl {H : Hp} {kvs : List (List Key × V)} {xs : List (List Key × Addr × Value)} (r : KT H kvs xs) (k : List Key) {y : V} {u : Value} (ry : RelV y u) :
    KT H (kvs.map fun kv => if kv.1 = k then (kv.1, y) else kv) (xs.map (putAt k u)) := by
  induction r with
  | nil => exact .nil
  | @cons p q ps qs h t ih =>
    rw [List.map_cons, List.map_cons]
    refine .cons ?_ ih
    obtain ⟨h1, h2, h3⟩ := h
    unfold putAt
    by_cases e : p.1 = k
    · rw [if_pos e, if_pos (h1.symm.trans e)]; exact ⟨h1, h2, ry⟩
    · rw [if_neg e, if_neg (fun z => e (h1.trans z))]; exact ⟨h1, h2, h3⟩
theorem KT.put {H : Hp} {kvs : List (List Key × V)} {xs : List (List Key × Addr × Value)} (r : KT H kvs xs) (k : List Key) {b : Addr} {y : V} {u : Value} (hb : H b = some (.tup (k.map kV))) (ry : RelV y u) :
    KT H (putK kvs k y) (storedH xs k b u) := by
  have e : (kvs.any fun kv => decide (kv.1 = k)) = (atKey xs k).isSome := by
    rw [valV_any, (r.val k).isSome_eq, Option.isSome_map]
  unfold putK storedH
  rw [e]
  by_cases q : (atKey xs k).isSome = true
  · rw [if_pos q, if_pos q]; exact r.repl k ry
  · rw [if_neg q, if_neg q]; exact Paired.snoc r ⟨rfl, hb, ry⟩
theorem KT.keeps {H H' : Hp} {kvs : List (List Key × V)} {xs : List (List Key × Addr × Value)} (r : KT H kvs xs) (ht : ∀ b ys, H b = some (.tup ys) → H' b = some (.tup ys)) : KT H' kvs xs :=
  Paired.mapP r fun _ _ z => ⟨z.1, ht _ _ z.2.1, z.2.2⟩

section
variable {P : Program} {w : World} {H : Hp} {h : Heap} {a : Addr}
theorem rd_of {u : HO} (ok : HOk P w H h) (e : Rd H a u) : ObjOk P w H h a u := e.ok ok
theorem dk_rd {kvs : List (Key × V)} (ok : HOk P w H h) (e : Rd H a (.dK kvs)) : kvs.length ≤ sizeLine ∧ (a == sysModules) = false ∧ ∃ vs, KV kvs vs ∧ h.DictOf (mixKind P w) a vs :=
  show ObjOk P w H h a (.dK kvs) from rd_of ok e
theorem dk_of {kvs : List (Key × V)} (ok : HOk P w H h) (e : H a = some (.dK kvs)) : kvs.length ≤ sizeLine ∧ (a == sysModules) = false ∧ ∃ vs, KV kvs vs ∧ h.DictOf (mixKind P w) a vs := dk_rd ok (.inl e)
theorem key_of {ks : List Key} (ok : HOk P w H h) (e : H a = some (.tup (ks.map kV))) : (tupleKind (mixKind P w)).is h ks a := by
  obtain ⟨_, its, r, o, h1, h2, n, h3⟩ := (show ObjOk P w H h a (.tup (ks.map kV)) from ok a _ e)
  exact ⟨o, its.toArray, n, h1, h2, h3, by simpa using items_are r⟩
theorem dt_rd {kvs : List (List Key × V)} (ok : HOk P w H h) (e : Rd H a (.dT kvs)) : kvs.length ≤ sizeLine ∧ (a == sysModules) = false ∧
    ∃ xs, KT H kvs xs ∧ h.DictOfH (tupleKind (mixKind P w)) a xs := by
  obtain ⟨z, y, xs, r, o, es, ep, h1, h2, h3, h4, h5⟩ := (show ObjOk P w H h a (.dT kvs) from rd_of ok e)
  refine ⟨z, y, xs, r, o, es, ep, h1, h2, h3, h4, fun x hx => ?_, h5⟩
  have all : ∀ {l : List (List Key × V)} {m : List (List Key × Addr × Value)}, KT H l m → ∀ x ∈ m, (tupleKind (mixKind P w)).is h x.1 x.2.1 := by
    intro l m q
    induction q with
    | nil => intro x hx; exact nomatch hx
    | @cons p q ps qs hq t ih =>
      intro x hx
      rcases List.mem_cons.mp hx with e | hx
      · subst e
        exact key_of ok (by rw [← hq.1]; exact hq.2.1)
      · exact ih x hx
  exact all r x hx
theorem dt_of {kvs : List (List Key × V)} (ok : HOk P w H h) (e : H a = some (.dT kvs)) : kvs.length ≤ sizeLine ∧ (a == sysModules) = false ∧
    ∃ xs, KT H kvs xs ∧ h.DictOfH (tupleKind (mixKind P w)) a xs := dt_rd ok (.inl e)
end

def DGet (H : Hp) (a : Addr) (y : V) (r : Option V) : Prop :=
  (∃ kvs k, Rd H a (.dK kvs) ∧ y = kV k ∧ r = valV kvs k) ∨ ∃ kvs k b, Rd H a (.dT kvs) ∧ y = .ref b ∧ H b = some (.tup (k.map kV)) ∧ r = valV kvs k
def DPut (H : Hp) (a : Addr) (y v : V) (H' : Hp) : Prop :=
  (∃ kvs k, H a = some (.dK kvs) ∧ y = kV k ∧ kvs.length < sizeLine ∧ H' = upd H a (.dK (putK kvs k v))) ∨
  ∃ kvs k b, H a = some (.dT kvs) ∧ y = .ref b ∧ H b = some (.tup (k.map kV)) ∧ kvs.length < sizeLine ∧ H' = upd H a (.dT (putK kvs k v))
theorem DGet.k {H : Hp} {a : Addr} {kvs : List (Key × V)} {k : Key} (e : H a = some (.dK kvs)) : DGet H a (kV k) (valV kvs k) := .inl ⟨kvs, k, .inl e, rfl, rfl⟩
theorem DGet.t {H : Hp} {a b : Addr} {kvs : List (List Key × V)} {k : List Key} (e : H a = some (.dT kvs)) (eb : H b = some (.tup (k.map kV))) : DGet H a (.ref b) (valV kvs k) := .inr ⟨kvs, k, b, .inl e, rfl, eb, rfl⟩
theorem DPut.k {H : Hp} {a : Addr} {kvs : List (Key × V)} {k : Key} {v : V} (e : H a = some (.dK kvs)) (hl : kvs.length < sizeLine) : DPut H a (kV k) v (upd H a (.dK (putK kvs k v))) := .inl ⟨kvs, k, e, rfl, hl, rfl⟩
theorem DPut.t {H : Hp} {a b : Addr} {kvs : List (List Key × V)} {k : List Key} {v : V} (e : H a = some (.dT kvs)) (eb : H b = some (.tup (k.map kV))) (hl : kvs.length < sizeLine) :
    DPut H a (.ref b) v (upd H a (.dT (putK kvs k v))) := .inr ⟨kvs, k, b, e, rfl, eb, hl, rfl⟩


section
variable {X : Cx} {pins : List (Addr × Obj)} {σ : St} {H : Hp} {s : Shared} {a : Addr} {y v : V} {u r : Value} {o : Option V} {A : Around} {E : Value → Shared → Prop}

theorem Inv.big (I : Inv X pins σ H s) : sysModules < s.heap.objs.size := by
  have h : mainGlobals < s.heap.objs.size := (I.mod.glob.keeps I.bk).lt
  exact Nat.lt_trans (by decide) h

theorem d_getItem {Q : Value → Shared → Prop} (hu : A.units + 1 < cLine) (I : Inv X pins σ H s) (g : DGet H a y (some v)) (ry : RelV y u) (h : ∀ w' s', Inv X pins σ H s' → RelV v w' → Q w' s') :
    wpAny (model X.prog X.w) A (getItem (.ref a) u) Q E s := by
  rcases g with ⟨kvs, k, e, ey, l⟩ | ⟨kvs, k, b, e, ey, eb, l⟩
  · subst ey
    obtain ⟨z, hd, vs, rel, dd⟩ := dk_rd I.hok e
    obtain ⟨w', hw, rw'⟩ := RelO.some_of (v := v) (o := valueAt vs k) (by rw [l]; exact rel.val k)
    exact wpAny_getItem_of (kV_is ry) dd.mapOf hw (h w' _ (I.tok _) rw')
  · subst ey
    cases (show u = Value.ref b from ry)
    obtain ⟨z, hd, xs, rel, dd⟩ := dt_rd I.hok e
    obtain ⟨w', hw, rw'⟩ := RelO.some_of (v := v) (o := (atKey xs k).map (·.2)) (by rw [l]; exact rel.val k)
    obtain ⟨p, hp, hp2⟩ := Option.map_eq_some_iff.mp hw
    refine wpAny_getItem_heap (tupleKind_room_in1 hu) (key_of I.hok eb) dd hp ?_
    rw [hp2]
    exact h w' _ (I.tok _) rw'
theorem d_notIn {Q : Value → Shared → Prop} (hu : A.units + 1 < cLine) (I : Inv X pins σ H s) (g : DGet H a y o) (ry : RelV y u) (h : ∀ s', Inv X pins σ H s' → Q (.bool (!o.isSome)) s') :
    wpAny (model X.prog X.w) A (compareOp .NotIn u (.ref a)) Q E s := by
  rcases g with ⟨kvs, k, e, ey, l⟩ | ⟨kvs, k, b, e, ey, eb, l⟩
  · subst ey
    obtain ⟨z, hd, vs, rel, dd⟩ := dk_rd I.hok e
    refine wpAny_notIn_of (kV_is ry) hd dd.mapOf ?_
    rw [← (rel.val k).isSome_eq, ← l]
    exact h _ (I.tok _)
  · subst ey
    cases (show u = Value.ref b from ry)
    obtain ⟨z, hd, xs, rel, dd⟩ := dt_rd I.hok e
    refine wpAny_notIn_heap (tupleKind_room_in1 hu) (key_of I.hok eb) hd dd ?_
    have q := (rel.val k).isSome_eq
    rw [Option.isSome_map] at q
    rw [← q, ← l]
    exact h _ (I.tok _)
theorem d_write {h' : Heap} {t' : Nat} {ob : HO} (I : Inv X pins σ H s) (mu : Mut (H a)) (hs : Heap.SameBut a s.heap h') (he : ∃ q, h'.get? a = some q) (new : ObjOk X.prog X.w (upd H a ob) h' a ob) :
    Inv X pins σ (upd H a ob) { s with heap := h', toks := t' } :=
  I.write (x := a) (e := a) mu (.inl rfl) (fun b q hb z => (hs.2 b hb).trans z) he new
theorem dk_new {P : Program} {w : World} {H' : Hp} {h' : Heap} {kvs : List (Key × V)} {vs : List (Key × Value)} (z : kvs.length ≤ sizeLine) (hd : (a == sysModules) = false) (rel : KV kvs vs) (dd : h'.DictOf (mixKind P w) a vs) :
    ObjOk P w H' h' a (.dK kvs) := ⟨z, hd, vs, rel, dd⟩
theorem d_setItem {H' : Hp} {Q : Unit → Shared → Prop} (hu : A.units + 1 < cLine) (I : Inv X pins σ H s) (g : DPut H a y v H') (ry : RelV y u) (rv : RelV v r) (h : ∀ s', Inv X pins σ H' s' → Q () s') :
    wpAny (model X.prog X.w) A (setItem (.ref a) u r) Q E s := by
  rcases g with ⟨kvs, k, e, ey, l, eH⟩ | ⟨kvs, k, b, e, ey, eb, l, eH⟩
  · subst ey eH
    obtain ⟨z, hd, vs, rel, dd⟩ := dk_of I.hok e
    have hz : vs.length ≤ sizeLine := by rw [← rel.length]; exact z
    have hl : (putK kvs k v).length ≤ sizeLine := by have := length_putK kvs k v; omega
    refine wpAny_setItem_pairs (hsz := hz) (kV_is ry) dd fun h' dd' hs => h _ ?_
    have he : ∃ q, h'.get? a = some q := let ⟨q, _, _, hq, _⟩ := dd'; ⟨q, hq⟩
    exact d_write I (by rw [e]; exact True.intro) hs he (dk_new hl hd (rel.put k rv) dd')
  · subst ey eH
    cases (show u = Value.ref b from ry)
    obtain ⟨z, hd, xs, rel, dd⟩ := dt_of I.hok e
    have hz : xs.length ≤ sizeLine := by rw [← Paired.length rel]; exact z
    have hl : (putK kvs k v).length ≤ sizeLine := by have := length_putK kvs k v; omega
    refine wpAny_setItem_heap (hsz := hz) (tupleKind_room_in1 hu) (key_of I.hok eb) dd fun h' dd' hs => h _ ?_
    obtain ⟨q, es, ep, hq, h2, h3, h4, _, h5⟩ := dd'
    refine d_write I (by rw [e]; exact True.intro) hs ⟨q, hq⟩ ⟨hl, hd, _, (rel.put k eb rv).keeps fun c ys ec => ?_, q, es, ep, hq, h2, h3, h4, h5⟩
    rw [upd_ne (ne_of ec e (fun z => nomatch z))]
    exact ec
end

section
variable {X : Cx} {pins : List (Addr × Obj)} {σ : St} {H : Hp} {s : Shared} {a : Addr} {kvs : List (Key × V)} {k : Key} {u : Value} {A : Around} {E : Value → Shared → Prop}
end


theorem dict_typeIs {X : Cx} {pins : List (Addr × Obj)} {σ : St} {H : Hp} {s : Shared} {a : Addr} {y : V} {o : Option V} (I : Inv X pins σ H s) (g : DGet H a y o) : s.TypeIs (.ref a) "dict" := by
  rcases g with ⟨kvs, k, e, _, _⟩ | ⟨kvs, k, b, e, _, _, _⟩
  · obtain ⟨_, _, vs, _, dd⟩ := dk_rd I.hok e
    exact dd.typeIs
  · obtain ⟨_, _, xs, _, dd⟩ := dt_rd I.hok e
    exact dd.typeIs
section
variable {X : Cx} {o i e value : Expr} {pos pos' tpos : Pos} {td ty tv : TE}
end


theorem dk_empty {P : Program} {w : World} {H : Hp} (h : Heap) (hb : sysModules < h.objs.size) : ObjOk P w H (h.push { cls := .type "dict", data := .dict #[] }) h.objs.size (.dK []) :=
  ⟨Nat.zero_le _, beq_eq_false_iff_ne.mpr (Ne.symm (Nat.ne_of_lt hb)), [], .nil, Heap.DictOf.new h⟩
theorem dt_empty {P : Program} {w : World} {H : Hp} (h : Heap) (hb : sysModules < h.objs.size) : ObjOk P w H (h.push { cls := .type "dict", data := .dict #[] }) h.objs.size (.dT []) :=
  ⟨Nat.zero_le _, beq_eq_false_iff_ne.mpr (Ne.symm (Nat.ne_of_lt hb)), [], .nil, _, #[], 0, Heap.get?_push_size _ rfl, ⟨rfl, rfl, rfl⟩, rfl, rfl, List.nodup_nil⟩
def tDNewK : TE := fun _ H Q => ∀ p, H p = none → Q (.ref p) (upd H p (.dK []))
section
variable {X : Cx} {pos : Pos}
theorem pe_dnewK : PE X (.Dict [] [] pos) tDNewK := fun pins s σ H Q I h =>
  wpAny_Dict_empty ⟨.ref s.heap.objs.size, _, I.laid (a := s.heap.objs.size) (o := .dK []) (t' := s.toks) (fun _ _ q => Heap.get?_push_of_some _ q) (Nat.le_refl _) (dk_empty s.heap I.big), rfl, h _ (I.hok.fresh (Nat.le_refl _))⟩
end

section
variable {X : Cx} {pins : List (Addr × Obj)} {σ : St} {H : Hp} {s : Shared} {a : Addr} {y d : V} {u r : Value} {o : Option V} {A : Around} {E : Value → Shared → Prop}
end

section
variable {X : Cx} {o e f : Expr} {apos cpos : Pos} {td ty tx : TE}
end

section
variable {X : Cx} {pins : List (Addr × Obj)} {σ : St} {H : Hp} {s : Shared} {a : Addr} {kvs : List (Key × V)} {A : Around} {E : Value → Shared → Prop}
end


section
variable {X : Cx} {pins : List (Addr × Obj)} {σ : St} {H : Hp} {s : Shared} {a : Addr} {y : V} {u : Value} {A : Around} {E : Value → Shared → Prop}
end
end L2
end
section
set_option Elab.async false
set_option linter.all false
set_option maxRecDepth 100000
set_option maxHeartbeats 4000000
namespace L2
open PySem PySem.Spec PyProof.Rows
def tyD : PyData → String
  | .none => "NoneType"
  | .bool _ => "bool"
  | .int _ => "int"
  | .str _ => "str"
  | .list _ => "list"
  | .tuple _ => "tuple"
  | .dict _ => "dict"
theorem DV.ty {H : Hp} {v : V} {d : PyData} (h : DV H v d) : tyN H v = some (tyD d) := by
  cases h with
  | non => rfl
  | bl b => rfl
  | int i => rfl
  | str x => rfl
  | lst e _ => simp [tyN, e, tyD]
  | tup e _ => simp [tyN, e, tyD]
  | dic e => simp [tyN, e, tyD]
mutual
def smallD : PyData → Bool
  | .str z => decide (z.length ≤ 1000)
  | .list xs => decide (xs.length ≤ 1000) && smallAllD xs
  | .tuple xs => decide (xs.length ≤ 1000) && smallAllD xs
  | _ => true
def smallAllD : List PyData → Bool
  | [] => true
  | d :: ds => smallD d && smallAllD ds
end
def leafV : V → Prop
  | .non | .bl _ | .int _ | .str _ => True
  | _ => False
mutual
inductive Tw (H : Hp) : Nat → V → V → Prop
  | leaf {n : Nat} {x : V} : leafV x → Tw H n x x
  | dic {n : Nat} {a : Addr} : H a = some (.dK []) → Tw H n (.ref a) (.ref a)
  | lst {n : Nat} {a b : Addr} {xs ys : List V} : H a = some (.lst xs) → H b = some (.lst ys) → Tws H n xs ys → Tw H (n + 1) (.ref a) (.ref b)
  | tup {n : Nat} {a b : Addr} {xs ys : List V} : H a = some (.tup xs) → H b = some (.tup ys) → Tws H n xs ys → Tw H (n + 1) (.ref a) (.ref b)
inductive Tws (H : Hp) : Nat → List V → List V → Prop
  | nil {n : Nat} : Tws H n [] []
  | cons {n : Nat} {x y : V} {xs ys : List V} : Tw H n x y → Tws H n xs ys → Tws H n (x :: xs) (y :: ys)
end
mutual
theorem Tw.mono {H H' : Hp} (k : Same H H') : ∀ {n : Nat} {x y : V}, Tw H n x y → Tw H' n x y
  | _, _, _, .leaf h => .leaf h
  | _, _, _, .dic h => .dic (k _ _ h)
  | _, _, _, .lst h h' r => .lst (k _ _ h) (k _ _ h') (Tws.mono k r)
  | _, _, _, .tup h h' r => .tup (k _ _ h) (k _ _ h') (Tws.mono k r)
theorem Tws.mono {H H' : Hp} (k : Same H H') : ∀ {n : Nat} {xs ys : List V}, Tws H n xs ys → Tws H' n xs ys
  | _, _, _, .nil => .nil
  | _, _, _, .cons h r => .cons (Tw.mono k h) (Tws.mono k r)
end
theorem Tws.length {H : Hp} : ∀ {n : Nat} {xs ys : List V}, Tws H n xs ys → xs.length = ys.length
  | _, _, _, .nil => rfl
  | _, _, _, .cons _ r => by rw [List.length_cons, List.length_cons, r.length]
theorem Tws.app {H : Hp} : ∀ {n : Nat} {xs ys xs' ys' : List V}, Tws H n xs ys → Tws H n xs' ys' → Tws H n (xs ++ xs') (ys ++ ys')
  | _, _, _, _, _, .nil, k => k
  | _, _, _, _, _, .cons h r, k => .cons h (Tws.app r k)
theorem Tws.get {H : Hp} : ∀ {n : Nat} {xs ys : List V} {j : Nat} {x y : V}, Tws H n xs ys → xs[j]? = some x → ys[j]? = some y → Tw H n x y
  | _, _, _, 0, _, _, .cons h _, e, e' => by simp at e e'; subst e; subst e'; exact h
  | _, _, _, j + 1, _, _, .cons _ r, e, e' => Tws.get r (by simpa using e) (by simpa using e')
section
variable {X : Cx} {pins : List (Addr × Obj)} {σ : St} {H : Hp} {s : Shared} {A : Around}
end
section
variable {X : Cx}
end
end L2
end
section
set_option Elab.async false
set_option linter.all false
set_option maxRecDepth 100000
set_option maxHeartbeats 4000000
namespace L2
open PySem PySem.Spec PyProof.Rows
namespace Om
def whole : PyData → Bool
  | .int _ => true
  | _ => false
def within (d : PyData) (a b : Int) : Bool := match d with
  | .int i => decide (a ≤ i) && decide (i ≤ b)
  | _ => false
end Om
end L2
end
section
set_option Elab.async false
set_option linter.all false
set_option maxRecDepth 100000
set_option maxHeartbeats 4000000
namespace L2
open PySem PySem.Spec PyProof.Rows
section
variable {X : Cx} {p pos : Pos} {e : Expr} {es : List Expr} {t : TA}
end
end L2
end
section
set_option Elab.async false
set_option maxRecDepth 100000
namespace L2
open PySem PySem.Spec PyProof.Rows

section
variable {prog : Program} {w : World} {A : Around} {E : Value → Shared → Prop} {s : Shared}
theorem keyIter {d : Addr} {ep : Nat} {od : Obj} {es : Array DictEntry} {Q : Value → Shared → Prop} (hd : (d == sysModules) = false) (hT : s.TypeIs (.ref d) "dict") (ho : s.heap.get? d = some od) (hdat : od.data = .dict es ep)
    (hQ : Q (.ref s.heap.objs.size) { s with heap := s.heap.push { cls := .type "dict_keyiterator", data := .fields #[.ref d, .int 0 0, .int es.size 0, .int ep 0] } }) : wpAny (model prog w) A (pyIter (.ref d)) Q E s := by
  refine wpAny_pyIter_slot hT F.slot_dict_iter (wpAny_call_entry F.slot_dict_iter hT F.entry_dict_iter ?_ (F.args_dict_iter_1 _))
  unfold Builtin.«dict.__iter__» Builtin.Dict.dictSlotNone
  refine wpAny_bind (wpAny_bind (wpAny_notOrdered_dict hT ?_))
  refine wpAny_pure ?_
  show wpAny _ _ (Builtin.Dict.showsAll d >>= _) _ _ s
  unfold Builtin.Dict.showsAll
  rw [if_neg (by rw [hd]; exact Bool.false_ne_true)]
  refine wpAny_bind (wpAny_pure (wpAny_bind (wpAny_dictEntries ho hdat (wpAny_bind (wpAny_dictEpoch ho hdat ?_)))))
  refine wpAny_bind (wpAny_newObj_type (wpAny_pure ⟨_, rfl, "dict_keyiterator", _, ⟨_, Heap.get?_push_size _ rfl, rfl⟩, F.slot_dict_keyiterator_next.lookup, ?_⟩))
  simpa [rawInt] using hQ
theorem keyNext {it d : Addr} {i ep : Nat} {od : Obj} {es : Array DictEntry} {e : DictEntry} {Q : Option Value → Shared → Prop} (hit : s.heap.IsKeyIter it d i es.size ep) (hod : s.heap.get? d = some od) (hdd : od.data = .dict es ep) (he : es[i]? = some e)
    (hQ : ∀ h', h'.IsKeyIter it d (i + 1) es.size ep → Heap.SameBut it s.heap h' → Q (some e.key) { s with heap := h' }) : wpAny (model prog w) A (pyNext (.ref it)) Q E s := by
  obtain ⟨o, ho, hc, hd⟩ := id hit
  unfold pyNext
  refine wpAny_bind (wpAny_attempt (wpAny_callSpecial?_slot (name := Str.ofString "__next__") hit.typeIs F.slot_dict_keyiterator_next
    (wpAny_call_entry F.slot_dict_keyiterator_next hit.typeIs F.entry_dict_keyiterator_next ?_ (F.args_dict_keyiterator_next_1 _))))
  refine wpAny_bind (wpAny_pure (wpAny_bind (wpAny_bind ?_)))
  first | refine wpAny_bind (wpAny_typeNameOfWhole_keyiter hit.typeIs (wpAny_pure ?_)) | refine wpAny_bind (wpAny_typeNameOf_keyiter hit.typeIs (wpAny_pure ?_))
  refine wpAny_bind (wpAny_fieldsOf ho hd ?_)
  simp only [show Builtin.Dict_items.ownsTuple "dict_keyiterator" = false from by decide, Bool.false_eq_true, if_false]
  show wpAny _ _ (if (Value.ref d == Value.none) = true then _ else _) _ _ s
  rw [if_neg (show ¬ ((Value.ref d == Value.none) = true) from Bool.false_ne_true)]
  refine wpAny_bind (wpAny_pure (wpAny_bind (wpAny_dictEntries hod hdd ?_)))
  rw [if_neg (by simp)]
  refine wpAny_bind (wpAny_pure (wpAny_bind (wpAny_dictEpoch hod hdd ?_)))
  rw [if_neg (by simp)]
  refine wpAny_pure ?_
  simp only [show ¬ ((i : Int) < 0) from by omega, if_false, Int.toNat_natCast, he]
  refine wpAny_bind ?_
  first | refine wpAny_bind (wpAny_typeNameOfWhole_keyiter hit.typeIs (wpAny_pure ?_)) | refine wpAny_bind (wpAny_typeNameOf_keyiter hit.typeIs (wpAny_pure ?_))
  refine wpAny_bind (wpAny_isOneOf_keyiter hit.typeIs ?_)
  show wpAny _ _ (setField (.ref it) 1 (rawInt ((i : Int) + 1)) >>= _) _ _ s
  refine wpAny_bind (wpAny_setField ho hd (by simp) ?_)
  have hit' : (s.heap.update it (Obj.mapFields (·.setIfInBounds 1 (rawInt ((i : Int) + 1))))).IsKeyIter it d (i + 1) es.size ep :=
    ⟨_, Heap.get?_update_self _ ho (Obj.isFreed_of_fields (Obj.data_mapFields hd _)), (Obj.cls_mapFields ..).trans hc, by rw [Obj.data_mapFields hd]; simp [rawInt]⟩
  refine wpAny_bind (wpAny_holding ?_)
  refine wpAny_bind (wpAny_isOneOf_keyiter (s := { s with heap := s.heap.update it (Obj.mapFields (·.setIfInBounds 1 (rawInt ((i : Int) + 1)))) }) hit'.typeIs ?_)
  show wpAny _ _ (pure e.key) _ _ _
  exact wpAny_pure (wpAny_pure ⟨_, rfl, wpAny_pure (hQ _ hit' (Heap.SameBut.update ..))⟩)
theorem keyEnd {it d : Addr} {i ep : Nat} {od : Obj} {es : Array DictEntry} {Q : Option Value → Shared → Prop} (hh : A.handled = none) (hit : s.heap.IsKeyIter it d i es.size ep) (hod : s.heap.get? d = some od) (hdd : od.data = .dict es ep) (hge : es.size ≤ i)
    (hQ : ∀ h', Heap.ExtBut it s.heap h' → Q none { s with heap := h' }) : wpAny (model prog w) A (pyNext (.ref it)) Q E s := by
  obtain ⟨o, ho, hc, hd⟩ := id hit
  unfold pyNext
  refine wpAny_bind (wpAny_attempt (wpAny_callSpecial?_slot (name := Str.ofString "__next__") hit.typeIs F.slot_dict_keyiterator_next
    (wpAny_call_entry F.slot_dict_keyiterator_next hit.typeIs F.entry_dict_keyiterator_next ?_ (F.args_dict_keyiterator_next_1 _))))
  refine wpAny_bind (wpAny_pure (wpAny_bind (wpAny_bind ?_)))
  first | refine wpAny_bind (wpAny_typeNameOfWhole_keyiter hit.typeIs (wpAny_pure ?_)) | refine wpAny_bind (wpAny_typeNameOf_keyiter hit.typeIs (wpAny_pure ?_))
  refine wpAny_bind (wpAny_fieldsOf ho hd ?_)
  simp only [show Builtin.Dict_items.ownsTuple "dict_keyiterator" = false from by decide, Bool.false_eq_true, if_false]
  show wpAny _ _ (if (Value.ref d == Value.none) = true then _ else _) _ _ s
  rw [if_neg (show ¬ ((Value.ref d == Value.none) = true) from Bool.false_ne_true)]
  refine wpAny_bind (wpAny_pure (wpAny_bind (wpAny_dictEntries hod hdd ?_)))
  rw [if_neg (by simp)]
  refine wpAny_bind (wpAny_pure (wpAny_bind (wpAny_dictEpoch hod hdd ?_)))
  rw [if_neg (by simp)]
  refine wpAny_pure ?_
  simp only [show ¬ ((i : Int) < 0) from by omega, if_false, Int.toNat_natCast, Array.getElem?_eq_none hge]
  refine wpAny_bind ?_
  first | refine wpAny_bind (wpAny_typeNameOfWhole_keyiter hit.typeIs (wpAny_pure ?_)) | refine wpAny_bind (wpAny_typeNameOf_keyiter hit.typeIs (wpAny_pure ?_))
  show wpAny _ _ (setField (.ref it) 0 .none >>= _) _ _ s
  refine wpAny_bind (wpAny_setField ho hd (by simp) ?_)
  show wpAny _ _ (newExc (.type "StopIteration") [] >>= _) _ _ _
  refine wpAny_bind ?_
  simp only [newExc, newTuple]
  refine wpAny_bind (wpAny_newObj_type ?_ (by size_fits))
  refine wpAny_bind (m := firstArgMember _ _) (wpAny_of_eq (a := Value.none) (by first | rfl | (simp only [firstArgMember]; rfl)) ?_)
  refine wpAny_newObj_type ?_ (by size_fits)
  simp only [raiseNew]
  refine wpAny_bind (wpAny_handled ?_)
  rw [show A.in1.handled = none from hh]
  refine wpAny_bind (wpAny_pure (wpAny_throw ?_))
  refine wpAny_bind (wpAny_isInstance (T := "StopIteration") (b := true) ⟨_, Heap.get?_push_size _ rfl, rfl⟩ isSubtype_stop ?_)
  exact wpAny_pure (hQ _ (((Heap.SameBut.update ..).extBut.push _).push _))
end
end L2
end
section
set_option Elab.async false
set_option maxRecDepth 100000
namespace L2
open PySem PySem.Spec PyProof.Rows

section
variable {X : Cx} {pins : List (Addr × Obj)} {σ : St} {H : Hp} {s : Shared} {a : Addr} {u : HO} {o : Obj}
theorem Inv.freeze (I : Inv X pins σ H s) (e : H a = some u) (mu : Mut (some u)) (ho : s.heap.get? a = some o) : Inv X pins σ (upd H a (.frz o u)) s := by
  have nown : ∀ c y, H c = some (.own y) → c ≠ a := fun c y r z => by subst z; rw [r] at e; cases e; exact mu
  have ntup : ∀ c xs, H c = some (.tup xs) → c ≠ a := fun c xs r z => by subst z; rw [r] at e; cases e; exact mu
  exact I.write (t' := s.toks) (h' := s.heap) (x := a) (e := a) (by rw [e]; exact mu) (.inl rfl) (fun _ _ _ q => q) ⟨o, ho⟩
    ⟨ho, (I.hok a u e).stay (fun _ _ _ q => q) (fun b q => by rw [upd_ne (nown b a q)]; exact q) fun b xs q => by rw [upd_ne (ntup b xs q)]; exact q⟩
theorem Inv.frozen (I : Inv X pins σ H s) (e : H a = some (.frz o u)) : s.heap.get? a = some o := (I.hok a _ e).1
theorem Inv.obj (I : Inv X pins σ H s) (e : H a = some u) : ∃ o, s.heap.get? a = some o := by
  have l := (I.hok a u e).lt
  cases u with
  | lst xs => obtain ⟨_, _, _, _, q⟩ := I.hok a _ e; exact ⟨_, q⟩
  | dK kvs => obtain ⟨_, _, _, _, o, _, _, q, _⟩ := I.hok a _ e; exact ⟨_, q⟩
  | dT kvs => obtain ⟨_, _, _, _, o, _, _, q, _⟩ := I.hok a _ e; exact ⟨_, q⟩
  | tup xs => obtain ⟨_, _, _, o, q, _⟩ := I.hok a _ e; exact ⟨_, q⟩
  | set S n => obtain ⟨o, _, _, _, q, _⟩ := I.hok a _ e; exact ⟨_, q⟩
  | ins C dx fs => obtain ⟨_, _, _, q, _⟩ := I.hok a _ e; exact ⟨_, q⟩
  | own y => obtain ⟨_, q⟩ := I.hok a _ e; exact ⟨_, q⟩
  | xd fs => obtain ⟨_, ⟨_, _, _, q, _⟩, _⟩ := I.hok a _ e; exact ⟨_, q⟩
  | rng lo hi => obtain ⟨_, _, _, q⟩ := I.hok a _ e; exact ⟨_, q⟩
  | frz ob u => obtain ⟨q, _⟩ := I.hok a _ e; exact ⟨_, q⟩
  | tbl ps => exact ⟨_, I.hok a _ e⟩
  | met f y => exact ⟨_, I.hok a _ e⟩
  | ext φ => obtain ⟨_, q, _⟩ := I.hok a _ e; exact q
end
section
variable {X : Cx} {e : Expr} {te : TE} {pos : Pos}
def tRetF (te : TE) : TS := fun D σ H => te σ H fun x H1 => match x with
  | .ref a => (∃ u, H1 a = some u ∧ Mut (some u) ∧ ∀ o, D.rt (.ref a) (upd H1 a (.frz o u))) ∨ D.rt (.ref a) H1
  | x => D.rt x H1
theorem s_retF (he : PE X e te) : PS X (.Return (some e) pos) (tRetF te) := by
  intro pins s σ H D I h
  refine wpAny_Return_some (thn (he pins s σ H _ I h) fun v s1 ⟨x, H1, I1, r1, q1⟩ => ?_)
  cases x with
  | ref a =>
    rcases q1 with ⟨u, e, mu, q⟩ | q
    · obtain ⟨o, ho⟩ := I1.obj e
      exact ⟨.ref a, σ, _, I1.freeze e mu ho, r1, q o⟩
    · exact ⟨.ref a, σ, H1, I1, r1, q⟩
  | _ => exact ⟨_, σ, H1, I1, r1, q1⟩
end

abbrev KeysAt (H : Hp) : List (List Key × V) → List Addr → Prop := Paired fun p b => H b = some (.tup (p.1.map kV))
section
variable {X : Cx} {tg : Expr}
theorem keys_tup {H : Hp} {kvs : List (List Key × V)} {xs : List (List Key × Addr × Value)} (r : KT H kvs xs) : KeysAt H kvs (xs.map (·.2.1)) := by
  induction r with
  | nil => exact .nil
  | cons h _ ih => exact .cons h.2.1 ih
theorem keys_mix {P : Program} {w : World} {kvs : List (Key × V)} : ∀ {es : List DictEntry} {vs : List (Key × Value)}, KV kvs vs → Pairs (mixKind P w) es vs → Vals (kvs.map fun p => kV p.1) (es.map (·.key)) := by
  intro es vs r q
  unfold KV at r
  induction r generalizing es with
  | nil => cases q; exact .nil
  | @cons p v ps vs' h t ih =>
    cases q with
    | cons h1 h2 h3 =>
      refine .cons ?_ (ih h3)
      dsimp only
      rw [h.1]
      rcases keyIs_shape h1 with ⟨i, t, e1, e2⟩ | ⟨x, t, e1, e2⟩
      · rw [e1, e2]; exact ⟨t, rfl⟩
      · rw [e1, e2]; exact ⟨t, rfl⟩
end
end L2
end
section
set_option Elab.async false
set_option maxRecDepth 100000
namespace L2
open PySem PySem.Spec PyProof.Rows

section
variable {X : Cx} {pos : Pos}
def rDGet : R2 := fun x y H Q => ∃ a v, x = .ref a ∧ DGet H a y (some v) ∧ Q v H
def rDNotIn : R2 := fun y x H Q => ∃ a o, x = .ref a ∧ DGet H a y o ∧ Q (.bl (!o.isSome)) H
def rDPut : V → V → V → Hp → (Hp → Prop) → Prop := fun o i v H Q => ∃ a H', o = .ref a ∧ DPut H a i v H' ∧ Q H'
theorem ix_dict (hu : X.A.units + 64 < cLine) : IxR X rDGet := by
  intro value slice pins s σ H x y v u Q I rx ry ⟨a, z, ex, g, q⟩ hs
  subst ex
  obtain rfl : v = Value.ref a := rx
  have hT := dict_typeIs I g
  unfold subscriptTail
  refine wpAny_bind ?_
  rw [getitemInPython_of_ne hT.not_modules]
  refine wpAny_bind (wpAny_specialOf hT PySem.F.slot_dict_getitem.lookup ?_)
  have fin : wpAny (model X.prog X.w) X.A (subscripted slice false (.ref a) u) (fun r s₃ => wpAny (model X.prog X.w) X.A (letTemporaryGo value (.ref a) r >>= fun _ => pure r) (EP X pins σ Q) X.xe s₃) X.xe s := by
    rw [hs]
    exact wpAny_operating (d_getItem (by omega) I g ry fun w' s3 I3 rw' => wpAny_bind (wpAny_letTemporaryGo (wpAny_pure ⟨z, H, I3, rw', q⟩)))
  first
    | exact wpAny_pure (wpAny_bind fin)
    | exact wpAny_bind (wpAny_pure (wpAny_bind fin))
    | exact wpAny_bind fin
theorem op_notInDict (hu : X.A.units + 64 < cLine) : OpR X (compareOp .NotIn) rDNotIn := by
  intro pins s σ H y x u v Q I ry rx ⟨a, o, ex, g, q⟩
  subst ex
  obtain rfl : v = Value.ref a := rx
  exact d_notIn (by omega) I g ry fun s3 I3 => ⟨.bl (!o.isSome), H, I3, rfl, q⟩
theorem set_dict (hu : X.A.units + 64 < cLine) : PSet X rDPut := by
  intro pins s σ H o i v ov iv u Q I ro ri rv ⟨a, H', eo, g, q⟩
  subst eo
  obtain rfl : ov = Value.ref a := ro
  exact d_setItem (by omega) I g ri rv fun s4 I4 => ⟨H', I4, q⟩
def rIxD : R2 := fun x y H Q => rIxU x y H Q ∨ rDGet x y H Q
def rSetD : V → V → V → Hp → (Hp → Prop) → Prop := fun o i v H Q => rSetU o i v H Q ∨ rDPut o i v H Q
theorem ix_atD {a b : Expr} {ta tb : TE} (hu : X.A.units + 64 < cLine) (ha : PE X a ta) (hb : PE X b tb) (hs : ∀ o i, subscripted b false o i = operate [o, i] (getItem o i) := by intro _ _; kernel_rfl) : PE X (.Subscript a b pos) (tOp rIxD ta tb) :=
  pe_ix (ixU.or (ix_dict hu)) ha hb hs
theorem g_subD {o i : Expr} {to ti : TE} (hu : X.A.units + 64 < cLine) (ho : PE X o to) (hi : PE X i ti) (ha : ∀ v, assign (.Subscript o i pos) X.env v = (do
      let ov ← holding [v] (eval o X.env)
      let iv ← holding [v, ov] (eval i X.env)
      standAt pos
      holding [v, ov, iv] (setItem ov iv v)
      release [v, ov, iv] []) := by intro _; kernel_rfl) : PG X (.Subscript o i pos) (gSub to ti rSetD) :=
  pg_sub ho hi (fun pins s σ H o i v ov iv u Q I ro ri rv q => by
    rcases q with q | q
    · exact setU pins s σ H o i v ov iv u Q I ro ri rv q
    · exact set_dict hu pins s σ H o i v ov iv u Q I ro ri rv q) ha

end
section
variable {prog : Program} {w : World} {A : Around} {E : Value → Shared → Prop} {s : Shared}
end
section
variable {X : Cx} {pins : List (Addr × Obj)} {σ : St} {H : Hp} {s : Shared} {a : Addr} {A : Around} {E : Value → Shared → Prop}
end
section
variable {X : Cx} {pos : Pos}
end

section
variable {X : Cx} {o e : Expr} {es : List Expr} {to : TE} {t : TA} {apos : Pos}
end
end L2
end
section
set_option Elab.async false
set_option linter.all false
set_option maxRecDepth 100000
set_option maxHeartbeats 4000000
namespace L2
open PySem PySem.Spec PyProof.Rows
section
variable {X : Cx} {p pos : Pos} {a b e : Expr} {es : List Expr} {t : TA}
end
end L2
namespace Om
end Om
end
section
set_option Elab.async false
set_option maxRecDepth 100000
namespace Om
abbrev Stp := (Nat × Nat) × (Nat × Nat)
def St (rows : Rows) (x y : Nat) (s : Stp) : Prop :=
  s.1.1 < (rows.getD x []).length ∧ s.1.2 < (rows.getD y []).length ∧ (step rows x s.1.1).1 = (step rows y s.1.2).1 ∧ s.2 = ((step rows x s.1.1).2, (step rows y s.1.2).2)
inductive Pth (rows : Rows) : Nat → List Nat → List Bool → Nat → Prop
  | nil {s : Nat} : s < rows.length → Pth rows 0 [] [] s
  | snoc {m : Nat} {t : List Nat} {w : List Bool} {p i : Nat} : Pth rows m t w p → i < (rows.getD p []).length → Pth rows (m + 1) (t ++ [i]) (w ++ (step rows p i).1) (step rows p i).2
section
variable {k n : Nat} {rows : Rows}
def Clash (rows : Rows) (b m : Nat) (x y : Nat) : Prop := ∃ t t' w, Pth rows m t w x ∧ Pth rows m t' w y ∧ t.getD b 0 ≠ t'.getD b 0
end
end Om
end
section
set_option Elab.async false
set_option linter.all false
set_option maxRecDepth 100000
set_option maxHeartbeats 4000000
namespace L2
open PySem PySem.Spec PyProof.Rows
def kk (p : Nat × Nat) : List Key := [.inl ((p.1 : Nat) : Int), .inl ((p.2 : Nat) : Int)]
section
variable {ks : List (Nat × Nat)} {kvs : List (List Key × V)} {p : Nat × Nat} {v : V}
end
section
variable {G H0 H : Hp} {D p : Addr} {kvs : List (List Key × V)} {o : HO}
end
end L2
end
section
set_option Elab.async false
set_option linter.all false
set_option maxRecDepth 100000
set_option maxHeartbeats 4000000
namespace L2
open PySem PySem.Spec PyProof.Rows
section
variable {X : Cx} {a : Expr} {p pos : Pos} {ta : TA}
def tRng1 (ta : TA) : TE := fun σ H Q => ta σ H fun vs H1 => match vs with
  | [.int j] => 0 ≤ j ∧ j < 2 ^ 24 ∧ ∀ q, H1 q = none → Q (.ref q) (upd H1 q (.rng 0 j))
  | _ => False
def rListR : List V → Hp → VK → Prop := fun vs H Q => match vs with
  | [.ref p] => (∃ j : Nat, H p = some (.rng 0 j) ∧ j ≤ 2 ^ 24 ∧ ∀ l, H l = none → Q (.ref l) (upd H l (.lst ((List.range j).map fun i => V.int (i : Nat))))) ∨ rListOf vs H Q
  | _ => False
theorem vals_of : ∀ {xs : List V} {us : List Value}, xs.length = us.length → (∀ (i : Nat) (x : V) (u : Value), xs[i]? = some x → us[i]? = some u → RelV x u) → Vals xs us
  | [], [], _, _ => .nil
  | [], _ :: _, h, _ => by simp at h
  | _ :: _, [], h, _ => by simp at h
  | x :: xs, u :: us, h, r => .cons (r 0 x u rfl rfl) (vals_of (by simpa using h) fun i y v h1 h2 => r (i + 1) y v (by simpa using h1) (by simpa using h2))
theorem items_vals {acc : Array Value} {n : Nat} (h : ItemsOf (fun i v => ∃ t, v = .int (0 + (i : Nat) * 1) t) acc n) : Vals ((List.range n).map fun i => V.int (i : Nat)) acc.toList := by
  refine vals_of (by simp [h.1]) fun i x u hx hu => ?_
  have hu' : acc[i]? = some u := by simpa using hu
  obtain ⟨t, rfl⟩ := h.2 i u hu'
  rw [List.getElem?_map] at hx
  obtain ⟨j, h1, rfl⟩ := Option.map_eq_some_iff.mp hx
  have hj : j = i := by
    have hlt : i < n := by
      have := List.getElem?_eq_some_iff.mp h1
      obtain ⟨hl, _⟩ := this
      simpa using hl
    rw [List.getElem?_range hlt] at h1
    exact (Option.some.inj h1).symm
  subst hj
  exact ⟨t, by simp⟩
theorem call_listR (hc : X.calm = true) : CallR X (.type "list") rListR := by
  intro pins s σ H xs us Q I r h
  unfold rListR at h
  split at h
  · rcases h with ⟨j, hp, hj, q⟩ | h
    · obtain ⟨u, rfl, rx⟩ := vals1 r
      cases rx
      obtain ⟨t, u, v, e⟩ := I.hok _ _ hp
      refine call_list_range (I.ok.hd hc) e (small_one (by omega) (by omega) (by omega) (by omega)) (n := j) (by rw [rangeSize_one]; split <;> omega) hj fun h' tk acc' c' kp e' it => ?_
      have hv := items_vals it
      have hl : ((List.range j).map fun i => V.int (i : Nat)).length ≤ sizeLine := by rw [List.length_map, List.length_range, sizeLine_eq]; omega
      exact ⟨.ref s.heap.objs.size, _, I.laid (t' := tk) kp (Nat.le_refl _) (show ObjOk X.prog X.w _ h' _ (.lst _) from ⟨hl, acc'.toList, c', hv, by simpa using e'⟩), rfl, q _ (I.hok.fresh (Nat.le_refl _))⟩
    · exact call_listU pins s σ H _ us Q I r h
  · exact h.elim
end
end L2
end
section
set_option Elab.async false
set_option linter.all false
set_option maxRecDepth 100000
namespace L2
open PySem PySem.Spec PyProof.Rows
structure Lt (H H' : Hp) : Prop where
  l : ∀ a xs, H a = some (.lst xs) → H' a = some (.lst xs)
  t : ∀ a xs, H a = some (.tup xs) → H' a = some (.tup xs)
  d : ∀ a, H a = some (.dK []) → H' a = some (.dK [])
mutual
theorem DV.lt {H H' : Hp} (k : Lt H H') : ∀ {v : V} {d : PyData}, DV H v d → DV H' v d
  | _, _, .non => .non
  | _, _, .bl b => .bl b
  | _, _, .int i => .int i
  | _, _, .str x => .str x
  | _, _, .lst h r => .lst (k.l _ _ h) (DVs.lt k r)
  | _, _, .tup h r => .tup (k.t _ _ h) (DVs.lt k r)
  | _, _, .dic h => .dic (k.d _ h)
theorem DVs.lt {H H' : Hp} (k : Lt H H') : ∀ {vs : List V} {ds : List PyData}, DVs H vs ds → DVs H' vs ds
  | _, _, .nil => .nil
  | _, _, .cons h r => .cons (DV.lt k h) (DVs.lt k r)
end
theorem Lt.but {H G : Hp} {D : Addr} {kvs : List (List Key × V)} (hD : H D = some (.dT kvs)) (h : ∀ x, x ≠ D → G x = H x) : Lt H G :=
  ⟨fun a xs e => by rw [h a (ne_of e hD (fun z => nomatch z))]; exact e, fun a xs e => by rw [h a (ne_of e hD (fun z => nomatch z))]; exact e, fun a e => by rw [h a (ne_of e hD (fun z => nomatch z))]; exact e⟩
end L2
end
section
set_option Elab.async false
set_option linter.all false
set_option maxRecDepth 100000
namespace Om
abbrev Rw := List Nat × List Bool × Nat
def ext (rows : Rows) (r : Rw) : List Rw := (List.range (rows.getD r.2.2 []).length).map fun l => (r.1 ++ [l], r.2.1 ++ (step rows r.2.2 l).1, (step rows r.2.2 l).2)
section
variable {k n : Nat} {rows : Rows}
end
end Om
namespace L2
open PySem PySem.Spec PyProof.Rows
end L2
end
section
set_option Elab.async false
set_option linter.all false
set_option maxRecDepth 100000
set_option maxHeartbeats 4000000
namespace L2
open PySem PySem.Spec PyProof.Rows
section
variable {prog : Program} {w : World} {A : Around} {E : Value → Shared → Prop} {s : Shared}
theorem walksKeys (hh : A.handled = none) (I d : Addr) (hne : d ≠ I) {od : Obj} {es : Array DictEntry} {ep : Nat} (hdat : od.data = .dict es ep) :
    Walks prog w A I [I, d] [I] es.size (fun i v => ∃ e, es[i]? = some e ∧ v = e.key) (fun i h => h.IsKeyIter I d i es.size ep ∧ h.get? d = some od) where
  sub := fun b hb => by simp at hb; simp [hb]
  frame := fun _ _ _ st hk => ⟨st.1.at fun o e => hk I (by simp) o e, hk d (by simp) _ st.2⟩
  item := fun i s Q E hi st hQ => by
    have he : es[i]? = some es[i] := by simp [hi]
    refine keyNext st.1 st.2 hdat he fun h' hit' hs' => ?_
    exact hQ _ h' s.toks ⟨_, he, rfl⟩ ⟨hit', hs'.extBut d _ hne st.2⟩ fun b o hb e => hs'.extBut b o (fun h => hb (by simp [h])) e
  done := fun s Q E st hQ => keyEnd hh st.1 st.2 hdat (Nat.le_refl _) fun h' he' => hQ h' s.toks fun b o hb e => he' b o (fun h => hb (by simp [h])) e
  self := fun _ _ _ _ st hQ => wpAny_pyIter_keyiter st.1 hQ
theorem hint_dict {d : Addr} {Q : Bool → Shared → Prop} (hT : s.TypeIs (.ref d) "dict") (h : Q false s) : wpAny (model prog w) A (Builtin.List.listLengthHint (.ref d)) Q E s := by
  unfold Builtin.List.listLengthHint
  refine wpAny_bind (wpAny_specialOf hT F.slot_dict_len.lookup ?_)
  generalize hid : ("dict.__len__" : String) = id0
  wp_delta
  rw [show splitId id0 = some ("dict", "__len__") from by subst hid; decide +kernel]
  subst hid
  refine wpAny_bind (wpAny_isInstance (T := "dict") (b := true) hT (by rw [isSubtype_type]; kernel_rfl) ?_)
  refine wpAny_ite_split (fun hab => absurd hab (by decide)) (fun _ => ?_)
  refine wpAny_ite_split (fun _ => ?_) (fun hab => absurd (by decide +kernel) hab)
  refine wpAny_bind (wpAny_typeOf (T := "dict") hT ?_)
  exact wpAny_pure h
theorem extend_dict {R : Result → Shared → Prop} {d : Addr} {od : Obj} {es : Array DictEntry} {ep : Nat} (hh : A.handled = none) (hd : (d == sysModules) = false) (hT : s.TypeIs (.ref d) "dict") (ho : s.heap.get? d = some od) (hdat : od.data = .dict es ep) (hlen : es.size ≤ sizeLine) (S : Addr) (res : Value) (c₀ : Nat) (hS : s.heap.get? S = some { cls := .type "list", data := .seq #[] c₀ })
    (hR : ∀ h' tk acc' c', (∀ b o, b ≠ S → s.heap.get? b = some o → h'.get? b = some o) → h'.get? S = some { cls := .type "list", dict := none, data := .seq acc' c', slots := #[] } →
      ItemsOf (fun i v => ∃ e, es[i]? = some e ∧ v = e.key) acc' es.size → R (.ok (.ret res)) { s with heap := h', toks := tk }) :
    wpAny (model prog w) A.in1 (Builtin.List.listExtendWith (.ref S) (.ref d) res)
      (fun fin s' => match fin with | .done f => R (.ok f) s' | .again c' => c'.quiet = true ∧ codeAny (model prog w) A c' R s') (fun e s' => R (.error e) s') s := by
  have hSr : S ≠ d := fun e => by rw [e, ho] at hS; cases hS; cases hdat
  have hSlt : S < s.heap.objs.size := Heap.lt_size hS
  have hSI : S ≠ s.heap.objs.size := Nat.ne_of_lt hSlt
  have hdI : d ≠ s.heap.objs.size := Nat.ne_of_lt (Heap.lt_size ho)
  have hSf : S ∉ [s.heap.objs.size, d] := fun hm => by simp at hm; rcases hm with h | h; exact hSI h; exact hSr h
  have W := (walksKeys (prog := prog) (w := w) (A := A.in1) hh s.heap.objs.size d hdI hdat).toS
  unfold Builtin.List.listExtendWith
  refine wpAny_bind (wpAny_typeOf (T := "dict") hT ?_)
  have h1 : Builtin.List.listSameRef (.ref S) (.ref d) = false := by simp [Builtin.List.listSameRef, hSr]
  have h2 : (Value.type "dict" == Value.type "list") = false := by decide
  have h3 : (Value.type "dict" == Value.type "tuple") = false := by decide
  simp only [h1, h2, h3, Bool.or_false, Bool.false_eq_true, if_false]
  refine wpAny_bind (keyIter hd hT ho hdat ?_)
  have hT1 : (⟨s.heap.push { cls := .type "dict_keyiterator", data := .fields #[.ref d, .int 0 0, .int es.size 0, .int ep 0] }, s.gens, s.drawn, s.toks, s.os⟩ : Shared).TypeIs (.ref d) "dict" := by
    obtain ⟨o, e1, e2⟩ := hT
    exact ⟨o, Heap.get?_push_of_some _ e1, e2⟩
  refine wpAny_bind (wpAny_holding (hint_dict hT1 ?_))
  have hit₁ : (s.heap.push { cls := .type "dict_keyiterator", data := .fields #[.ref d, .int 0 0, .int es.size 0, .int ep 0] }).IsKeyIter s.heap.objs.size d 0 es.size ep := ⟨_, Heap.get?_push_size _ rfl, rfl, rfl⟩
  have hS₁ := Heap.get?_push_of_some { cls := .type "dict_keyiterator", data := .fields #[.ref d, .int 0 0, .int es.size 0, .int ep 0] } hS
  have hd₁ := Heap.get?_push_of_some { cls := .type "dict_keyiterator", data := .fields #[.ref d, .int 0 0, .int es.size 0, .int ep 0] } ho
  have key : ∀ (h : Heap) (c₁ tk : Nat), h.IsKeyIter s.heap.objs.size d 0 es.size ep → h.get? d = some od → (∀ b o, b ≠ S → s.heap.get? b = some o → h.get? b = some o) →
      h.get? S = some { cls := .type "list", data := .seq #[] c₁ } → codeAny (model prog w) A (.builtin "list.extend.loop" ⟨[.ref S, .ref s.heap.objs.size, res], []⟩) R { s with heap := h, toks := tk } := by
    intro h c₁ tk hit hdd hk hS₁
    refine codeAny_extend_loopS W hlen S hSf res es.size 0 _ #[] c₁ rfl (Nat.zero_le _) ⟨hit, hdd⟩ hS₁ (ItemsOf.nil _) fun s' acc' c' hm hS' hacc => ?_
    rw [Moved.eq_with hm]
    refine hR s'.heap s'.toks acc' c' (fun b o hb e => hm.heap b o (fun hmem => ?_) (hk b o hb e)) hS' hacc
    rcases List.mem_cons.mp hmem with e' | hmem
    · exact hb e'
    · exact absurd (Heap.lt_size e) (by rw [List.mem_singleton.mp hmem]; exact Nat.lt_irrefl _)
  refine wpAny_ite_split (fun _ => ?_) (fun _ => wpAny_pure ⟨plainId_quiet F.plain_extend_loop _, key _ c₀ _ hit₁ hd₁ (fun b o _ e => Heap.get?_push_of_some _ e) hS₁⟩)
  refine wpAny_bind (wpAny_rule ?_)
  refine wpAny_bind ?_
  show wpAny _ _ (updateSeq S (·.push .none) >>= fun _ => updateSeq S (·.pop)) _ _ _
  refine wpAny_bind (wpAny_updateSeq hS₁ rfl ?_)
  have hS₂ := Heap.get?_update_self (Obj.mapSeq (·.push Value.none)) hS₁ rfl
  refine wpAny_updateSeq (hz := by seq_fits) hS₂ rfl ?_
  have hS₃ := Heap.get?_update_self (Obj.mapSeq (·.pop)) hS₂ rfl
  refine wpAny_pure ⟨plainId_quiet F.plain_extend_loop _, key _ _ _ ?_ ?_ (fun b o hb e => ?_) hS₃⟩
  · exact hit₁.at fun o e => (Heap.get?_update_other _ _ hSI).trans ((Heap.get?_update_other _ _ hSI).trans e)
  · exact (Heap.get?_update_other _ _ hSr).trans ((Heap.get?_update_other _ _ hSr).trans hd₁)
  · exact (Heap.get?_update_other _ _ (Ne.symm hb)).trans ((Heap.get?_update_other _ _ (Ne.symm hb)).trans (Heap.get?_push_of_some _ e))
theorem call_list_dict {Q : Value → Shared → Prop} {d : Addr} {od : Obj} {es : Array DictEntry} {ep : Nat} (hh : A.handled = none) (hd : (d == sysModules) = false) (hT : s.TypeIs (.ref d) "dict") (ho : s.heap.get? d = some od) (hdat : od.data = .dict es ep) (hlen : es.size ≤ sizeLine)
    (hQ : ∀ h' tk acc' c', (∀ b o, s.heap.get? b = some o → h'.get? b = some o) →
      h'.get? s.heap.objs.size = some { cls := .type "list", dict := none, data := .seq acc' c', slots := #[] } → ItemsOf (fun i v => ∃ e, es[i]? = some e ∧ v = e.key) acc' es.size → Q (.ref s.heap.objs.size) { s with heap := h', toks := tk }) :
    wpAny (model prog w) A (call (.type "list") [.ref d]) Q E s := by
  refine callType_codes (Q₁ := fun obj s₁ => obj = .ref s.heap.objs.size ∧ s₁ = { s with heap := s.heap.push { cls := .type "list", data := .seq #[] } }) F.called_list (F.typeCall_list_1 _) F.entry_list_init
    (code_list_new _ ⟨rfl, rfl⟩) fun obj s₁ h₁ => ?_
  obtain ⟨rfl, rfl⟩ := h₁
  have hS : (s.heap.push { cls := .type "list", data := .seq #[] }).get? s.heap.objs.size = some { cls := .type "list", data := .seq #[] } := Heap.get?_push_size _ rfl
  have hSr : s.heap.objs.size ≠ d := Nat.ne_of_gt (Heap.lt_size ho)
  refine ⟨⟨_, hS, rfl⟩, F.args_list_init_2 _ _, ?_⟩
  show wpAny _ _ (do let old ← Builtin.List.listItems (.ref s.heap.objs.size); Builtin.List.listUpdate (.ref s.heap.objs.size) (fun _ => #[]); letGo old.toList.reverse; Builtin.List.listExtendWith (.ref s.heap.objs.size) (.ref d) .none) _ _ _
  refine wpAny_bind ?_
  unfold Builtin.List.listItems
  refine wpAny_bind (wpAny_seqItems hS rfl (wpAny_pure ?_))
  show wpAny _ _ (updateSeq s.heap.objs.size (fun _ => #[]) >>= fun _ => letGo (#[] : Array Value).toList.reverse >>= fun _ => Builtin.List.listExtendWith (.ref s.heap.objs.size) (.ref d) .none) _ _ _
  refine wpAny_bind (wpAny_updateSeq hS rfl ?_)
  have hS₂ := Heap.get?_update_self (Obj.mapSeq (fun _ => (#[] : Array Value))) hS rfl
  have oth : ∀ b o, b ≠ s.heap.objs.size → (s.heap.push { cls := .type "list", data := .seq #[] }).get? b = some o → ((s.heap.push { cls := .type "list", data := .seq #[] }).update s.heap.objs.size (Obj.mapSeq (fun _ => (#[] : Array Value)))).get? b = some o :=
    fun b o hb e => (Heap.get?_update_other _ _ (Ne.symm hb)).trans e
  refine wpAny_bind (wpAny_letGo ?_)
  have ho2 := oth d _ (Ne.symm hSr) (Heap.get?_push_of_some _ ho)
  refine extend_dict (A := A.in1) hh hd ?_ ho2 hdat hlen _ .none _ hS₂ fun h' tk acc' c' hk hS' hacc => ?_
  · obtain ⟨o, e1, e2⟩ := hT
    rw [ho] at e1; cases e1
    exact ⟨_, ho2, e2⟩
  · exact ⟨rfl, hQ h' tk acc' c' (fun b o e => hk b o (Nat.ne_of_lt (Heap.lt_size e)) (oth b o (Nat.ne_of_lt (Heap.lt_size e)) (Heap.get?_push_of_some _ e))) hS' hacc⟩
end
end L2
end
section
set_option Elab.async false
set_option linter.all false
set_option maxRecDepth 100000
set_option maxHeartbeats 4000000
namespace L2
open PySem PySem.Spec PyProof.Rows
section
variable {X : Cx} {p pos : Pos}
theorem items_keys {es : Array DictEntry} {acc : Array Value} {xs : List V} (h : ItemsOf (fun i v => ∃ e, es[i]? = some e ∧ v = e.key) acc es.size) (r : Vals xs (es.toList.map (·.key))) : Vals xs acc.toList := by
  have : acc.toList = es.toList.map (·.key) := by
    apply List.ext_getElem?
    intro i
    rw [List.getElem?_map]
    by_cases hi : i < es.size
    · have hi' : i < acc.size := by rw [h.1]; exact hi
      obtain ⟨e, e1, e2⟩ := h.2 i acc[i] (by simp [hi'])
      have e3 : es.toList[i]? = some e := by simpa using e1
      rw [e3]
      simp [hi', e2]
    · have : ¬ i < acc.size := by rw [h.1]; exact hi
      simp [Nat.le_of_not_lt hi, Nat.le_of_not_lt this]
  rw [this]; exact r
def rListD : List V → Hp → VK → Prop := fun vs H Q => match vs with
  | [.ref p] => (∃ kvs, H p = some (.dT kvs) ∧ ∀ o bs l, KeysAt H kvs bs → H l = none → Q (.ref l) (upd (upd H p (.frz o (.dT kvs))) l (.lst (bs.map V.ref)))) ∨
      (∃ o kvs, H p = some (.frz o (.dT kvs)) ∧ ∀ bs l, KeysAt H kvs bs → H l = none → Q (.ref l) (upd H l (.lst (bs.map V.ref)))) ∨
      (∃ o kvs, H p = some (.frz o (.dK kvs)) ∧ ∀ l, H l = none → Q (.ref l) (upd H l (.lst (kvs.map fun p => kV p.1)))) ∨ rListR vs H Q
  | _ => False
theorem call_listD (hc : X.calm = true) : CallR X (.type "list") rListD := by
  have hT2 : ∀ (pins : List (Addr × Obj)) (s : Shared) (σ : St) (H : Hp) (a : Addr) (Q : VK) (o : Obj) (kvs : List (List Key × V)), Inv X pins σ H s → H a = some (.frz o (.dT kvs)) →
      (∀ bs l, KeysAt H kvs bs → H l = none → Q (.ref l) (upd H l (.lst (bs.map V.ref)))) → wpAny (model X.prog X.w) X.A (call (.type "list") [.ref a]) (EP X pins σ Q) X.xe s := by
    intro pins s σ H a Q o kvs I hq q
    have ho := I.frozen hq
    obtain ⟨_, z, hd, xs, r, o', es, ep, h1, h2, h3, h4, h5⟩ := I.hok a _ hq
    rw [ho] at h1; cases h1
    have hT : s.TypeIs (.ref a) "dict" := let ⟨_, _, _, _, dd⟩ := dt_rd I.hok (.inr ⟨o, hq⟩); dd.typeIs
    have rel : Vals ((xs.map (·.2.1)).map V.ref) (es.toList.map (·.key)) := by
      rw [h4]
      clear h4 h5 r
      induction xs with
      | nil => exact .nil
      | cons x xs ih => exact .cons rfl ih
    have le : es.size ≤ sizeLine := by
      have e1 := congrArg List.length h4
      have e2 := Paired.length r
      simp at e1
      omega
    refine call_list_dict (I.ok.hd hc) hd hT ho h3 le fun h' tk acc' c' kp e' it => ?_
    have hl : ((xs.map (·.2.1)).map V.ref).length ≤ sizeLine := by
      have := rel.length
      simp at this ⊢
      omega
    exact ⟨.ref s.heap.objs.size, _, I.laid (t' := tk) kp (Nat.le_refl _) (show ObjOk X.prog X.w _ h' _ (.lst _) from ⟨hl, acc'.toList, c', items_keys it rel, by simpa using e'⟩), rfl, q _ _ (keys_tup r) (I.hok.fresh (Nat.le_refl _))⟩
  intro pins s σ H xs us Q I r h
  unfold rListD at h
  split at h
  · rename_i a
    have r' := r
    obtain ⟨u, rfl, rx⟩ := vals1 r
    cases rx
    rcases h with ⟨kvs, hq, q⟩ | ⟨o, kvs, hq, q⟩ | ⟨o, kvs, hq, q⟩ | h
    · obtain ⟨o, ho⟩ := I.obj hq
      refine hT2 pins s σ _ a Q o kvs (I.freeze hq trivial ho) upd_same fun bs l kb hl => ?_
      have hla : l ≠ a := fun z => by subst z; rw [upd_same] at hl; cases hl
      rw [upd_ne hla] at hl
      refine q o bs l ?_ hl
      refine Paired.mapP kb fun x b e => ?_
      have : b ≠ a := fun z => by subst z; rw [upd_same] at e; cases e
      rw [upd_ne this] at e; exact e
    · exact hT2 pins s σ H a Q o kvs I hq q
    · have ho := I.frozen hq
      obtain ⟨_, z, hd, vs, r, o', es, ep, h1, h2, h3, h4, h5, h6⟩ := I.hok a _ hq
      rw [ho] at h1; cases h1
      have hT : s.TypeIs (.ref a) "dict" := let ⟨_, _, _, _, dd⟩ := dk_rd I.hok (.inr ⟨o, hq⟩); dd.typeIs
      have rel := keys_mix r h5
      have le : es.size ≤ sizeLine := by
        have e1 := rel.length
        simp at e1
        omega
      refine call_list_dict (I.ok.hd hc) hd hT ho h3 le fun h' tk acc' c' kp e' it => ?_
      have hl : (kvs.map fun p => kV p.1).length ≤ sizeLine := by
        have := rel.length
        simp at this ⊢
        omega
      exact ⟨.ref s.heap.objs.size, _, I.laid (t' := tk) kp (Nat.le_refl _) (show ObjOk X.prog X.w _ h' _ (.lst _) from ⟨hl, acc'.toList, c', items_keys it rel, by simpa using e'⟩), rfl, q _ (I.hok.fresh (Nat.le_refl _))⟩
    · exact call_listR hc pins s σ H _ _ Q I r' h
  · exact h.elim
theorem fn_listD {e : Expr} {es : List Expr} {t : TA} {mg' : Str → Option Value} (hm : mg' "list" = none) (hX : X.mg = mg') (ha : PA X (e :: es) t) (hc : X.calm = true := by kernel_rfl) (hg : gB X "list" = true := by kernel_rfl) (he : starEach (e :: es) X.env = (false, eval e X.env) :: starEach es X.env := by kernel_rfl) (hpl : (backTo pos (starEach es X.env)).any (·.1) = false := by kernel_rfl) :
    PE X (.Call (.Name "list" p) (e :: es) [] pos) (tCB rListD t) := pe_callTy (call_listD hc) (gl_of hg) (by rw [hX]; exact hm) PyProof.Rows.boot_list ha (he := he) (hpl := hpl)
end
section
variable {prog : Program} {w : World} {A : Around} {E : Value → Shared → Prop} {s : Shared}
end
end L2
end
section
set_option Elab.async false
set_option linter.all false
set_option maxRecDepth 100000
set_option maxHeartbeats 4000000
namespace L2
open PySem PySem.Spec PyProof.Rows
section
variable {X : Cx} {p pos : Pos}
open Classical in
noncomputable def eqT (H : Hp) (k : List Key) (u : Value) : Bool := match u with
  | .ref c => decide (H c = some (.tup (k.map kV)))
  | _ => false
open Classical in
theorem any_eqT {H : Hp} {k : List Key} : ∀ {xs : List V} {us : List Value}, Vals xs us → (∀ v ∈ xs, ∃ (c : Addr) (k' : List Key), v = .ref c ∧ H c = some (.tup (k'.map kV))) → (us.any (eqT H k) = true ↔ ∃ c, V.ref c ∈ xs ∧ H c = some (.tup (k.map kV)))
  | _, _, .nil, _ => by simp
  | y :: xs, u :: us, .cons r t, f => by
    obtain ⟨c, k', rfl, hc⟩ := f y List.mem_cons_self
    cases r
    rw [List.any_cons, Bool.or_eq_true, any_eqT t (fun v hv => f v (List.mem_cons_of_mem _ hv))]
    have e0 : eqT H k (.ref c) = true ↔ H c = some (.tup (k.map kV)) := by unfold eqT; dsimp only; exact (by classical exact decide_eq_true_iff)
    rw [e0]
    constructor
    · rintro (h | ⟨d, h1, h2⟩)
      · exact ⟨c, List.mem_cons_self, h⟩
      · exact ⟨d, List.mem_cons_of_mem _ h1, h2⟩
    · rintro ⟨d, h1, h2⟩
      rcases List.mem_cons.mp h1 with e | h1
      · injection e with e; subst e; exact .inl h2
      · exact .inr ⟨d, h1, h2⟩
end
end L2
end
section
set_option Elab.async false
set_option linter.all false
set_option maxRecDepth 100000
set_option maxHeartbeats 4000000
namespace Om
def Win (rows : Rows) (b a : Nat) : Prop := ∀ x y, ¬ Clash rows b (b + 1 + a) x y
open Classical in
noncomputable def wf (rows : Rows) (p : Nat × Nat) : Bool := decide (Win rows p.1 p.2)
open Classical in
theorem wf_iff {rows : Rows} {p : Nat × Nat} : wf rows p = true ↔ Win rows p.1 p.2 := by unfold wf; exact decide_eq_true_iff
end Om
namespace L2
open PySem PySem.Spec PyProof.Rows
theorem e_gint {X : Cx} {pos : Pos} {x : Str} {z : Int} {mg' : Str → Option Value} (hm : ∃ tk, mg' x = some (.int z tk)) (hX : X.mg = mg') (hg : gB X x = true := by kernel_rfl) (hd : (x == ("__debug__" : Str)) = false := by kernel_rfl) : PE X (.Name x pos) (tC (.int z)) := by
  obtain ⟨tk, hm⟩ := hm
  exact pe_glob (gl_of hg) (by rw [hX]; exact hm) ⟨tk, rfl⟩ hd
theorem nx_mk {K : PySem.W.Frag} {x : Str} {z : Int} {v : Value} {tk : Tok} (h : PySem.W.nsIn K mainGlobals x = some (some v)) (e : v = .int z tk) : ∃ tk, PySem.W.nsIn K mainGlobals x = some (some (.int z tk)) := ⟨tk, by rw [h, e]⟩
end L2
end
section
set_option Elab.async false
set_option linter.all false
set_option maxRecDepth 100000
set_option maxHeartbeats 4000000
namespace L2
open PySem PySem.Spec PyProof.Rows
section
variable {prog : Program} {w : World} {A : Around} {E : Value → Shared → Prop} {s : Shared}
end
section
variable {X : Cx} {p pos : Pos}
end
section
variable {G H0 H : Hp} {D q : Addr} {kvs : List (List Key × V)} {ks : List (Nat × Nat)} {c : Nat} {E : Nat × Nat → Om.Stp → Prop} {o : HO}
end
end L2
namespace Om
end Om
end
section
set_option Elab.async false
set_option linter.all false
set_option maxRecDepth 100000
set_option maxHeartbeats 4000000
namespace L2
open PySem PySem.Spec PyProof.Rows
section
variable {prog : Program} {w : World} {A : Around} {E : Value → Shared → Prop} {s : Shared}
end
section
variable {X : Cx} {p pos : Pos}
end
end L2
end
section
set_option Elab.async false
set_option linter.all false
set_option maxRecDepth 100000
set_option maxHeartbeats 4000000
namespace L2
open PySem PySem.Spec PyProof.Rows
section
variable {X : Cx} {p pos p2 : Pos} {a b e st : Expr} {es : List Expr} {t : TA} {te : TE} {ts : TO}
end
section
variable {H H' : Hp} {n : Nat} {v : V} {a : Addr} {xs : List V}
end
section
variable {F : Addr → Prop} {H H' : Hp} {b : Addr} {o : HO}
end
end L2
end
section
set_option Elab.async false
set_option linter.all false
set_option maxRecDepth 100000
set_option maxHeartbeats 4000000
namespace L2
open PySem PySem.Spec PyProof.Rows
end L2
end
section
set_option Elab.async false
set_option linter.all false
set_option maxRecDepth 100000
set_option maxHeartbeats 4000000
namespace L2
open PySem PySem.Spec PyProof.Rows

def CodeO (c : Addr) (q : Str) : HO := .ext fun h => h.CodeRec (.ref c) q
theorem CodeO.mk {P : Program} {w : World} {H : Hp} {h : Heap} {c : Addr} {q : Str} (x : h.CodeRec (.ref c) q) : ObjOk P w H h c (CodeO c q) := by
  refine ⟨x, ?_, fun h1 h2 x1 k => ?_⟩
  · obtain ⟨c', o, vs, t, e, g, r⟩ := x
    cases e
    exact ⟨o, g⟩
  · obtain ⟨c', o, vs, t, e, g, r⟩ := x1
    cases e
    exact ⟨_, o, vs, t, rfl, k o g, r⟩
theorem CodeO.at {P : Program} {w : World} {H : Hp} {h : Heap} {c : Addr} {q : Str} (ok : HOk P w H h) (e : H c = some (CodeO c q)) : h.CodeRec (.ref c) q := (ok c _ e).1

def LamIn (h : Heap) (f : Addr) (params : Arguments) (body : Expr) (scope : Scope) (qual : Str) (c : Addr) (F : List Str) (fvs : List V) : Prop :=
  ∃ (pm ctv : Value) (clos : List (Str × Addr)), h.get? f = some (PySem.W.kla_obj "<lambda>" qual params body scope clos pm c ctv) ∧
    (∀ x y d, clos.lookup x = some d → clos.lookup y = some d → x = y) ∧
    (∀ y ∈ scope.names, y.2 = .free → ∃ d, clos.lookup y.1 = some d) ∧
    (∀ x d, clos.lookup x = some d → ∃ v, h.IsCell d v) ∧
    ∀ (i : Nat) x v, F[i]? = some x → fvs[i]? = some v → ∃ d u, clos.lookup x = some d ∧ h.IsCell d (some u) ∧ RelV v u
structure LamSc (p : Str) (F : List Str) (sc : Scope) : Prop where
  kind : sc.kind = .function
  co : sc.isCoroutine = false
  gen : sc.isGenerator = false
  par : sc.names.lookup p = some .local
  fre : ∀ x ∈ F, sc.names.lookup x = some .free
  nocell : ∀ y ∈ sc.names, y.2 ≠ .cell
def cxLam (CX : CXT) (P : Program) (w : World) (K : PySem.W.Frag) (mg : Str → Option Value) (base : Heap) (N : List Str) (qual : Str) (scope : Scope) (f : Addr) (cd : Value) (clos : List (Str × Addr)) (A : Around) (outer : List Env) (s : Shared) (H : Hp) (E : XK) : Cx where
  prog := P
  w := w
  K := K
  mg := mg
  base := base
  A := A.deeper (PySem.W.envX qual scope s.heap.objs.size f cd clos)
  N := N
  s₀ := s
  H₀ := H
  env := PySem.W.envX qual scope s.heap.objs.size f cd clos
  outer := outer
  stack := PySem.W.envX qual scope s.heap.objs.size f cd clos :: outer
  ex := []
  calm := true
  fn := fun _ => false
  pn := []
  xe := fun e s' => wpAny (model P w) (A.deeper (PySem.W.envX qual scope s.heap.objs.size f cd clos)) (leaving (PySem.W.envX qual scope s.heap.objs.size f cd clos) e) (fun _ s'' => CX outer H s E e s'') (fun e' s'' => CX outer H s E e' s'') s'
theorem inv_lam {CX : CXT} {P : Program} {w : World} {K : PySem.W.Frag} {mg : Str → Option Value} {base : Heap} {p : Str} {F : List Str} {fvs : List V} {qual : Str} {scope : Scope} {f : Addr} {cd : Value} {clos : List (Str × Addr)} {A : Around} {outer : List Env} {s : Shared} {H : Hp} {E : XK}
    {u : Value} {v : V} {h' : Heap} {tk : Nat} (S : LamSc p F scope) (hd : A.handled = none) (e0 : Env0 P w K mg base A outer s H) (rv : RelV v u) (hl : F.length = fvs.length)
    (inj : ∀ x y d, clos.lookup x = some d → clos.lookup y = some d → x = y) (has : ∀ y ∈ scope.names, y.2 = .free → ∃ d, clos.lookup y.1 = some d) (cel : ∀ x d, clos.lookup x = some d → ∃ v, base.IsCell d v)
    (vals : ∀ (i : Nat) x v, F[i]? = some x → fvs[i]? = some v → ∃ d u, clos.lookup x = some d ∧ base.IsCell d (some u) ∧ RelV v u)
    (hns : h'.Ns s.heap.objs.size (fun x => [(p, u)].reverse.lookup x)) (hk : ∀ b o, s.heap.get? b = some o → h'.get? b = some o) :
    Inv (cxLam CX P w K mg base (p :: F) qual scope f cd clos A outer s H E) [] (some v :: fvs.map some) H { s with heap := h', toks := tk } := by
  have noA : ∀ b : Addr, b ∉ (cxLam CX P w K mg base (p :: F) qual scope f cd clos A outer s H E).ex := fun b z => absurd (show b ∈ ([] : List Addr) from z) (by simp)
  have up : ∀ {d : Addr} {v : Option Value}, base.IsCell d v → h'.IsCell d v := fun {d v} ⟨o, e, q⟩ => ⟨o, hk _ _ (e0.bs _ _ e).1, q⟩
  refine ⟨⟨e0.mod, S.kind, rfl, rfl, Nat.le_refl _, inj, fun y hy => ?_, fun y c hf _ => (by cases (show false = true from hf)), fun _ => hd, Around.frames_deeper e0.frames, .inr ⟨rfl, rfl⟩, fun b z => absurd z (noA b), e0.bs, e0.bsz, fun b _ _ => noA b, fun b z => absurd z (noA b), e0.funs, e0.frf⟩,
    rfl, e0.bare, Un.kept hk, ⟨_, hns, fun i y x h1 h2 h3 => ?_⟩, fun y c h => ?_, e0.hok.fresh (Nat.le_refl _), fun y c h => ?_, fun p hp => absurd (show p ∈ ([] : List (Addr × Obj)) from hp) (by simp), e0.hok.kept hk, ?_⟩
  · have hy : scope.names.lookup y = some .cell ∨ scope.names.lookup y = some .free := hy
    rcases hy with hy | hy
    · exact absurd rfl (S.nocell _ (PySem.mem_of_lookup hy))
    · exact has _ (PySem.mem_of_lookup hy) rfl
  · cases i with
    | zero =>
      cases h1
      cases h2
      exact ⟨u, rv, .inl ⟨S.par, by simp⟩⟩
    | succ i =>
      have h1 : F[i]? = some y := by
        have h1 : (p :: F)[i + 1]? = some y := h1
        rw [List.getElem?_cons_succ] at h1
        exact h1
      have h2 : fvs[i]? = some x := by
        rw [List.getElem?_cons_succ, List.getElem?_map] at h2
        cases q : fvs[i]? with
        | none => rw [q] at h2; cases h2
        | some z => rw [q] at h2; cases h2; rfl
      obtain ⟨d, u', e1, e2, e3⟩ := vals i y x h1 h2
      exact ⟨u', e3, .inr ⟨.inr (S.fre y (List.mem_of_getElem? h1)), d, e1, up e2⟩⟩
  · obtain ⟨x, e⟩ := cel y c h
    exact ⟨x, up e⟩
  · obtain ⟨x, o, e, _⟩ := cel y c h
    exact (e0.bs _ _ e).2
  · show (some v :: fvs.map some).length = (p :: F).length
    simp [hl]

def CanL (P : Program) (w : World) (K : PySem.W.Frag) (mg : Str → Option Value) (base : Heap) (f : Addr) (k : Nat) (p : Str) (sp : Sp) : Prop :=
  ∃ fd, FnOk P w K mg base CX0 k f fd [p] sp ∧ (∃ oc od sl, base.get? f = some ⟨oc, od, .func fd, sl⟩) ∧ Binds K fd [p] []
theorem lam_ok {P : Program} {w : World} {K : PySem.W.Frag} {mg : Str → Option Value} {base : Heap} {f c : Addr} {params : Arguments} {body : Expr} {scope : Scope} {qual p : Str} {F : List Str} {fvs : List V} {k : Nat} {sp : Sp} (L : LamIn base f params body scope qual c F fvs) (S : LamSc p F scope)
    (hl : F.length = fvs.length) (hbind : ∀ clos pm ctv u, bindArgs (PySem.W.kla_fn "<lambda>" qual params body scope clos pm (.ref c) ctv) ⟨[u], []⟩ = pure [(p, u)]) (len : ∀ vs H Q E, sp vs H Q E → vs.length = 1)
    (hbody : ∀ (clos : List (Str × Addr)) (A : Around) (outer : List Env) (s : Shared) (H : Hp) (v : V) (Q : VK) (E : XK), Room k (A.deeper (PySem.W.envX qual scope s.heap.objs.size f (.ref c) clos)) → sp [v] H Q E →
      H c = some (CodeO c qual) ∧ ∃ t, PE (cxLam CX0 P w K mg base (p :: F) qual scope f (.ref c) clos A outer s H E).nox body t ∧ t (some v :: fvs.map some) H Q) : CanL P w K mg base f (k + 1) p sp := by
  obtain ⟨pm, ctv, clos, hf, inj, has, cel, vals⟩ := L
  refine ⟨_, ⟨len, fun A outer s H args us vs Q E hr e0 hb r hsp => ?_⟩, ⟨_, _, _, hf⟩, .all fun us hl => ?_⟩
  · have hl1 := len _ _ _ _ hsp
    match vs, hl1 with
    | [v], _ =>
      obtain ⟨u, rfl, rv⟩ := vals1 r
      have lim : s.heap.NoLimit := e0.mod.nolimit.keeps fun b o e => (e0.bs b o e).1
      obtain ⟨hc, t, ht, hq⟩ := hbody clos A outer s H v Q E (hr.deeper _) hsp
      refine PySem.W.kla_callFunE hr.depth (e0.bs _ _ hf).1 rfl S.co S.gen rfl (CodeO.at e0.hok hc) (hb _ _ _ _ ?_)
      refine wpAny_newFunctionEnv S.nocell (fun y hy => ?_) (fun h' hns hsb => ?_) S.kind
      · have e : y = (p, u) := by simpa using hy
        subst e
        exact S.par
      · have hk : ∀ b o, s.heap.get? b = some o → h'.get? b = some o := fun b o e => hsb.extBut b o (Nat.ne_of_lt (Heap.lt_size e)) (Heap.get?_push_of_some _ e)
        refine ⟨lim.keeps hk, PySem.W.kla_codeExpr ?_⟩
        have I := inv_lam (CX := CX0) (E := E) (f := f) (cd := .ref c) (qual := qual) (tk := s.toks + ([p].zip [u]).length) S hr.hd e0 rv hl inj has cel vals hns hk
        refine wpAny_mono (ht.nox [] _ _ H _ I hq) (fun u' s' hs => ?_) fun e s' hs => hs
        obtain ⟨v', H', J, rv', q⟩ := hs
        exact ⟨v', H', J.os, J.bare, J.base, J.hok, rv', q⟩
  · match us, hl with
    | [u], _ => exact hbind clos pm ctv u

section
variable {X : Cx} {p pos : Pos} {e : Expr} {es : List Expr} {t : TA}
def tCanF (i : Nat) (f : Addr) (sp : Sp) (t : TA) : TE := fun σ H Q => σ[i]? = some (some (.ref f)) ∧ t σ H fun vs H1 => sp vs H1 Q E0
theorem e_callF (x : Str) (i : Nat) {P' : Program} {w' : World} {K' : PySem.W.Frag} {mg' : Str → Option Value} {base' : Heap} {f : Addr} {k : Nat} {y : Str} {sp : Sp} (V : CanL P' w' K' mg' base' f k y sp)
    (hX : X.prog = P' ∧ X.w = w' ∧ X.K = K' ∧ X.mg = mg' ∧ X.base = base') (hr : Room k X.A) (ha : PA X (e :: es) t) (hN : X.N[i]? = some x := by with_unfolding_all rfl) (hv : visB X.env.scope x = true := by kernel_rfl)
    (he : starEach (e :: es) X.env = (false, eval e X.env) :: starEach es X.env := by kernel_rfl) (hpl : (backTo pos (starEach es X.env)).any (·.1) = false := by kernel_rfl) :
    PE X (.Call (.Name x p) (e :: es) [] pos) (tCanF i f sp t) := by
  obtain ⟨rfl, rfl, rfl, rfl, rfl⟩ := hX
  obtain ⟨fd, F, ⟨oc, od, sl, hf⟩, b⟩ := V
  intro pins s σ H Q I h
  obtain ⟨ef, h⟩ := h
  refine wpAny_Call_Name_kw (thn ((vn (X := X) (pos := p) x i hN hv) pins s σ H (fun v H' => v = .ref f ∧ H' = H) I ?_) fun u s1 ⟨v, H1, I1, r1, q1, q2⟩ => ?_)
  · unfold tV
    rw [ef]
    exact ⟨rfl, rfl⟩
  · subst q1
    subst q2
    cases r1
    have go : wpAny (model X.prog X.w) X.A (spliced (backTo pos (starEach (e :: es) X.env))) (fun vs s₁ => s₁.heap.get? f = some ⟨oc, od, .func fd, sl⟩ ∧ wpAny (model X.prog X.w) X.A (call (.ref f) vs) (EP X pins σ Q) X.xe s₁) X.xe s1 :=
      thn (ha pos pins s1 σ H1 _ I1 h) fun us s2 ⟨vs, H2, I2, r, q⟩ => ⟨I2.bk _ _ hf, run_fn (dvs := []) (E := E0) F hr b .nil pass0 I2 r (by rw [List.append_nil]; exact q)⟩
    rw [he] at go ⊢
    exact PySem.W.callWith_of (P := fun h => h.get? f = some ⟨oc, od, .func fd, sl⟩) (first := []) (by show ((false || (backTo pos (starEach es X.env)).any (·.1)) || false) = false; rw [hpl]; rfl)
      (fun h hh => ⟨.frame, .inl rfl, (PySem.W.Looks.ld (part := none) hh).andThen .now⟩) (Calls.evalArgs_plain go)
end
end L2
end
section
set_option Elab.async false
set_option linter.all false
set_option maxRecDepth 100000
set_option maxHeartbeats 4000000
namespace L2
open PySem PySem.Spec PyProof.Rows
structure Maker (mg : Str → Option Value) (base : Heap) (c P : Addr) : Prop where
  bm : ∃ bm ob, mg "__builtins__" = some (.ref bm) ∧ bm ≠ builtinsNs ∧ base.get? bm = some ob ∧ ob.cls = .type "module" ∧ ob.dict = some builtinsNs ∧ ob.data = .plain
  hd : PySem.W.CodeHd base c P
theorem Maker.keeps {mg : Str → Option Value} {base base' : Heap} {c P : Addr} (M : Maker mg base c P) (k : ∀ b o, base.get? b = some o → base'.get? b = some o) : Maker mg base' c P :=
  ⟨let ⟨bm, ob, a, b, e, r⟩ := M.bm; ⟨bm, ob, a, b, k _ _ e, r⟩, M.hd.keeps k⟩
def Tab (P : Addr) (pos : Pos) (qual : Str) (H : Hp) : Prop := H P = some (.tbl #[]) ∨ ∃ c, H P = some (.tbl #[rawInt pos.line, rawInt pos.col, .ref c]) ∧ H c = some (CodeO c qual)
def SameT (P : Addr) (H H' : Hp) : Prop := ∀ b o, b ≠ P → H b = some o → H' b = some o
theorem SameT.refl (P : Addr) (H : Hp) : SameT P H H := fun _ _ _ h => h
theorem SameT.trans {P : Addr} {H H1 H2 : Hp} (a : SameT P H H1) (b : SameT P H1 H2) : SameT P H H2 := fun c o n h => b c o n (a c o n h)
theorem Same.t {P : Addr} {H H' : Hp} (a : Same H H') : SameT P H H' := fun c o _ h => a c o h
theorem Tab.mono {P : Addr} {pos : Pos} {qual : Str} {H H' : Hp} (t : Tab P pos qual H) (s : Same H H') : Tab P pos qual H' := by
  rcases t with e | ⟨c, e1, e2⟩
  · exact .inl (s _ _ e)
  · exact .inr ⟨c, s _ _ e1, s _ _ e2⟩
theorem tab_un {Pg : Program} {w : World} {fs ex : List Addr} {H : Hp} {h h' : Heap} {P c : Addr} {ps more : Array Value} {q : Str} (ok : HOk Pg w H h) (e : H P = some (.tbl ps)) (k : ∀ b o, b ≠ P → h.get? b = some o → h'.get? b = some o) (hP : h'.get? P = some (PySem.W.tabObj (ps ++ more)))
    (hc : h.objs.size ≤ c) : Un fs ex H (upd (upd H P (.tbl (ps ++ more))) c (CodeO c q)) h h' := by
  have nc := ok.fresh hc
  have cP : c ≠ P := fun z => by rw [z, e] at nc; cases nc
  have at' : ∀ b o, b ≠ P → H b = some o → upd (upd H P (.tbl (ps ++ more))) c (CodeO c q) b = some o := fun b o n g => by
    rw [upd_ne (ne_of_none g nc), upd_ne n]
    exact g
  have un : ∀ b, H b = none → b ≠ P := fun b n z => by rw [z, e] at n; cases n
  refine ⟨fun b o g n _ _ => k b o (un b n) g, fun b o g n _ _ => ⟨o.slots, k b o (un b n) g⟩, fun b o g n _ => ?_, fun b o g _ => ?_, fun b xs g => at' b _ (fun z => by rw [z, e] at g; cases g) g, fun b o u g => at' b _ (fun z => by rw [z, e] at g; cases g) g, fun b qs g => ?_⟩
  · rw [upd_ne (Nat.ne_of_lt (Nat.lt_of_lt_of_le (Heap.lt_size g) hc)), upd_ne (un b n)]
    exact n
  · by_cases z : b = P
    · rw [z]; exact ⟨_, hP⟩
    · exact ⟨o, k b o z g⟩
  · by_cases z : b = P
    · subst z
      rw [e] at g
      cases g
      exact ⟨more, by rw [upd_ne (Ne.symm cP), upd_same]⟩
    · exact ⟨#[], by rw [at' b _ z g]; simp⟩
theorem tab_hok {Pg : Program} {w : World} {H : Hp} {h h' : Heap} {P c : Addr} {ps more : Array Value} {q : Str} (ok : HOk Pg w H h) (e : H P = some (.tbl ps)) (k : ∀ b o, b ≠ P → h.get? b = some o → h'.get? b = some o) (hP : h'.get? P = some (PySem.W.tabObj (ps ++ more)))
    (hc : h.objs.size ≤ c) (rec : h'.CodeRec (.ref c) q) : HOk Pg w (upd (upd H P (.tbl (ps ++ more))) c (CodeO c q)) h' := by
  have nc := ok.fresh hc
  have cP : c ≠ P := fun z => by rw [z, e] at nc; cases nc
  have at' : ∀ b o, b ≠ P → H b = some o → upd (upd H P (.tbl (ps ++ more))) c (CodeO c q) b = some o := fun b o n g => by
    rw [upd_ne (ne_of_none g nc), upd_ne n]
    exact g
  intro a o g
  by_cases z : a = c
  · subst z
    rw [upd_same] at g
    cases g
    exact CodeO.mk rec
  · rw [upd_ne z] at g
    by_cases y : a = P
    · subst y
      rw [upd_same] at g
      cases g
      exact hP
    · rw [upd_ne y] at g
      refine (ok a o g).stay (fun b u hb r => k b u ?_ r) (fun b r => at' b _ (fun z => by rw [z, e] at r; cases r) r) fun b xs r => at' b _ (fun z => by rw [z, e] at r; cases r) r
      rintro rfl
      rcases hb with rfl | hb
      · exact y rfl
      · rw [e] at hb; cases hb

section
variable {X : Cx} {pins : List (Addr × Obj)} {σ : St} {H : Hp} {s : Shared}
theorem lam_eval {params : Arguments} {body : Expr} {scope : Scope} {pos : Pos} {c P : Addr} {Q : Value → Shared → Prop} (I : Inv X pins σ H s) (M : Maker X.mg X.base c P) (hcd : X.env.code = .ref c) (hdef : defaultsOf params X.env = ([], []))
    (tb : Tab P pos (X.env.qual ++ "<lambda>") H) (hfr : ∀ y ∈ scope.names, y.2 = .free → ∃ d, X.env.cells.lookup y.1 = some d)
    (h : ∀ (f c' : Addr) (clos : List (Str × Addr)) (pm ctv : Value) (H2 : Hp) (s2 : Shared), Inv X pins σ H2 s2 → SameT P H H2 → H2 P = some (.tbl #[rawInt pos.line, rawInt pos.col, .ref c']) → H2 c' = some (CodeO c' (X.env.qual ++ "<lambda>")) → H2 f = none →
      s2.heap.get? f = some (PySem.W.kla_obj "<lambda>" (X.env.qual ++ "<lambda>") params body scope clos pm c' ctv) → s.heap.objs.size ≤ f → (∀ x d, clos.lookup x = some d → X.env.cells.lookup x = some d) → (∀ y ∈ scope.names, y.2 = .free → ∃ d, clos.lookup y.1 = some d) → Q (.ref f) s2) :
    wpAny (model X.prog X.w) X.A (eval (.Lambda params body scope pos) X.env) Q X.xe s := by
  refine PySem.W.kla_eval hdef ?_
  obtain ⟨clos, hcl, hc1, hc2⟩ := closure_ok hfr
  have hgs := I.mod.glob.keeps I.bk
  obtain ⟨bm, ob, b1, b2, b3, b4, b5, b6⟩ := M.bm
  have hbm := I.bk _ _ b3
  have hbG : bm ≠ mainGlobals := fun q => by
    obtain ⟨o, es, ep, e, hd, _⟩ := hgs
    rw [q, e] at hbm; cases hbm; rw [hd] at b6; cases b6
  have side : ∀ {ps : Array Value}, s.heap.get? P = some (PySem.W.tabObj ps) → mainGlobals ≠ P ∧ s.heap.BuiltinsAt X.mg P := fun {ps} hP => by
    refine ⟨fun q => ?_, bm, ob, b1, b2, hbG, fun q => ?_, hbm, b4, b5, b6⟩
    · obtain ⟨o, es, ep, e, hd, _⟩ := hgs
      rw [q, hP] at e; cases e; cases hd
    · rw [q, hP] at hbm; cases hbm; cases b4
  rcases tb with e | ⟨c', e1, e2⟩
  · have hP : s.heap.get? P = some (PySem.W.tabObj #[]) := I.hok P _ e
    obtain ⟨g1, g2⟩ := side hP
    refine PySem.W.kla_makeFunction (mg := X.mg) hcl I.ok.glob hgs hcd (M.hd.keeps I.bk) hP trivial rfl g1 g2 fun c' ctv h' tk hx hge hlt hrec htb => ?_
    have k : ∀ (o : Obj) b u, b ≠ P → s.heap.get? b = some u → (h'.push o).get? b = some u := fun o b u n g => Heap.get?_push_of_some _ (hx b u n g)
    have hf : s.heap.objs.size ≤ h'.objs.size := Nat.le_of_lt (Nat.lt_of_le_of_lt hge hlt)
    have nf := I.hok.fresh hf
    have cP : c' ≠ P := fun z => by have := I.hok.fresh hge; rw [z, e] at this; cases this
    have J := I.un (t' := tk) (tab_un (fs := X.fs) (ex := []) (more := #[rawInt pos.line, rawInt pos.col, .ref c']) (q := X.env.qual ++ "<lambda>") I.hok e (k _) (Heap.get?_push_of_some (PySem.W.kla_obj "<lambda>" (X.env.qual ++ "<lambda>") params body scope clos ((X.mg "__name__").getD .none) c' ctv) htb) hge)
      (tab_hok I.hok e (k _) (Heap.get?_push_of_some _ htb) hge (hrec.push _))
    refine h h'.objs.size c' clos _ ctv _ _ J (fun b o n g => ?_) ?_ upd_same ?_ (Heap.get?_push_size _ rfl) hf hc1 hc2
    · rw [upd_ne (ne_of_none g (I.hok.fresh hge)), upd_ne n]
      exact g
    · rw [upd_ne (Ne.symm cP), upd_same]
      simp
    · rw [upd_ne (Nat.ne_of_gt hlt), upd_ne (fun z => by rw [z, e] at nf; cases nf)]
      exact nf
  · have hP : s.heap.get? P = some (PySem.W.tabObj #[rawInt pos.line, rawInt pos.col, .ref c']) := I.hok P _ e1
    obtain ⟨g1, g2⟩ := side hP
    refine PySem.W.kla_makeFunctionHit (mg := X.mg) hcl I.ok.glob hgs hcd (M.hd.keeps I.bk) hP (TriplesOk_snoc _ _ _ [] trivial) (codeAmong_snoc [] trivial rfl) g2 fun ctv h' tk hk hsz => ?_
    have J := I.kept (t' := tk) (h' := h'.push (PySem.W.kla_obj "<lambda>" (X.env.qual ++ "<lambda>") params body scope clos ((X.mg "__name__").getD .none) c' ctv)) fun b u g => Heap.get?_push_of_some _ (hk b u g)
    exact h h'.objs.size c' clos _ ctv H _ J (SameT.refl _ _) e1 e2 (I.hok.fresh hsz) (Heap.get?_push_size _ rfl) hsz hc1 hc2

def wider (X : Cx) (h : Heap) (H : Hp) : Heap := PySem.W.hideAll h (trk h H ++ frs X.stack)
theorem wider_get {h : Heap} {b : Addr} {o : Obj} (e : h.get? b = some o) (n : H b = none) (f : b ∉ frs X.stack) : (wider X h H).get? b = some o :=
  PySem.W.hideAll_get _ e fun hm => by
    rcases List.mem_append.mp hm with hm | hm
    · have q : (H b).isSome = true := (List.mem_filter.mp hm).2
      rw [n] at q; simp at q
    · exact f hm
theorem of_wider {h : Heap} {b : Addr} {o : Obj} (e : (wider X h H).get? b = some o) : h.get? b = some o ∧ H b = none ∧ b ∉ frs X.stack := by
  have e' : h.get? b = some o := PySem.W.of_hideAll _ e
  have nm : b ∉ trk h H ++ frs X.stack := fun hm => by rw [show (wider X h H).get? b = none from PySem.W.hideAll_none _ hm] at e; cases e
  refine ⟨e', ?_, fun z => nm (List.mem_append_right _ z)⟩
  cases q : H b with
  | none => rfl
  | some x => exact absurd (List.mem_append_left _ (List.mem_filter.mpr ⟨List.mem_range.mpr (Heap.lt_size e'), by simp [q]⟩)) nm
theorem Inv.nostk (I : Inv X pins σ H s) {b : Addr} {o : Obj} (e : X.base.get? b = some o) : b ∉ frs X.stack := fun hb => by
  have := (I.stack.mem hb).1
  rw [e] at this; cases this
theorem Inv.wide (I : Inv X pins σ H s) : (∀ b o, X.base.get? b = some o → (wider X s.heap H).get? b = some o) := fun b o e => wider_get (I.bs b o e).1 (I.bs b o e).2 (I.nostk e)
theorem funFrames_wide {h base base' : Heap} : ∀ {l : List Env}, h.FunFrames base l → (∀ b ∈ frs l, base'.get? b = none) → h.FunFrames base' l
  | [], _, _ => trivial
  | env :: r, ⟨hk, ⟨L, o, hf, hn, ho, hd⟩, hr⟩, k => by
    have hL : L ∈ frs (env :: r) := by unfold frs; rw [List.filterMap_cons, hf]; exact List.mem_cons_self
    exact ⟨hk, ⟨L, o, hf, k L hL, ho, hd⟩, funFrames_wide hr fun b hb => k b (by unfold frs; rw [List.filterMap_cons, hf]; exact List.mem_cons_of_mem _ hb)⟩
theorem Mod.keeps {K : PySem.W.Frag} {mg : Str → Option Value} {base base' : Heap} (M : Mod K mg base) (k : ∀ b o, base.get? b = some o → base'.get? b = some o) : Mod K mg base' :=
  ⟨M.kin.keeps k, M.glob.keeps k, let ⟨mb, a, b⟩ := M.blt; ⟨mb, a.keeps k, b⟩, M.nolimit.keeps k⟩
theorem Inv.env1 (I : Inv X pins σ H s) : Env0 X.prog X.w X.K X.mg (wider X s.heap H) X.A X.stack s H :=
  ⟨I.ok.frames, I.mod.keeps I.wide, fun b o e => ⟨(of_wider e).1, (of_wider e).2.1⟩, Nat.le_of_eq (PySem.W.hideAll_size _ _), funFrames_wide I.stack fun b hb => PySem.W.hideAll_none _ (List.mem_append_right _ hb), I.stkFree, I.hok, I.bare⟩
end

section
variable {X : Cx} {p pos lp : Pos} {a : Expr} {ta : TE}
def tLam (P : Addr) (lp : Pos) (qual : Str) (js : List Nat) (sp : Addr → Addr → List V → Sp) (ta : TE) : TE := fun σ H Q => ta σ H fun x H1 => Tab P lp qual H1 ∧ ∃ fvs : List V, js.map (fun j => σ[j]?) = fvs.map (fun v => some (some v)) ∧
  ∀ f c H2, SameT P H1 H2 → H2 P = some (.tbl #[rawInt lp.line, rawInt lp.col, .ref c]) → H2 c = some (CodeO c qual) → H2 f = none → sp f c fvs [x, .ref f] H2 Q E0
theorem e_lamcall (x : Str) {params : Arguments} {body : Expr} {scope : Scope} {c P : Addr} {F : List Str} {js : List Nat} {k : Nat} {ps : List Str} {sp : Addr → Addr → List V → Sp} (hm : ∃ f, X.mg x = some (.ref f) ∧ PySem.W.keepIn X.K (.ref f) = true) (M : Maker X.mg X.base c P) (hcd : X.env.code = .ref c)
    (hF : ∀ (i : Nat) y, F[i]? = some y → ∃ j, js[i]? = some j ∧ X.N[j]? = some y ∧ X.env.scope.names.lookup y = some .cell) (hFn : F.length = js.length) (hFs : ∀ y ∈ F, scope.names.lookup y = some .free) (hfn : ∀ y, X.fn y = true) (hfree : ∀ y ∈ scope.names, y.2 = .free → X.env.scope.names.lookup y.1 = some .cell)
    (hC : ∀ (B : Heap) (f c' : Addr) (fvs : List V), Mod X.K X.mg B → (∀ b o, X.base.get? b = some o → B.get? b = some o) → F.length = fvs.length → LamIn B f params body scope (X.env.qual ++ "<lambda>") c' F fvs → Can X.prog X.w X.K X.mg B x k ps (sp f c' fvs))
    (hr : Room k X.A) (ha : PE X a ta) (hg : gB X x = true) (hdef : defaultsOf params X.env = ([], [])) (hdb : (x == ("__debug__" : Str)) = false)
    (he : starEach [a, .Lambda params body scope lp] X.env = [(false, eval a X.env), (false, eval (.Lambda params body scope lp) X.env)]) :
    PE X (.Call (.Name x p) [a, .Lambda params body scope lp] [] pos) (tLam P lp (X.env.qual ++ "<lambda>") js sp ta) := by
  obtain ⟨tf, hm, hk⟩ := hm
  intro pins s σ H Q I h
  refine wpAny_Call_Name_kw (ld_glob I (gl_of hg) hm ?_ hdb)
  have go : wpAny (model X.prog X.w) X.A (spliced (backTo pos (starEach [a, .Lambda params body scope lp] X.env))) (fun vs s₁ => X.K.In s₁.heap ∧ wpAny (model X.prog X.w) X.A (call (.ref tf) vs) (EP X pins σ Q) X.xe s₁) X.xe s := by
    rw [he]
    refine Calls.spliced_cons (thn (ha pins s σ H _ I h) fun u s1 ⟨v, H1, I1, r1, q1⟩ => ?_)
    obtain ⟨tb, fvs, hv, q⟩ := q1
    refine Calls.spliced_cons (lam_eval I1 M hcd hdef tb (fun y hy hz => I1.ok.has _ (.inl (hfree y hy hz))) fun f c' clos pm ctv H2 s2 I2 sm e1 e2 nf hf hge cl1 cl2 => Calls.spliced_nil ⟨I2.kIn, ?_⟩)
    have ls : F.length = fvs.length := by
      have := congrArg List.length hv
      rw [List.length_map, List.length_map] at this
      omega
    have nst : f ∉ frs X.stack := fun hb => by
      obtain ⟨_, o, ho, _⟩ := I1.stack.mem hb
      exact absurd (Heap.lt_size ho) (Nat.not_lt.mpr hge)
    have cellB : ∀ {y : Str} {d : Addr} {z : Option Value}, X.env.cells.lookup y = some d → s2.heap.IsCell d z → (wider X s2.heap H2).IsCell d z := fun {y d z} hd ⟨o, eo, od⟩ => by
      refine ⟨o, wider_get eo (I2.freeC y d hd) fun hb => ?_, od⟩
      rcases List.mem_cons.mp (I2.stkSub d hb) with z1 | z1
      · exact I2.cne y d hd z1
      · obtain ⟨_, o', ho', _⟩ := I2.ok.funs.mem z1
        exact absurd (Heap.lt_size ho') (Nat.not_lt.mpr (I2.ok.cab y d (hfn y) hd))
    have L : LamIn (wider X s2.heap H2) f params body scope (X.env.qual ++ "<lambda>") c' F fvs := by
      refine ⟨pm, ctv, clos, wider_get hf nf nst, fun y z d h1 h2 => I2.ok.inj y z d (cl1 y d h1) (cl1 z d h2), cl2, fun y d hd => ?_, fun i y v' hi hv' => ?_⟩
      · obtain ⟨z, hz⟩ := I2.cell y d (cl1 y d hd)
        exact ⟨z, cellB (cl1 y d hd) hz⟩
      · obtain ⟨j, hj, hN, hc⟩ := hF i y hi
        have ej : σ[j]? = some (some v') := by
          have := congrArg (·[i]?) hv
          simp only [List.getElem?_map, hj, hv', Option.map_some] at this
          exact Option.some.inj this
        obtain ⟨m, _, hloc⟩ := I2.loc
        obtain ⟨u', ru, lk⟩ := hloc j y v' hN ej (.inr (.inl hc))
        rcases lk with ⟨k1, _⟩ | ⟨_, d, hd, hcell⟩
        · have k1 : X.env.scope.names.lookup y = some .local := k1
          rw [hc] at k1; cases k1
        · obtain ⟨d', hd'⟩ := cl2 (y, .free) (PySem.mem_of_lookup (hFs y (List.mem_of_getElem? hi))) rfl
          have := cl1 y d' hd'
          rw [hd] at this
          cases this
          exact ⟨d, u', hd', cellB hd hcell, ru⟩
    obtain ⟨f', fd, Fk, hm', hk', hb⟩ := hC _ f c' fvs I2.env1.mod I2.wide ls L
    rw [hm] at hm'
    cases hm'
    have r2 : Vals [v, .ref f] [u, .ref f] := .cons r1 (.cons rfl .nil)
    have hq := q f c' H2 sm e1 e2 nf
    have hl : ([u, Value.ref f] ++ []).length = ps.length := by rw [List.append_nil, ← r2.length]; exact Fk.len _ _ _ _ hq
    refine wpAny_call (codeAny_mono (Fk.run X.A X.stack s2 H2 ⟨[u, .ref f], []⟩ ([u, .ref f] ++ []) [v, .ref f] Q E0 hr I2.env1 (hb s2 _ I2.kIn hl) (by rw [List.append_nil]; exact r2) hq) fun r s' hq => ?_)
    cases r with
    | error e => exact hq.elim
    | ok fl =>
      cases fl with
      | ret u => exact I2.after hq
      | next => exact False.elim hq
      | brk => exact False.elim hq
      | cont => exact False.elim hq
  rw [he] at go ⊢
  exact PySem.W.callWith_of (P := fun h => X.K.In h) (first := []) rfl (PySem.W.keeps_K hk) (Calls.evalArgs_plain go)
end
end L2
end
section
set_option Elab.async false
set_option linter.all false
set_option maxRecDepth 100000
set_option maxHeartbeats 4000000
namespace Om
section
variable {α : Type} [DecidableEq α]
end
end Om
namespace L2
open PySem PySem.Spec PyProof.Rows
section
variable {prog : Program} {w : World} {A : Around} {I : Addr} {fp wr : List Addr} {G : Array GenState → Array GenState → Prop} {n : Nat} {P : Nat → Value → Prop} {St : Nat → Shared → Prop} {κ : Type} [DecidableEq κ] {knd : KeyKind prog w κ}
end
section
variable {X : Cx} {p pos : Pos} {e : Expr} {es : List Expr} {t : TA}
end
end L2
end
section
set_option Elab.async false
set_option linter.all false
set_option maxRecDepth 100000
set_option maxHeartbeats 4000000
namespace Om
section
variable {ts : List Int} {g : Nat} {f : Nat → Bool}
def val (f : Nat → Bool) (k : Nat) : Nat → Nat
  | 0 => 0
  | g + 1 => 2 * val f k g + (if f (k + g) then 1 else 0)
end
end Om
end
section
set_option Elab.async false
set_option linter.all false
set_option maxRecDepth 100000
set_option maxHeartbeats 4000000
namespace L2
open PySem PySem.Spec PyProof.Rows
section
variable {X : Cx} {p pos : Pos} {a b e : Expr} {es : List Expr} {t : TA}
def tAugN (i : Nat) (te : TE) : TS := fun D σ H => match σ[i]? with
  | some (some (.int a)) => te σ H fun y H1 => match y with
    | .int b => D.nx (σ.set i (some (.int (a + b)))) H1
    | _ => False
  | _ => False
theorem s_aug (y : Str) (i : Nat) {te : TE} {py : Pos} (hN : X.N.Nodup) (he : PE X e te) (hi : X.N[i]? = some y := by with_unfolding_all rfl) (hx : locB X.env.scope y = true := by kernel_rfl)
    (hf : (X.fn y || X.env.scope.names.lookup y == some .local) = true := by kernel_rfl) : PS X (.AugAssign (.Name y py) .Add e pos) (tAugN i te) := by
  have h := ps_aug (pos := pos) (pos' := py) hN hi (loc_of hx) he (ip_add (X := X)) (by
    rw [Bool.or_eq_true] at hf
    exact hf.elim .inl fun z => .inr (eq_of_beq z))
  intro pins s σ H D I q
  refine h pins s σ H D I ?_
  unfold tAugN at q
  split at q
  · rename_i a ea
    have q2 : te σ H fun y H1 => ipI (fun i j => i + j) (.int a) y H1 fun z H2 => D.nx (σ.set i (some z)) H2 := by
      have e : (fun (y : V) (H1 : Hp) => match y with
        | .int b => D.nx (σ.set i (some (.int (a + b)))) H1
        | _ => False) = fun y H1 => ipI (fun i j => i + j) (.int a) y H1 fun z H2 => D.nx (σ.set i (some z)) H2 := by
        funext y H1
        apply propext
        unfold ipI
        constructor
        · intro z
          split at z
          · exact ⟨_, _, rfl, rfl, z⟩
          · exact z.elim
        · rintro ⟨i', j', e1, e2, z⟩
          cases e1
          cases e2
          exact z
      rw [e] at q
      exact q
    exact ⟨_, ea, q2⟩
  · exact q.elim
end
end L2
namespace Om
end Om
end
section
set_option Elab.async false
set_option linter.all false
set_option maxRecDepth 100000
set_option maxHeartbeats 4000000
namespace Om
theorem nodup_len : ∀ (m : Nat) (qs : List Nat), qs.Nodup → (∀ s ∈ qs, s < m) → qs.length ≤ m
  | 0, [], _, _ => Nat.le_refl _
  | 0, q :: _, _, h => absurd (h q List.mem_cons_self) (Nat.not_lt_zero _)
  | m + 1, qs, nd, h => by
    have ih := nodup_len m (qs.erase m) (nd.erase m) fun s hs => by
      have h1 := (nd.mem_erase_iff.mp hs)
      have h2 := h s h1.2
      have h3 := h1.1
      omega
    rw [List.length_erase] at ih
    split at ih <;> omega
end Om
namespace L2
open PySem PySem.Spec PyProof.Rows
theorem upd_nn {H : Hp} {a b : Addr} {o : HO} (h : upd H a o b = none) : b ≠ a ∧ H b = none := by
  by_cases e : b = a
  · rw [e, upd_same] at h; cases h
  · rw [upd_ne e] at h; exact ⟨e, h⟩
def nk (s : Nat) : Key := Sum.inl (s : Int)
section
variable {H0 H H1 : Hp} {D Q : Addr} {kvs : List (Key × V)} {qs : List Nat} {c : Nat}
end
end L2
end
section
set_option Elab.async false
set_option linter.all false
set_option maxRecDepth 100000
set_option maxHeartbeats 4000000
namespace Om
theorem pow8 {k : Nat} (h : k ≤ 3) : 2 ^ k ≤ 8 := by
  have : k = 0 ∨ k = 1 ∨ k = 2 ∨ k = 3 := by omega
  rcases this with rfl | rfl | rfl | rfl <;> decide
theorem map_nodup {α β : Type} {f : α → β} (hf : ∀ a b, f a = f b → a = b) : ∀ {l : List α}, (l.map f).Nodup ↔ l.Nodup
  | [] => by simp
  | x :: l => by
    rw [List.map_cons, List.nodup_cons, List.nodup_cons, map_nodup hf]
    refine and_congr (not_congr ⟨fun h => ?_, fun h => List.mem_map_of_mem h⟩) Iff.rfl
    obtain ⟨y, hy, e⟩ := List.mem_map.mp h
    exact hf _ _ e ▸ hy
end Om
namespace L2
open PySem PySem.Spec PyProof.Rows
def lamArgs (e : Expr) : Arguments := match e with
  | .Lambda a _ _ _ => a
  | _ => { posonlyargs := [], args := [], vararg := none, kwonlyargs := [], kw_defaults := [], kwarg := none, defaults := [] }
def lamBody (e : Expr) : Expr := match e with
  | .Lambda _ b _ _ => b
  | _ => e
def lamScope (e : Expr) : Scope := match e with
  | .Lambda _ _ sc _ => sc
  | _ => { kind := .function, names := [], isGenerator := false, isCoroutine := false }
def lamPos (e : Expr) : Pos := match e with
  | .Lambda _ _ _ p => p
  | _ => ⟨0, 0, 0, 0⟩
def callArg (i : Nat) (e : Expr) : Expr := match e with
  | .Call _ as _ _ => as.getD i e
  | _ => e
def retE (d : Expr) (s : Stmt) : Expr := match s with
  | .Return (some e) _ => e
  | _ => d
def wo1 (P : Addr) (H : Hp) : Hp := fun b => if b = P then none else H b
theorem wo1.at {P b : Addr} {H : Hp} {o : HO} (h : H b = some o) (n : b ≠ P) : wo1 P H b = some o := by unfold wo1; rw [if_neg n]; exact h
theorem wo1.same {P : Addr} {H H' : Hp} (s : SameT P H H') : Same (wo1 P H) H' := fun b o e => by
  unfold wo1 at e
  split at e
  · cases e
  · rename_i n
    exact s b o n e
mutual
theorem DV.wo1 {H : Hp} {P : Addr} {ps : Array Value} (hP : H P = some (.tbl ps)) : ∀ {v : V} {d : PyData}, DV H v d → DV (wo1 P H) v d
  | _, _, .non => .non
  | _, _, .bl b => .bl b
  | _, _, .int i => .int i
  | _, _, .str x => .str x
  | _, _, .lst h r => .lst (wo1.at h (ne_of h hP (fun z => nomatch z))) (DVs.wo1 hP r)
  | _, _, .tup h r => .tup (wo1.at h (ne_of h hP (fun z => nomatch z))) (DVs.wo1 hP r)
  | _, _, .dic h => .dic (wo1.at h (ne_of h hP (fun z => nomatch z)))
theorem DVs.wo1 {H : Hp} {P : Addr} {ps : Array Value} (hP : H P = some (.tbl ps)) : ∀ {vs : List V} {ds : List PyData}, DVs H vs ds → DVs (wo1 P H) vs ds
  | _, _, .nil => .nil
  | _, _, .cons h r => .cons (DV.wo1 hP h) (DVs.wo1 hP r)
end
theorem Tab.tbl {P : Addr} {pos : Pos} {qual : Str} {H : Hp} (t : Tab P pos qual H) : ∃ ps, H P = some (.tbl ps) := by
  rcases t with e | ⟨c, e, _⟩
  · exact ⟨_, e⟩
  · exact ⟨_, e⟩
theorem DV.monoT {H H' : Hp} {P : Addr} {pos : Pos} {qual : Str} {v : V} {d : PyData} (h : DV H v d) (t : Tab P pos qual H) (s : SameT P H H') : DV H' v d :=
  let ⟨_, e⟩ := t.tbl
  (h.wo1 e).mono (wo1.same s)
theorem SameT.free {P : Addr} {H H' : Hp} {l : Addr} (s : SameT P H H') (h : H' l = none) (n : l ≠ P) : H l = none := by
  cases q : H l with
  | none => rfl
  | some o => rw [s l o n q] at h; cases h
def FnC (K : PySem.W.Frag) (mg : Str → Option Value) (x : Str) (st : Stmt) (ps : List Str) (c : Addr) : Prop := ∃ (f : Addr) (oc : Value) (od : Option Addr) (kV doc pm : Value) (an : Option Addr) (ct : Value) (osl : Array (Option Value)),
  K.lookup f = some ⟨oc, od, .func (PySem.W.fnOf x x (defArgs st) (defBody st) (defScope st) .none kV doc pm an (.ref c) ct), osl⟩ ∧ PySem.W.codeIn K (.ref c) x = true ∧ PySem.W.keepIn K (.ref f) = true ∧ mg x = some (.ref f) ∧
  Binds K (PySem.W.fnOf x x (defArgs st) (defBody st) (defScope st) .none kV doc pm an (.ref c) ct) ps []
theorem can_fnC {P : Program} {w : World} {K : PySem.W.Frag} {mg : Str → Option Value} {base : Heap} {x : Str} {st : Stmt} {N ps : List Str} {k : Nat} {sp : Sp} {c : Addr} (D : FnC K mg x st ps c) (S : FnScope N ps (defScope st)) (len : ∀ vs H Q E, sp vs H Q E → vs.length = ps.length)
    (hbody : ∀ (f : Addr) (A : Around) (outer : List Env) (s : Shared) (H : Hp) (vs : List V) (Q : VK) (E : XK), Room k (A.deeper (envOfC x (defScope st) s.heap.objs.size f (.ref c))) → sp vs H Q E →
      ∃ t, PSs (cxOf CX0 P w K mg base N x (defScope st) f (.ref c) A outer s H E).nox (defBody st) t ∧ t { nx := fun _ H' => Q .non H', rt := Q } (start N vs) H) : Can P w K mg base x (k + 1) ps sp := by
  obtain ⟨f, oc, od, kV, doc, pm, an, ct, osl, lk, hcd, kp, hm, hb⟩ := D
  refine ⟨f, _, fn_of lk hcd S len fun A outer s H vs Q E hr hsp => ?_, hm, kp, hb⟩
  obtain ⟨t, h, q⟩ := hbody f A outer s H vs Q E hr hsp
  exact ⟨t, h.nox, q⟩
end L2
end
section
set_option Elab.async false
set_option linter.all false
set_option maxRecDepth 100000
set_option maxHeartbeats 4000000
namespace Om
theorem nodup_at {α : Type} {l : List α} (nd : l.Nodup) {i j : Nat} {x : α} (a : l[i]? = some x) (b : l[j]? = some x) : i = j := by
  obtain ⟨hi, ei⟩ := List.getElem?_eq_some_iff.mp a
  obtain ⟨hj, ej⟩ := List.getElem?_eq_some_iff.mp b
  exact (List.getElem_inj nd).mp (ei.trans ej.symm)
end Om
namespace L2
open PySem PySem.Spec PyProof.Rows
theorem rows_off {H H' : Hp} {rs : List V} {st : List (List Bool × Nat)} (h : DVs H rs (st.map rowD)) (k : ∀ b xs, H b = some (.tup xs) → H' b = some (.tup xs)) : DVs H' rs (st.map rowD) := by
  refine DVs.of_get (by rw [h.length]) fun i d hd => ?_
  rw [List.getElem?_map] at hd
  obtain ⟨r, hr, rfl⟩ := Option.map_eq_some_iff.mp hd
  obtain ⟨p, e1, e2⟩ := row_at h hr
  exact ⟨_, e1, .tup (k _ _ e2) (.cons (.str _) (.cons (.int _) .nil))⟩
structure CopyOf (H0 H : Hp) (a b : Addr) (qs : List Addr) (k n : Nat) (rows : Om.Rows) : Prop where
  ha : H a = some (.tup [.int (k : Nat), .int (n : Nat), .ref b])
  nb : H0 b = none
  hb : H b = some (.lst (qs.map V.ref))
  nd : qs.Nodup
  nq : ∀ q ∈ qs, H0 q = none ∧ q ≠ b
  len : qs.length = rows.length
  st : ∀ (j : Nat) (st : List (List Bool × Nat)), rows[j]? = some st → ∃ q rs, qs[j]? = some q ∧ H q = some (.lst rs) ∧ DVs H rs (st.map rowD)
section
variable {H0 H H' : Hp} {a b : Addr} {qs : List Addr} {k n : Nat} {rows : Om.Rows}
theorem CopyOf.dv (C : CopyOf H0 H a b qs k n rows) : DV H (.ref a) (codeD k n rows) := by
  refine .tup C.ha (.cons (.int _) (.cons (.int _) (.cons (.lst C.hb (DVs.of_get (by rw [List.length_map, List.length_map, C.len]) fun i d hd => ?_)) .nil)))
  rw [List.getElem?_map] at hd
  obtain ⟨st, hs, rfl⟩ := Option.map_eq_some_iff.mp hd
  obtain ⟨q, rs, e1, e2, e3⟩ := C.st i st hs
  exact ⟨.ref q, by rw [List.getElem?_map, e1]; rfl, .lst e2 e3⟩
theorem CopyOf.mono (C : CopyOf H0 H a b qs k n rows) (s : Same H H') : CopyOf H0 H' a b qs k n rows :=
  ⟨s _ _ C.ha, C.nb, s _ _ C.hb, C.nd, C.nq, C.len, fun j st e => let ⟨q, rs, x, y, z⟩ := C.st j st e; ⟨q, rs, x, s _ _ y, z.mono s⟩⟩
theorem CopyOf.wo1 {P : Addr} {pos : Pos} {qual : Str} (C : CopyOf H0 H a b qs k n rows) (t : Tab P pos qual H) (s : SameT P H H') : CopyOf H0 H' a b qs k n rows := by
  obtain ⟨ps, hP⟩ := t.tbl
  have lk : ∀ {x : Addr} {o : HO}, H x = some o → o ≠ .tbl ps → H' x = some o := fun {x o} e ne => s _ _ (ne_of e hP ne) e
  exact ⟨lk C.ha (fun z => nomatch z), C.nb, lk C.hb (fun z => nomatch z), C.nd, C.nq, C.len, fun j st e => let ⟨q, rs, x, y, z⟩ := C.st j st e; ⟨q, rs, x, lk y (fun z => nomatch z), rows_off z fun c xs e => lk e (fun z => nomatch z)⟩⟩
theorem CopyOf.set (C : CopyOf H0 H a b qs k n rows) {s l t : Nat} {q p : Addr} {rs : List V} {st : List (List Bool × Nat)} {w : List Bool} (hs : rows[s]? = some st) (hq : qs[s]? = some q) (hr : H q = some (.lst rs)) (hd : DVs H rs (st.map rowD)) (hp : H p = some (.tup [.str (bs w), .int (t : Nat)])) :
    CopyOf H0 (upd H q (.lst (rs.set l (.ref p)))) a b qs k n (rows.set s (st.set l (w, t))) := by
  have tk : ∀ c xs, H c = some (.tup xs) → upd H q (.lst (rs.set l (.ref p))) c = some (.tup xs) := fun c xs e => by rw [upd_ne (ne_of e hr (fun z => nomatch z))]; exact e
  have qb : q ≠ b := (C.nq q (List.mem_of_getElem? hq)).2
  refine ⟨tk _ _ C.ha, C.nb, by rw [upd_ne (Ne.symm qb)]; exact C.hb, C.nd, C.nq, by rw [List.length_set]; exact C.len, fun j st' hj => ?_⟩
  have jl : j < rows.length := by
    have := (List.getElem?_eq_some_iff.mp hj).1
    rwa [List.length_set] at this
  by_cases e : j = s
  · subst e
    rw [List.getElem?_set_self jl] at hj
    cases hj
    refine ⟨q, _, hq, upd_same, DVs.of_get (by rw [List.length_set, List.length_map, List.length_set, hd.length, List.length_map]) fun i d hi => ?_⟩
    rw [List.getElem?_map] at hi
    obtain ⟨r, hr', rfl⟩ := Option.map_eq_some_iff.mp hi
    have il : i < st.length := by
      have := (List.getElem?_eq_some_iff.mp hr').1
      rwa [List.length_set] at this
    have rl : rs.length = st.length := by rw [hd.length, List.length_map]
    by_cases e : i = l
    · subst e
      rw [List.getElem?_set_self il] at hr'
      cases hr'
      exact ⟨.ref p, List.getElem?_set_self (by omega), .tup (tk _ _ hp) (.cons (.str _) (.cons (.int _) .nil))⟩
    · rw [List.getElem?_set_ne (Ne.symm e)] at hr'
      obtain ⟨p', e1, e2⟩ := row_at hd hr'
      exact ⟨.ref p', by rw [List.getElem?_set_ne (Ne.symm e)]; exact e1, .tup (tk _ _ e2) (.cons (.str _) (.cons (.int _) .nil))⟩
  · rw [List.getElem?_set_ne (Ne.symm e)] at hj
    obtain ⟨q', rs', e1, e2, e3⟩ := C.st j st' hj
    refine ⟨q', rs', e1, ?_, rows_off e3 tk⟩
    have ne : q' ≠ q := fun z => by rw [z] at e1; exact e (Om.nodup_at C.nd e1 hq)
    rw [upd_ne ne]
    exact e2
end
end L2
end
section
set_option Elab.async false
set_option linter.all false
set_option maxRecDepth 100000
set_option maxHeartbeats 4000000
namespace Om
end Om
namespace L2
open PySem PySem.Spec PyProof.Rows
section
variable {F : Addr → Prop} {H0 H H' G : Hp} {d P : Addr} {pos : Pos} {qual : Str}
theorem Deck.lst (h : Deck F H d) {b : Addr} (z : F b) : ∃ xs, H b = some (.lst xs) := by
  obtain ⟨p, qs, n, h1, h2, h3, h4, h5, h6⟩ := h.ex
  rcases (h6 b).mp z with rfl | rfl | z
  · exact ⟨_, h1⟩
  · exact ⟨_, h2⟩
  · obtain ⟨c, f, m, e⟩ := h5 b z
    exact ⟨_, e⟩
theorem Tab.off (t : Tab P pos qual H) (k : Deck F H d) (o : Off F H H') : Tab P pos qual H' := by
  have nl : ∀ {b : Addr} {u : HO}, H b = some u → (∀ xs, u ≠ .lst xs) → ¬ F b := fun {b u} e n z => by
    obtain ⟨xs, e'⟩ := k.lst z
    rw [e] at e'
    exact n xs (Option.some.inj e')
  rcases t with e | ⟨c, e1, e2⟩
  · exact .inl (o _ _ e (nl e fun xs z => nomatch z))
  · exact .inr ⟨c, o _ _ e1 (nl e1 fun xs z => nomatch z), o _ _ e2 (nl e2 fun xs z => nomatch z)⟩
theorem Tab.upd {b : Addr} {xs : List V} {o : HO} (t : Tab P pos qual H) (e : H b = some (.lst xs)) : Tab P pos qual (upd H b o) := by
  rcases t with z | ⟨c, z1, z2⟩
  · exact .inl (by rw [upd_ne (ne_of z e (fun y => nomatch y))]; exact z)
  · exact .inr ⟨c, by rw [upd_ne (ne_of z1 e (fun y => nomatch y))]; exact z1, by rw [upd_ne (ne_of z2 e (fun y => nomatch y))]; exact z2⟩
theorem CopyOf.off {a b : Addr} {qs : List Addr} {k n : Nat} {rows : Om.Rows} (C : CopyOf H0 H a b qs k n rows) (k0 : Deck F H0 d) (k1 : Deck F H d) (o : Off F H H') : CopyOf H0 H' a b qs k n rows := by
  have nf : ∀ {x : Addr}, H0 x = none → ¬ F x := fun {x} e z => by
    obtain ⟨xs, e'⟩ := k0.lst z
    rw [e] at e'; cases e'
  have tp : ∀ x xs, H x = some (.tup xs) → H' x = some (.tup xs) := fun x xs e => o _ _ e (k1.not_tup e)
  exact ⟨tp _ _ C.ha, C.nb, o _ _ C.hb (nf C.nb), C.nd, C.nq, C.len, fun j st e => let ⟨q, rs, x, y, z⟩ := C.st j st e; ⟨q, rs, x, o _ _ y (nf (C.nq q (List.mem_of_getElem? x)).1), rows_off z tp⟩⟩
end
end L2
end
section
set_option Elab.async false
set_option linter.all false
set_option maxRecDepth 100000
set_option maxHeartbeats 4000000
namespace L2
open PySem PySem.Spec PyProof.Rows
theorem FnC.of {K : PySem.W.Frag} {h : Heap} {mg : Str → Option Value} {x : Str} {st : Stmt} {ps : List Str} {c P : Addr} (D : DefIn K x st) (ht : PySem.W.tabIn K x = some (c, P)) (X : K.In h) (G : h.Ns mainGlobals mg)
    (hb : ∀ (kV doc pm : Value) (an : Option Addr) (cdv ct : Value) (us : List Value), us.length = ps.length → bindArgs (PySem.W.fnOf x x (defArgs st) (defBody st) (defScope st) .none kV doc pm an cdv ct) ⟨us, []⟩ = pure (ps.zip us)) : FnC K mg x st ps c := by
  obtain ⟨f, oc, od, an, osl, kV, dc, pm, cd, ct, h1, h2, h3, h4⟩ := D
  have e : cd = .ref c := by
    unfold PySem.W.tabIn at ht
    rw [h1] at ht
    dsimp only at ht
    rw [h2] at ht
    dsimp only at ht
    split at ht
    · rename_i c' _
      split at ht
      · split at ht
        · cases ht; rfl
        · cases ht
      · cases ht
    · cases ht
  subst e
  exact ⟨f, oc, od, kV, dc, pm, an, ct, osl, h2, h3, h4, PySem.W.mg_of X G h1, .all (hb kV dc pm an _ ct)⟩
theorem law_callT {P : Program} {w : World} {K : PySem.W.Frag} {mg mb : Str → Option Value} {CX : CXT} {k : Nat} {fa a : Addr} {fd : FuncData} {x : Str} {sp : Sp} {s₁ : Shared} {vs : List Value} {ns : List Int} {tabs : List (Addr × Addr)}
    (KX : K.In s₁.heap) (hns : s₁.heap.Ns mainGlobals mg) (hb : s₁.heap.Ns builtinsNs mb) (hbb : ∀ x : Str, x ≠ "__name__" → mb x = bootBuiltins x) (hlim : s₁.heap.NoLimit) (hg : s₁.gens = #[])
    (ha : s₁.heap.get? a = some { cls := .type "list", data := .seq vs.toArray }) (hi : IntsAre vs ns) (hl : ns.length ≤ sizeLine) (hr : Room k callerA) (hT : PySem.W.TabsAt tabs s₁.heap) (hnt : PySem.W.noTabs K = true)
    (hbm : ∃ bm ob, mg "__builtins__" = some (.ref bm) ∧ bm ≠ builtinsNs ∧ s₁.heap.get? bm = some ob ∧ ob.cls = .type "module" ∧ ob.dict = some builtinsNs ∧ ob.data = .plain)
    (F : ∀ base : Heap, K.In base → base.Ns mainGlobals mg → (∀ q ∈ tabs, Maker mg base q.1 q.2) → FnOk P w K mg base CX k fa fd [x] sp) (hbind : ∀ (s : Shared) (u : Value), BindsTo s fd ⟨[u], []⟩ [(x, u)])
    (hsp : ∀ H : Hp, (∀ q ∈ tabs, H q.2 = some (.tbl #[])) → SqL K H a (ns.map V.int) → sp [.ref a] H (fun v _ => v = .bl true) fun _ _ _ => False)
    (hCX : ∀ H e s', CX [] H s₁ (fun _ _ _ => False) e s' → False) :
    codeAny (model P w) callerA (.call (.ref fa) ⟨[.ref a], []⟩) (fun r s' => r = .ok (.ret (.bool true)) ∧ OldK s₁.heap s'.heap ∧ s'.os = s₁.os ∧ AllBare s'.gens) s₁ := by
  have rv := vals_ints hi
  have lenV := hi.length
  have aT : ∀ q ∈ tabs, q.2 ≠ a := fun q hq z => by
    have e := (hT q hq).2
    rw [z, ha] at e
    cases e
  -- from an abstract heap in which the tables and perhaps the script are tracked
  have core : ∀ H : Hp, (∀ b u, H b = some u → (b = a ∧ u = .frz { cls := .type "list", data := .seq vs.toArray } (.lst (ns.map V.int)) ∧ K.lookup a = none) ∨ ∃ q ∈ tabs, b = q.2 ∧ u = .tbl #[]) → (∀ q ∈ tabs, H q.2 = some (.tbl #[])) → SqL K H a (ns.map V.int) →
      codeAny (model P w) callerA (.call (.ref fa) ⟨[.ref a], []⟩) (fun r s' => r = .ok (.ret (.bool true)) ∧ OldK s₁.heap s'.heap ∧ s'.os = s₁.os ∧ AllBare s'.gens) s₁ := by
    intro H hH hTE hS
    have hok : HOk P w H s₁.heap := fun b u e => by
      rcases hH b u e with ⟨rfl, rfl, _⟩ | ⟨q, hq, rfl, rfl⟩
      · exact ⟨ha, by rw [List.length_map]; exact hl, vs, _, rv, ha⟩
      · exact (hT q hq).2
    -- an object of another kind is not tracked
    have free : ∀ {b : Addr} {o : Obj}, s₁.heap.get? b = some o → o.cls ≠ .type "list" ∨ (∀ y, o.data ≠ .seq vs.toArray y) → (o.cls ≠ .none ∨ ∀ ps, o.data ≠ .fields ps) → H b = none := fun {b o} e n1 n2 => by
      cases q : H b with
      | none => rfl
      | some u =>
        rcases hH b u q with ⟨rfl, _, _⟩ | ⟨t, ht, rfl, _⟩
        · rw [ha] at e
          cases e
          rcases n1 with n1 | n1
          · exact absurd rfl n1
          · exact absurd rfl (n1 _)
        · rw [(hT t ht).2] at e
          cases e
          rcases n2 with n2 | n2
          · exact absurd rfl n2
          · exact absurd rfl (n2 _)
    have nsK : ∀ {b : Addr} {m : Str → Option Value}, s₁.heap.Ns b m → (hidT s₁.heap H).Ns b m := fun {b m} ⟨o, es, ep, e, d, r⟩ =>
      ⟨o, es, ep, hidT_get e (free e (.inr fun y z => by rw [d] at z; cases z) (.inr fun y z => by rw [d] at z; cases z)), d, r⟩
    have hKb : K.In (hidT s₁.heap H) := fun b o e => hidT_get (KX b o e) (by
      cases q : H b with
      | none => rfl
      | some u =>
        rcases hH b u q with ⟨rfl, _, z⟩ | ⟨t, ht, rfl, _⟩
        · rw [z] at e; cases e
        · have e1 := KX _ _ e
          rw [(hT t ht).2] at e1
          have e2 := List.all_eq_true.mp hnt _ (PySem.W.mem_of_lookupK e)
          cases e1
          exact absurd (show false = true from e2) Bool.false_ne_true)
    have hM : Mod K mg (hidT s₁.heap H) := ⟨hKb, nsK hns, ⟨mb, nsK hb, hbb⟩, let ⟨mc, h1, h2⟩ := hlim; ⟨mc, nsK h1, h2⟩⟩
    have hMk : ∀ q ∈ tabs, Maker mg (hidT s₁.heap H) q.1 q.2 := fun q hq => by
      refine ⟨?_, ?_⟩
      · obtain ⟨bm, ob, b1, b2, b3, b4, b5, b6⟩ := hbm
        exact ⟨bm, ob, b1, b2, hidT_get b3 (free b3 (.inl (by rw [b4]; decide)) (.inl (by rw [b4]; exact fun z => nomatch z))), b4, b5, b6⟩
      · obtain ⟨o, c1, c2, c3, c4, c5, c6, c7, c8, e, c9, r⟩ := (hT q hq).1
        exact ⟨o, c1, c2, c3, c4, c5, c6, c7, c8, hidT_get e (free e (.inl (by rw [c9]; decide)) (.inl (by rw [c9]; exact fun z => nomatch z))), c9, r⟩
    have e0 : Env0 P w K mg (hidT s₁.heap H) callerA [] s₁ H := ⟨rfl, hM, fun b o e => of_hidT e, Nat.le_of_eq (hidT_size _ _), trivial, fun b hb => absurd (show b ∈ ([] : List Addr) from hb) (by simp), hok, .of_eq hg⟩
    refine codeAny_mono ((F _ hKb (nsK hns) hMk).run callerA [] s₁ H ⟨[.ref a], []⟩ [.ref a] [.ref a] _ _ hr e0 (hbind s₁ (.ref a)) (.cons rfl .nil) (hsp H hTE hS)) fun r s' h => ?_
    cases r with
    | error e => exact (hCX H e s' h).elim
    | ok fl =>
      cases fl with
      | next => exact False.elim h
      | brk => exact False.elim h
      | cont => exact False.elim h
      | ret u =>
        obtain ⟨v, H', os, bare, un, hok', r', q⟩ := h
        have q' : v = .bl true := q
        subst q'
        obtain rfl : u = Value.bool true := r'
        have kept : ∀ b o, s₁.heap.get? b = some o → (∀ t ∈ tabs, b ≠ t.2) → s'.heap.get? b = some o := fun b o e n => by
          cases q : H b with
          | none => exact un.keep b o e q (by intro z; exact absurd (show b ∈ ([] : List Addr) from z) (by simp)) (by simp)
          | some u =>
            rcases hH b u q with ⟨rfl, rfl, _⟩ | ⟨t, ht, z, _⟩
            · have z2 := un.frzs _ _ _ q
              obtain ⟨e2, _⟩ := hok' _ _ z2
              rw [ha] at e; cases e
              exact e2
            · exact absurd z (n t ht)
        have grown : ∀ t ∈ tabs, ∃ more, s'.heap.get? t.2 = some (PySem.W.tabObj (#[] ++ more)) := fun t ht => by
          obtain ⟨more, z⟩ := un.tbls _ _ (hTE t ht)
          exact ⟨more, hok' _ _ z⟩
        refine ⟨rfl, ⟨fun b o e => ?_, fun b o e => ?_⟩, os, bare⟩
        · by_cases n : ∀ t ∈ tabs, b ≠ t.2
          · exact .inl (kept b o e n)
          · obtain ⟨t, ht, z⟩ : ∃ t ∈ tabs, b = t.2 := by
              refine Classical.byContradiction fun z => n fun t ht y => z ⟨t, ht, y⟩
            subst z
            have hP := (hT t ht).2
            rw [hP] at e
            cases e
            obtain ⟨more, g⟩ := grown t ht
            exact .inr (.inl ⟨((hT t ht).1.tab hP).isCodeTable, rfl, #[], more, rfl, g⟩)
        · by_cases n : ∀ t ∈ tabs, b ≠ t.2
          · exact ⟨o, kept b o e n⟩
          · obtain ⟨t, ht, z⟩ : ∃ t ∈ tabs, b = t.2 := by
              refine Classical.byContradiction fun z => n fun t ht y => z ⟨t, ht, y⟩
            subst z
            obtain ⟨more, g⟩ := grown t ht
            exact ⟨_, g⟩
  cases hk : K.lookup a with
  | some o =>
    have e := KX a o hk
    rw [ha] at e
    cases e
    refine core (fun b => if b ∈ tabs.map (·.2) then some (.tbl #[]) else none) (fun b u e => ?_) (fun q hq => if_pos (List.mem_map_of_mem hq)) (.inr ⟨_, vs.toArray, _, hk, rfl, rfl, rfl, by rw [List.size_toArray, lenV]; exact hl, by simpa using rv⟩)
    by_cases n : b ∈ tabs.map (·.2)
    · obtain ⟨q, hq, rfl⟩ := List.mem_map.mp n
      have z := (if_pos n).symm.trans e
      cases z
      exact .inr ⟨q, hq, rfl, rfl⟩
    · have z := (if_neg n).symm.trans e
      cases z
  | none =>
    refine core (fun b => if b = a then some (.frz { cls := .type "list", data := .seq vs.toArray } (.lst (ns.map V.int))) else if b ∈ tabs.map (·.2) then some (.tbl #[]) else none) (fun b u e => ?_) (fun q hq => ?_) (.inl (.inr ⟨{ cls := .type "list", data := .seq vs.toArray }, if_pos rfl⟩))
    · by_cases m : b = a
      · have z := (if_pos m).symm.trans e
        cases z
        exact .inl ⟨m, rfl, hk⟩
      · have z := (if_neg m).symm.trans e
        by_cases n : b ∈ tabs.map (·.2)
        · obtain ⟨q, hq, rfl⟩ := List.mem_map.mp n
          have z2 := (if_pos n).symm.trans z
          cases z2
          exact .inr ⟨q, hq, rfl, rfl⟩
        · have z2 := (if_neg n).symm.trans z
          cases z2
    · show (if q.2 = a then _ else _) = _
      rw [if_neg (aT q hq)]
      exact if_pos (List.mem_map_of_mem hq)
theorem walk_ofT {l : PySem.W.OpenLaw} {n k : Nat} {q : Program} {loose : List Str} {XP : (Str → Option Value) → Heap → Prop} {YP : World → Heap → Prop} {d : DefRec} {K : Params → PySem.W.Frag} {CX : World → CXT} {sp : World → Sp} {x : Str} {c0 P0 : Addr}
    (hn : l.most = some n) (hn2 : n ≤ sizeLine) (hdf : d.params.defaults = []) (hr : Room k callerA) (hY : ∀ (w : World) (h : Heap), YP w h → (K w.params).In h) (hnt : ∀ w : World, PySem.W.noTabs (K w.params) = true)
    (htb : ∀ (w : World) (h : Heap), YP w h → h.get? P0 = some (PySem.W.tabObj #[])) (hcd : ∀ w : World, PySem.W.codeHdIn (K w.params) c0 P0 = true)
    (F : ∀ (w : World) (mg : Str → Option Value) (fa : Addr) (h : Heap), (K w.params).In h → h.Ns mainGlobals mg → mg d.name = some (.ref fa) →
      ∃ fd : FuncData, (∀ (s : Shared) (u : Value), BindsTo s fd ⟨[u], []⟩ [(x, u)]) ∧
        ∀ base : Heap, (K w.params).In base → base.Ns mainGlobals mg → Maker mg base c0 P0 → FnOk l.prog w (K w.params) mg base (CX w) k fa fd [x] (sp w))
    (hsp : ∀ (w : World) (H : Hp) (a : Addr) (ns : List Int), ns.length ≤ n → H P0 = some (.tbl #[]) → SqL (K w.params) H a (ns.map V.int) → sp w [.ref a] H (fun v _ => v = .bl true) fun _ _ _ => False)
    (hCX : ∀ (w : World) (H : Hp) (s : Shared) (e : Value) (s' : Shared), CX w [] H s (fun _ _ _ => False) e s' → False) :
    PySem.W.WalkO q loose XP YP l.row.toRowW d [] (fun f vs => PySem.call f vs) := by
  refine Att.attach_call hn hdf fun w s₀ s₁ mg mb fa o pm cd doc a vs ns G Y ho hd hcd' hmg hobj hints hlen hg => ?_
  have KX := hY w _ Y
  obtain ⟨fd, hb, hF⟩ := F w mg fa _ KX G.T.g hmg
  exact law_callT (tabs := [(c0, P0)]) KX G.T.g G.T.b G.T.builtins G.T.nolimit hg hobj hints (Nat.le_trans hlen hn2) hr (fun q hq => by rw [List.mem_singleton.mp hq]; exact ⟨PySem.W.codeHd_of_K KX (hcd w), htb w _ Y⟩) (hnt w) G.T.bmain
    (fun base kb nb m => hF base kb nb (m (c0, P0) (List.mem_singleton.mpr rfl))) hb (fun H hO hS => hsp w H a ns hlen (hO (c0, P0) (List.mem_singleton.mpr rfl)) hS) fun H e s' => hCX w H s₁ e s'
end L2
end
section
set_option Elab.async false
set_option linter.all false
set_option maxRecDepth 100000
set_option maxHeartbeats 4000000
namespace L2
open PySem PySem.Spec PyProof.Rows
section
variable {X : Cx} {p pos : Pos} {k v : Expr} {tk tv : TE}
def tDispT (tk tv : TE) : TE := fun σ H Q => ∀ p, H p = none → tk σ (upd H p (.dT [])) fun x H1 => tv σ H1 fun y H2 => H2 p = some (.dT []) ∧ ∃ (b : Addr) (ks : List Key), x = .ref b ∧ H2 b = some (.tup (ks.map kV)) ∧ Q (.ref p) (upd H2 p (.dT [(ks, y)]))
theorem pe_dispT (hu : X.A.units + 64 < cLine) (hk : PE X k tk) (hv : PE X v tv) : PE X (.Dict [some k] [v] pos) (tDispT tk tv) := by
  intro pins s σ H Q I q
  have hshape : (evalEachOpt [some k] X.env).zip ((evalEach [v] X.env).map fun v => do let x ← v; standAt pos; pure x) = [(eval k X.env, (do let x ← eval v X.env; standAt pos; pure x : Sem Value))].map fun p => (some p.1, p.2) := rfl
  have hn := I.hok.fresh (Nat.le_refl s.heap.objs.size)
  have I1 := I.laid (a := s.heap.objs.size) (o := .dT []) (h' := s.heap.push { cls := .type "dict", data := .dict #[] }) (t' := s.toks) (fun _ _ q => Heap.get?_push_of_some _ q) (Nat.le_refl _) (dt_empty s.heap I.big)
  rw [arm_eval_Dict, hshape, dictDisplay_pairs _ (by simp) (Nat.le_of_ble_eq_true rfl)]
  refine wpAny_bind (wpAny_standAt (wpAny_bind ?_))
  unfold subDict
  refine wpAny_bind (wpAny_alloc ?_)
  refine wpAny_bind (wpAny_holding ?_)
  rw [if_pos (Nat.le_of_ble_eq_true rfl)]
  refine wpAny_bind (evalPairs_cons (thn (hk pins _ σ _ _ I1 (q _ hn)) fun u s1 ⟨x, H1, J1, rx, q1⟩ => wpAny_bind (thn (hv pins s1 σ H1 _ J1 q1) fun u2 s2 ⟨y, H2, I2, ry, e, b, ks, ex, eb, q2⟩ => wpAny_bind (wpAny_standAt (wpAny_pure (evalPairs_nil ?_))))))
  subst ex
  cases (show u = Value.ref b from rx)
  refine wpAny_holding (wpAny_bind ?_)
  rw [List.forIn_cons]
  obtain ⟨z, hd, xs, rel, dd⟩ := dt_of I2.hok e
  cases rel
  refine wpAny_bind (wpAny_bind (wpAny_dictSet_heap (knd := tupleKind (mixKind X.prog X.w)) (k := ks) (xs := []) (by show _ < cLine; have := hu; omega) (key_of I2.hok eb) dd fun h' dd' hs => wpAny_pure ?_))
  dsimp only
  rw [List.forIn_nil]
  refine wpAny_pure (wpAny_pure (wpAny_pure (wpAny_pure ?_)))
  obtain ⟨qo, es, ep, hq, h2, h3, h4, _, h5⟩ := dd'
  refine ⟨.ref s.heap.objs.size, _, d_write (ob := .dT [(ks, y)]) I2 (by rw [e]; exact True.intro) hs ⟨qo, hq⟩ ⟨?_, hd, _, (KT.put (H := H2) (kvs := []) (xs := []) .nil ks eb ry).keeps fun c ys ec => ?_, qo, es, ep, hq, h2, h3, h4, h5⟩, rfl, q2⟩
  · rw [sizeLine_eq]; simp
  · rw [upd_ne (ne_of ec e (fun z => nomatch z))]
    exact ec
end
end L2
end
section
set_option Elab.async false
set_option linter.all false
set_option maxRecDepth 100000
set_option maxHeartbeats 4000000
namespace Om
inductive Wr (rows : Rows) (a : Nat) : List Bool → Nat → Prop
  | nil : Wr rows a [] a
  | snoc {w : List Bool} {b : Nat} {r : List Bool × Nat} : Wr rows a w b → r ∈ rows.getD b [] → Wr rows a (w ++ r.1) r.2
section
variable {k n : Nat} {rows : Rows} {a b c : Nat} {w v : List Bool}
theorem Wr.app (h1 : Wr rows a w b) (h2 : Wr rows b v c) : Wr rows a (w ++ v) c := by
  induction h2 with
  | nil => rw [List.append_nil]; exact h1
  | snoc _ hr ih => rw [← List.append_assoc]; exact .snoc ih hr
theorem row_in (ok : CodeOk k n rows) {s : Nat} {r : List Bool × Nat} (hr : r ∈ rows.getD s []) : r.1.length = n ∧ r.2 < rows.length ∧ s < rows.length := by
  by_cases hs : s < rows.length
  · rw [List.getD_eq_getElem?_getD, List.getElem?_eq_getElem hs] at hr
    have := ok.row _ (List.getElem_mem hs) r hr
    exact ⟨this.1, this.2, hs⟩
  · rw [List.getD_eq_getElem?_getD, List.getElem?_eq_none (by omega)] at hr
    exact absurd hr (by simp)
theorem Wr.lt (ok : CodeOk k n rows) (ha : a < rows.length) (h : Wr rows a w b) : b < rows.length := by
  cases h with
  | nil => exact ha
  | snoc _ hr => exact (row_in ok hr).2.1
theorem Wr.len (ok : CodeOk k n rows) (h : Wr rows a w b) : ∃ j, w.length = j * n := by
  induction h with
  | nil => exact ⟨0, by simp⟩
  | snoc _ hr ih =>
    obtain ⟨j, hj⟩ := ih
    exact ⟨j + 1, by rw [List.length_append, hj, (row_in ok hr).1, Nat.add_mul, Nat.one_mul]⟩
theorem Wr.split (ok : CodeOk k n rows) (h : Wr rows a w c) : ∀ j, j * n ≤ w.length → ∃ w1 w2 s, w = w1 ++ w2 ∧ w1.length = j * n ∧ Wr rows a w1 s ∧ Wr rows s w2 c := by
  induction h with
  | nil =>
    intro j hj
    have : j * n = 0 := by simpa using hj
    exact ⟨[], [], a, rfl, by rw [this]; rfl, .nil, .nil⟩
  | @snoc w b r hw hr ih =>
    intro j hj
    by_cases hl : j * n ≤ w.length
    · obtain ⟨w1, w2, s, e, l1, h1, h2⟩ := ih j hl
      exact ⟨w1, w2 ++ r.1, s, by rw [e, List.append_assoc], l1, h1, .snoc h2 hr⟩
    · obtain ⟨i, hi⟩ := hw.len ok
      have rn := (row_in ok hr).1
      rw [List.length_append, hi, rn] at hj
      rw [hi] at hl
      have e : j = i + 1 := by
        have n1 := ok.n1
        have h1 : i < j := Nat.lt_of_mul_lt_mul_right (Nat.lt_of_not_le hl)
        have h2 : j * n ≤ (i + 1) * n := by rw [Nat.add_mul, Nat.one_mul]; exact hj
        have h3 : j ≤ i + 1 := Nat.le_of_mul_le_mul_right h2 n1
        omega
      subst e
      exact ⟨w ++ r.1, [], r.2, by rw [List.append_nil], by rw [List.length_append, hi, rn, Nat.add_mul, Nat.one_mul], .snoc hw hr, .nil⟩
def Fac (rows : Rows) (u : List Bool) : Prop := ∃ w b p q, Wr rows 0 w b ∧ w = p ++ u ++ q
def lastN (m : Nat) (w : List Bool) : List Bool := w.drop (w.length - m)
theorem lastN_app (m : Nat) (w v : List Bool) : lastN m (lastN m w ++ v) = lastN m (w ++ v) := by
  unfold lastN
  rw [← List.drop_append_of_le_length (Nat.sub_le _ _), List.drop_drop]
  congr 1
  rw [List.length_drop, List.length_append]
  omega
theorem lastN_le (m : Nat) (w : List Bool) : (lastN m w).length ≤ m := by unfold lastN; rw [List.length_drop]; omega
theorem lastN_pre (m : Nat) (w : List Bool) : ∃ x, w = x ++ lastN m w := ⟨w.take (w.length - m), (List.take_append_drop _ _).symm⟩
inductive RchG {N : Type} (nx : N → List N) (n0 : N) : N → Prop
  | z : RchG nx n0 n0
  | s {x y : N} : RchG nx n0 x → y ∈ nx x → RchG nx n0 y
theorem rchG_in {N : Type} {nx : N → List N} {n0 : N} {qs : List N} (h0 : n0 ∈ qs) (hc : ∀ x ∈ qs, ∀ y ∈ nx x, y ∈ qs) : ∀ x, RchG nx n0 x → x ∈ qs := fun x h => by
  induction h with
  | z => exact h0
  | s _ hb ih => exact hc _ ih _ hb
def stepT (rows : Rows) (m : Nat) (x : List Bool × Nat) : List (List Bool × Nat) := (rows.getD x.2 []).map fun r => (lastN m (x.1 ++ r.1), r.2)
theorem rchT_iff {m : Nat} {x : List Bool × Nat} : RchG (stepT rows m) ([], 0) x ↔ ∃ w, Wr rows 0 w x.2 ∧ x.1 = lastN m w := by
  constructor
  · intro h
    induction h with
    | z => exact ⟨[], .nil, by unfold lastN; simp⟩
    | s _ hb ih =>
      obtain ⟨w, hw, e⟩ := ih
      obtain ⟨r, hr, rfl⟩ := List.mem_map.mp hb
      exact ⟨w ++ r.1, .snoc hw hr, by rw [e]; exact lastN_app m w r.1⟩
  · rintro ⟨w, hw, e⟩
    obtain ⟨t, s⟩ := x
    dsimp only at hw e
    subst e
    induction hw with
    | nil =>
      have e : lastN m [] = [] := by unfold lastN; simp
      rw [e]
      exact .z
    | @snoc w b r hw hr ih =>
      refine .s ih ?_
      refine List.mem_map.mpr ⟨r, hr, ?_⟩
      dsimp only
      rw [lastN_app]
def Stand (rows : Rows) (L : Nat) (u : List Bool) : Prop := ∃ t s r p q, RchG (stepT rows (L - 1)) ([], 0) (t, s) ∧ r ∈ rows.getD s [] ∧ t ++ r.1 = p ++ u ++ q ∧ u.length = L
theorem stand_iff {L : Nat} (hL : 1 ≤ L) {u : List Bool} : Stand rows L u ↔ u.length = L ∧ Fac rows u := by
  constructor
  · rintro ⟨t, s, r, p, q, h, hr, e, ul⟩
    refine ⟨ul, ?_⟩
    obtain ⟨w, hw, et⟩ := rchT_iff.mp h
    dsimp only at hw et
    obtain ⟨x, ex⟩ := lastN_pre (L - 1) w
    refine ⟨w ++ r.1, r.2, x ++ p, q, .snoc hw hr, ?_⟩
    rw [ex, ← et, List.append_assoc, e]
    simp [List.append_assoc]
  · rintro ⟨ul, w, b, p, q, hw, e⟩
    induction hw generalizing p q with
    | nil =>
      have : u.length = 0 := by
        have := congrArg List.length e
        simp at this
        omega
      omega
    | @snoc w b r hw hr ih =>
      by_cases hl : (p ++ u).length ≤ w.length
      · have h1 : w = p ++ u ++ q.take (w.length - (p ++ u).length) := by
          have h2 := congrArg (List.take w.length) e
          rw [List.take_append_of_le_length (Nat.le_refl _), List.take_length, List.take_append, List.take_of_length_le hl] at h2
          exact h2
        exact ih p _ h1
      · have hp : w.length - (L - 1) ≤ p.length := by
          rw [List.length_append, ul] at hl
          omega
        refine ⟨lastN (L - 1) w, b, r, p.drop (w.length - (L - 1)), q, rchT_iff.mpr ⟨w, hw, rfl⟩, hr, ?_, ul⟩
        unfold lastN
        rw [← List.drop_append_of_le_length (Nat.sub_le _ _), e, List.append_assoc, List.drop_append_of_le_length hp, ← List.append_assoc]
def vb : List Bool → Nat
  | [] => 1
  | b :: t => 2 * vb t + (if b then 1 else 0)
theorem vb_pos : ∀ t, 1 ≤ vb t
  | [] => Nat.le_refl _
  | b :: t => by have := vb_pos t; unfold vb; omega
theorem vb_lt : ∀ t, vb t < 2 ^ (t.length + 1)
  | [] => by decide
  | b :: t => by
    have := vb_lt t
    unfold vb
    rw [List.length_cons, Nat.pow_succ]
    split <;> omega
theorem vb_inj : ∀ {s t : List Bool}, vb s = vb t → s = t
  | [], [], _ => rfl
  | [], b :: t, h => by
    have := vb_pos t
    unfold vb at h
    split at h <;> omega
  | b :: t, [], h => by
    have := vb_pos t
    unfold vb at h
    split at h <;> omega
  | b :: s, c :: t, h => by
    unfold vb at h
    have hb : b = c := by
      cases b <;> cases c <;> simp at h ⊢ <;> omega
    subst hb
    rw [vb_inj (s := s) (t := t) (by split at h <;> omega)]
theorem nodup_on {α β : Type} {f : α → β} : ∀ {l : List α}, (∀ a ∈ l, ∀ b ∈ l, f a = f b → a = b) → l.Nodup → (l.map f).Nodup
  | [], _, _ => List.nodup_nil
  | x :: l, h, nd => by
    rw [List.nodup_cons] at nd
    rw [List.map_cons, List.nodup_cons]
    refine ⟨fun z => ?_, nodup_on (fun a ha b hb => h a (List.mem_cons_of_mem _ ha) b (List.mem_cons_of_mem _ hb)) nd.2⟩
    obtain ⟨y, hy, e⟩ := List.mem_map.mp z
    exact nd.1 (h y (List.mem_cons_of_mem _ hy) x List.mem_cons_self e ▸ hy)
theorem few_texts {us : List (List Bool)} {m : Nat} (nd : us.Nodup) (h : ∀ u ∈ us, u.length ≤ m) : us.length ≤ 2 ^ (m + 1) := by
  have := nodup_len (2 ^ (m + 1)) (us.map vb) ((map_nodup fun a b e => vb_inj e).mpr nd) fun s hs => by
    obtain ⟨u, hu, rfl⟩ := List.mem_map.mp hs
    exact Nat.lt_of_lt_of_le (vb_lt u) (Nat.pow_le_pow_right (by decide) (by have := h u hu; omega))
  rwa [List.length_map] at this
theorem few_nodes {xs : List (List Bool × Nat)} {m : Nat} (nd : xs.Nodup) (h : ∀ x ∈ xs, x.1.length ≤ m ∧ x.2 < 8) : xs.length ≤ 2 ^ (m + 1) * 8 := by
  have := nodup_len (2 ^ (m + 1) * 8) (xs.map fun x => vb x.1 * 8 + x.2) ?_ fun s hs => ?_
  · rwa [List.length_map] at this
  · refine nodup_on (fun x hx y hy e => ?_) nd
    have h1 := (h x hx).2
    have h2 := (h y hy).2
    have e1 : vb x.1 = vb y.1 := by omega
    have e2 : x.2 = y.2 := by omega
    exact Prod.ext (vb_inj e1) e2
  · obtain ⟨x, hx, rfl⟩ := List.mem_map.mp hs
    have h1 := vb_lt x.1
    have h2 : 2 ^ (x.1.length + 1) ≤ 2 ^ (m + 1) := Nat.pow_le_pow_right (by decide) (by have := (h x hx).1; omega)
    have h3 := (h x hx).2
    omega
end
end Om
end
section
set_option Elab.async false
set_option linter.all false
set_option maxRecDepth 100000
set_option maxHeartbeats 4000000
namespace Om
abbrev Sn := Nat → Prop
def aft (rows : Rows) (S : Sn) (w : List Bool) : Sn := fun y => ∃ x i, S x ∧ i < (rows.getD x []).length ∧ step rows x i = (w, y)
def afts (rows : Rows) (S : Sn) (ws : List (List Bool)) : Sn := ws.foldl (aft rows) S
end Om
namespace L2
open PySem PySem.Spec PyProof.Rows
theorem bs_mid {w : List Bool} {i j : Int} (h0 : 0 ≤ i) (h1 : i ≤ j) (h2 : j ≤ w.length) : Txt.slice (bs w) (some i) (some j) = bs ((w.drop i.toNat).take (j - i).toNat) := by
  have e : (bs w).cps.toList = w.map sg := by show (w.map sg).toArray.toList = _; simp
  have := StrLaws.sliceText_plain (x := bs w) (i := i) (j := j) ⟨h0, h1, by rw [e, List.length_map]; exact h2⟩
  refine Eq.trans (show Txt.slice (bs w) (some i) (some j) = StrLaws.sliceText (bs w) (some i) (some j) from rfl) (this.trans ?_)
  rw [e]
  simp [bs, List.map_take, List.map_drop]
section
variable {ks : List Nat} {kvs : List (Key × V)} {x : Nat} {v : V}
end
end L2
end
section
set_option Elab.async false
set_option linter.all false
set_option maxRecDepth 100000
set_option maxHeartbeats 4000000
namespace Om
def adds {α : Type} [DecidableEq α] (xs : List α) (x : α) : List α := if x ∈ xs then xs else xs ++ [x]
section
variable {α : Type} [DecidableEq α] {xs : List α} {x y : α}
theorem mem_adds : y ∈ adds xs x ↔ y ∈ xs ∨ y = x := by
  unfold adds
  split
  · rename_i h
    exact ⟨.inl, fun z => z.elim id fun e => e ▸ h⟩
  · rw [List.mem_append, List.mem_singleton]
theorem nodup_adds (nd : xs.Nodup) : (adds xs x).Nodup := by
  unfold adds
  split
  · exact nd
  · rename_i h
    rw [List.nodup_append]
    refine ⟨nd, by simp, fun a ha b hb z => ?_⟩
    have : b = x := by simpa using hb
    subst this
    subst z
    exact h ha
end
end Om
namespace L2
open PySem PySem.Spec PyProof.Rows
section
variable {κ N : Type} [DecidableEq κ] [DecidableEq N]
theorem keys_map {kvs : List (κ × V)} {k : κ} {v : V} : (kvs.map fun kv => if kv.1 = k then (kv.1, v) else kv).map (·.1) = kvs.map (·.1) := by
  rw [List.map_map]
  refine List.map_congr_left fun kv _ => ?_
  show (if kv.1 = k then (kv.1, v) else kv).1 = kv.1
  split <;> rfl
theorem val_has {kvs : List (κ × V)} {k : κ} : (valV kvs k).isSome = decide (k ∈ kvs.map (·.1)) := by
  rw [← valV_any, Bool.eq_iff_iff, List.any_eq_true, decide_eq_true_eq, List.mem_map]
  constructor
  · rintro ⟨kv, h, e⟩
    exact ⟨kv, h, by simpa using e⟩
  · rintro ⟨kv, h, e⟩
    exact ⟨kv, h, by simpa using e⟩
structure KS (key : N → κ) (kvs : List (κ × V)) (xs : List N) : Prop where
  ks : kvs.map (·.1) = xs.map key
  nd : xs.Nodup
theorem KS.nil {key : N → κ} : KS key [] ([] : List N) := ⟨rfl, List.nodup_nil⟩
theorem KS.len {key : N → κ} {kvs : List (κ × V)} {xs : List N} (h : KS key kvs xs) : kvs.length = xs.length := by
  have := congrArg List.length h.ks
  rwa [List.length_map, List.length_map] at this
theorem KS.has {key : N → κ} (inj : ∀ a b, key a = key b → a = b) {kvs : List (κ × V)} {xs : List N} (h : KS key kvs xs) (x : N) : (valV kvs (key x)).isSome = decide (x ∈ xs) := by
  rw [val_has, h.ks, Bool.eq_iff_iff, decide_eq_true_eq, decide_eq_true_eq, List.mem_map]
  exact ⟨fun ⟨y, hy, e⟩ => inj _ _ e ▸ hy, fun hx => ⟨x, hx, rfl⟩⟩
theorem KS.put {key : N → κ} (inj : ∀ a b, key a = key b → a = b) {kvs : List (κ × V)} {xs : List N} (h : KS key kvs xs) (x : N) (v : V) : KS key (putK kvs (key x) v) (Om.adds xs x) := by
  refine ⟨?_, Om.nodup_adds h.nd⟩
  have hs := h.has inj x
  unfold Om.adds
  by_cases e : x ∈ xs
  · rw [if_pos e]
    rw [decide_eq_true e] at hs
    unfold putK
    rw [valV_any, if_pos hs, keys_map]
    exact h.ks
  · rw [if_neg e]
    rw [decide_eq_false e] at hs
    have vn : valV kvs (key x) = none := by
      cases q : valV kvs (key x) with
      | none => rfl
      | some y => rw [q] at hs; cases hs
    rw [putK_new _ vn, List.map_append, List.map_append, h.ks]
    rfl
end
def tk (u : List Bool) : Key := Sum.inr (bs u)
theorem tk_inj (a b : List Bool) (h : tk a = tk b) : a = b := bs_inj (Sum.inr.inj h)
def nkey (x : List Bool × Nat) : List Key := [Sum.inr (bs x.1), Sum.inl ((x.2 : Nat) : Int)]
theorem nkey_inj (a b : List Bool × Nat) (h : nkey a = nkey b) : a = b := by
  unfold nkey at h
  injection h with h1 h2
  injection h2 with h2 _
  have e1 := bs_inj (Sum.inr.inj h1)
  have e2 : ((a.2 : Nat) : Int) = ((b.2 : Nat) : Int) := Sum.inl.inj h2
  exact Prod.ext e1 (by omega)
def StpsT (H : Hp) (ps : List V) (xs : List (List Bool × Nat)) : Prop := ps.length = xs.length ∧ ∀ (i : Nat) x, xs[i]? = some x → ∃ q z, ps[i]? = some (.ref q) ∧ H q = some (.tup [.int (i : Nat), .ref z]) ∧ H z = some (.tup [.str (bs x.1), .int (x.2 : Nat)])
theorem StpsT.mono {H H' : Hp} {ps : List V} {xs : List (List Bool × Nat)} (h : StpsT H ps xs) (s : Same H H') : StpsT H' ps xs := ⟨h.1, fun i x e => let ⟨q, z, a, b, c⟩ := h.2 i x e; ⟨q, z, a, s _ _ b, s _ _ c⟩⟩
structure Tt (H0 H : Hp) (D Q : Addr) (kvs : List (List Key × V)) (xs : List (List Bool × Nat)) (bs' : List Addr) : Prop where
  s : Same H0 H
  nD : H0 D = none
  nQ : H0 Q = none
  hD : H D = some (.dT kvs)
  hQ : H Q = some (.lst (bs'.map V.ref))
  kz : KS nkey kvs xs
  ql : bs'.length = xs.length
  qt : ∀ (i : Nat) x, xs[i]? = some x → ∃ b, bs'[i]? = some b ∧ H b = some (.tup [.str (bs x.1), .int (x.2 : Nat)])
  vl : ∀ x ∈ xs, ∃ t zs, valV kvs (nkey x) = some (.ref t) ∧ H t = some (.lst zs) ∧ zs.length ≤ xs.length ∧ t ≠ Q
section
variable {H0 H H1 : Hp} {D Q : Addr} {kvs : List (List Key × V)} {xs : List (List Bool × Nat)} {bz : List Addr}
theorem Tt.mono (g : Tt H0 H D Q kvs xs bz) (s : Same H H1) : Tt H0 H1 D Q kvs xs bz :=
  ⟨g.s.trans s, g.nD, g.nQ, s _ _ g.hD, s _ _ g.hQ, g.kz, g.ql, fun i x e => let ⟨b, a, c⟩ := g.qt i x e; ⟨b, a, s _ _ c⟩, fun x hx => let ⟨t, zs, a, b, r⟩ := g.vl x hx; ⟨t, zs, a, s _ _ b, r⟩⟩
theorem Tt.put_at {b : Addr} {o : HO} {ys : List V} {kvs' : List (List Key × V)} (h : H b = some o) (bD : b ≠ D) (bQ : b ≠ Q) : upd (upd H D (.dT kvs')) Q (.lst ys) b = some o := by
  rw [upd_ne bQ, upd_ne bD]; exact h
theorem Tt.put (g : Tt H0 H D Q kvs xs bz) {u z : Addr} {zs : List V} {x : List Bool × Nat} (nx : x ∉ xs) (hu : H u = some (.lst zs)) (uQ : u ≠ Q) (hz : zs.length ≤ xs.length + 1) (hx : H z = some (.tup [.str (bs x.1), .int (x.2 : Nat)])) :
    Tt H0 (upd (upd H D (.dT (putK kvs (nkey x) (.ref u)))) Q (.lst (bz.map V.ref ++ [.ref z]))) D Q (putK kvs (nkey x) (.ref u)) (xs ++ [x]) (bz ++ [z]) := by
  have DQ : D ≠ Q := ne_of g.hD g.hQ (fun z => nomatch z)
  have kp := g.kz.put nkey_inj x (.ref u)
  unfold Om.adds at kp
  rw [if_neg nx] at kp
  have tp : ∀ {b : Addr} {ys : List V}, H b = some (.tup ys) → upd (upd H D (.dT (putK kvs (nkey x) (.ref u)))) Q (.lst (bz.map V.ref ++ [.ref z])) b = some (.tup ys) := fun {b ys} h => Tt.put_at h (ne_of h g.hD (fun z => nomatch z)) (ne_of h g.hQ (fun z => nomatch z))
  have lk : ∀ {b : Addr} {ys : List V}, H b = some (.lst ys) → b ≠ Q → upd (upd H D (.dT (putK kvs (nkey x) (.ref u)))) Q (.lst (bz.map V.ref ++ [.ref z])) b = some (.lst ys) := fun {b ys} h n => Tt.put_at h (ne_of h g.hD (fun z => nomatch z)) n
  refine ⟨fun b o e => ?_, g.nD, g.nQ, by rw [upd_ne DQ, upd_same], by rw [upd_same, List.map_append]; rfl, kp, by rw [List.length_append, List.length_append, g.ql]; rfl, fun i y hy => ?_, fun y hy => ?_⟩
  · rw [upd_ne (ne_of_none e g.nQ), upd_ne (ne_of_none e g.nD)]
    exact g.s _ _ e
  · by_cases il : i < xs.length
    · rw [List.getElem?_append_left il] at hy
      obtain ⟨b, a1, a2⟩ := g.qt i y hy
      exact ⟨b, by rw [List.getElem?_append_left (by rw [g.ql]; exact il)]; exact a1, tp a2⟩
    · have ie : i = xs.length := by
        have := (List.getElem?_eq_some_iff.mp hy).1
        rw [List.length_append] at this
        simp at this
        omega
      subst ie
      rw [List.getElem?_append_right (Nat.le_refl _)] at hy
      simp at hy
      subst hy
      exact ⟨z, by rw [List.getElem?_append_right (by rw [g.ql]; exact Nat.le_refl _), g.ql]; simp, tp hx⟩
  · rw [List.length_append]
    by_cases e : y = x
    · subst e
      exact ⟨u, zs, by rw [valV_put, if_pos rfl], lk hu uQ, hz, uQ⟩
    · obtain ⟨t', ys, a, b, d, f⟩ := g.vl y ((List.mem_append.mp hy).resolve_right (fun z => e (by simpa using z)))
      exact ⟨t', ys, by rw [valV_put, if_neg (fun z => e (nkey_inj _ _ z))]; exact a, lk b f, Nat.le_trans d (Nat.le_add_right _ _), f⟩
theorem Tt.start {Z n0 : Addr} {x0 : List Bool × Nat} (hD : H D = none) (hZ : upd H D (.dT []) Z = none) (h0 : H n0 = some (.tup [.str (bs x0.1), .int (x0.2 : Nat)])) (hQ : upd (upd (upd H D (.dT [])) Z (.lst [])) D (.dT [(nkey x0, .ref Z)]) Q = none) :
    Tt H (upd (upd (upd (upd H D (.dT [])) Z (.lst [])) D (.dT [(nkey x0, .ref Z)])) Q (.lst [.ref n0])) D Q [(nkey x0, .ref Z)] [x0] [n0] := by
  obtain ⟨QD, q1⟩ := upd_nn hQ
  obtain ⟨QZ, q2⟩ := upd_nn q1
  obtain ⟨_, q3⟩ := upd_nn q2
  obtain ⟨ZD, z1⟩ := upd_nn hZ
  have sm : Same H (upd (upd (upd (upd H D (.dT [])) Z (.lst [])) D (.dT [(nkey x0, .ref Z)])) Q (.lst [.ref n0])) := fun b o e => by
    rw [upd_ne (ne_of_none e q3), upd_ne (ne_of_none e hD), upd_ne (ne_of_none e z1), upd_ne (ne_of_none e hD)]
    exact e
  refine ⟨sm, hD, q3, by rw [upd_ne (Ne.symm QD), upd_same], upd_same, ⟨rfl, by simp⟩, rfl, fun i x hx => ?_, fun s hs => ?_⟩
  · cases i with
    | zero =>
      cases hx
      exact ⟨n0, rfl, sm _ _ h0⟩
    | succ i => simp at hx
  · have : s = x0 := by simpa using hs
    subst this
    exact ⟨Z, [], valV_pos rfl, by rw [upd_ne (Ne.symm QZ), upd_ne ZD, upd_same], Nat.zero_le _, Ne.symm QZ⟩
end
end L2
end
section
set_option Elab.async false
set_option linter.all false
set_option maxRecDepth 100000
set_option maxHeartbeats 4000000
namespace K40
open PySem L2
def top (i : Nat) : Stmt := PySem.Challenge.pw_ownbeat_k40_clean_marks.main.body.getD i (.Pass ⟨0, 0, 0, 0⟩)
end K40
end
section
set_option maxRecDepth 100000
open PySem L2
local macro_rules | `(tactic| walk_at "T.n") => `(tactic| fail "no names")
local macro_rules | `(tactic| walk_at "T.a") => `(tactic| first | (with_reducible exact pa_nil) | ((with_reducible refine' a_cons ?a1 ?a2); (case a1 => walk_at "T.e"); (case a2 => walk_at "T.a")))
local macro_rules | `(tactic| walk_at "T.o") => `(tactic| first | (with_reducible exact po_none) | ((with_reducible refine' po_someU ?a1); (case a1 => walk_at "T.e")))
local macro_rules | `(tactic| walk_at "T.cmp") => `(tactic| first | (with_reducible exact op_inL) | (with_reducible exact op_notInL) | (with_reducible exact op_lt.n0) | (with_reducible exact op_le.n0) | (with_reducible exact op_gt.n0) | (with_reducible exact op_ge.n0) | ((with_reducible refine' op_eqU ?a1); (case a1 => exact Room.units (by assumption))) | ((with_reducible refine' op_neU ?a1); (case a1 => exact Room.units (by assumption))))
local macro_rules | `(tactic| walk_at "T.op") => `(tactic| first | (with_reducible exact op_addU) | (with_reducible exact op_sub.n0) | (with_reducible exact op_mulU) | (with_reducible exact op_mod.n) | (with_reducible exact op_fdiv.n) | (with_reducible exact op_pow.n) | (with_reducible exact op_shl.n) | (with_reducible exact op_shr.n) | (with_reducible exact op_and.n0) | (with_reducible exact op_xor.n0) | (with_reducible exact op_or.n0))
local macro_rules | `(tactic| walk_at "T.ty") => `(tactic| first | ((with_reducible refine' ty_bool ?a1 ?a9); (case a1 => with_reducible assumption); (case a9 => rfl)) | ((with_reducible refine' ty_str ?a1 ?a9); (case a1 => with_reducible assumption); (case a9 => rfl)))
local macro_rules | `(tactic| walk_at "T.f") => `(tactic| ((with_reducible refine' fn_can _ ?a0 ?a9 ?a1 ?a2); (case a0 => with_reducible assumption); (case a9 => exact ⟨rfl, rfl, rfl, rfl, rfl⟩); (case a1 => exact Room.mono (by assumption) (by first | decide | exact Nat.le_refl _)); (case a2 => walk_at "T.a")))
local macro_rules | `(tactic| walk_at "T.b") => `(tactic| first | walk_at "T.f" | ((with_reducible refine' fn_len ?a0 ?a9 ?a1); (case a0 => with_reducible assumption); (case a9 => rfl); (case a1 => walk_at "T.a")) | ((with_reducible refine' fn_isinst ?a0 ?a9 ?a1); (case a0 => with_reducible assumption); (case a9 => rfl); (case a1 => walk_at "T.a")) | ((with_reducible refine' fn_max ?a0 ?a9 ?a1); (case a0 => with_reducible assumption); (case a9 => rfl); (case a1 => walk_at "T.a")) | ((with_reducible refine' fn_min ?a0 ?a9 ?a1); (case a0 => with_reducible assumption); (case a9 => rfl); (case a1 => walk_at "T.a")) | ((with_reducible refine' fn_int ?a0 ?a9 ?a1); (case a0 => with_reducible assumption); (case a9 => rfl); (case a1 => walk_at "T.a")) | ((with_reducible refine' fn_list ?a0 ?a9 ?a1); (case a0 => with_reducible assumption); (case a9 => rfl); (case a1 => walk_at "T.a")) )
local macro_rules | `(tactic| walk_at "T.m") => `(tactic| first | ((with_reducible refine' m_append ?a1 ?a2); (case a1 => walk_at "T.e"); (case a2 => walk_at "T.a")) | ((with_reducible refine' m_strip ?a1 ?a2); (case a1 => walk_at "T.e"); (case a2 => walk_at "T.a")) )
local macro_rules | `(tactic| walk_at "T.c") => `(tactic| fail "no comprehension's names")
local macro_rules | `(tactic| walk_at "T.e") => `(tactic| first | (with_reducible exact pe_int) | (with_reducible exact pe_str) | (with_reducible exact pe_bl) | (with_reducible exact pe_non) | walk_at "T.n" | walk_at "T.ty" | ((with_reducible refine' pe_op ?a1 ?a2 ?a3); (case a1 => walk_at "T.op"); (case a2 => walk_at "T.e"); (case a3 => walk_at "T.e")) | ((with_reducible refine' e_cmp ?a1 ?a2 ?a3); (case a1 => walk_at "T.cmp"); (case a2 => walk_at "T.e"); (case a3 => walk_at "T.e")) | ((with_reducible refine' e_chain ?a1 ?a2 ?a3 ?a4 ?a5); (case a1 => walk_at "T.cmp"); (case a2 => walk_at "T.cmp"); (case a3 => walk_at "T.e"); (case a4 => walk_at "T.e"); (case a5 => walk_at "T.e")) | ((with_reducible refine' pe_slice slU ?a1 ?a2 ?a3); (case a1 => walk_at "T.e"); (case a2 => walk_at "T.o"); (case a3 => walk_at "T.o")) | ((with_reducible refine' ix_at ?a1 ?a2); (case a1 => walk_at "T.e"); (case a2 => walk_at "T.e")) | ((with_reducible refine' pe_tup ?a1); (case a1 => walk_at "T.a")) | ((with_reducible refine' pe_lst ?a1); (case a1 => walk_at "T.a")) | ((with_reducible refine' pe_andU ?a1 ?a2); (case a1 => walk_at "T.e"); (case a2 => walk_at "T.e")) | ((with_reducible refine' pe_one ?a1); (case a1 => walk_at "T.e")) | ((with_reducible refine' e_neg ?a1); (case a1 => walk_at "T.e")) | walk_at "T.b" | walk_at "T.m" | ((with_reducible refine' e_fmt ?a1); (case a1 => walk_at "T.e")) | ((with_reducible refine' e_fstr ?a1); (case a1 => walk_at "T.j")) | walk_at "T.c")
local macro_rules | `(tactic| walk_at "T.j") => `(tactic| first | (with_reducible exact pj_nil) )
local macro_rules | `(tactic| walk_at "T.t") => `(tactic| first | ((with_reducible refine' t_chain ?a1 ?a2 ?a3 ?a4 ?a5); (case a1 => walk_at "T.cmp"); (case a2 => walk_at "T.cmp"); (case a3 => walk_at "T.e"); (case a4 => walk_at "T.e"); (case a5 => walk_at "T.e")) | ((with_reducible refine' t_cmp ?a1 ?a2 ?a3); (case a1 => walk_at "T.cmp"); (case a2 => walk_at "T.e"); (case a3 => walk_at "T.e")) | ((with_reducible refine' pt_not ?a1); (case a1 => walk_at "T.t")) | ((with_reducible refine' PW.pt ?a1); (case a1 => walk_at "T.w")) | ((with_reducible refine' t_tru ?a1); (case a1 => walk_at "T.e")))
local macro_rules | `(tactic| walk_at "T.w") => `(tactic| first | ((with_reducible refine' pw_and ?a1 ?a2); (case a1 => walk_at "T.t"); (case a2 => walk_at "T.w")) | ((with_reducible refine' pw_or ?a1 ?a2); (case a1 => walk_at "T.t"); (case a2 => walk_at "T.w")) | ((with_reducible refine' pw_and1 ?a1); (case a1 => walk_at "T.t")) | ((with_reducible refine' pw_or1 ?a1); (case a1 => walk_at "T.t")))
local macro_rules | `(tactic| walk_at "T.i") => `(tactic| first | ((with_reducible refine' it_r1 ?a0 ?a9 ?a1); (case a0 => with_reducible assumption); (case a9 => rfl); (case a1 => walk_at "T.a")) | ((with_reducible refine' it_r2 ?a0 ?a9 ?a1); (case a0 => with_reducible assumption); (case a9 => rfl); (case a1 => walk_at "T.a")) | ((with_reducible refine' it_enum ?a0 ?a9 ?a1); (case a0 => with_reducible assumption); (case a9 => rfl); (case a1 => walk_at "T.a")) | ((with_reducible refine' pi_lst ?a1); (case a1 => walk_at "T.e")))
local macro_rules | `(tactic| walk_at "T.gn") => `(tactic| fail "no names")
local macro_rules | `(tactic| walk_at "T.g") => `(tactic| first | walk_at "T.gn" | ((with_reducible refine' g_tupL ?a1); (case a1 => walk_at "T.gs")) )
local macro_rules | `(tactic| walk_at "T.gs") => `(tactic| first | (with_reducible exact pgs_nil) | ((with_reducible refine' gs_cons ?a1 ?a2); (case a1 => walk_at "T.g"); (case a2 => walk_at "T.gs")))
local macro_rules | `(tactic| walk_at "T.sc") => `(tactic| fail "no comprehension's names")
local macro_rules | `(tactic| walk_at "T.st") => `(tactic| first | ((with_reducible refine' ps_ret ?a1); (case a1 => walk_at "T.e")) | walk_at "T.sc" | ((with_reducible refine' s_asg ?a1 ?a2); (case a1 => walk_at "T.e"); (case a2 => walk_at "T.g")) | ((with_reducible refine' s_expr ?a1); (case a1 => walk_at "T.e")) | ((with_reducible refine' ps_if ?a1 ?a2 ?a3); (case a1 => walk_at "T.t"); (case a2 => walk_at "T.s"); (case a3 => walk_at "T.s")) | ((with_reducible refine' s_for ?a1 ?a2 ?a3); (case a1 => walk_at "T.i"); (case a2 => walk_at "T.g"); (case a3 => walk_at "T.s")) | ((with_reducible refine' s_while ?a1 ?a2); (case a1 => walk_at "T.t"); (case a2 => walk_at "T.s")) | (with_reducible exact s_raise))
local macro_rules | `(tactic| walk_at "T.s") => `(tactic| first | (with_reducible exact pss_nil) | ((with_reducible refine' pss_one ?a1); (case a1 => walk_at "T.st")) | ((with_reducible refine' pss_cons ?a1 ?a2); (case a1 => walk_at "T.st"); (case a2 => walk_at "T.s")))
local macro_rules | `(tactic| walk_at "T.pf") => `(tactic| first | (with_reducible exact pf_nil) | ((with_reducible refine' pf_one ?a1); (case a1 => walk_at "T.t")))
local macro_rules | `(tactic| walk_at "T.top1") => `(tactic| ((refine' pss_one ?a1); (case a1 => walk_at "T.st")))
local macro_rules | `(tactic| walk_at "T.top") => `(tactic| ((refine' pss_cons ?a1 ?a2); (case a1 => walk_at "T.st"); (case a2 => walk_at "T.s")))
section
set_option Elab.async false
set_option linter.all false
set_option maxRecDepth 100000
set_option maxHeartbeats 4000000
namespace K40
open PySem L2
section
variable {P : Program} {w : World} {K : PySem.W.Frag} {mg : Str → Option Value} {base : Heap}
abbrev sTexts : Stmt := top 2
def spTextsT (f : Addr) (spF : Sp) : Sp := fun vs H Q _ => match vs with
  | [.ref n0, .ref f'] => f' = f ∧ ∃ (nx : List Bool × Nat → List (List Bool × Nat)) (x0 : List Bool × Nat) (U : List Bool × Nat → Prop) (W : Hp → Prop), H n0 = some (.tup [.str (bs x0.1), .int (x0.2 : Nat)]) ∧ (∀ H H', W H → Same H H' → W H') ∧ W H ∧ U x0 ∧ (∀ x, U x → x.1.length ≤ 7 ∧ x.2 < 8 ∧ (nx x).length ≤ 8 ∧ ∀ y ∈ nx x, U y) ∧
      (∀ x b H Q, U x → H b = some (.tup [.str (bs x.1), .int (x.2 : Nat)]) → W H → (∀ l ps H', Same H H' → H l = none → H' l = some (.lst ps) → StpsT H' ps (nx x) → Q (.ref l) H') → spF [.ref b] H Q E0) ∧
      ∀ d o (kvs : List (List Key × V)) (xs : List (List Bool × Nat)) H', Same H H' → H d = none → H' d = some (.frz o (.dT kvs)) → KS nkey kvs xs → (∀ x, x ∈ xs ↔ Om.RchG nx x0 x) → xs.length ≤ 2048 → Q (.ref d) H'
  | _ => False
theorem scTexts : FnScope ["start", "steps", "texts", "queue", "place", "node", "letter", "to"] ["start", "steps"] (defScope sTexts) := ⟨rfl, rfl, rfl, by decide +kernel, rfl, by decide +kernel, by decide +kernel⟩
local macro_rules | `(tactic| walk_at "T.n") => `(tactic| with_reducible first | exact vn "start" 0 | exact vn "steps" 1 | exact vn "texts" 2 | exact vn "queue" 3 | exact vn "place" 4 | exact vn "node" 5 | exact vn "letter" 6 | exact vn "to" 7)
local macro_rules | `(tactic| walk_at "T.gn") => `(tactic| with_reducible first | exact gn "texts" 2 (by with_unfolding_all assumption) | exact gn "queue" 3 (by with_unfolding_all assumption) | exact gn "place" 4 (by with_unfolding_all assumption) | exact gn "node" 5 (by with_unfolding_all assumption) | exact gn "letter" 6 (by with_unfolding_all assumption) | exact gn "to" 7 (by with_unfolding_all assumption))
local macro_rules | `(tactic| walk_at "T.e") => `(tactic| first | ((with_reducible refine' pe_dispT ?a0 ?a1 ?a2); (case a0 => exact Room.units (by assumption)); (case a1 => walk_at "T.e"); (case a2 => walk_at "T.e")) | ((with_reducible refine' ix_atD ?a0 ?a1 ?a2); (case a0 => exact Room.units (by assumption)); (case a1 => walk_at "T.e"); (case a2 => walk_at "T.e")))
local macro_rules | `(tactic| walk_at "T.cmp") => `(tactic| ((with_reducible refine' op_notInDict ?a0); (case a0 => exact Room.units (by assumption))))
local macro_rules | `(tactic| walk_at "T.b") => `(tactic| ((with_reducible refine' e_callF "steps" 1 ?a0 ?a9 ?a1 ?a2); (case a0 => with_reducible assumption); (case a9 => exact ⟨rfl, rfl, rfl, rfl, rfl⟩); (case a1 => exact Room.mono (by assumption) (Nat.le_refl _)); (case a2 => walk_at "T.a")))
local macro_rules | `(tactic| walk_at "T.g") => `(tactic| ((with_reducible refine' g_subD ?a0 ?a1 ?a2); (case a0 => exact Room.units (by assumption)); (case a1 => walk_at "T.e"); (case a2 => walk_at "T.e")))
local macro_rules | `(tactic| walk_at "T.st") => `(tactic| first | ((with_reducible refine' s_retF ?a1); (case a1 => walk_at "T.e")) | ((with_reducible refine' s_aug "place" 4 ?b0 ?a1); (case b0 => with_unfolding_all assumption); (case a1 => walk_at "T.e")))
theorem ok_texts {f : Addr} {k : Nat} {p : Str} {spF : Sp} (D : FnX K mg "texts_from" sTexts ["start", "steps"]) (g1 : mg "len" = none) (c1 : CanL P w K mg base f k p spF) : Can P w K mg base "texts_from" (k + 1) ["start", "steps"] (spTextsT f spF) := by
  refine can_fn (k := k) D scTexts (fun vs H Q E h => ?_) (fun f0 cdv A outer s H vs Q E hr h => ?_)
  all_goals
    unfold spTextsT at h
    split at h
  · rfl
  · exact h.elim
  · rename_i n0 f'
    obtain ⟨rfl, nx, x0, U, W, hn0, Wm, hW, hU0, hU, hF, q⟩ := h
    have nd := scTexts.nd
    refine ⟨_, (by walk_at "T.top"), ?_⟩
    refine fun D hD => ⟨Nat.zero_le _, fun Z hZ => ⟨by rw [upd_ne (Ne.symm (upd_nn hZ).1)]; exact upd_same, n0, nkey x0, rfl, ?_, ?_⟩⟩
    · rw [upd_ne (ne_of_none hn0 (upd_nn hZ).2), upd_ne (ne_of_none hn0 hD)]
      exact hn0
    refine ⟨le_line (Nat.le_of_ble_eq_true rfl), fun Qa hQ => ?_⟩
    have G0 := Tt.start hD hZ hn0 hQ
    refine ⟨fun mm σ H2 => ∃ (v5 v6 v7 : Option V) (kvs : List (List Key × V)) (xs : List (List Bool × Nat)) (bz : List Addr) (c : Nat), σ = [some (.ref n0), some (.ref f'), some (.ref D), some (.ref Qa), some (.int (c : Nat)), v5, v6, v7] ∧ mm + c = 2048 ∧ Tt H H2 D Qa kvs xs bz ∧ (∀ x ∈ xs, U x) ∧ x0 ∈ xs ∧ (∀ x ∈ xs, Om.RchG nx x0 x) ∧ c ≤ xs.length ∧ ∀ (i : Nat) x, i < c → xs[i]? = some x → ∀ y ∈ nx x, y ∈ xs,
      ⟨2048, none, none, none, _, [x0], [n0], 0, rfl, rfl, G0, (fun x hx => by rw [List.mem_singleton.mp hx]; exact hU0), by simp, (fun s hs => by rw [List.mem_singleton.mp hs]; exact .z), Nat.zero_le _, fun i s h => absurd h (Nat.not_lt_zero _)⟩, ?_⟩
    rintro mm σ H2 ⟨v5, v6, v7, kvs, xs, bz, c, rfl, hmm, G, hlt, h0, hrc, cl, hdone⟩
    have few : ∀ {zs : List (List Bool × Nat)}, zs.Nodup → (∀ x ∈ zs, U x) → zs.length ≤ 2048 := fun {zs} n h => Om.few_nodes (m := 7) n fun x hx => ⟨(hU x (h x hx)).1, (hU x (h x hx)).2.1⟩
    have ql := few G.kz.nd hlt
    refine ⟨_, lenL G.hQ, ?_⟩
    dsimp only [rN0]
    rw [List.length_map, G.ql]
    refine ite2 (fun lt => ?_) (fun ge => ?_)
    · have lt : c < xs.length := by simpa using lt
      obtain ⟨x, hx⟩ : ∃ x, xs[c]? = some x := ⟨_, List.getElem?_eq_getElem lt⟩
      have xm := List.mem_of_getElem? hx
      have xU := hlt x xm
      obtain ⟨_, _, n8, nU⟩ := hU x xU
      obtain ⟨b, b1, b2⟩ := G.qt c x hx
      refine ⟨fun σ' H' => ∃ (v6 v7 : Option V) (kvs : List (List Key × V)) (more : List (List Bool × Nat)) (bz : List Addr), σ' = [some (.ref n0), some (.ref f'), some (.ref D), some (.ref Qa), some (.int ((c : Nat) + 1)), some (.ref b), v6, v7] ∧ Tt H H' D Qa kvs (xs ++ more) bz ∧ (∀ y ∈ more, U y ∧ Om.RchG nx x0 y) ∧ ∀ y ∈ nx x, y ∈ xs ++ more, ?_, ?_⟩
      · rintro σ' H' ⟨v6, v7, kvs, more, bz, rfl, G', hm', hd'⟩
        refine ⟨mm - 1, by omega, _, v6, v7, kvs, xs ++ more, bz, c + 1, rfl, by omega, G', fun y hy => ?_, List.mem_append_left _ h0, fun y hy => ?_, by rw [List.length_append]; omega, fun i y hi hy t ht => ?_⟩
        · exact (List.mem_append.mp hy).elim (hlt y) fun z => (hm' y z).1
        · exact (List.mem_append.mp hy).elim (hrc y) fun z => (hm' y z).2
        · rw [List.getElem?_append_left (by omega)] at hy
          by_cases e : i = c
          · subst e
            rw [hx] at hy
            cases hy
            exact hd' t ht
          · exact List.mem_append_left _ (hdone i y (by omega) hy t ht)
      · refine .inl ⟨.ref b, gl G.hQ (by omega) (by rw [List.getElem?_map, show ((c : Nat) : Int).toNat = c by omega, b1]; rfl), ?_⟩
        refine ⟨rfl, hF x b _ _ xU b2 (Wm _ _ hW G.s) fun l ps H3 s3 nl hl st => ?_⟩
        have lD : l ≠ D := Ne.symm (ne_of_none G.hD nl)
        have lQ : l ≠ Qa := Ne.symm (ne_of_none G.hQ nl)
        refine ⟨⟨_, SqL.of hl⟩, for_by (it_list _ l ps) (fun i σ H4 => ∃ (v6 v7 : Option V) (kvs : List (List Key × V)) (more : List (List Bool × Nat)) (bz : List Addr), σ = [some (.ref n0), some (.ref f'), some (.ref D), some (.ref Qa), some (.int ((c : Nat) + 1)), some (.ref b), v6, v7] ∧ Tt H H4 D Qa kvs (xs ++ more) bz ∧ (∀ y ∈ more, U y ∧ Om.RchG nx x0 y) ∧ H4 l = some (.lst ps) ∧ StpsT H4 ps (nx x) ∧ H4 b = some (.tup [.str (bs x.1), .int (x.2 : Nat)]) ∧ ∀ (j : Nat) y, j < i → (nx x)[j]? = some y → y ∈ xs ++ more)
          ⟨v6, v7, kvs, [], bz, rfl, by rw [List.append_nil]; exact G.mono s3, by simp, hl, st, s3 _ _ b2, fun j t h => absurd h (Nat.not_lt_zero _)⟩ (fun i σ H4 _ ⟨_, _, _, _, _, _, _, _, h, _⟩ => SqL.of h) ?_ ?_⟩
        · rintro i z σ H4 hi hz ⟨v6, v7, kvs, more, bz, rfl, G4, hm4, hl4, st4, b4, hd4⟩
          have hi' : i < (nx x).length := by rw [← st4.1]; exact hi
          obtain ⟨qa, za, e1, e2, e3⟩ := st4.2 i (nx x)[i] (List.getElem?_eq_getElem hi')
          rw [e1] at hz
          cases hz
          have ym : (nx x)[i] ∈ nx x := List.getElem_mem hi'
          have yU := nU _ ym
          generalize et : (nx x)[i] = y at e3 ym yU
          have ei : (nx x)[i]? = some y := by rw [List.getElem?_eq_getElem hi', et]
          refine ⟨_, .inl e2, rfl, rfl, ?_⟩
          refine ⟨D, _, rfl, DGet.t (k := nkey y) G4.hD e3, ?_⟩
          rw [G4.kz.has nkey_inj y]
          have l4 : (xs ++ more).length ≤ 2048 := few G4.kz.nd fun u hu => (List.mem_append.mp hu).elim (hlt u) fun z => (hm4 u z).1
          refine ite2 (fun c1 => ?_) (fun c1 => ?_)
          · have nt : y ∉ xs ++ more := by simpa using c1
            obtain ⟨t0, zs, w1, w2, w3, w4⟩ := G4.vl x (List.mem_append_left _ xm)
            refine .inr ⟨D, .ref t0, rfl, w1 ▸ DGet.t (k := nkey x) G4.hD b4, ?_⟩
            refine ⟨le_line (Nat.le_of_ble_eq_true rfl), fun B hB => ?_⟩
            have s5 : Same H4 (upd H4 B (.lst [.int (i : Nat)])) := Same.upd hB
            refine ⟨zs, [.int (i : Nat)], s5 _ _ w2, upd_same, le_lineB (by simp; omega), fun Un hU => ?_⟩
            have s6 := s5.trans (Same.upd (o := .lst (zs ++ [.int (i : Nat)])) hU)
            have G6 := G4.mono s6
            have UQ : Un ≠ Qa := Ne.symm (ne_of_none (s5 _ _ G4.hQ) hU)
            have kl := G6.kz.len
            refine .inr ⟨D, _, rfl, DPut.t (k := nkey y) G6.hD (s6 _ _ e3) (lt_lineB (by omega)), ?_⟩
            have DQ : D ≠ Qa := ne_of G6.hD G6.hQ (fun z => nomatch z)
            refine ⟨⟨_, rfl, by rw [upd_ne (Ne.symm DQ)]; exact G6.hQ⟩, _, by rw [upd_ne (Ne.symm DQ)]; exact G6.hQ, lt_lineB (by rw [List.length_map, G6.ql]; omega), ?_⟩
            have G7 := G6.put (u := Un) (z := za) (zs := zs ++ [.int (i : Nat)]) nt upd_same UQ (by rw [List.length_append]; exact Nat.add_le_add_right w3 1) (s6 _ _ e3)
            rw [List.append_assoc] at G7
            refine ⟨_, _, _, more ++ [y], _, rfl, G7, fun u hu => ?_, Tt.put_at (s6 _ _ hl4) lD lQ, ⟨st4.1, fun j t' hj => ?_⟩, ?_, fun j t' hj ht' => ?_⟩
            · rcases List.mem_append.mp hu with z | z
              · exact hm4 u z
              · have : u = y := by simpa using z
                subst this
                exact ⟨yU, .s (hrc x xm) ym⟩
            · obtain ⟨qb, zb, a1, a2, a3⟩ := st4.2 j t' hj
              exact ⟨qb, zb, a1, Tt.put_at (s6 _ _ a2) (ne_of (s6 _ _ a2) G6.hD (fun z => nomatch z)) (ne_of (s6 _ _ a2) G6.hQ (fun z => nomatch z)), Tt.put_at (s6 _ _ a3) (ne_of (s6 _ _ a3) G6.hD (fun z => nomatch z)) (ne_of (s6 _ _ a3) G6.hQ (fun z => nomatch z))⟩
            · exact Tt.put_at (s6 _ _ b4) (ne_of (s6 _ _ b4) G6.hD (fun z => nomatch z)) (ne_of (s6 _ _ b4) G6.hQ (fun z => nomatch z))
            · rw [← List.append_assoc]
              by_cases e : j = i
              · subst e
                rw [ei] at ht'
                cases ht'
                exact List.mem_append_right _ (by simp)
              · exact List.mem_append_left _ (hd4 j t' (by omega) ht')
          · have nt : y ∈ xs ++ more := by
              by_cases z : y ∈ xs ++ more
              · exact z
              · exact absurd (by simpa using z) c1
            refine ⟨_, _, kvs, more, bz, rfl, G4, hm4, hl4, st4, b4, fun j t' hj ht' => ?_⟩
            by_cases e : j = i
            · subst e
              rw [ei] at ht'
              cases ht'
              exact nt
            · exact hd4 j t' (by omega) ht'
        · rintro σ H4 ⟨v6, v7, kvs, more, bz, rfl, G4, hm4, hl4, st4, b4, hd4⟩
          refine ⟨v6, v7, kvs, more, bz, rfl, G4, hm4, fun t ht => ?_⟩
          obtain ⟨j, hj⟩ := List.mem_iff_getElem?.mp ht
          have lj := (List.getElem?_eq_some_iff.mp hj).1
          exact hd4 j t (by rw [st4.1]; exact lj) hj
    · have ge : xs.length ≤ c := by
        by_cases z : c < xs.length
        · exact absurd (by simpa using z) ge
        · omega
      refine .inl ⟨_, G.hD, trivial, fun o => ?_⟩
      refine q D o kvs xs _ (fun b u e => ?_) hD upd_same G.kz (fun s => ⟨hrc s, Om.rchG_in h0 (fun a ha b hb => ?_) s⟩) ql
      · rw [upd_ne (ne_of_none e hD)]
        exact G.s _ _ e
      · obtain ⟨i, hi⟩ := List.mem_iff_getElem?.mp ha
        have li := (List.getElem?_eq_some_iff.mp hi).1
        exact hdone i a (by omega) hi b hb
  · exact h.elim
end

end K40
end
section
set_option Elab.async false
set_option linter.all false
set_option maxRecDepth 100000
set_option maxHeartbeats 4000000
namespace L2
open PySem PySem.Spec PyProof.Rows
theorem slice_eq (z : Str) (l u : Option Int) : Txt.slice z l u = StrLaws.sliceText z l u := rfl
theorem bs_fromZ {w : List Bool} {i : Int} (h0 : 0 ≤ i) (h1 : i ≤ w.length) : Txt.slice (bs w) (some i) none = bs (w.drop i.toNat) := by
  have e : Txt.slice (bs w) (some i) none = Txt.slice (bs w) (some i) (some (w.length : Int)) := by
    rw [slice_eq, slice_eq]
    unfold StrLaws.sliceText
    rw [StrLaws.sliceIdx_none_hi, bs_len]
  rw [e, bs_mid h0 h1 (Int.le_refl _)]
  congr 1
  rw [List.take_of_length_le (by rw [List.length_drop]; omega)]
theorem keys_get {H : Hp} : ∀ {kvs : List (List Key × V)} {bz : List Addr} {xs : List (List Bool × Nat)} {i : Nat} {x : List Bool × Nat}, KeysAt H kvs bz → KS nkey kvs xs → xs[i]? = some x → ∃ b, bz[i]? = some b ∧ H b = some (.tup [.str (bs x.1), .int (x.2 : Nat)]) := by
  intro kvs bz xs i x kb ks hx
  have h1 : (kvs.map (·.1))[i]? = some (nkey x) := by rw [ks.ks, List.getElem?_map, hx]; rfl
  clear ks hx
  induction kb generalizing i with
  | nil => simp at h1
  | @cons p b ps bs' h t ih =>
    cases i with
    | zero =>
      have e : p.1 = nkey x := by simpa using h1
      rw [e] at h
      exact ⟨b, rfl, h⟩
    | succ i =>
      obtain ⟨b', a1, a2⟩ := ih (i := i) (by simpa using h1)
      exact ⟨b', by simpa using a1, a2⟩
end L2
end
section
set_option Elab.async false
set_option linter.all false
set_option maxRecDepth 100000
set_option maxHeartbeats 4000000
namespace K40
open PySem L2
section
variable {P : Program} {w : World} {K : PySem.W.Frag} {mg : Str → Option Value} {base : Heap}
abbrev sTailS : Stmt := top 9
def spTailS : Sp := fun vs H Q _ => match vs with
  | [cv, .ref nd, .int keep] => ∃ (k n : Nat) (rows : Om.Rows) (x : List Bool × Nat) (m : Nat), DV H cv (codeD k n rows) ∧ Om.CodeOk k n rows ∧ H nd = some (.tup [.str (bs x.1), .int (x.2 : Nat)]) ∧ x.2 < rows.length ∧ x.1.length ≤ 7 ∧ keep = (m : Nat) ∧
      ∀ l ps H', Same H H' → H l = none → H' l = some (.lst ps) → StpsT H' ps (Om.stepT rows m x) → Q (.ref l) H'
  | _ => False
theorem scTailS : FnScope ["code", "node", "keep", "steps", "letter", "row", "signs"] ["code", "node", "keep"] (defScope sTailS) := ⟨rfl, rfl, rfl, by decide +kernel, rfl, by decide +kernel, by decide +kernel⟩
local macro_rules | `(tactic| walk_at "T.n") => `(tactic| with_reducible first | exact vn "code" 0 | exact vn "node" 1 | exact vn "keep" 2 | exact vn "steps" 3 | exact vn "letter" 4 | exact vn "row" 5 | exact vn "signs" 6)
local macro_rules | `(tactic| walk_at "T.gn") => `(tactic| with_reducible first | exact gn "steps" 3 (by with_unfolding_all assumption) | exact gn "letter" 4 (by with_unfolding_all assumption) | exact gn "row" 5 (by with_unfolding_all assumption) | exact gn "signs" 6 (by with_unfolding_all assumption))
theorem ok_tailS (D : FnX K mg "tail_steps" sTailS ["code", "node", "keep"]) (g1 : mg "enumerate" = none) (g2 : mg "max" = none) (g3 : mg "len" = none) : Can P w K mg base "tail_steps" 1 ["code", "node", "keep"] spTailS := by
  refine can_fn (k := 0) D scTailS (fun vs H Q E h => ?_) (fun f0 cdv A outer s H vs Q E hr h => ?_)
  all_goals
    unfold spTailS at h
    split at h
  · rfl
  · exact h.elim
  · rename_i cv nda keep
    obtain ⟨k, n, rows, x, m, hc, ok, hn, hs, x7, rfl, q⟩ := h
    obtain ⟨a, b, ss, rfl, ha, hb, hss⟩ := code_inv hc
    obtain ⟨qx, rx, e1, e2, e3⟩ := state_at hss (s := x.2) (st := rows[x.2]) (List.getElem?_eq_getElem hs)
    have rl : rx.length = rows[x.2].length := by rw [e3.length, List.length_map]
    have r8 : rows[x.2].length ≤ 8 := by rw [ok.len _ (List.getElem_mem hs)]; exact Om.pow8 ok.k3
    have gx : Om.stepT rows m x = rows[x.2].map fun r => (Om.lastN m (x.1 ++ r.1), r.2) := by unfold Om.stepT; rw [List.getD_eq_getElem?_getD, List.getElem?_eq_getElem hs]; rfl
    have nd := scTailS.nd
    refine ⟨_, (by walk_at "T.top"), ?_⟩
    refine ⟨Nat.zero_le _, fun L hL => ?_⟩
    have s0 : Same H (upd H L (.lst [])) := Same.upd hL
    refine ⟨_, gt (s0 _ _ ha) (by decide) rfl, _, gt (s0 _ _ hn) (by decide) rfl, .ref qx, gl (s0 _ _ hb) (by omega) (by simpa using e1), ⟨_, SqL.of (s0 _ _ e2)⟩, ?_⟩
    refine for_pr (it_enumP _ qx rx) (fun i σ H2 => ∃ (v4 v5 v6 : Option V) (ps : List V), σ = [some (.ref a), some (.ref nda), some (.int (m : Nat)), some (.ref L), v4, v5, v6] ∧ Same H H2 ∧ H2 L = some (.lst ps) ∧ StpsT H2 ps ((Om.stepT rows m x).take i))
      ⟨none, none, none, [], rfl, s0, upd_same, rfl, fun i t h => by simp at h⟩ (fun i σ H2 _ ⟨_, _, _, _, _, s2, _⟩ => s2 _ _ e2) ?_ ?_
    · rintro i t σ H2 hi ⟨v4, v5, v6, ps, rfl, s2, h2, st2⟩ ht
      have hi' : i < rows[x.2].length := by omega
      obtain ⟨r, r1, r2⟩ := row_at e3 (l := i) (r := rows[x.2][i]) (List.getElem?_eq_getElem hi')
      have er : rx.getD i .non = .ref r := by rw [List.getD_eq_getElem?_getD, r1]; rfl
      have okr := ok.row _ (List.getElem_mem hs) _ (List.getElem_mem hi')
      have n6 := ok.n6
      rw [er]
      have s3 := s2.trans (Same.upd (o := .tup [.int (i : Nat), .ref r]) ht)
      refine ⟨_, .inl upd_same, rfl, rfl, ?_⟩
      refine ⟨_, gt (s3 _ _ hn) (by decide) rfl, _, gt (s3 _ _ r2) (by decide) rfl, by rw [bs_len, bs_len]; exact le_line (by omega), ?_⟩
      rw [bs_app]
      have wl : (x.1 ++ rows[x.2][i].1).length = x.1.length + n := by rw [List.length_append, okr.1]
      generalize hwd : x.1 ++ rows[x.2][i].1 = wd at wl ⊢
      have h3 : upd H2 t (.tup [.int (i : Nat), .ref r]) L = some (.lst ps) := Same.upd ht _ _ h2
      refine ⟨⟨_, rfl, h3⟩, _, lenS (le_line (by omega)), ?_⟩
      have z0 : (if (0 : Int) < (wd.length : Int) - (m : Nat) then (wd.length : Int) - (m : Nat) else 0) = ((wd.length - m : Nat) : Int) := by
        split <;> omega
      have z1 : Txt.slice (bs wd) (some ((wd.length - m : Nat) : Int)) none = bs (Om.lastN m wd) := by
        rw [bs_fromZ (by omega) (by omega)]
        rfl
      refine ⟨by rw [bs_len]; exact le_line (by omega), _, gt (s3 _ _ r2) (by decide) rfl, le_line (Nat.le_of_ble_eq_true rfl), fun z hz => ?_⟩
      have z2 : Txt.slice (bs wd) (some (if (wd.length : Int) - (m : Nat) > 0 then (wd.length : Int) - (m : Nat) else 0)) none = bs (Om.lastN m wd) := by
        rw [← z1, ← z0]
      rw [z2]
      have s4 := s3.trans (Same.upd (o := .tup [.str (bs (Om.lastN m wd)), .int (rows[x.2][i].2 : Nat)]) hz)
      refine ⟨le_line (Nat.le_of_ble_eq_true rfl), fun p hp => ?_⟩
      have s5 := s4.trans (Same.upd (o := .tup [.int (i : Nat), .ref z]) hp)
      have h5 : upd (upd (upd H2 t (.tup [.int (i : Nat), .ref r])) z (.tup [.str (bs (Om.lastN m wd)), .int (rows[x.2][i].2 : Nat)])) p (.tup [.int (i : Nat), .ref z]) L = some (.lst ps) := Same.upd hp _ _ (Same.upd hz _ _ h3)
      have il : ps.length = i := by rw [st2.1, List.length_take, gx, List.length_map]; omega
      refine ⟨_, h5, lt_line (by omega), ?_⟩
      refine ⟨_, _, _, ps ++ [.ref p], rfl, s5.own hL, upd_same, ?_, fun j y hj => ?_⟩
      · rw [List.length_append, il, List.length_take, gx, List.length_map]
        simp
        omega
      · have jl : j < i + 1 := by
          have := (List.getElem?_eq_some_iff.mp hj).1
          rw [List.length_take] at this
          omega
        rw [List.getElem?_take_of_lt jl] at hj
        have off : ∀ {b : Addr} {ys : List V}, upd (upd (upd H2 t (.tup [.int (i : Nat), .ref r])) z (.tup [.str (bs (Om.lastN m wd)), .int (rows[x.2][i].2 : Nat)])) p (.tup [.int (i : Nat), .ref z]) b = some (.tup ys) → upd (upd (upd (upd H2 t (.tup [.int (i : Nat), .ref r])) z (.tup [.str (bs (Om.lastN m wd)), .int (rows[x.2][i].2 : Nat)])) p (.tup [.int (i : Nat), .ref z])) L (.lst (ps ++ [.ref p])) b = some (.tup ys) := fun {b ys} e => by
          rw [upd_ne (ne_of e h5 (fun z => nomatch z))]
          exact e
        by_cases e : j = i
        · subst e
          have ey : y = (Om.lastN m wd, rows[x.2][j].2) := by
            rw [gx, List.getElem?_map, List.getElem?_eq_getElem hi'] at hj
            rw [← hwd]
            exact (Option.some.inj hj).symm
          subst ey
          exact ⟨p, z, by rw [List.getElem?_append_right (by omega), il]; simp, off upd_same, off (by rw [upd_ne (ne_of_none upd_same hp)]; exact upd_same)⟩
        · obtain ⟨q', z', a1, a2, a3⟩ := st2.2 j y (by rw [List.getElem?_take_of_lt (by omega)]; exact hj)
          exact ⟨q', z', by rw [List.getElem?_append_left (by omega)]; exact a1, off (Same.upd hp _ _ (Same.upd hz _ _ (Same.upd ht _ _ a2))), off (Same.upd hp _ _ (Same.upd hz _ _ (Same.upd ht _ _ a3)))⟩
    · rintro σ H2 ⟨v4, v5, v6, ps, rfl, s2, h2, st2⟩
      rw [List.take_of_length_le (by rw [gx, List.length_map]; omega)] at st2
      exact q L ps _ s2 hL h2 st2
  · exact h.elim
end

end K40
end
section
set_option Elab.async false
set_option linter.all false
set_option maxRecDepth 100000
set_option maxHeartbeats 4000000
namespace K40
open PySem L2
section
variable {P : Program} {w : World} {K : PySem.W.Frag} {mg : Str → Option Value} {base : Heap}
abbrev sTails : Stmt := top 8
abbrev lamTb : Expr := callArg 1 (callArg 0 (retE (.Name "" ⟨0, 0, 0, 0⟩) ((defBody sTails).getD 0 (.Pass ⟨0, 0, 0, 0⟩))))
abbrev qTb : Str := ("tails_behind" ++ ".<locals>." : Str) ++ "<lambda>"
def spLamTb (c : Addr) (fvs : List V) : Sp := fun vs H Q _ => match vs with
  | [.ref nd] => ∃ (k n : Nat) (rows : Om.Rows) (cv : V) (m : Nat) (x : List Bool × Nat), fvs = [cv, .int (m : Nat)] ∧ DV H cv (codeD k n rows) ∧ Om.CodeOk k n rows ∧ H nd = some (.tup [.str (bs x.1), .int (x.2 : Nat)]) ∧ x.2 < rows.length ∧ x.1.length ≤ 7 ∧ H c = some (CodeO c qTb) ∧
      ∀ l ps H', Same H H' → H l = none → H' l = some (.lst ps) → StpsT H' ps (Om.stepT rows m x) → Q (.ref l) H'
  | _ => False
local macro_rules | `(tactic| walk_at "T.n") => `(tactic| with_reducible first | exact vn "node" 0 | exact vn "code" 1 | exact vn "keep" 2)
local macro_rules | `(tactic| walk_at "T.gn") => `(tactic| with_reducible first | exact gn "node" 0 (by with_unfolding_all assumption) | exact gn "code" 1 (by with_unfolding_all assumption) | exact gn "keep" 2 (by with_unfolding_all assumption))
theorem lam_tb {f c : Addr} {fvs : List V} (L : LamIn base f (lamArgs lamTb) (lamBody lamTb) (lamScope lamTb) qTb c ["code", "keep"] fvs) (hl : ["code", "keep"].length = fvs.length) (c1 : Can P w K mg base "tail_steps" 1 ["code", "node", "keep"] spTailS) : CanL P w K mg base f 2 "node" (spLamTb c fvs) := by
  refine lam_ok (k := 1) L ⟨rfl, rfl, rfl, rfl, by decide +kernel, by decide +kernel⟩ hl (fun _ _ _ _ => rfl) (fun vs H Q E h => ?_) (fun clos A outer s H v Q E hr h => ?_)
  · unfold spLamTb at h
    split at h
    · rfl
    · exact h.elim
  · unfold spLamTb at h
    split at h
    · rename_i nda hv
      cases hv
      obtain ⟨k, n, rows, cv, m, x, rfl, hc, ok, hn, hx, x7, hcd, q⟩ := h
      refine ⟨hcd, _, (by (refine' fn_can "tail_steps" ?a0 ?a9 ?a1 ?a2); (case a0 => with_reducible assumption); (case a9 => exact ⟨rfl, rfl, rfl, rfl, rfl⟩); (case a1 => exact Room.mono (by assumption) (Nat.le_refl _)); (case a2 => walk_at "T.a")), ?_⟩
      exact ⟨k, n, rows, x, m, hc, ok, hn, hx, x7, rfl, q⟩
    · rename_i hv
      exact h.elim
end
section
variable {P : Program} {w : World} {K : PySem.W.Frag} {mg : Str → Option Value} {base : Heap}
def spTails (P0 : Addr) : Sp := fun vs H Q _ => match vs with
  | [cv, .str st, .int keep] => ∃ (k n : Nat) (rows : Om.Rows) (m : Nat) (s0 : List Bool), st = bs s0 ∧ s0.length ≤ m ∧ keep = (m : Nat) ∧ m ≤ 7 ∧ DV H cv (codeD k n rows) ∧ Om.CodeOk k n rows ∧ Tab P0 (lamPos lamTb) qTb H ∧
      ∀ l (xs : List (List Bool × Nat)) (bz : List Addr) H', SameT P0 H H' → Tab P0 (lamPos lamTb) qTb H' → H l = none → H' l = some (.lst (bz.map V.ref)) → bz.length = xs.length → (∀ (i : Nat) x, xs[i]? = some x → ∃ b, bz[i]? = some b ∧ H' b = some (.tup [.str (bs x.1), .int (x.2 : Nat)])) →
        (∀ x, x ∈ xs ↔ Om.RchG (Om.stepT rows m) (s0, 0) x) → xs.length ≤ 2048 → Q (.ref l) H'
  | _ => False
theorem scTails : FnScope ["code", "start", "keep"] ["code", "start", "keep"] (defScope sTails) := ⟨rfl, rfl, rfl, by decide +kernel, rfl, by decide +kernel, by decide +kernel⟩
local macro_rules | `(tactic| walk_at "T.n") => `(tactic| with_reducible first | exact vn "code" 0 | exact vn "start" 1 | exact vn "keep" 2)
theorem ok_tails {c P0 : Addr} (D : FnC K mg "tails_behind" sTails ["code", "start", "keep"] c) (D2 : FnX K mg "texts_from" sTexts ["start", "steps"]) (g1 : mg "len" = none) (g2 : mg "list" = none) (c1 : ∀ base, Can P w K mg base "tail_steps" 1 ["code", "node", "keep"] spTailS) (M : Maker mg base c P0) :
    Can P w K mg base "tails_behind" 4 ["code", "start", "keep"] (spTails P0) := by
  refine can_fnC (k := 3) D scTails (fun vs H Q E h => ?_) (fun f A outer s H vs Q E hr h => ?_)
  all_goals
    unfold spTails at h
    split at h
  · rfl
  · exact h.elim
  · rename_i cv st0 keep
    obtain ⟨k, n, rows, m, sb, rfl, sb7, rfl, m7, hc, ok, tb, q⟩ := h
    have hm : ∃ f, mg "texts_from" = some (.ref f) ∧ PySem.W.keepIn K (.ref f) = true := by
      obtain ⟨f, fd, F, hm, _⟩ := D2
      exact ⟨f, hm, F.kp⟩
    have hf0 : ∀ y ∈ (lamScope lamTb).names, y.2 = .free → (defScope sTails).names.lookup y.1 = some .cell := by decide +kernel
    have nd := scTails.nd
    refine ⟨_, (by
      refine' pss_one ?a1
      case a1 =>
        refine' ps_ret ?a2
        case a2 =>
          refine' fn_listD ?b0 ?b9 ?b1
          case b0 => with_reducible assumption
          case b9 => rfl
          case b1 =>
            refine' a_cons ?c1 ?c2
            case c2 => exact pa_nil
            case c1 =>
              refine' e_lamcall "texts_from" (F := ["code", "keep"]) (js := [0, 2]) (k := 3) (ps := ["start", "steps"]) (sp := fun f c fvs => spTextsT f (spLamTb c fvs)) hm M rfl ?hF rfl ?hFs (fun _ => rfl) ?hfree ?hC hr ?ha ?hg rfl rfl ?he
              case hF =>
                intro i y h
                match i, h with
                | 0, h => cases h; exact ⟨0, rfl, rfl, by kernel_rfl⟩
                | 1, h => cases h; exact ⟨2, rfl, rfl, by kernel_rfl⟩
                | i + 2, h => simp at h
              case hFs => decide +kernel
              case hfree => exact hf0
              case hC => exact fun B f c' fvs m0 kb hl L => ok_texts D2 g1 (lam_tb L hl (c1 B))
              case ha =>
                refine' pe_tup ?d1
                case d1 => walk_at "T.a"
              case hg => kernel_rfl
              case he => kernel_rfl), ?_⟩
    refine ⟨le_line (Nat.le_of_ble_eq_true rfl), fun n0 hn0 => ?_⟩
    have s0 : Same H (upd H n0 (.tup [.str (bs sb), .int 0])) := Same.upd hn0
    refine ⟨tb.mono s0, [cv, .int (m : Nat)], rfl, fun f' c' H2 sm e1 e2 nf => ?_⟩
    have nP : n0 ≠ P0 := fun z => by obtain ⟨ps, e⟩ := tb.tbl; rw [z, e] at hn0; cases hn0
    refine ⟨rfl, Om.stepT rows m, (sb, 0), fun x => x.1.length ≤ m ∧ x.2 < rows.length, fun H => DV H cv (codeD k n rows) ∧ H c' = some (CodeO c' qTb), sm _ _ nP upd_same, fun H H' ⟨a, b⟩ s => ⟨a.mono s, s _ _ b⟩, ⟨(hc.mono s0).monoT (tb.mono s0) sm, e2⟩, ⟨sb7, ok.s1⟩, fun x hx => ?_,
      fun x b H Q hx hb ⟨a, e⟩ h => ⟨k, n, rows, cv, m, x, rfl, a, ok, hb, hx.2, by have := hx.1; omega, e, h⟩, fun d o kvs xs H' s' nd hd ks hr8 l8 => ?_⟩
    · obtain ⟨h1, h2⟩ := hx
      have r8 := ok.s8
      have e : rows.getD x.2 [] = rows[x.2] := by rw [List.getD_eq_getElem?_getD, List.getElem?_eq_getElem h2]; rfl
      refine ⟨by omega, by omega, ?_, fun y hy => ?_⟩
      · unfold Om.stepT
        rw [List.length_map, e, ok.len _ (List.getElem_mem h2)]
        exact Om.pow8 ok.k3
      · obtain ⟨r, hr, rfl⟩ := List.mem_map.mp hy
        exact ⟨Om.lastN_le _ _, (Om.row_in ok hr).2.1⟩
    · refine .inr (.inl ⟨o, kvs, hd, fun bz l kb hl => ?_⟩)
      have t' : Tab P0 (lamPos lamTb) qTb H' := .inr ⟨c', s' _ _ e1, s' _ _ e2⟩
      have st : SameT P0 H (upd H' l (.lst (bz.map V.ref))) := (s0.t.trans sm).trans (s'.t.trans (Same.upd hl).t)
      have kl : bz.length = kvs.length := (Paired.length kb).symm
      refine q l xs bz _ st (t'.mono (Same.upd hl)) (((s0.t.trans sm).trans s'.t).free hl fun z => by obtain ⟨ps, e⟩ := t'.tbl; rw [z, e] at hl; cases hl) upd_same (by rw [kl, ks.len]) (fun i x hx => ?_) hr8 l8
      obtain ⟨b, b1, b2⟩ := keys_get kb ks hx
      exact ⟨b, b1, Same.upd hl _ _ b2⟩
  · exact h.elim
end

end K40
end
section
set_option Elab.async false
set_option linter.all false
set_option maxRecDepth 100000
set_option maxHeartbeats 4000000
namespace Om
theorem fac_idx {wd u : List Bool} {L : Nat} : (∃ m, m + L ≤ wd.length ∧ u = (wd.drop m).take L) ↔ ∃ p q, wd = p ++ u ++ q ∧ u.length = L := by
  constructor
  · rintro ⟨m, h, rfl⟩
    refine ⟨wd.take m, (wd.drop m).drop L, ?_, by rw [List.length_take, List.length_drop]; omega⟩
    rw [List.append_assoc, List.take_append_drop, List.take_append_drop]
  · rintro ⟨p, q, e, l⟩
    refine ⟨p.length, by rw [e, List.length_append, List.length_append]; omega, ?_⟩
    rw [e, List.append_assoc, List.drop_left, ← l, List.take_left]
end Om
namespace L2
open PySem PySem.Spec PyProof.Rows
structure Ds (H0 H : Hp) (D : Addr) (kvs : List (Key × V)) (us : List (List Bool)) (L : Nat) (S : List Bool → Prop) : Prop where
  s : SameT D H0 H
  hD : H D = some (.dK kvs)
  kz : KS tk kvs us
  ul : ∀ u ∈ us, u.length = L
  iff : ∀ u, u ∈ us ↔ S u
section
variable {H0 H H1 : Hp} {D : Addr} {kvs : List (Key × V)} {us : List (List Bool)} {L : Nat} {S S' : List Bool → Prop}
theorem Ds.cong (g : Ds H0 H D kvs us L S) (h : ∀ u, S u ↔ S' u) : Ds H0 H D kvs us L S' := ⟨g.s, g.hD, g.kz, g.ul, fun u => (g.iff u).trans (h u)⟩
theorem Ds.mono (g : Ds H0 H D kvs us L S) (s : Same H H1) : Ds H0 H1 D kvs us L S := ⟨g.s.trans s.t, s _ _ g.hD, g.kz, g.ul, g.iff⟩
theorem Ds.few (g : Ds H0 H D kvs us L S) {m : Nat} (h : L ≤ m) : kvs.length ≤ 2 ^ (m + 1) := by
  rw [g.kz.len]
  exact Om.few_texts g.kz.nd fun u hu => by rw [g.ul u hu]; exact h
theorem Ds.put (g : Ds H0 H D kvs us L S) {u : List Bool} {v : V} (hu : u.length = L) : Ds H0 (upd H D (.dK (putK kvs (tk u) v))) D (putK kvs (tk u) v) (Om.adds us u) L (fun x => S x ∨ x = u) :=
  ⟨fun b o n e => by rw [upd_ne n]; exact g.s b o n e, upd_same, g.kz.put tk_inj u v, fun x hx => by
    rcases Om.mem_adds.mp hx with z | z
    · exact g.ul x z
    · rw [z]; exact hu, fun x => by rw [Om.mem_adds, g.iff]⟩
theorem Ds.at {b : Addr} {o : HO} (g : Ds H0 H D kvs us L S) (h : H0 b = some o) (n : b ≠ D) : H b = some o := g.s b o n h
end
end L2
end
section
set_option Elab.async false
set_option linter.all false
set_option maxRecDepth 100000
set_option maxHeartbeats 4000000
namespace K40
open PySem L2
section
variable {P : Program} {w : World} {K : PySem.W.Frag} {mg : Str → Option Value} {base : Heap}
abbrev sStand : Stmt := top 7
def spStand (P0 : Addr) : Sp := fun vs H Q _ => match vs with
  | [cv, .int len] => ∃ (k n : Nat) (rows : Om.Rows) (L : Nat), len = (L : Nat) ∧ 1 ≤ L ∧ L ≤ 8 ∧ DV H cv (codeD k n rows) ∧ Om.CodeOk k n rows ∧ Tab P0 (lamPos lamTb) qTb H ∧
      ∀ d o (kvs : List (Key × V)) (us : List (List Bool)) H', SameT P0 H H' → Tab P0 (lamPos lamTb) qTb H' → H d = none → H' d = some (.frz o (.dK kvs)) → KS tk kvs us → (∀ u, u ∈ us ↔ u.length = L ∧ Om.Fac rows u) → Q (.ref d) H'
  | _ => False
theorem scStand : FnScope ["code", "length", "found", "tail", "state", "row", "signs", "place"] ["code", "length"] (defScope sStand) := ⟨rfl, rfl, rfl, by decide +kernel, rfl, by decide +kernel, by decide +kernel⟩
local macro_rules | `(tactic| walk_at "T.n") => `(tactic| with_reducible first | exact vn "code" 0 | exact vn "length" 1 | exact vn "found" 2 | exact vn "tail" 3 | exact vn "state" 4 | exact vn "row" 5 | exact vn "signs" 6 | exact vn "place" 7)
local macro_rules | `(tactic| walk_at "T.gn") => `(tactic| with_reducible first | exact gn "found" 2 (by with_unfolding_all assumption) | exact gn "tail" 3 (by with_unfolding_all assumption) | exact gn "state" 4 (by with_unfolding_all assumption) | exact gn "row" 5 (by with_unfolding_all assumption) | exact gn "signs" 6 (by with_unfolding_all assumption) | exact gn "place" 7 (by with_unfolding_all assumption))
local macro_rules | `(tactic| walk_at "T.e") => `(tactic| (with_reducible exact pe_dnewK))
local macro_rules | `(tactic| walk_at "T.g") => `(tactic| ((with_reducible refine' g_subD ?a0 ?a1 ?a2); (case a0 => exact Room.units (by assumption)); (case a1 => walk_at "T.e"); (case a2 => walk_at "T.e")))
local macro_rules | `(tactic| walk_at "T.st") => `(tactic| ((with_reducible refine' s_retF ?a1); (case a1 => walk_at "T.e")))
theorem ok_stand {P0 : Addr} (D : FnX K mg "standing" sStand ["code", "length"]) (g1 : mg "len" = none) (g2 : mg "range" = none) (c1 : Can P w K mg base "tails_behind" 4 ["code", "start", "keep"] (spTails P0)) : Can P w K mg base "standing" 5 ["code", "length"] (spStand P0) := by
  refine can_fn (k := 4) D scStand (fun vs H Q E h => ?_) (fun f0 cdv A outer s H vs Q E hr h => ?_)
  all_goals
    unfold spStand at h
    split at h
  · rfl
  · exact h.elim
  · rename_i cv len
    obtain ⟨k, n, rows, L, rfl, l1, l8, hc, ok, tb, q⟩ := h
    have nd := scStand.nd
    refine ⟨_, (by walk_at "T.top"), ?_⟩
    intro D hD
    have s0 : Same H (upd H D (.dK [])) := Same.upd hD
    have DP : D ≠ P0 := fun z => by obtain ⟨ps, e⟩ := tb.tbl; rw [z, e] at hD; cases hD
    have e1 : ((L : Nat) : Int) - 1 = ((L - 1 : Nat) : Int) := by omega
    refine ⟨k, n, rows, L - 1, [], rfl, Nat.zero_le _, e1, by omega, hc.mono s0, ok, tb.mono s0, fun l xs bz H2 s2 t2 nl hl bl hb hx x2 => ?_⟩
    have hc2 := (hc.mono s0).monoT (tb.mono s0) s2
    obtain ⟨a, b, ss, rfl, ha, hbb, hss⟩ := code_inv hc2
    have D2 : H2 D = some (.dK []) := s2 _ _ DP upd_same
    have G0 : Ds H2 H2 D [] [] L (fun _ => False) := ⟨SameT.refl _ _, D2, KS.nil, (fun u hu => nomatch hu), fun u => by simp⟩
    have lD : l ≠ D := ne_of hl D2 (fun z => nomatch z)
    have tn : ∀ {c : Addr} {ys : List V}, H2 c = some (.tup ys) → c ≠ D := fun {c ys} h => ne_of h D2 (fun z => nomatch z)
    have ln : ∀ {c : Addr} {ys : List V}, H2 c = some (.lst ys) → c ≠ D := fun {c ys} h => ne_of h D2 (fun z => nomatch z)
    refine ⟨⟨_, SqL.of hl⟩, for_by (it_list _ l (bz.map V.ref)) (fun i σ H3 => ∃ (v3 v4 v5 v6 v7 : Option V) (kvs : List (Key × V)) (us : List (List Bool)), σ = [some (.ref a), some (.int (L : Nat)), some (.ref D), v3, v4, v5, v6, v7] ∧ Ds H2 H3 D kvs us L (fun u => ∃ (j : Nat) (x r : List Bool × Nat), j < i ∧ xs[j]? = some x ∧ r ∈ rows.getD x.2 [] ∧ ∃ p q, x.1 ++ r.1 = p ++ u ++ q ∧ u.length = L))
      ⟨none, none, none, none, none, [], [], rfl, G0.cong fun u => ⟨fun z => z.elim, fun ⟨j, _, _, h, _⟩ => absurd h (Nat.not_lt_zero _)⟩⟩ (fun i σ H3 _ ⟨_, _, _, _, _, _, _, _, g⟩ => SqL.of (g.at hl lD)) ?_ ?_⟩
    · rintro i z σ H3 hi hz ⟨v3, v4, v5, v6, v7, kvs, us, rfl, G⟩
      rw [List.length_map] at hi
      have hi' : i < xs.length := by omega
      obtain ⟨bb, b1, b2⟩ := hb i xs[i] (List.getElem?_eq_getElem hi')
      rw [List.getElem?_map, b1] at hz
      cases hz
      have xr := (hx _).mp (List.getElem_mem hi')
      have exi : xs[i]? = some xs[i] := List.getElem?_eq_getElem hi'
      generalize ex : xs[i] = x at b2 xr exi
      obtain ⟨w0, hw0, ew0⟩ := Om.rchT_iff.mp xr
      have xl : x.2 < rows.length := hw0.lt ok ok.s1
      have x7 : x.1.length ≤ 7 := by rw [ew0]; exact Nat.le_trans (Om.lastN_le _ _) (by omega)
      obtain ⟨qx, rx, f1, f2, f3⟩ := state_at hss (s := x.2) (st := rows[x.2]) (List.getElem?_eq_getElem xl)
      have rl : rx.length = rows[x.2].length := by rw [f3.length, List.length_map]
      have r8 : rows[x.2].length ≤ 8 := by rw [ok.len _ (List.getElem_mem xl)]; exact Om.pow8 ok.k3
      have eg : rows.getD x.2 [] = rows[x.2] := by rw [List.getD_eq_getElem?_getD, List.getElem?_eq_getElem xl]; rfl
      refine ⟨_, .inl (G.at b2 (tn b2)), rfl, rfl, ?_⟩
      refine ⟨_, gt (G.at ha (tn ha)) (by decide) rfl, .ref qx, gl (G.at hbb (ln hbb)) (by omega) (by simpa using f1), ⟨_, SqL.of (G.at f2 (ln f2))⟩, ?_⟩
      refine for_by (it_list _ qx rx) (fun j σ H4 => ∃ (v5 v6 v7 : Option V) (kvs : List (Key × V)) (us : List (List Bool)), σ = [some (.ref a), some (.int (L : Nat)), some (.ref D), some (.str (bs x.1)), some (.int (x.2 : Nat)), v5, v6, v7] ∧
          Ds H2 H4 D kvs us L (fun u => (∃ (j : Nat) (x r : List Bool × Nat), j < i ∧ xs[j]? = some x ∧ r ∈ rows.getD x.2 [] ∧ ∃ p q, x.1 ++ r.1 = p ++ u ++ q ∧ u.length = L) ∨ ∃ j' r, j' < j ∧ rows[x.2][j']? = some r ∧ ∃ p q, x.1 ++ r.1 = p ++ u ++ q ∧ u.length = L))
        ⟨v5, v6, v7, kvs, us, rfl, G.cong fun u => ⟨.inl, fun z => z.elim id fun ⟨_, _, h, _⟩ => absurd h (Nat.not_lt_zero _)⟩⟩ (fun j σ H4 _ ⟨_, _, _, _, _, _, g⟩ => SqL.of (g.at f2 (ln f2))) ?_ ?_
      · rintro j y σ H4 hj hy ⟨v5, v6, v7, kvs, us, rfl, G4⟩
        have hj' : j < rows[x.2].length := by omega
        obtain ⟨r, r1, r2⟩ := row_at f3 (l := j) (r := rows[x.2][j]) (List.getElem?_eq_getElem hj')
        rw [hy] at r1
        cases r1
        have okr := ok.row _ (List.getElem_mem xl) _ (List.getElem_mem hj')
        have n6 := ok.n6
        refine ⟨_, gt (G4.at r2 (tn r2)) (by decide) rfl, by rw [bs_len, bs_len]; exact le_line (by omega), ?_⟩
        rw [bs_app]
        have wl : (x.1 ++ rows[x.2][j].1).length = x.1.length + n := by rw [List.length_append, okr.1]
        have er : rows[x.2][j]? = some rows[x.2][j] := List.getElem?_eq_getElem hj'
        generalize hwd : x.1 ++ rows[x.2][j].1 = wd at wl ⊢
        refine ⟨_, lenS (le_line (by omega)), by omega, by omega, ?_⟩
        have cnt : ((wd.length : Int) - (L : Nat) + 1).toNat = wd.length + 1 - L := by omega
        rw [cnt]
        refine for_by (it_range 0 _) (fun m σ H5 => ∃ (v7 : Option V) (kvs : List (Key × V)) (us : List (List Bool)), σ = [some (.ref a), some (.int (L : Nat)), some (.ref D), some (.str (bs x.1)), some (.int (x.2 : Nat)), some (.ref r), some (.str (bs wd)), v7] ∧
          Ds H2 H5 D kvs us L (fun u => ((∃ (j : Nat) (x r : List Bool × Nat), j < i ∧ xs[j]? = some x ∧ r ∈ rows.getD x.2 [] ∧ ∃ p q, x.1 ++ r.1 = p ++ u ++ q ∧ u.length = L) ∨ ∃ j' r, j' < j ∧ rows[x.2][j']? = some r ∧ ∃ p q, x.1 ++ r.1 = p ++ u ++ q ∧ u.length = L) ∨ ∃ m', m' < m ∧ u = (wd.drop m').take L))
          ⟨v7, kvs, us, rfl, G4.cong fun u => ⟨.inl, fun z => z.elim id fun ⟨_, h, _⟩ => absurd h (Nat.not_lt_zero _)⟩⟩ (fun _ _ _ _ _ => trivial) ?_ ?_
        · rintro m z σ H5 hm hz ⟨v7, kvs, us, rfl, G5⟩
          rw [List.length_map, List.length_range] at hm
          have ez : z = V.int (m : Nat) := by
            rw [List.getElem?_map, List.getElem?_range hm] at hz
            have := Option.some.inj hz
            rw [← this]; simp
          subst ez
          have z2 : Txt.slice (bs wd) (some (m : Int)) (some ((m : Int) + (L : Nat))) = bs ((wd.drop m).take L) := by
            rw [bs_mid (by omega) (by omega) (by omega)]
            congr 2
            omega
          have kl := G5.few (m := 8) l8
          refine ⟨by rw [bs_len]; exact le_line (by omega), .inr ⟨D, upd H5 D (.dK (putK kvs (tk ((wd.drop m).take L)) (.bl true))), rfl, by rw [z2]; exact DPut.k (k := tk ((wd.drop m).take L)) G5.hD (lt_line (Nat.le_trans kl (by decide))), ?_⟩⟩
          refine ⟨_, _, _, rfl, (G5.put (by rw [List.length_take, List.length_drop]; omega)).cong fun u => ?_⟩
          rw [or_assoc]
          refine or_congr Iff.rfl ⟨?_, ?_⟩
          · rintro (⟨m', h, e⟩ | e)
            · exact ⟨m', by omega, e⟩
            · exact ⟨m, by omega, e⟩
          · rintro ⟨m', h, e⟩
            by_cases em : m' = m
            · subst em; exact .inr e
            · exact .inl ⟨m', by omega, e⟩
        · rintro σ H5 ⟨v7, kvs, us, rfl, G5⟩
          rw [List.length_map, List.length_range] at G5
          refine ⟨_, _, _, kvs, us, rfl, G5.cong fun u => ?_⟩
          rw [or_assoc]
          refine or_congr Iff.rfl ⟨?_, ?_⟩
          · rintro (⟨j', r', h, e⟩ | ⟨m', h, e⟩)
            · exact ⟨j', r', by omega, e⟩
            · obtain ⟨p, q', e1, e2⟩ := Om.fac_idx.mp ⟨m', by omega, e⟩
              exact ⟨j, _, by omega, er, p, q', hwd.trans e1, e2⟩
          · rintro ⟨j', r', h, e, p, q', e1, e2⟩
            by_cases ej : j' = j
            · subst ej
              rw [er] at e
              cases e
              obtain ⟨m', h1, h2⟩ := Om.fac_idx.mpr ⟨p, q', hwd.symm.trans e1, e2⟩
              exact .inr ⟨m', by omega, h2⟩
            · exact .inl ⟨j', r', by omega, e, p, q', e1, e2⟩
      · rintro σ H4 ⟨v5, v6, v7, kvs, us, rfl, G4⟩
        refine ⟨_, _, _, _, _, kvs, us, rfl, G4.cong fun u => ⟨?_, ?_⟩⟩
        · rintro (⟨j', x', r', h, e⟩ | ⟨j', r', h, e, e'⟩)
          · exact ⟨j', x', r', by omega, e⟩
          · exact ⟨i, x, r', by omega, exi, by rw [eg]; exact List.mem_of_getElem? e, e'⟩
        · rintro ⟨j', x', r', h, e, e', e''⟩
          by_cases ej : j' = i
          · subst ej
            rw [exi] at e
            cases e
            rw [eg] at e'
            obtain ⟨j2, hj2⟩ := List.mem_iff_getElem?.mp e'
            exact .inr ⟨j2, r', by rw [rl]; exact (List.getElem?_eq_some_iff.mp hj2).1, hj2, e''⟩
          · exact .inl ⟨j', x', r', by omega, e, e', e''⟩
    · rintro σ H3 ⟨v3, v4, v5, v6, v7, kvs, us, rfl, G⟩
      refine .inl ⟨_, G.hD, trivial, fun o => ?_⟩
      rw [List.length_map] at G
      have t3 : Tab P0 (lamPos lamTb) qTb (upd H3 D (.frz o (.dK kvs))) := by
        rcases t2 with e | ⟨c', e1, e2⟩
        · exact .inl (by rw [upd_ne (Ne.symm DP)]; exact G.at e (Ne.symm DP))
        · have cD : c' ≠ D := ne_of e2 D2 (fun z => nomatch z)
          exact .inr ⟨c', by rw [upd_ne (Ne.symm DP)]; exact G.at e1 (Ne.symm DP), by rw [upd_ne cD]; exact G.at e2 cD⟩
      refine q D o kvs us _ (fun c u n e => ?_) t3 hD upd_same G.kz fun u => ?_
      · have cD := ne_of_none e hD
        rw [upd_ne cD]
        exact G.at (s2 _ _ n (s0 _ _ e)) cD
      · rw [G.iff, ← Om.stand_iff l1]
        unfold Om.Stand
        constructor
        · rintro ⟨j, x, r, h, e, hr', p, q', e1, e2⟩
          exact ⟨x.1, x.2, r, p, q', (hx x).mp (List.mem_of_getElem? e), hr', e1, e2⟩
        · rintro ⟨t, s, r, p, q', h, hr', e1, e2⟩
          obtain ⟨j, hj⟩ := List.mem_iff_getElem?.mp ((hx (t, s)).mpr h)
          exact ⟨j, (t, s), r, by rw [bl]; exact (List.getElem?_eq_some_iff.mp hj).1, hj, hr', p, q', e1, e2⟩
  · exact h.elim
end

end K40
end
section
set_option Elab.async false
set_option linter.all false
set_option maxRecDepth 100000
set_option maxHeartbeats 4000000
namespace K40
open PySem L2
section
variable {P : Program} {w : World} {K : PySem.W.Frag} {mg : Str → Option Value} {base : Heap}
abbrev sMark : Stmt := top 5
def spMark (P0 : Addr) : Sp := fun vs H Q _ => match vs with
  | [cv, t] => (∃ (k n : Nat) (rows : Om.Rows) (u : List Bool), t = .str (bs u) ∧ 1 ≤ u.length ∧ u.length ≤ 8 ∧ DV H cv (codeD k n rows) ∧ Om.CodeOk k n rows ∧ Tab P0 (lamPos lamTb) qTb H ∧
      ∀ (b : Bool) H', SameT P0 H H' → Tab P0 (lamPos lamTb) qTb H' → (b = true ↔ ¬ Om.Fac rows u) → Q (.bl b) H') ∨
    (∃ Tx, tyN H t = some Tx ∧ Tx ≠ "str" ∧ Q (.bl false) H) ∨ ∃ z : Str, t = .str z ∧ z.length ≤ 100 ∧ (z.length = 0 ∨ 8 < z.length ∨ Txt.stripChars z ("01" : Str) ≠ ("" : Str)) ∧ Q (.bl false) H
  | _ => False
theorem scMark : FnScope ["code", "thing"] ["code", "thing"] (defScope sMark) := ⟨rfl, rfl, rfl, by decide +kernel, rfl, by decide +kernel, by decide +kernel⟩
local macro_rules | `(tactic| walk_at "T.n") => `(tactic| with_reducible first | exact vn "code" 0 | exact vn "thing" 1)
local macro_rules | `(tactic| walk_at "T.e") => `(tactic| ((with_reducible refine' e_gint ?a0 ?a9); (case a0 => assumption); (case a9 => rfl)))
local macro_rules | `(tactic| walk_at "T.cmp") => `(tactic| ((with_reducible refine' op_notInDict ?a0); (case a0 => exact Room.units (by assumption))))
theorem ok_mark {P0 : Addr} (D : FnX K mg "is_mark" sMark ["code", "thing"]) (g1 : mg "len" = none) (g2 : mg "isinstance" = none) (g3 : mg "str" = none) (g4 : ∃ tk, mg "LONGEST" = some (.int 8 tk)) (c1 : Can P w K mg base "standing" 5 ["code", "length"] (spStand P0)) : Can P w K mg base "is_mark" 6 ["code", "thing"] (spMark P0) := by
  refine can_fn (k := 5) D scMark (fun vs H Q E h => ?_) (fun f0 cdv A outer s H vs Q E hr h => ?_)
  all_goals
    unfold spMark at h
    split at h
  · rfl
  · exact h.elim
  · rename_i cv t
    have nd := scMark.nd
    refine ⟨_, (by walk_at "T.top"), ?_⟩
    rcases h with ⟨k, n, rows, u, rfl, u1, u8, hc, ok, tb, q⟩ | ⟨Tx, ht, ns, q⟩ | ⟨z, rfl, z100, hz, q⟩
    · refine ⟨"str", rfl, by decide, ?_⟩
      refine ite2 (fun z => absurd z (by decide)) (fun _ => ?_)
      refine ⟨_, lenS (le_line (by omega)), ?_⟩
      refine ite2 (fun _ => ?_) (fun z => absurd (decide_eq_true (by omega)) z)
      refine ite2 (fun z => absurd z (by rw [decide_eq_true (by omega)]; decide)) (fun _ => ?_)
      refine ⟨rfl, by rw [bs_len]; exact le_line (by omega), ?_⟩
      refine ite2 (fun z => absurd z (by rw [decide_eq_true (show Txt.stripChars (bs u) ("01" : Str) = ("" : Str) by rw [strip01, bs_nil])]; decide)) (fun _ => ?_)
      refine ⟨_, lenS (le_line (by omega)), k, n, rows, u.length, rfl, u1, u8, hc, ok, tb, fun d o kvs us H' s1 t1 nd hd ks iff => ?_⟩
      refine ⟨d, _, rfl, .inl ⟨kvs, tk u, .inr ⟨o, hd⟩, rfl, rfl⟩, ?_⟩
      rw [ks.has tk_inj u]
      refine q _ _ s1 t1 ?_
      rw [Bool.not_eq_true', decide_eq_false_iff_not, iff u]
      exact ⟨fun h z => h ⟨rfl, z⟩, fun h z => h z.2⟩
    · refine ⟨Tx, ht, by decide, ?_⟩
      have e : (!(Tx == "str" || (Tx == "bool" && "str" == "int"))) = true := by simp [ns]
      refine ite2 (fun _ => ?_) (fun z => absurd e z)
      exact ite2 (fun _ => q) (fun z => absurd rfl z)
    · have hl : lenV H (.str z) = some z.length := by
        unfold lenV
        simp only []
        rw [if_pos (le_line (by omega))]
      refine ⟨"str", rfl, by decide, ?_⟩
      refine ite2 (fun z => absurd z (by decide)) (fun _ => ?_)
      refine ⟨_, hl, ?_⟩
      refine ite2 (fun h1 => ?_) (fun h1 => ?_)
      · have h1 : 1 ≤ z.length := by
          have := of_decide_eq_true h1
          omega
        refine ite2 (fun h2 => ?_) (fun h2 => ?_)
        · exact ite2 (fun _ => q) (fun z => absurd rfl z)
        · have h2 : z.length ≤ 8 := by
            by_cases y : z.length ≤ 8
            · exact y
            · exact absurd (by rw [decide_eq_false (by omega)]; rfl) h2
          refine ⟨rfl, le_line (by omega), ?_⟩
          have hs : Txt.stripChars z ("01" : Str) ≠ ("" : Str) := by
            rcases hz with y | y | y
            · omega
            · omega
            · exact y
          exact ite2 (fun _ => q) (fun y => absurd (by rw [decide_eq_false hs]; rfl) y)
      · refine ite2 (fun _ => ?_) (fun y => absurd rfl y)
        exact ite2 (fun _ => q) (fun z => absurd rfl z)
  · exact h.elim
end

end K40
end
section
set_option Elab.async false
set_option linter.all false
set_option maxRecDepth 100000
set_option maxHeartbeats 4000000
namespace Om
end Om
namespace L2
open PySem PySem.Spec PyProof.Rows
theorem Ds.other {H0 H : Hp} {D E : Addr} {kvs : List (Key × V)} {us : List (List Bool)} {L : Nat} {S : List Bool → Prop} {o : HO} (g : Ds H0 H D kvs us L S) (n : H0 E = none) (ne : E ≠ D) : Ds H0 (upd H E o) D kvs us L S :=
  ⟨fun b u nb e => by rw [upd_ne (ne_of_none e n)]; exact g.s b u nb e, by rw [upd_ne (Ne.symm ne)]; exact g.hD, g.kz, g.ul, g.iff⟩
section
variable {H2 H H1 : Hp} {D E Mo : Addr} {kvs : List (Key × V)} {us : List (List Bool)} {L : Nat} {S : List Bool → Prop} {ekvs : List (Key × V)} {vs : List (List Bool)} {M : Nat} {B B' : List Bool → Prop} {mkvs : List (List Key × V)} {ys : List (List Bool × Nat)} {A A' : List Bool × Nat → Prop}
end
end L2
end
section
set_option Elab.async false
set_option linter.all false
set_option maxRecDepth 100000
set_option maxHeartbeats 4000000
namespace L2
open PySem PySem.Spec PyProof.Rows
def nw (H H' : Hp) : Hp := fun b => match H b with
  | none => H' b
  | some _ => none
theorem nw.at {H H' : Hp} {b : Addr} (h : H b = none) : nw H H' b = H' b := by unfold nw; rw [h]
theorem nw.old {H H' : Hp} {b : Addr} {o : HO} (h : H b = some o) : nw H H' b = none := by unfold nw; rw [h]
theorem nw.inv {H H' : Hp} {b : Addr} {o : HO} (h : nw H H' b = some o) : H b = none ∧ H' b = some o := by
  cases e : H b with
  | none => rw [nw.at e] at h; exact ⟨rfl, h⟩
  | some u => rw [nw.old e] at h; cases h
theorem nw.same {H H' : Hp} : Same (nw H H') H' := fun b o e => (nw.inv e).2
theorem nw.up {H H1 H2 : Hp} (s : Same H1 H2) : Same (nw H H1) (nw H H2) := fun b o e => by rw [nw.at (nw.inv e).1]; exact s _ _ (nw.inv e).2
theorem nw.down {H H1 H2 : Hp} (s : Same H H1) : Same (nw H1 H2) (nw H H2) := fun b o e => by rw [nw.at (s.free (nw.inv e).1)]; exact (nw.inv e).2
def tLit (d : PyData) : TE := fun _ H Q => ∀ v H', Same H H' → DV (nw H H') v d → Q v H'
def tLits (n : Nat) (ds : List PyData) : TA := fun _ H Q => ∀ vs H', Same H H' → DVs (nw H H') vs ds → vs.length = n → Q vs H'
section
variable {X : Cx} {pos : Pos} {e : Expr} {es : List Expr} {n : Nat} {d : PyData} {ds : List PyData}
theorem li_int {i : Int} {j : Nat} : PE X (.Constant (.int i) j pos) (tLit (.int i)) := fun pins s σ H Q I h => pe_int pins s σ H Q I (h _ _ (Same.refl _) (.int _))
theorem li_str {x : Str} {j : Nat} : PE X (.Constant (.str x) j pos) (tLit (.str x)) := fun pins s σ H Q I h => pe_str pins s σ H Q I (h _ _ (Same.refl _) (.str _))
theorem li_nil : PA X [] (tLits 0 []) := fun p pins s σ H Q I h => pa_nil p pins s σ H Q I (h _ _ (Same.refl _) .nil rfl)
theorem li_cons (he : PE X e (tLit d)) (hr : PA X es (tLits n ds)) (hs : starEach (e :: es) X.env = (false, eval e X.env) :: starEach es X.env := by kernel_rfl) : PA X (e :: es) (tLits (n + 1) (d :: ds)) := fun p pins s σ H Q I h =>
  pa_cons he hr hs p pins s σ H Q I fun v H1 s1 d1 vs H2 s2 d2 l2 => h (v :: vs) H2 (s1.trans s2) (.cons (d1.mono (nw.up s2)) (d2.mono (nw.down s1))) (by rw [List.length_cons, l2])
theorem li_tup {x1} (h : PA X es (tLits n ds)) (hn : n ≤ 1000) : PE X (.Tuple es x1 pos) (tLit (.tuple ds)) := fun pins s σ H Q I q =>
  pe_tup h pins s σ H Q I fun vs H1 s1 d1 l1 => ⟨le_line (by omega), fun p hp => q _ _ (s1.trans (Same.upd hp)) (.tup (by rw [nw.at (s1.free hp)]; exact upd_same) (d1.mono (nw.up (Same.upd hp))))⟩
theorem li_lst (h : PA X es (tLits n ds)) (hn : n ≤ 1000) : PE X (.List es pos) (tLit (.list ds)) := fun pins s σ H Q I q =>
  pe_lst h pins s σ H Q I fun vs H1 s1 d1 l1 => ⟨le_line (by omega), fun p hp => q _ _ (s1.trans (Same.upd hp)) (.lst (by rw [nw.at (s1.free hp)]; exact upd_same) (d1.mono (nw.up (Same.upd hp))))⟩
end
end L2
end
section
set_option Elab.async false
set_option linter.all false
set_option maxRecDepth 100000
set_option maxHeartbeats 4000000
namespace L2
open PySem PySem.Spec PyProof.Rows
theorem SqL.wo1 {K : PySem.W.Frag} {H : Hp} {a P : Addr} {xs : List V} {ps : Array Value} (h : SqL K H a xs) (hP : H P = some (.tbl ps)) : SqL K (wo1 P H) a xs := by
  rcases h with (h | ⟨o, h⟩) | h
  · exact .inl (.inl (wo1.at h (ne_of h hP (fun z => nomatch z))))
  · exact .inl (.inr ⟨o, wo1.at h (ne_of h hP (fun z => nomatch z))⟩)
  · exact .inr h
section
variable {H H' : Hp} {kvs : List (Key × V)} {ls : List Nat} {rows : Om.Rows}
end
end L2
end
section
set_option Elab.async false
set_option linter.all false
set_option maxRecDepth 100000
set_option maxHeartbeats 4000000
namespace L2
open PySem PySem.Spec PyProof.Rows PySem.W PySem.Calls
def allS : Nat → List (List Bool)
  | 0 => [[]]
  | L + 1 => (allS L).map (false :: ·) ++ (allS L).map (true :: ·)
theorem allS_mem : ∀ (L : Nat) (u : List Bool), u ∈ allS L ↔ u.length = L
  | 0, u => by simp [allS, List.length_eq_zero_iff]
  | L + 1, u => by
    unfold allS
    rw [List.mem_append, List.mem_map, List.mem_map]
    constructor
    · rintro (⟨x, hx, rfl⟩ | ⟨x, hx, rfl⟩)
      · simp [(allS_mem L x).mp hx]
      · simp [(allS_mem L x).mp hx]
    · intro h
      cases u with
      | nil => cases h
      | cons b x =>
        have hx := (allS_mem L x).mpr (by simpa using h)
        cases b
        · exact .inl ⟨x, hx, rfl⟩
        · exact .inr ⟨x, hx, rfl⟩
theorem allS_len : ∀ L, (allS L).length = 2 ^ L
  | 0 => rfl
  | L + 1 => by unfold allS; rw [List.length_append, List.length_map, List.length_map, allS_len L, Nat.pow_succ]; omega
end L2
end
section
set_option Elab.async false
set_option linter.all false
set_option maxRecDepth 100000
set_option maxHeartbeats 4000000
namespace K40
open PySem L2
section
variable {P : Program} {w : World} {K : PySem.W.Frag} {mg : Str → Option Value} {base : Heap}
abbrev sAll : Stmt := top 1
def spAll : Sp := fun vs H Q _ => match vs with
  | [.int len] => ∃ L : Nat, len = (L : Nat) ∧ L ≤ 8 ∧ ∀ l H', Same H H' → H l = none → H' l = some (WS (allS L)) → Q (.ref l) H'
  | _ => False
theorem scAll : FnScope ["length", "found", "place"] ["length"] (defScope sAll) := ⟨rfl, rfl, rfl, by decide +kernel, rfl, by decide +kernel, by decide +kernel⟩
local macro_rules | `(tactic| walk_at "T.n") => `(tactic| with_reducible first | exact vn "length" 0 | exact vn "found" 1)
local macro_rules | `(tactic| walk_at "T.gn") => `(tactic| with_reducible first | exact gn "found" 1 (by with_unfolding_all assumption) | exact gn "place" 2 (by with_unfolding_all assumption))
local macro_rules | `(tactic| walk_at "T.n") => `(tactic| with_reducible first | exact vn "signs" 0)
local macro_rules | `(tactic| walk_at "T.gn") => `(tactic| with_reducible first | exact gn "signs" 0 (by with_unfolding_all assumption))
local macro_rules | `(tactic| walk_at "T.c") => `(tactic| (have ndc : (["signs"] : List Str).Nodup := (by decide +kernel)); ((with_reducible refine' c_comp ["signs"] [] ?b1 ?b2 (fun cl C s H fp => ?b3) (fun cl C s H fp => ?b4) (fun cl C s H fp => ?b5)); (case b1 => exact ndc); (case b2 => walk_at "T.i"); (case b3 => walk_at "T.g"); (case b4 => walk_at "T.pf"); (case b5 => walk_at "T.e")))
theorem ok_all (D : FnX K mg "all_signs" sAll ["length"]) (g1 : mg "range" = none) : Can P w K mg base "all_signs" 1 ["length"] spAll := by
  refine can_fn (k := 0) D scAll (fun vs H Q E h => ?_) (fun f cdv A outer s H vs Q E hr h => ?_)
  all_goals
    unfold spAll at h
    split at h
  · rfl
  · exact h.elim
  · rename_i len
    obtain ⟨L, rfl, l8, q⟩ := h
    have nd := scAll.nd
    refine ⟨_, (by walk_at "T.top"), ?_⟩
    refine ⟨le_line (Nat.le_of_ble_eq_true rfl), fun ev0 hev0 => ?_⟩
    try dsimp only [gName, tNext]
    refine ⟨by omega, by omega, for_by (it_range 0 _) (fun i σ H2 => ∃ v2 ev, σ = [some (.int (L : Nat)), some (.ref ev), v2] ∧ Same H H2 ∧ H ev = none ∧ H2 ev = some (WS (allS i)) ∧ i ≤ L)
      ⟨none, ev0, rfl, Same.upd hev0, hev0, by rw [upd_same, bs_nil]; rfl, Nat.zero_le _⟩ (fun _ _ _ _ _ => trivial) ?_ ?_⟩
    · rintro i x σ H2 hi hx ⟨v2, ev, rfl, s2, nev, hev, him⟩
      have hi' : i < L := by simpa using hi
      have evw : ∀ w ∈ allS i, w.length = i := fun w hw => (allS_mem i w).mp hw
      have p256 : (allS i).length ≤ 256 := by
        rw [allS_len]
        calc 2 ^ i ≤ 2 ^ 8 := Nat.pow_le_pow_right (by decide) (by omega)
          _ ≤ 256 := by decide
      have e1 : allS (i + 1) = (allS i).map (fun w => [false] ++ w) ++ (allS i).map (fun w => [true] ++ w) := rfl
      generalize allS i = evs at hev evw p256 e1
      have step : ∀ (b : Bool) (sgn : Str), sgn = bs [b] → ∀ (H3 : Hp) (D1 : Addr) (ys : List V) (i' : Nat) (x : V), (evs.map fun w => V.str (bs w))[i']? = some x → ∀ C : VK, C ((fun x => match x with | V.str z => V.str (sgn ++ z) | _ => x) x) (upd H3 D1 (.lst ys)) → rAddU (.str sgn) x (upd H3 D1 (.lst ys)) C := by
        intro b sgn hb H3 D1 ys i' x hx C c
        rw [List.getElem?_map] at hx
        obtain ⟨w0, hw0, rfl⟩ := Option.map_eq_some_iff.mp hx
        refine ⟨?_, c⟩
        rw [hb, bs_len, bs_len, evw _ (List.mem_of_getElem? hw0)]
        exact le_line (by simp; omega)
      have outl : ∀ (b : Bool) (sgn : Str), sgn = bs [b] → (evs.map fun w => V.str (bs w)).map (fun x => match x with | V.str z => V.str (sgn ++ z) | _ => x) = (evs.map fun w => [b] ++ w).map fun w => V.str (bs w) := by
        intro b sgn hb
        rw [List.map_map, List.map_map]
        apply List.map_congr_left
        intro w0 _
        show V.str (sgn ++ bs w0) = V.str (bs ([b] ++ w0))
        rw [hb, bs_app]
      refine ⟨⟨_, SqL.of hev⟩, fun D1 hD1 => ?_⟩
      refine comp_map1 (it_list _ ev (evs.map fun w => V.str (bs w))) (fun x => match x with | V.str z => V.str (("0" : Str) ++ z) | _ => x) (by rw [ws_len]; exact le_line (by omega)) (fun o => SqL.upd hev hD1) (fun i' x ys hx C c => step false _ bs_0 _ _ _ _ _ hx C c) ?_
      have hev1 : ∀ o, upd H2 D1 o ev = some (WS evs) := fun o => Same.upd hD1 _ _ hev
      refine ⟨⟨_, SqL.of (hev1 _)⟩, fun D2 hD2 => ?_⟩
      refine comp_map1 (it_list _ ev (evs.map fun w => V.str (bs w))) (fun x => match x with | V.str z => V.str (("1" : Str) ++ z) | _ => x) (by rw [ws_len]; exact le_line (by omega)) (fun o => SqL.upd (hev1 _) hD2) (fun i' x ys hx C c => step true _ bs_1 _ _ _ _ _ hx C c) ?_
      rw [outl false _ bs_0, outl true _ bs_1]
      have xD : D1 ≠ D2 := ne_of_none (H := upd H2 D1 (HO.lst ((evs.map fun w => [false] ++ w).map fun w => V.str (bs w)))) upd_same (by rw [outl false _ bs_0] at hD2; exact hD2)
      refine ⟨_, _, by rw [upd_ne xD, upd_same], upd_same, ?_, fun ev2 hev2 => ?_⟩
      · rw [ws_len, ws_len, List.length_map, List.length_map]; exact le_line (by omega)
      · rw [outl false _ bs_0] at hD2
        have sx : Same H (upd (upd H2 D1 (HO.lst ((evs.map fun w => [false] ++ w).map fun w => V.str (bs w)))) D2 (HO.lst ((evs.map fun w => [true] ++ w).map fun w => V.str (bs w)))) := s2.trans ((Same.upd hD1).trans (Same.upd hD2))
        exact ⟨some x, ev2, rfl, sx.trans (Same.upd hev2), sx.free hev2, by rw [upd_same, e1]; unfold WS; rw [List.map_append], hi'⟩
    · rintro σ H2 ⟨v2, ev, rfl, s2, nev, hev, him⟩
      have hn : ((List.range ((L : Int)).toNat).map fun i : Nat => V.int (0 + (i : Nat))).length = L := by simp
      rw [hn] at hev
      exact q ev H2 s2 nev hev
  · exact h.elim
end

end K40
end
section
set_option Elab.async false
set_option linter.all false
set_option maxRecDepth 100000
set_option maxHeartbeats 4000000
namespace K40
open PySem L2
noncomputable def markS (rows : Om.Rows) (L : Nat) : List (List Bool) := (allS L).filter fun u => @decide (¬ Om.Fac rows u) (Classical.propDecidable _)
theorem markS_of {rows : Om.Rows} {L : Nat} {kvs : List (Key × V)} {us : List (List Bool)} (ks : KS tk kvs us) (iff : ∀ u, u ∈ us ↔ u.length = L ∧ Om.Fac rows u) : (allS L).filter (fun u => !(valV kvs (tk u)).isSome) = markS rows L := by
  refine List.filter_congr fun u hu => ?_
  have ul := (allS_mem L u).mp hu
  rw [ks.has tk_inj u, Bool.eq_iff_iff, Bool.not_eq_true', decide_eq_false_iff_not, iff u]
  exact ⟨fun h => @decide_eq_true _ (Classical.propDecidable _) fun z => h ⟨ul, z⟩, fun h z => @of_decide_eq_true _ (Classical.propDecidable _) h z.2⟩
theorem markS_mem {rows : Om.Rows} {L : Nat} {u : List Bool} : u ∈ markS rows L ↔ u.length = L ∧ ¬ Om.Fac rows u := by
  unfold markS
  rw [List.mem_filter, allS_mem]
  exact ⟨fun h => ⟨h.1, @of_decide_eq_true _ (Classical.propDecidable _) h.2⟩, fun h => ⟨h.1, @decide_eq_true _ (Classical.propDecidable _) h.2⟩⟩
theorem markS_le {rows : Om.Rows} {L : Nat} (l8 : L ≤ 8) : (markS rows L).length ≤ 256 := by
  refine Nat.le_trans (List.length_filter_le _ _) ?_
  rw [allS_len]
  calc 2 ^ L ≤ 2 ^ 8 := Nat.pow_le_pow_right (by decide) l8
    _ ≤ 256 := by decide
def pkS (kvs : List (Key × V)) : V → Bool := fun v => match v with
  | .str z => !(valV kvs (.inr z)).isSome
  | _ => false
theorem pickS {kvs : List (Key × V)} (ws : List (List Bool)) : (ws.map fun w => V.str (bs w)).filter (pkS kvs) = (ws.filter fun u => !(valV kvs (tk u)).isSome).map fun w => V.str (bs w) := by
  rw [List.filter_map]; rfl
section
variable {P : Program} {w : World} {K : PySem.W.Frag} {mg : Str → Option Value} {base : Heap}
abbrev sMarks : Stmt := top 6
def spMarks (P0 : Addr) : Sp := fun vs H Q _ => match vs with
  | [cv, .int len] => ∃ (k n : Nat) (rows : Om.Rows) (L : Nat), len = (L : Nat) ∧ 1 ≤ L ∧ L ≤ 8 ∧ DV H cv (codeD k n rows) ∧ Om.CodeOk k n rows ∧ Tab P0 (lamPos lamTb) qTb H ∧
      ∀ l H', SameT P0 H H' → Tab P0 (lamPos lamTb) qTb H' → H l = none → H' l = some (WS (markS rows L)) → Q (.ref l) H'
  | _ => False
theorem scMarks : FnScope ["code", "length", "found"] ["code", "length"] (defScope sMarks) := ⟨rfl, rfl, rfl, by decide +kernel, rfl, by decide +kernel, by decide +kernel⟩
local macro_rules | `(tactic| walk_at "T.n") => `(tactic| with_reducible first | exact vn "code" 0 | exact vn "length" 1 | exact vn "found" 2)
local macro_rules | `(tactic| walk_at "T.gn") => `(tactic| with_reducible first | exact gn "found" 2 (by with_unfolding_all assumption))
local macro_rules | `(tactic| walk_at "T.n") => `(tactic| with_reducible first | exact vn "signs" 0 | exact vn "found" 1)
local macro_rules | `(tactic| walk_at "T.gn") => `(tactic| with_reducible first | exact gn "signs" 0 (by with_unfolding_all assumption))
local macro_rules | `(tactic| walk_at "T.c") => `(tactic| (have ndc : (["signs", "found"] : List Str).Nodup := (by decide +kernel)); ((with_reducible refine' c_comp ["signs", "found"] [2] ?b1 ?b2 (fun cl C s H fp => ?b3) (fun cl C s H fp => ?b4) (fun cl C s H fp => ?b5)); (case b1 => exact ndc); (case b2 => walk_at "T.i"); (case b3 => walk_at "T.g"); (case b4 => walk_at "T.pf"); (case b5 => walk_at "T.e")))
local macro_rules | `(tactic| walk_at "T.n") => `(tactic| with_reducible first | exact vn "code" 0 | exact vn "length" 1 | exact vn "found" 2 | exact vn "signs" 0 | exact vn "found" 1)
local macro_rules | `(tactic| walk_at "T.gn") => `(tactic| with_reducible first | exact gn "found" 2 (by with_unfolding_all assumption) | exact gn "signs" 0 (by with_unfolding_all assumption))
local macro_rules | `(tactic| walk_at "T.e") => `(tactic| ((with_reducible refine' e_gint ?a0 ?a9); (case a0 => assumption); (case a9 => rfl)))
local macro_rules | `(tactic| walk_at "T.cmp") => `(tactic| ((with_reducible refine' op_notInDict ?a0); (case a0 => exact Room.units (by assumption))))
theorem ok_marks {P0 : Addr} (D : FnX K mg "marks" sMarks ["code", "length"]) (g4 : ∃ tk, mg "LONGEST" = some (.int 8 tk)) (c1 : Can P w K mg base "standing" 5 ["code", "length"] (spStand P0)) (c2 : Can P w K mg base "all_signs" 1 ["length"] spAll) : Can P w K mg base "marks" 6 ["code", "length"] (spMarks P0) := by
  refine can_fn (k := 5) D scMarks (fun vs H Q E h => ?_) (fun f0 cdv A outer s H vs Q E hr h => ?_)
  all_goals
    unfold spMarks at h
    split at h
  · rfl
  · exact h.elim
  · rename_i cv len
    obtain ⟨k, n, rows, L, rfl, l1, l8, hc, ok, tb, q⟩ := h
    have nd := scMarks.nd
    refine ⟨_, (by walk_at "T.top"), ?_⟩
    refine ite2 (fun _ => ?_) (fun z => absurd (decide_eq_true (by omega)) z)
    refine ite2 (fun z => absurd z (by rw [decide_eq_true (by omega)]; decide)) (fun _ => ?_)
    refine ⟨k, n, rows, L, rfl, l1, l8, hc, ok, tb, fun d o kvs us H2 s2 t2 nd2 hd ks iff => ?_⟩
    refine ⟨L, rfl, l8, fun l H3 s3 nl hl => ?_⟩
    have hd3 := s3 _ _ hd
    have p256 : (allS L).length ≤ 256 := by
      rw [allS_len]
      calc 2 ^ L ≤ 2 ^ 8 := Nat.pow_le_pow_right (by decide) l8
        _ ≤ 256 := by decide
    refine ⟨⟨_, SqL.of hl⟩, fun D hD => ?_⟩
    refine comp_pick (it_list _ l _) (pkS kvs) (by rw [ws_len]; exact le_line (by omega)) (fun o => SqL.upd hl hD) (fun i x ys hx C c => ?_) (fun i x ys hx C c => c) ?_
    · rw [List.getElem?_map] at hx
      obtain ⟨u, _, rfl⟩ := Option.map_eq_some_iff.mp hx
      exact ⟨d, _, rfl, .inl ⟨kvs, tk u, .inr ⟨o, Same.upd hD _ _ hd3⟩, rfl, rfl⟩, c⟩
    · rw [pickS, markS_of ks iff]
      have D2 : H2 D = none := s3.free hD
      have DP : D ≠ P0 := fun z => by obtain ⟨ps, e⟩ := t2.tbl; rw [← z, D2] at e; cases e
      exact q D _ (s2.trans (s3.trans (Same.upd hD)).t) (t2.mono (s3.trans (Same.upd hD))) (s2.free D2 DP) upd_same
  · exact h.elim
end

end K40
end
section
set_option Elab.async false
set_option linter.all false
set_option maxRecDepth 100000
set_option maxHeartbeats 4000000
namespace K40
open PySem L2
section
variable {P : Program} {w : World} {K : PySem.W.Frag} {mg : Str → Option Value} {base : Heap}
abbrev sCopy : Stmt := top 17
def spCopyF : Sp := fun vs H Q _ => match vs with
  | [cv] => ∃ (k n : Nat) (rows : Om.Rows), DV H cv (codeD k n rows) ∧ rows.length ≤ 8 ∧ ∀ a b (qs : List Addr) H', Same H H' → H a = none → CopyOf H H' a b qs k n rows → Q (.ref a) H'
  | _ => False
theorem scCopy : FnScope ["code"] ["code"] (defScope sCopy) := ⟨rfl, rfl, rfl, by decide +kernel, rfl, by decide +kernel, by decide +kernel⟩
local macro_rules | `(tactic| walk_at "T.n") => `(tactic| with_reducible first | exact vn "code" 0)
local macro_rules | `(tactic| walk_at "T.n") => `(tactic| with_reducible first | exact vn "state" 0)
local macro_rules | `(tactic| walk_at "T.gn") => `(tactic| with_reducible first | exact gn "state" 0 (by with_unfolding_all assumption))
local macro_rules | `(tactic| walk_at "T.c") => `(tactic| (have ndc : (["state"] : List Str).Nodup := (by decide +kernel)); ((with_reducible refine' c_comp ["state"] [] ?b1 ?b2 (fun cl C s H fp => ?b3) (fun cl C s H fp => ?b4) (fun cl C s H fp => ?b5)); (case b1 => exact ndc); (case b2 => walk_at "T.i"); (case b3 => walk_at "T.g"); (case b4 => walk_at "T.pf"); (case b5 => walk_at "T.e")))
theorem ok_copy (D : FnX K mg "_law_copy" sCopy ["code"]) (g2 : mg "list" = none) : Can P w K mg base "_law_copy" 1 ["code"] spCopyF := by
  refine can_fn (k := 0) D scCopy (fun vs H Q E h => ?_) (fun f cdv A outer s H vs Q E hr h => ?_)
  all_goals
    unfold spCopyF at h
    split at h
  · rfl
  · exact h.elim
  · rename_i cv
    obtain ⟨k, n, rows, hc, rl, q⟩ := h
    have nd := scCopy.nd
    obtain ⟨a, b, ss, rfl, ha, hb, hss⟩ := code_inv hc
    have sl : ss.length = rows.length := by rw [hss.length, List.length_map]
    refine ⟨_, (by walk_at "T.top1"), ?_⟩
    refine ⟨_, gt ha (by decide) rfl, _, gt ha (by decide) rfl, _, gt ha (by decide) rfl, ⟨_, SqL.of hb⟩, fun D1 hD1 => ?_⟩
    refine comp_by (it_list _ b ss) (fun i τ H2 ys => (∃ v, τ = [v]) ∧ Same H H2 ∧ H2 D1 = some (.lst ys) ∧ ∃ qs : List Addr, ys = qs.map V.ref ∧ qs.length = i ∧ qs.Nodup ∧ (∀ q ∈ qs, H q = none ∧ q ≠ D1) ∧ ∀ (j : Nat) (st : List (List Bool × Nat)), j < i → rows[j]? = some st → ∃ q rs, qs[j]? = some q ∧ H2 q = some (.lst rs) ∧ DVs H rs (st.map rowD))
      (by rw [sl]; exact le_line (by omega)) ⟨⟨none, rfl⟩, Same.upd hD1, upd_same, [], rfl, rfl, List.nodup_nil, (fun q hq => nomatch hq), fun j st h => absurd h (Nat.not_lt_zero _)⟩ ?_ ?_ ?_
    · rintro i τ H2 ys hi ⟨_, s2, h2, qs, rfl, ql, _⟩
      exact ⟨SqL.of (s2 _ _ hb), h2, by rw [List.length_map]; omega⟩
    · rintro i x τ H2 ys hi hx ⟨⟨v, rfl⟩, s2, h2, qs, rfl, ql, qn, qf, hst⟩
      have hi' : i < rows.length := by rw [← sl]; exact hi
      obtain ⟨p, rs, e1, e2, e3⟩ := state_at hss (s := i) (st := rows[i]) (List.getElem?_eq_getElem hi')
      rw [hx] at e1
      cases e1
      refine ⟨rs, .inl (s2 _ _ e2), fun l hl' => ?_⟩
      have dl : D1 ≠ l := ne_of_none h2 hl'
      have lq : l ∉ qs := fun z => by
        obtain ⟨j, hj⟩ := List.mem_iff_getElem?.mp z
        have jl := (List.getElem?_eq_some_iff.mp hj).1
        have jr : j < rows.length := by omega
        obtain ⟨q', rs', a1, a2, _⟩ := hst j rows[j] (by omega) (List.getElem?_eq_getElem jr)
        rw [hj] at a1
        cases a1
        rw [hl'] at a2; cases a2
      have s3 := s2.trans (Same.upd (o := .lst rs) hl')
      have il : qs.length = i := ql
      refine ⟨by rw [upd_ne dl]; exact h2, ⟨_, rfl⟩, s3.own hD1, upd_same, qs ++ [l], by rw [List.map_append]; rfl, by simp [ql], ?_, fun q' hq' => ?_, fun j st hj hr => ?_⟩
      · rw [List.nodup_append]
        refine ⟨qn, by simp, fun x hx y hy z => ?_⟩
        have : y = l := by simpa using hy
        subst this
        subst z
        exact lq hx
      · rcases List.mem_append.mp hq' with z | z
        · exact qf q' z
        · have : q' = l := by simpa using z
          subst this
          exact ⟨s2.free hl', Ne.symm dl⟩
      · by_cases e : j = i
        · subst e
          rw [List.getElem?_eq_getElem hi'] at hr
          cases hr
          exact ⟨l, rs, by rw [List.getElem?_append_right (by omega), il]; simp, by rw [upd_ne (Ne.symm dl), upd_same], e3⟩
        · obtain ⟨q', rs', a1, a2, a3⟩ := hst j st (by omega) hr
          refine ⟨q', rs', by rw [List.getElem?_append_left (by omega)]; exact a1, ?_, a3⟩
          rw [upd_ne (qf q' (List.mem_of_getElem? a1)).2, upd_ne (ne_of_none a2 hl')]
          exact a2
    · rintro τ H2 ys ⟨_, s2, h2, qs, rfl, ql, qn, qf, hst⟩
      rw [sl] at ql hst
      refine ⟨le_line (Nat.le_of_ble_eq_true rfl), fun p hp => ?_⟩
      have s3 := s2.trans (Same.upd (o := .tup [.int (k : Nat), .int (n : Nat), .ref D1]) hp)
      refine q p D1 qs _ s3 (s2.free hp) ⟨upd_same, hD1, by rw [upd_ne (ne_of_none h2 hp)]; exact h2, qn, qf, ql, fun j st hr => ?_⟩
      obtain ⟨q', rs', a1, a2, a3⟩ := hst j st (List.getElem?_eq_some_iff.mp hr).1 hr
      exact ⟨q', rs', a1, by rw [upd_ne (ne_of_none a2 hp)]; exact a2, a3.mono s3⟩
  · exact h.elim
end

end K40
end
section
set_option Elab.async false
set_option linter.all false
set_option maxRecDepth 100000
set_option maxHeartbeats 4000000
namespace K40
open PySem L2
section
variable {P : Program} {w : World} {K : PySem.W.Frag} {mg : Str → Option Value} {base : Heap}
abbrev sCell : Stmt := top 12
def spCell (K : PySem.W.Frag) : Sp := fun vs H Q _ => match vs with
  | [.ref a, .int k] => ∃ ns : List Int, SqL K H a (ns.map V.int) ∧ 0 ≤ k ∧ k ≤ 1000 ∧ ∀ c, Q (.int c) H
  | _ => False
theorem scCell : FnScope ["script", "k"] ["script", "k"] (defScope sCell) := ⟨rfl, rfl, rfl, by decide +kernel, rfl, by decide +kernel, by decide +kernel⟩
local macro_rules | `(tactic| walk_at "T.n") => `(tactic| with_reducible first | exact vn "script" 0 | exact vn "k" 1)
local macro_rules | `(tactic| walk_at "T.b") => `(tactic| ((with_reducible refine' fn_lenS ?a0 ?a9 ?a1); (case a0 => with_reducible assumption); (case a9 => rfl); (case a1 => walk_at "T.a")))
local macro_rules | `(tactic| walk_at "T.ty") => `(tactic| ((with_reducible refine' ix_atS ?a1 ?a2); (case a1 => walk_at "T.e"); (case a2 => walk_at "T.e")))
theorem ok_cell (D : FnX K mg "_law_cell" sCell ["script", "k"]) (g1 : mg "len" = none) : Can P w K mg base "_law_cell" 1 ["script", "k"] (spCell K) := by
  refine can_fn (k := 0) D scCell (fun vs H Q E h => ?_) (fun f cdv A outer s H vs Q E hr h => ?_)
  all_goals
    unfold spCell at h
    split at h
  · rfl
  · exact h.elim
  · rename_i a k
    obtain ⟨ns, hS, h0, h1, q⟩ := h
    have nd := scCell.nd
    refine ⟨_, (by walk_at "T.top"), ?_⟩
    refine ⟨_, hS, ite2 (fun h2 => ?_) (fun h2 => ?_)⟩
    · have h2' : k < ((ns.map V.int).length : Int) := of_decide_eq_true h2
      rw [List.length_map] at h2'
      have h3 : k.toNat < ns.length := by omega
      exact ⟨_, .int ns[k.toNat], hS, atI_int h0 (by rw [List.getElem?_map, List.getElem?_eq_getElem h3]; rfl), q _⟩
    · exact ⟨.inl ⟨by decide, by decide⟩, .inr ⟨by omega, by omega⟩, .inl ⟨by decide, by decide⟩, q _⟩
  · exact h.elim
end

end K40
end
section
set_option Elab.async false
set_option linter.all false
set_option maxRecDepth 100000
set_option maxHeartbeats 4000000
namespace K40
open PySem L2
section
variable {P : Program} {w : World} {K : PySem.W.Frag} {mg : Str → Option Value} {base : Heap}
abbrev sMixed : Stmt := top 13
def spMixed : Sp := fun vs H Q _ => match vs with
  | [.int _, .int k] => 0 ≤ k ∧ k ≤ 1000 ∧ ∀ c, Q (.int c) H
  | _ => False
theorem scMixed : FnScope ["cell", "k", "number"] ["cell", "k"] (defScope sMixed) := ⟨rfl, rfl, rfl, by decide +kernel, rfl, by decide +kernel, by decide +kernel⟩
local macro_rules | `(tactic| walk_at "T.n") => `(tactic| with_reducible first | exact vn "cell" 0 | exact vn "k" 1 | exact vn "number" 2)
local macro_rules | `(tactic| walk_at "T.gn") => `(tactic| with_reducible first | exact gn "number" 2 (by with_unfolding_all assumption))
theorem ok_mixed (D : FnX K mg "_law_mixed" sMixed ["cell", "k"]) : Can P w K mg base "_law_mixed" 1 ["cell", "k"] spMixed := by
  refine can_fn (k := 0) D scMixed (fun vs H Q E h => ?_) (fun f cdv A outer s H vs Q E hr h => ?_)
  all_goals
    unfold spMixed at h
    split at h
  · rfl
  · exact h.elim
  · rename_i c k
    obtain ⟨h0, h1, q⟩ := h
    have nd := scMixed.nd
    refine ⟨_, (by walk_at "T.top"), ?_⟩
    refine ⟨.inr ⟨by decide, by decide⟩, .inl ⟨by decide, by decide⟩, .inr ⟨by omega, by omega⟩, .inl ⟨by decide, by decide⟩, (by decide : (0 : Int) < 2147483647), ?_⟩
    have b1 := Int.emod_nonneg (c * 48271 + 7919 * k * k + 104729 * k + 11) (show (2147483647 : Int) ≠ 0 by decide)
    have b2 := Int.emod_lt_of_pos (c * 48271 + 7919 * k * k + 104729 * k + 11) (show (0 : Int) < 2147483647 by decide)
    generalize (c * 48271 + 7919 * k * k + 104729 * k + 11) % 2147483647 = x1 at b1 b2 ⊢
    refine ⟨.inl ⟨by omega, by omega⟩, (by decide : (0 : Int) < 2147483629), ?_⟩
    refine ⟨.inr ⟨by decide, by decide⟩, (by decide : (0 : Int) < 5), q _⟩
  · exact h.elim
end
section
variable {P : Program} {w : World} {K : PySem.W.Frag} {mg : Str → Option Value} {base : Heap}
abbrev sKnown : Stmt := top 14
def GoodD (d : PyData) : Prop := ∃ (k n : Nat) (rows : Om.Rows), d = codeD k n rows ∧ Om.CodeOk k n rows
theorem good_mk {d : PyData} (k n : Nat) (rows : Om.Rows) (h : d = codeD k n rows) (h1 : 1 ≤ k ∧ k ≤ 3 ∧ 1 ≤ n ∧ n ≤ 6 ∧ 1 ≤ rows.length ∧ rows.length ≤ 8 ∧ (∀ st ∈ rows, st.length = 2 ^ k) ∧ ∀ st ∈ rows, ∀ r ∈ st, r.1.length = n ∧ r.2 < rows.length) : GoodD d :=
  ⟨k, n, rows, h, h1.1, h1.2.1, h1.2.2.1, h1.2.2.2.1, h1.2.2.2.2.1, h1.2.2.2.2.2.1, h1.2.2.2.2.2.2.1, h1.2.2.2.2.2.2.2⟩
def GV (H : Hp) (L : Addr) (v : V) : Prop := ∃ (G : Hp) (d : PyData), Same G H ∧ G L = none ∧ GoodD d ∧ DV G v d
theorem GV.mono {H H' : Hp} {L : Addr} {v : V} (h : GV H L v) (s : Same H H') : GV H' L v := let ⟨G, d, a, b, c⟩ := h; ⟨G, d, a.trans s, b, c⟩
theorem GV.own {H : Hp} {L : Addr} {v : V} {o : HO} (h : GV H L v) : GV (upd H L o) L v := let ⟨G, d, a, b, c⟩ := h; ⟨G, d, a.own b, b, c⟩
theorem GV.app {H H' : Hp} {L : Addr} {vs xs : List V} {v : V} {d : PyData} {o : HO} (h : ∀ x ∈ vs, GV H L x) (hL : H L = some (.lst xs)) (s : Same H H') (g : GoodD d) (dv : DV (nw H H') v d) : ∀ x ∈ vs ++ [v], GV (upd H' L o) L x := fun x hx => by
  rcases List.mem_append.mp hx with z | z
  · exact ((h x z).mono s).own
  · have : x = v := by simpa using z
    subst this
    exact GV.own ⟨_, d, nw.same, nw.old hL, g, dv⟩
def spKnown : Sp := fun vs H Q _ => match vs with
  | [.int _] => ∀ v (k n : Nat) (rows : Om.Rows) H', Same H H' → DV H' v (codeD k n rows) → Om.CodeOk k n rows → Q v H'
  | _ => False
theorem scKnown : FnScope ["cell", "codes"] ["cell"] (defScope sKnown) := ⟨rfl, rfl, rfl, by decide +kernel, rfl, by decide +kernel, by decide +kernel⟩
local macro_rules | `(tactic| walk_at "T.n") => `(tactic| with_reducible first | exact vn "cell" 0 | exact vn "codes" 1)
local macro_rules | `(tactic| walk_at "T.gn") => `(tactic| with_reducible first | exact gn "codes" 1 (by with_unfolding_all assumption))
local macro_rules | `(tactic| walk_at "T.li") => `(tactic| first | (with_reducible exact li_int) | (with_reducible exact li_str) | ((with_reducible refine' li_tup ?a1 ?a2); (case a1 => walk_at "T.las"); (case a2 => exact Nat.le_of_ble_eq_true rfl)) | ((with_reducible refine' li_lst ?a1 ?a2); (case a1 => walk_at "T.las"); (case a2 => exact Nat.le_of_ble_eq_true rfl)))
local macro_rules | `(tactic| walk_at "T.las") => `(tactic| first | (with_reducible exact li_nil) | ((with_reducible refine' li_cons ?a1 ?a2); (case a1 => walk_at "T.li"); (case a2 => walk_at "T.las")))
local macro_rules | `(tactic| walk_at "T.e") => `(tactic| ((with_reducible refine' li_tup ?a1 ?a2); (case a1 => walk_at "T.las"); (case a2 => exact Nat.le_of_ble_eq_true rfl)))
theorem ok_known (D : FnX K mg "_law_known" sKnown ["cell"]) (g1 : mg "len" = none) : Can P w K mg base "_law_known" 1 ["cell"] spKnown := by
  refine can_fn (k := 0) D scKnown (fun vs H Q E h => ?_) (fun f cdv A outer s H vs Q E hr h => ?_)
  all_goals
    unfold spKnown at h
    split at h
  · rfl
  · exact h.elim
  · rename_i c
    have nd := scKnown.nd
    refine ⟨_, (by walk_at "T.top"), ?_⟩
    intro w1 H1 s1 d1 w2 H2 s2 d2
    refine ⟨le_line (Nat.le_of_ble_eq_true rfl), fun L hL => ?_⟩
    have f1 : nw H H1 L = none := by
      cases e : nw H H1 L with
      | none => rfl
      | some o => rw [s2 _ _ (nw.same _ _ e)] at hL; cases hL
    have f2 : nw H1 H2 L = none := by
      cases e : nw H1 H2 L with
      | none => rfl
      | some o => rw [nw.same _ _ e] at hL; cases hL
    have g2 : ∀ x ∈ [w1, w2], GV (upd H2 L (.lst [w1, w2])) L x := fun x hx => by
      rcases List.mem_cons.mp hx with rfl | hx
      · exact GV.own ⟨_, _, (nw.same (H := H)).trans s2, f1, good_mk 1 2 [[([false, true], 0), ([true, false], 0)]] (by kernel_rfl) (by decide +kernel), d1⟩
      · have : x = w2 := by simpa using hx
        subst this
        exact GV.own ⟨_, _, nw.same, f2, good_mk 1 1 [[([false], 0), ([true], 1)], [([true], 1), ([false], 0)]] (by kernel_rfl) (by decide +kernel), d2⟩
    have t2 : Same H (upd H2 L (.lst [w1, w2])) := (s1.trans s2).trans (Same.upd hL)
    have hL0 : H L = none := (s1.trans s2).free hL
    have h3 : upd H2 L (.lst [w1, w2]) L = some (.lst [w1, w2]) := upd_same
    generalize upd H2 L (.lst [w1, w2]) = H3 at g2 t2 h3
    refine ⟨⟨_, rfl, h3⟩, fun w3 H4 s4 d4 => ⟨_, s4 _ _ h3, lt_line (Nat.le_of_ble_eq_true rfl), ?_⟩⟩
    have g3 := GV.app (o := .lst ([w1, w2] ++ [w3])) g2 h3 s4 (good_mk 1 2 [[([true, false], 0), ([false, true], 1)], [([false, false], 0), ([false, true], 1)]] (by kernel_rfl) (by decide +kernel)) d4
    have t3 : Same H (upd H4 L (.lst ([w1, w2] ++ [w3]))) := (t2.trans s4).own hL0
    have h5 : upd H4 L (.lst ([w1, w2] ++ [w3])) L = some (.lst ([w1, w2] ++ [w3])) := upd_same
    generalize upd H4 L (.lst ([w1, w2] ++ [w3])) = H5 at g3 t3 h5
    refine ⟨⟨_, rfl, h5⟩, fun w4 H6 s6 d6 => ⟨_, s6 _ _ h5, lt_line (Nat.le_of_ble_eq_true rfl), ?_⟩⟩
    have g4 := GV.app (o := .lst ([w1, w2] ++ [w3] ++ [w4])) g3 h5 s6 (good_mk 1 2 [[([false, false], 1), ([false, true], 1)], [([true, true], 0), ([true, false], 0)]] (by kernel_rfl) (by decide +kernel)) d6
    have t4 : Same H (upd H6 L (.lst ([w1, w2] ++ [w3] ++ [w4]))) := (t3.trans s6).own hL0
    have h7 : upd H6 L (.lst ([w1, w2] ++ [w3] ++ [w4])) L = some (.lst ([w1, w2] ++ [w3] ++ [w4])) := upd_same
    generalize upd H6 L (.lst ([w1, w2] ++ [w3] ++ [w4])) = H7 at g4 t4 h7
    refine ⟨⟨_, rfl, h7⟩, fun w5 H8 s8 d8 => ⟨_, s8 _ _ h7, lt_line (Nat.le_of_ble_eq_true rfl), ?_⟩⟩
    have g5 := GV.app (o := .lst ([w1, w2] ++ [w3] ++ [w4] ++ [w5])) g4 h7 s8 (good_mk 2 3 [[([false, true, false], 0), ([false, true, true], 0), ([true, false, false], 0), ([true, false, true], 0)]] (by kernel_rfl) (by decide +kernel)) d8
    have t5 : Same H (upd H8 L (.lst ([w1, w2] ++ [w3] ++ [w4] ++ [w5]))) := (t4.trans s8).own hL0
    have h9 : upd H8 L (.lst ([w1, w2] ++ [w3] ++ [w4] ++ [w5])) L = some (.lst ([w1, w2] ++ [w3] ++ [w4] ++ [w5])) := upd_same
    generalize upd H8 L (.lst ([w1, w2] ++ [w3] ++ [w4] ++ [w5])) = H9 at g5 t5 h9
    refine ⟨⟨_, rfl, h9⟩, fun w6 H10 s10 d10 => ⟨_, s10 _ _ h9, lt_line (Nat.le_of_ble_eq_true rfl), ?_⟩⟩
    have g6 := GV.app (o := .lst ([w1, w2] ++ [w3] ++ [w4] ++ [w5] ++ [w6])) g5 h9 s10 (good_mk 1 3 [[([true, false, false], 1), ([false, true, false], 0)], [([false, false, true], 0), ([false, true, false], 1)]] (by kernel_rfl) (by decide +kernel)) d10
    have t6 : Same H (upd H10 L (.lst ([w1, w2] ++ [w3] ++ [w4] ++ [w5] ++ [w6]))) := (t5.trans s10).own hL0
    have h11 : upd H10 L (.lst ([w1, w2] ++ [w3] ++ [w4] ++ [w5] ++ [w6])) L = some (.lst ([w1, w2] ++ [w3] ++ [w4] ++ [w5] ++ [w6])) := upd_same
    generalize upd H10 L (.lst ([w1, w2] ++ [w3] ++ [w4] ++ [w5] ++ [w6])) = H11 at g6 t6 h11
    have l6 : ([w1, w2] ++ [w3] ++ [w4] ++ [w5] ++ [w6]).length = 6 := rfl
    generalize evs : [w1, w2] ++ [w3] ++ [w4] ++ [w5] ++ [w6] = vs at g6 h11 l6
    have i0 := Int.emod_nonneg c (show (6 : Int) ≠ 0 by decide)
    have i1 := Int.emod_lt_of_pos c (show (0 : Int) < 6 by decide)
    refine ⟨_, lenL h11, ?_⟩
    rw [l6]
    refine ⟨(by decide : (0 : Int) < ((6 : Nat) : Int)), ?_⟩
    have il : (c % ((6 : Nat) : Int)).toNat < vs.length := by rw [l6]; omega
    obtain ⟨G, d, sG, _, ⟨k, n, rows, e, ok⟩, dv⟩ := g6 vs[(c % ((6 : Nat) : Int)).toNat] (List.getElem_mem il)
    refine ⟨vs[(c % ((6 : Nat) : Int)).toNat], gl h11 i0 (List.getElem?_eq_getElem il), ?_⟩
    subst e
    exact h _ k n rows _ t6 (dv.mono sG) ok
  · exact h.elim
end

end K40
end
section
set_option Elab.async false
set_option linter.all false
set_option maxRecDepth 100000
set_option maxHeartbeats 4000000
namespace K40
open PySem L2
section
variable {P : Program} {w : World} {K : PySem.W.Frag} {mg : Str → Option Value} {base : Heap}
abbrev sLCode : Stmt := top 15
def spLCode (K : PySem.W.Frag) : Sp := fun vs H Q _ => match vs with
  | [.ref a] => ∃ ns : List Int, SqL K H a (ns.map V.int) ∧ ∀ v (k n : Nat) (rows : Om.Rows) H', Same H H' → DV H' v (codeD k n rows) → Om.CodeOk k n rows → Q v H'
  | _ => False
theorem scLCode : FnScope ["script", "cell", "k", "n", "many", "states", "s", "state", "letter", "one", "word", "j"] ["script"] (defScope sLCode) := ⟨rfl, rfl, rfl, by decide +kernel, rfl, by decide +kernel, by decide +kernel⟩
local macro_rules | `(tactic| walk_at "T.n") => `(tactic| with_reducible first | exact vn "script" 0 | exact vn "cell" 1 | exact vn "k" 2 | exact vn "n" 3 | exact vn "many" 4 | exact vn "states" 5 | exact vn "s" 6 | exact vn "state" 7 | exact vn "letter" 8 | exact vn "one" 9 | exact vn "word" 10)
local macro_rules | `(tactic| walk_at "T.gn") => `(tactic| with_reducible first | exact gn "cell" 1 (by with_unfolding_all assumption) | exact gn "k" 2 (by with_unfolding_all assumption) | exact gn "n" 3 (by with_unfolding_all assumption) | exact gn "many" 4 (by with_unfolding_all assumption) | exact gn "states" 5 (by with_unfolding_all assumption) | exact gn "s" 6 (by with_unfolding_all assumption) | exact gn "state" 7 (by with_unfolding_all assumption) | exact gn "letter" 8 (by with_unfolding_all assumption) | exact gn "one" 9 (by with_unfolding_all assumption) | exact gn "word" 10 (by with_unfolding_all assumption) | exact gn "j" 11 (by with_unfolding_all assumption))
theorem ok_lcode (D : FnX K mg "_law_code" sLCode ["script"]) (g1 : mg "range" = none) (c1 : Can P w K mg base "_law_cell" 1 ["script", "k"] (spCell K)) (c2 : Can P w K mg base "_law_known" 1 ["cell"] spKnown) (c3 : Can P w K mg base "_law_mixed" 1 ["cell", "k"] spMixed) : Can P w K mg base "_law_code" 2 ["script"] (spLCode K) := by
  refine can_fn (k := 1) D scLCode (fun vs H Q E h => ?_) (fun f cdv A outer s H vs Q E hr h => ?_)
  all_goals
    unfold spLCode at h
    split at h
  · rfl
  · exact h.elim
  · rename_i a
    obtain ⟨ns, hS, q⟩ := h
    have nd := scLCode.nd
    refine ⟨_, (by walk_at "T.top"), ?_⟩
    refine ⟨ns, hS, by decide, by decide, fun c => ?_⟩
    refine ⟨(by decide : (0 : Int) < 8), ite2 (fun _ => ?_) (fun _ => ?_)⟩
    · refine ⟨⟨by decide, by decide⟩, fun v k n rows H' s1 d1 ok => q v k n rows H' s1 d1 ok⟩
    · refine ⟨le_line (Nat.le_of_ble_eq_true rfl), fun p0 hp0 => ?_⟩
      refine ⟨⟨by decide, by decide⟩, (by decide : (0 : Int) < 6), ?_⟩
      have a0 := Int.emod_nonneg (c / 8) (show (6 : Int) ≠ 0 by decide)
      have a1 := Int.emod_lt_of_pos (c / 8) (show (0 : Int) < 6 by decide)
      obtain ⟨k, k1, k3, ek⟩ : ∃ k : Nat, 1 ≤ k ∧ k ≤ 3 ∧ [V.int 1, .int 1, .int 2, .int 2, .int 1, .int 3][(c / 8 % 6).toNat]? = some (.int (k : Nat)) := by
        generalize c / 8 % 6 = r0 at a0 a1 ⊢
        have : r0 = 0 ∨ r0 = 1 ∨ r0 = 2 ∨ r0 = 3 ∨ r0 = 4 ∨ r0 = 5 := by omega
        rcases this with rfl | rfl | rfl | rfl | rfl | rfl
        · exact ⟨1, by decide, by decide, rfl⟩
        · exact ⟨1, by decide, by decide, rfl⟩
        · exact ⟨2, by decide, by decide, rfl⟩
        · exact ⟨2, by decide, by decide, rfl⟩
        · exact ⟨1, by decide, by decide, rfl⟩
        · exact ⟨3, by decide, by decide, rfl⟩
      refine ⟨.int (k : Nat), gl upd_same a0 ek, ?_⟩
      have t0 : Same H (upd H p0 (.lst [.int 1, .int 1, .int 2, .int 2, .int 1, .int 3])) := Same.upd hp0
      generalize upd H p0 (.lst [V.int 1, .int 1, .int 2, .int 2, .int 1, .int 3]) = H0 at t0 ⊢
      refine ⟨⟨by decide, by decide⟩, (by decide : (0 : Int) < 6), ?_⟩
      have b0 := Int.emod_nonneg (c / 48) (show (6 : Int) ≠ 0 by decide)
      have b1 := Int.emod_lt_of_pos (c / 48) (show (0 : Int) < 6 by decide)
      obtain ⟨n, hn⟩ : ∃ n : Nat, 1 + c / 48 % 6 = (n : Int) := ⟨(1 + c / 48 % 6).toNat, by omega⟩
      dsimp only [gName, tNext, rAddU]
      rw [hn]
      refine ⟨le_line (Nat.le_of_ble_eq_true rfl), fun p1 hp1 => ?_⟩
      refine ⟨⟨by decide, by decide⟩, (by decide : (0 : Int) < 8), ?_⟩
      have m0 := Int.emod_nonneg (c / 288) (show (8 : Int) ≠ 0 by decide)
      have m1 := Int.emod_lt_of_pos (c / 288) (show (0 : Int) < 8 by decide)
      obtain ⟨many, y1, y8, em⟩ : ∃ many : Nat, 1 ≤ many ∧ many ≤ 8 ∧ [V.int 1, .int 2, .int 3, .int 4, .int 5, .int 6, .int 7, .int 8][(c / 288 % 8).toNat]? = some (.int (many : Nat)) := by
        generalize c / 288 % 8 = r2 at m0 m1 ⊢
        have : r2 = 0 ∨ r2 = 1 ∨ r2 = 2 ∨ r2 = 3 ∨ r2 = 4 ∨ r2 = 5 ∨ r2 = 6 ∨ r2 = 7 := by omega
        rcases this with rfl | rfl | rfl | rfl | rfl | rfl | rfl | rfl
        · exact ⟨1, by decide, by decide, rfl⟩
        · exact ⟨2, by decide, by decide, rfl⟩
        · exact ⟨3, by decide, by decide, rfl⟩
        · exact ⟨4, by decide, by decide, rfl⟩
        · exact ⟨5, by decide, by decide, rfl⟩
        · exact ⟨6, by decide, by decide, rfl⟩
        · exact ⟨7, by decide, by decide, rfl⟩
        · exact ⟨8, by decide, by decide, rfl⟩
      refine ⟨.int (many : Nat), gl upd_same m0 em, ?_⟩
      have t1 : Same H (upd H0 p1 (.lst [.int 1, .int 2, .int 3, .int 4, .int 5, .int 6, .int 7, .int 8])) := t0.trans (Same.upd hp1)
      generalize upd H0 p1 (.lst [V.int 1, .int 2, .int 3, .int 4, .int 5, .int 6, .int 7, .int 8]) = H1 at t1 ⊢
      refine ⟨Nat.zero_le _, fun St hSt => ?_⟩
      have St0 : H St = none := t1.free hSt
      have n6 : 1 ≤ n ∧ n ≤ 6 := by omega
      refine ⟨by omega, by omega, for_by (it_range 0 _) (fun i σ H2 => ∃ (v6 v7 v8 v9 v10 v11 : Option V) (xs : List V) (G : Hp) (rows : Om.Rows), σ = [some (.ref a), some (.int c), some (.int (k : Nat)), some (.int (n : Nat)), some (.int (many : Nat)), some (.ref St), v6, v7, v8, v9, v10, v11] ∧ Same H H2 ∧ H2 St = some (.lst xs) ∧ Same G H2 ∧ G St = none ∧ DVs G xs (rows.map stateD) ∧ rows.length = i ∧ (∀ st ∈ rows, st.length = 2 ^ k) ∧ ∀ st ∈ rows, ∀ r ∈ st, r.1.length = n ∧ r.2 < many)
        ⟨none, none, none, none, none, none, [], fun _ => none, [], rfl, t1.trans (Same.upd hSt), upd_same, (fun b o e => nomatch e), rfl, .nil, rfl, by simp, by simp⟩ (fun _ _ _ _ _ => trivial) ?_ ?_⟩
      · rintro i x σ H2 hi hx ⟨v6, v7, v8, v9, v10, v11, xs, G, rows, rfl, s2, h2, sG, gS, dv, rl, rk, rr⟩
        rw [List.length_map, List.length_range] at hi
        have ex : x = V.int (i : Nat) := by
          rw [List.getElem?_map, List.getElem?_range hi] at hx
          have := Option.some.inj hx
          rw [← this]; simp
        subst ex
        refine ⟨Nat.zero_le _, fun S hS' => ?_⟩
        have StS : St ≠ S := ne_of_none h2 hS'
        refine ⟨le_line (Nat.le_of_ble_eq_true rfl), fun p2 hp2 => ?_⟩
        have s3 : Same H2 (upd (upd H2 S (.lst [])) p2 (.lst [.int 2, .int 4, .int 8])) := (Same.upd hS').trans (Same.upd hp2)
        have hS3 : upd (upd H2 S (.lst [])) p2 (.lst [.int 2, .int 4, .int 8]) S = some (.lst []) := Same.upd hp2 _ _ upd_same
        have ep : getV (upd (upd H2 S (.lst [])) p2 (.lst [V.int 2, .int 4, .int 8])) (.ref p2) ((k : Nat) - 1 : Int) = some (.int ((2 ^ k : Nat) : Int)) := by
          refine gl upd_same (by omega) ?_
          have : k = 1 ∨ k = 2 ∨ k = 3 := by omega
          rcases this with rfl | rfl | rfl <;> rfl
        have p8 : 2 ^ k ≤ 8 := Om.pow8 k3
        refine ⟨_, ep, Int.le_trans (by decide) (Int.natCast_nonneg _), Int.lt_of_le_of_lt (Int.ofNat_le.mpr p8) (by decide), ?_⟩
        generalize upd (upd H2 S (.lst [])) p2 (.lst [V.int 2, .int 4, .int 8]) = H3 at s3 hS3
        rw [Int.toNat_natCast]
        have GS : G S = none := sG.free hS'
        refine for_by (it_range 0 _) (fun j σ H4 => ∃ (v8 v9 v10 v11 : Option V) (ys : List V) (G2 : Hp) (rs : List (List Bool × Nat)), σ = [some (.ref a), some (.int c), some (.int (k : Nat)), some (.int (n : Nat)), some (.int (many : Nat)), some (.ref St), some (.int (i : Nat)), some (.ref S), v8, v9, v10, v11] ∧ Same H H4 ∧ H4 St = some (.lst xs) ∧ H4 S = some (.lst ys) ∧ Same G2 H4 ∧ G2 St = none ∧ G2 S = none ∧ Same G G2 ∧ DVs G2 ys (rs.map rowD) ∧ rs.length = j ∧ ∀ r ∈ rs, r.1.length = n ∧ r.2 < many)
          ⟨v8, v9, v10, v11, [], G, [], rfl, s2.trans s3, s3 _ _ h2, hS3, sG.trans s3, gS, GS, Same.refl _, .nil, rfl, by simp⟩ (fun _ _ _ _ _ => trivial) ?_ ?_
        · rintro j y σ H4 hj hy ⟨v8, v9, v10, v11, ys, G2, rs, rfl, s4, h4, hS4, sG2, gS2, gSS, gg, dv2, rl2, rr2⟩
          rw [List.length_map, List.length_range] at hj
          have ey : y = V.int (j : Nat) := by
            rw [List.getElem?_map, List.getElem?_range hj] at hy
            have := Option.some.inj hy
            rw [← this]; simp
          subst ey
          refine ⟨.inl ⟨by decide, by decide⟩, ns, s4.seq hS, by omega, by omega, fun c5 => ?_⟩
          dsimp only [gName]
          refine seq_by (fun σ Hx => ∃ c6 : Int, σ = [some (.ref a), some (.int c), some (.int (k : Nat)), some (.int (n : Nat)), some (.int (many : Nat)), some (.ref St), some (.int (i : Nat)), some (.ref S), some (.int (j : Nat)), some (.int c6), v10, v11] ∧ Hx = H4) ?_ (fun fin => ?_)
          · rintro σ Hx ⟨c6, rfl, rfl⟩
            refine ⟨by omega, by omega, for_by (it_range 0 _) (fun m σ Hy => ∃ (c7 : Int) (wd : List Bool) (v11 : Option V), σ = [some (.ref a), some (.int c), some (.int (k : Nat)), some (.int (n : Nat)), some (.int (many : Nat)), some (.ref St), some (.int (i : Nat)), some (.ref S), some (.int (j : Nat)), some (.int c7), some (.str (bs wd)), v11] ∧ Hy = Hx ∧ wd.length = m) ⟨c6, [], v11, rfl, rfl, rfl⟩ (fun _ _ _ _ _ => trivial) ?_ ?_⟩
            · rintro m z σ Hy hm hz ⟨c7, wd, v11, rfl, rfl, wl⟩
              rw [List.length_map, List.length_range] at hm
              have q0 := Int.emod_nonneg c7 (show (2 : Int) ≠ 0 by decide)
              have q1 := Int.emod_lt_of_pos c7 (show (0 : Int) < 2 by decide)
              refine ⟨(by decide : (0 : Int) < 2), _, g01 q0 q1, by rw [bs_len, bs_len]; exact le_line (by simp; omega), ?_⟩
              rw [bs_app]
              exact ⟨⟨by decide, by decide⟩, _, wd ++ [decide (c7 % 2 = 1)], _, rfl, rfl, by simp [wl]⟩
            · rintro σ Hy ⟨c7, wd, v11, rfl, rfl, wl⟩
              rw [List.length_map, List.length_range, Int.toNat_natCast] at wl
              have q0 := Int.emod_nonneg c7 (show ((many : Nat) : Int) ≠ 0 by omega)
              have q1 := Int.emod_lt_of_pos c7 (show (0 : Int) < ((many : Nat) : Int) by omega)
              refine ⟨⟨_, rfl, hS4⟩, (by omega : (0 : Int) < ((many : Nat) : Int)), le_line (Nat.le_of_ble_eq_true rfl), fun p hp => ?_⟩
              obtain ⟨t, ht⟩ : ∃ t : Nat, c7 % ((many : Nat) : Int) = (t : Int) := ⟨(c7 % ((many : Nat) : Int)).toNat, by omega⟩
              dsimp only
              rw [ht]
              have sp := Same.upd (o := .tup [.str (bs wd), .int (t : Nat)]) hp
              have Sp : S ≠ p := ne_of_none hS4 hp
              have Stp : St ≠ p := ne_of_none h4 hp
              have yl : ys.length = j := by rw [dv2.length, List.length_map, rl2]
              refine ⟨_, sp _ _ hS4, lt_line (by omega), ?_⟩
              have gp := sG2.free hp
              have GG : Same G2 (upd G2 p (.tup [.str (bs wd), .int (t : Nat)])) := Same.upd gp
              refine ⟨_, _, _, _, ys ++ [.ref p], upd G2 p (.tup [.str (bs wd), .int (t : Nat)]), rs ++ [(wd, t)], rfl, (s4.trans sp).own (s2.free hS'), by rw [upd_ne StS]; exact sp _ _ h4, upd_same, fun b o e => ?_, by rw [upd_ne Stp]; exact gS2, by rw [upd_ne Sp]; exact gSS, gg.trans GG, ?_, by simp [rl2], fun r hr' => ?_⟩
              · have bS : b ≠ S := fun z => by rw [z, upd_ne Sp, gSS] at e; cases e
                rw [upd_ne bS]
                by_cases hb : b = p
                · subst hb; rw [upd_same] at e ⊢; exact e
                · rw [upd_ne hb] at e ⊢; exact sG2 _ _ e
              · rw [List.map_append]
                exact (dv2.mono GG).app (.cons (.tup upd_same (.cons (.str _) (.cons (.int _) .nil))) .nil)
              · rcases List.mem_append.mp hr' with z | z
                · exact rr2 r z
                · have : r = (wd, t) := by simpa using z
                  subst this
                  exact ⟨wl, by show t < many; omega⟩
          · refine ⟨⟨by decide, by decide⟩, (by decide : (0 : Int) < 2), ite2 (fun _ => ?_) (fun _ => ?_)⟩
            · refine ⟨.inl ⟨by decide, by decide⟩, by omega, by omega, fun c6 => ?_⟩
              exact fin _ _ ⟨c6, rfl, rfl⟩
            · exact fin _ _ ⟨c5, rfl, rfl⟩
        · rintro σ H4 ⟨v8, v9, v10, v11, ys, G2, rs, rfl, s4, h4, hS4, sG2, gS2, gSS, gg, dv2, rl2, rr2⟩
          rw [List.length_map, List.length_range] at rl2
          have xl : xs.length = i := by rw [dv.length, List.length_map, rl]
          refine ⟨⟨_, rfl, h4⟩, _, h4, lt_line (by omega), ?_⟩
          have GG : Same G2 (upd G2 S (.lst ys)) := Same.upd gSS
          refine ⟨_, _, v8, v9, v10, v11, xs ++ [.ref S], upd G2 S (.lst ys), rows ++ [rs], rfl, s4.own St0, upd_same, fun b o e => ?_, by rw [upd_ne StS]; exact gS2, ?_, by simp [rl], fun st hst => ?_, fun st hst => ?_⟩
          · have bSt : b ≠ St := fun z => by rw [z, upd_ne StS, gS2] at e; cases e
            rw [upd_ne bSt]
            by_cases hb : b = S
            · subst hb; rw [upd_same] at e; rw [hS4]; exact e
            · rw [upd_ne hb] at e; exact sG2 _ _ e
          · rw [List.map_append]
            exact (dv.mono (gg.trans GG)).app (.cons (.lst upd_same (dv2.mono GG)) .nil)
          · rcases List.mem_append.mp hst with z | z
            · exact rk st z
            · have : st = rs := by simpa using z
              subst this
              exact rl2
          · rcases List.mem_append.mp hst with z | z
            · exact rr st z
            · have : st = rs := by simpa using z
              subst this
              exact rr2
      · rintro σ H2 ⟨v6, v7, v8, v9, v10, v11, xs, G, rows, rfl, s2, h2, sG, gS, dv, rl, rk, rr⟩
        rw [List.length_map, List.length_range] at rl
        refine ⟨le_line (Nat.le_of_ble_eq_true rfl), fun p hp => ?_⟩
        have gS2 : Same G (upd G St (.lst xs)) := Same.upd gS
        have sm : Same (upd G St (.lst xs)) H2 := fun b o e => by
          by_cases hb : b = St
          · subst hb; rw [upd_same] at e; rw [h2]; exact e
          · rw [upd_ne hb] at e; exact sG _ _ e
        refine q _ k n rows _ (s2.trans (Same.upd hp)) (.tup upd_same (.cons (.int _) (.cons (.int _) (.cons (.lst (Same.upd hp _ _ h2) (dv.mono ((gS2.trans sm).trans (Same.upd hp)))) .nil)))) ⟨k1, k3, n6.1, n6.2, by omega, by omega, rk, fun st hst r hr' => by have := rr st hst r hr'; omega⟩
  · exact h.elim
end

end K40
end
section
set_option Elab.async false
set_option linter.all false
set_option maxRecDepth 100000
set_option maxHeartbeats 4000000
namespace PySem.W
open PySem
section
variable {prog : Program} {w : World} {K : Type} [DecidableEq K] (knd : KeyKind prog w K)
def IsNest (h : Heap) (k : K × List K) (a : Addr) : Prop := ∃ o v b n, h.get? a = some o ∧ o.cls = .type "tuple" ∧ o.data = .seq #[v, .ref b] n ∧ knd.is k.1 v = true ∧ IsTupleKey knd h k.2 b
variable {knd} {A : Around} {E : Value → Shared → Prop} {s : Shared}
theorem IsNest.typeIs {k : K × List K} {a : Addr} (x : IsNest knd s.heap k a) : s.TypeIs (.ref a) "tuple" := let ⟨o, _, _, _, ho, hc, _⟩ := x; ⟨o, ho, hc⟩
theorem IsNest.inj {h : Heap} {a : Addr} {x y : K × List K} (hx : IsNest knd h x a) (hy : IsNest knd h y a) : x = y := by
  obtain ⟨o, v, b, n, h1, h2, h3, h4, h5⟩ := hx
  obtain ⟨o', v', b', n', g1, g2, g3, g4, g5⟩ := hy
  rw [h1] at g1
  cases g1
  rw [h3] at g3
  injection g3 with g3 _
  have e := congrArg Array.toList g3
  simp at e
  obtain ⟨rfl, rfl⟩ := e
  exact Prod.ext (knd.inj _ _ _ h4 g4) (h5.inj g5)
theorem IsNest.keeps {h h' : Heap} {k : K × List K} {a d : Addr} {o : Obj} {es ep} (x : IsNest knd h k a) (ho : h.get? d = some o) (hd : o.data = .dict es ep) (hs : Heap.SameBut d h h') : IsNest knd h' k a := by
  obtain ⟨o', v, b, n, h1, h2, h3, h4, h5⟩ := x
  have ne : a ≠ d := by
    rintro rfl
    rw [ho] at h1
    cases h1
    rw [hd] at h3
    exact nomatch h3
  exact ⟨o', v, b, n, (hs.2 a ne).trans h1, h2, h3, h4, h5.keeps ho hd hs⟩
def nestHash (knd : KeyKind prog w K) (k : K × List K) : Int := reduceHash (Builtin.Tuple.tupleHashOf [knd.hash k.1, tupleKeyHash knd k.2])
theorem nest_hash {k : K × List K} {a : Addr} {Q : Int → Shared → Prop} (hu : A.units + 8 < cLine) (hk : IsNest knd s.heap k a) (h : Q (nestHash knd k) { s with toks := s.toks + (k.2.length + 3) }) : wpAny (model prog w) A (pyHash (.ref a)) Q E s := by
  have ty := hk.typeIs
  obtain ⟨o, v, b, n, h1, h2, h3, h4, h5⟩ := hk
  unfold pyHash pyHashByItsType
  refine wpAny_bind (wpAny_cRoomFor_or (.inr (by omega)) (wpAny_bind (wpAny_specialOf ty F.slot_tuple_hash.lookup ?_)))
  rw [if_neg (show ¬ ((some (Value.builtin "tuple.__hash__") == some Value.none) = true) by rw [beq_builtin_none]; exact Bool.false_ne_true)]
  refine wpAny_bind (wpAny_specialOf ty F.slot_tuple_hash.lookup (wpAny_bind (wpAny_callSpecialIfBoundUnlessNone?_slot ty F.slot_tuple_hash (wpAny_call_entry F.slot_tuple_hash ty F.entry_tuple_hash ?_ (F.args_tuple_hash_1 _)))))
  show wpAny _ _ (Builtin.Tuple.tupleItemsOf (Value.ref a) >>= _) _ _ s
  refine wpAny_bind (wpAny_tupleItemsOf h1 h3 (wpAny_bind ?_))
  rw [← Array.forIn_toList]
  show wpAny _ _ (forIn [v, .ref b] _ _) _ _ s
  rw [List.forIn_cons]
  refine wpAny_bind (wpAny_bind (knd.pyHash h4 (wpAny_pure ?_)))
  dsimp only
  rw [List.forIn_cons]
  have hu2 : A.in1.units < cLine := by show A.units + 1 < cLine; omega
  refine wpAny_bind (wpAny_bind (wpAny_pyHash_tuple hu2 h5 (wpAny_pure ?_)))
  dsimp only
  rw [List.forIn_nil]
  refine wpAny_pure ?_
  show wpAny _ _ (retInt (Builtin.Tuple.tupleHashOf [knd.hash k.1, tupleKeyHash knd k.2])) _ _ _
  refine wpAny_ret_mkInt ?_
  unfold nestHash at h
  generalize Builtin.Tuple.tupleHashOf [knd.hash k.1, tupleKeyHash knd k.2] = z at h
  have et : s.toks + (k.2.length + 3) = s.toks + 1 + (k.2.length + 1) + 1 := by omega
  rw [et] at h
  show wpAny _ _ (if (decide (-(2 : Int) ^ 63 ≤ z) && decide (z < 2 ^ 63)) = true then _ else _) Q E _
  unfold reduceHash at h
  by_cases hr : (decide (-(2 : Int) ^ 63 ≤ z) && decide (z < 2 ^ 63)) = true
  · rw [if_pos hr] at h ⊢
    exact wpAny_pure h
  · rw [if_neg hr] at h ⊢
    exact wpAny_bind (wpAny_rule (wpAny_pure h))
theorem nest_eqTree {x y : K × List K} {a b : Addr} {P : Fin → Shared → Prop} (hu : A.units + 4 < cLine) (hx : IsNest knd s.heap x a) (hy : IsNest knd s.heap y b) (h : P (.done (.ret (.bool (decide (x = y))))) s) :
    wpAny (model prog w) A (Builtin.«tuple.__eq__» ⟨[.ref a, .ref b], []⟩) P E s := by
  have ty := hy.typeIs
  obtain ⟨o, v, p, n, h1, h2, h3, h4, h5⟩ := hx
  obtain ⟨o', v', p', n', g1, g2, g3, g4, g5⟩ := hy
  show wpAny _ _ (isInstance (Value.ref b) (.type "tuple") >>= _) _ _ s
  refine wpAny_bind (wpAny_isInstance ty isSubtype_tuple_tuple ?_)
  simp only [Bool.not_true, Bool.false_eq_true, if_false]
  refine wpAny_bind (wpAny_tupleItemsOf h1 h3 (wpAny_bind (wpAny_tupleItemsOf g1 g3 (wpAny_bind ?_))))
  show wpAny _ _ (forIn [(v, v'), (Value.ref p, Value.ref p')] _ _) _ _ s
  rw [List.forIn_cons]
  refine wpAny_bind (wpAny_bind (knd.eqBool (a := x.1) (b := y.1) h4 g4 ?_))
  by_cases e1 : x.1 = y.1
  · rw [decide_eq_true e1]
    simp only [Bool.not_true, Bool.false_eq_true, if_false]
    refine wpAny_pure ?_
    dsimp only
    rw [List.forIn_cons]
    refine wpAny_bind (wpAny_bind (wpAny_eqBool_tuple (by omega) h5 g5 ?_))
    by_cases e2 : x.2 = y.2
    · rw [decide_eq_true e2]
      simp only [Bool.not_true, Bool.false_eq_true, if_false]
      refine wpAny_pure ?_
      dsimp only
      rw [List.forIn_nil]
      refine wpAny_pure (wpAny_pure ?_)
      rw [decide_eq_true (Prod.ext e1 e2)] at h
      exact h
    · rw [decide_eq_false e2]
      simp only [Bool.not_false, if_true]
      rw [decide_eq_false (fun z => e2 (congrArg Prod.snd z))] at h
      exact wpAny_bind (wpAny_pure (wpAny_pure (wpAny_pure (wpAny_pure h))))
  · rw [decide_eq_false e1]
    simp only [Bool.not_false, if_true]
    rw [decide_eq_false (fun z => e1 (congrArg Prod.fst z))] at h
    exact wpAny_bind (wpAny_pure (wpAny_pure (wpAny_pure (wpAny_pure h))))
theorem nest_eq {x y : K × List K} {a b : Addr} {Q : Bool → Shared → Prop} (hu : A.units + 8 < cLine) (hx : IsNest knd s.heap x a) (hy : IsNest knd s.heap y b) (h : Q (decide (x = y)) s) : wpAny (model prog w) A (eqBool (.ref a) (.ref b)) Q E s := by
  unfold eqBool
  try with_reducible refine wpAny_holding ?_
  by_cases hab : (Value.ref a == Value.ref b) = true
  · rw [if_pos hab]
    have e : a = b := by have := eq_of_beq hab; injection this
    subst e
    obtain rfl := hx.inj hy
    refine wpAny_bind (wpAny_rule (wpAny_pure ?_))
    rw [decide_eq_true rfl] at h
    exact h
  · rw [if_neg hab]
    have hu1 : A.in1.units + 4 < cLine := by show A.units + 1 + 4 < cLine; omega
    refine wpAny_bind (wpAny_richCompare_same_room (op := .Eq) hx.typeIs hy.typeIs F.slot_tuple_eq ?_ (by omega))
    exact wpAny_call_entry F.slot_tuple_eq hx.typeIs F.entry_tuple_eq (nest_eqTree hu1 hx hy ⟨_, rfl, (fun e => nomatch e), wpAny_truthy_bool h⟩) (F.args_tuple_eq_2 _ _)
theorem quiet_items {m : Nat} : ∀ {ks : List K} {vs : List Value}, PySem.ItemsAre knd ks vs → ∀ {Q : Option Bool × Unit → Shared → Prop}, Q (none, ()) s →
    wpAny (model prog w) A (forIn vs ((none, ()) : Option Bool × Unit) fun y __s => do
      let q ← eqIsQuiet m y
      if (!q) = true then pure (ForInStep.done (some false, ())) else pure (ForInStep.yield (none, ()))) Q E s
  | _, _, .nil, Q, h => by rw [List.forIn_nil]; exact wpAny_pure h
  | _, _, .cons (v := v) h1 r, Q, h => by
    rw [List.forIn_cons, eqIsQuiet_byValue _ (knd.byValue _ _ h1)]
    refine wpAny_bind (wpAny_bind (wpAny_pure ?_))
    simp only [Bool.not_true, Bool.false_eq_true, if_false]
    exact wpAny_pure (quiet_items r h)
theorem quiet_tup {m : Nat} {ks : List K} {a : Addr} {Q : Bool → Shared → Prop} (hk : IsTupleKey knd s.heap ks a) (h : Q true s) : wpAny (model prog w) A (eqIsQuiet (m + 1) (.ref a)) Q E s := by
  have ty := hk.typeIs
  obtain ⟨o, items, n, h1, h2, h3, hi⟩ := hk
  unfold eqIsQuiet
  refine wpAny_bind (wpAny_specialOf ty F.slot_tuple_eq.lookup ?_)
  show wpAny _ _ (isInstance (Value.ref a) (.type "tuple") >>= _) _ _ s
  refine wpAny_bind (wpAny_isInstance ty isSubtype_tuple_tuple ?_)
  simp only [Bool.not_true, Bool.false_eq_true, if_false]
  refine wpAny_bind (wpAny_seqItems h1 h3 (wpAny_bind ?_))
  show wpAny _ _ (forIn items _ _) _ _ s
  rw [← Array.forIn_toList]
  exact quiet_items hi (wpAny_pure h)
theorem nest_quiet {k : K × List K} {a : Addr} {Q : Bool → Shared → Prop} (hk : IsNest knd s.heap k a) (h : Q true s) : wpAny (model prog w) A (eqIsQuiet 8 (.ref a)) Q E s := by
  have ty := hk.typeIs
  obtain ⟨o, v, b, n, h1, h2, h3, h4, h5⟩ := hk
  unfold eqIsQuiet
  refine wpAny_bind (wpAny_specialOf ty F.slot_tuple_eq.lookup ?_)
  show wpAny _ _ (isInstance (Value.ref a) (.type "tuple") >>= _) _ _ s
  refine wpAny_bind (wpAny_isInstance ty isSubtype_tuple_tuple ?_)
  simp only [Bool.not_true, Bool.false_eq_true, if_false]
  refine wpAny_bind (wpAny_seqItems h1 h3 (wpAny_bind ?_))
  show wpAny _ _ (forIn #[v, Value.ref b] _ _) _ _ s
  rw [← Array.forIn_toList]
  show wpAny _ _ (forIn [v, Value.ref b] _ _) _ _ s
  rw [List.forIn_cons, eqIsQuiet_byValue _ (knd.byValue _ _ h4)]
  refine wpAny_bind (wpAny_bind (wpAny_pure ?_))
  simp only [Bool.not_true, Bool.false_eq_true, if_false]
  refine wpAny_pure ?_
  dsimp only
  rw [List.forIn_cons]
  refine wpAny_bind (wpAny_bind (quiet_tup h5 ?_))
  simp only [Bool.not_true, Bool.false_eq_true, if_false]
  refine wpAny_pure ?_
  dsimp only
  rw [List.forIn_nil]
  exact wpAny_pure (wpAny_pure h)
def nestKind (knd : KeyKind prog w K) : HeapKind prog w (K × List K) where
  is := IsNest knd
  hash := nestHash knd
  draws := fun k => k.2.length + 3
  room := fun A => A.units + 8 < cLine
  inj := fun hx hy => hx.inj hy
  keeps := fun x ho hd hs => x.keeps ho hd hs
  pyHash := fun hu hk h => nest_hash hu hk h
  eqBool := fun hu hx hy h => nest_eq hu hx hy h
  quiet := fun hk h => nest_quiet hk h
end
end PySem.W
end
section
set_option Elab.async false
set_option linter.all false
set_option maxRecDepth 100000
set_option maxHeartbeats 4000000
namespace L2
open PySem PySem.Spec PyProof.Rows PySem.W
abbrev nKd (P : Program) (w : World) := nestKind (mixKind P w)
def NdO (P : Program) (w : World) (d : Addr) (xs : List ((Key × List Key) × Addr × Value)) : HO := .ext fun h => (d == sysModules) = false ∧
  ∃ o es ep, h.get? d = some o ∧ o.ExactDict ∧ o.data = .dict es ep ∧ es.toList = xs.map (entryOfKey (nKd P w)) ∧ (xs.map (·.1)).Nodup
def NK (H : Hp) (k : Key × List Key) (a : Addr) : Prop := ∃ t b, k.1 = .inr t ∧ H a = some (.tup [.str t, .ref b]) ∧ H b = some (.tup (k.2.map kV))
theorem NK.mono {H H' : Hp} {k : Key × List Key} {a : Addr} (h : NK H k a) (s : ∀ b xs, H b = some (.tup xs) → H' b = some (.tup xs)) : NK H' k a := by
  obtain ⟨t, b, e, h1, h2⟩ := h
  exact ⟨t, b, e, s _ _ h1, s _ _ h2⟩
abbrev ndk (y : Str × List Key) : Key × List Key := (.inr y.1, y.2)
theorem ndk_inj {x y : Str × List Key} (h : ndk x = ndk y) : x = y := by
  obtain ⟨a, b⟩ := x
  obtain ⟨c, d⟩ := y
  simp [ndk] at h
  exact Prod.ext h.1 h.2
def ND (P : Program) (w : World) (H : Hp) (d : Addr) (ys : List (Str × List Key)) : Prop := ∃ xs, H d = some (NdO P w d xs) ∧ xs.map (·.1) = ys.map ndk ∧ ys.length ≤ sizeLine ∧ ∀ x ∈ xs, NK H x.1 x.2.1
theorem ND.mono {P : Program} {w : World} {H H' : Hp} {d : Addr} {ys : List (Str × List Key)} (h : ND P w H d ys) (hd : H' d = H d) (s : ∀ b xs, H b = some (.tup xs) → H' b = some (.tup xs)) : ND P w H' d ys := by
  obtain ⟨xs, h1, h2, h3, h4⟩ := h
  exact ⟨xs, hd.trans h1, h2, h3, fun x hx => (h4 x hx).mono s⟩
theorem ND.same {P : Program} {w : World} {H H' : Hp} {d : Addr} {ys : List (Str × List Key)} (h : ND P w H d ys) (s : Same H H') : ND P w H' d ys := by
  obtain ⟨xs, h1, h2, h3, h4⟩ := id h
  exact h.mono ((s _ _ h1).trans h1.symm) fun b xs e => s _ _ e
theorem ND.lst {P : Program} {w : World} {H : Hp} {d b : Addr} {ys : List (Str × List Key)} {xs : List V} {o : HO} (h : ND P w H d ys) (hb : H b = some (.lst xs)) : ND P w (upd H b o) d ys := by
  obtain ⟨zs, h1, _⟩ := id h
  have ne : d ≠ b := fun z => by rw [z, hb] at h1; cases h1
  exact h.mono (upd_ne ne) fun c xs e => by rw [upd_ne (fun z => by rw [z, hb] at e; cases e)]; exact e
section
variable {P : Program} {w : World} {H : Hp} {h : Heap}
theorem nest_of {k : Key × List Key} {a : Addr} (ok : HOk P w H h) (e : NK H k a) : (nKd P w).is h k a := by
  obtain ⟨t, b, e0, e1, e2⟩ := e
  obtain ⟨_, its, r, o, h1, h2, n, h3⟩ := (show ObjOk P w H h a (.tup [.str t, .ref b]) from ok a _ e1)
  cases r with
  | cons r1 r2 => cases r2 with
    | cons r2 r3 => cases r3 with
      | nil =>
        cases r2
        refine ⟨o, _, b, n, h1, h2, h3, ?_, key_of ok e2⟩
        rw [e0]
        exact kV_is (k := .inr t) r1
theorem nd_of {d : Addr} {ys : List (Str × List Key)} (ok : HOk P w H h) (e : ND P w H d ys) : (d == sysModules) = false ∧ ∃ xs, h.DictOfH (nKd P w) d xs ∧ xs.map (·.1) = ys.map ndk ∧ ys.length ≤ sizeLine ∧ (∀ x ∈ xs, NK H x.1 x.2.1) ∧ H d = some (NdO P w d xs) := by
  obtain ⟨xs, e1, e2, e3, e4⟩ := e
  obtain ⟨⟨hd, o, es, ep, h1, h2, h3, h4, h5⟩, _⟩ := (show ObjOk P w H h d (NdO P w d xs) from ok d _ e1)
  exact ⟨hd, xs, ⟨o, es, ep, h1, h2, h3, h4, fun x hx => nest_of ok (e4 x hx), h5⟩, e2, e3, e4, e1⟩
def inL {a : Type} [DecidableEq a] (x : a) (l : List a) : Bool := l.any fun y => decide (y = x)
theorem inL_iff {a : Type} [DecidableEq a] {x : a} {l : List a} : inL x l = true ↔ x ∈ l := by
  unfold inL
  rw [List.any_eq_true]
  exact ⟨fun ⟨y, hy, e⟩ => of_decide_eq_true e ▸ hy, fun h => ⟨x, h, decide_eq_true rfl⟩⟩
theorem atKey_has {xs : List ((Key × List Key) × Addr × Value)} {k : Key × List Key} : (atKey xs k).isSome = inL k (xs.map (·.1)) := by
  unfold atKey
  rw [Option.isSome_map, Bool.eq_iff_iff, List.find?_isSome, inL_iff, List.mem_map]
  exact ⟨fun ⟨x, hx, e⟩ => ⟨x, hx, of_decide_eq_true e⟩, fun ⟨x, hx, e⟩ => ⟨x, hx, decide_eq_true e⟩⟩
theorem ndO_ok {d : Addr} {xs : List ((Key × List Key) × Addr × Value)} (hd : (d == sysModules) = false) {o : Obj} {es ep} (h1 : h.get? d = some o) (h2 : o.ExactDict) (h3 : o.data = .dict es ep) (h4 : es.toList = xs.map (entryOfKey (nKd P w))) (h5 : (xs.map (·.1)).Nodup) : ObjOk P w H h d (NdO P w d xs) :=
  ⟨⟨hd, o, es, ep, h1, h2, h3, h4, h5⟩, ⟨o, h1⟩, fun a b ⟨z, o', es', ep', g1, g2⟩ k => ⟨z, o', es', ep', k _ g1, g2⟩⟩
end
section
variable {X : Cx} {pos : Pos}
def tDNewN (P : Program) (w : World) : TE := fun _ H Q => ∀ p H', H p = none → (∀ c, c ≠ p → H' c = H c) → ND P w H' p [] → Q (.ref p) H'
theorem pe_dnewN : PE X (.Dict [] [] pos) (tDNewN X.prog X.w) := fun pins s σ H Q I h =>
  wpAny_Dict_empty ⟨.ref s.heap.objs.size, _, I.laid (a := s.heap.objs.size) (o := NdO X.prog X.w s.heap.objs.size []) (t' := s.toks) (fun _ _ q => Heap.get?_push_of_some _ q) (Nat.le_refl _)
    (ndO_ok (beq_eq_false_iff_ne.mpr (Ne.symm (Nat.ne_of_lt I.big))) (Heap.get?_push_size _ rfl) ⟨rfl, rfl, rfl⟩ rfl rfl List.nodup_nil), rfl, h _ _ (I.hok.fresh (Nat.le_refl _)) (fun c ne => upd_ne ne) ⟨[], upd_same, rfl, Nat.zero_le _, fun x hx => nomatch hx⟩⟩
def rNdNotIn (P : Program) (w : World) : R2 := fun y x H Q => ∃ q t b ks d ys, y = .ref q ∧ H q = some (.tup [.str t, .ref b]) ∧ H b = some (.tup (ks.map kV)) ∧ x = .ref d ∧ ND P w H d ys ∧ Q (.bl (!inL (t, ks) ys)) H
theorem op_notInNd (hu : X.A.units + 64 < cLine) : OpR X (compareOp .NotIn) (rNdNotIn X.prog X.w) := by
  rintro pins s σ H y x u v Q I ry rx ⟨q, t, b, ks, d, ys, rfl, h1, h2, rfl, nd, hq⟩
  cases ry
  cases rx
  obtain ⟨hd, xs, dd, e1, e2, e3, _⟩ := nd_of I.hok nd
  have hr : (nKd X.prog X.w).room X.A.in1 := by show X.A.units + 1 + 8 < cLine; omega
  refine wpAny_notIn_heap hr (nest_of I.hok ⟨t, b, rfl, h1, h2⟩ : (nKd X.prog X.w).is s.heap (ndk (t, ks)) q) hd dd ?_
  rw [atKey_has, e1]
  have e : inL (ndk (t, ks)) (ys.map ndk) = inL (t, ks) ys := by
    rw [Bool.eq_iff_iff, inL_iff, inL_iff, List.mem_map]
    exact ⟨fun ⟨x, hx, e⟩ => ndk_inj e ▸ hx, fun hx => ⟨_, hx, rfl⟩⟩
  rw [e]
  exact ⟨.bl _, H, I.tok _, rfl, hq⟩
def rNdPut (P : Program) (w : World) : V → V → V → Hp → (Hp → Prop) → Prop := fun o i v H Q => ∃ d q t b ks ys, o = .ref d ∧ i = .ref q ∧ H q = some (.tup [.str t, .ref b]) ∧ H b = some (.tup (ks.map kV)) ∧ ND P w H d ys ∧ (t, ks) ∉ ys ∧ ys.length < sizeLine ∧
  ∀ H', (∀ c, c ≠ d → H' c = H c) → ND P w H' d (ys ++ [(t, ks)]) → Q H'
theorem set_nd (hu : X.A.units + 64 < cLine) : PSet X (rNdPut X.prog X.w) := by
  rintro pins s σ H o i v ov iv u Q I ro ri rv ⟨d, q, t, b, ks, ys, rfl, rfl, h1, h2, nd, nin, hl, hq⟩
  cases ro
  cases ri
  obtain ⟨hd, xs, dd, e1, e2, e3, e4⟩ := nd_of I.hok nd
  have xl : xs.length = ys.length := by have := congrArg List.length e1; simpa using this
  have hr : (nKd X.prog X.w).room X.A.in1 := by show X.A.units + 1 + 8 < cLine; omega
  refine wpAny_setItem_heap (hsz := by omega) hr (nest_of I.hok ⟨t, b, rfl, h1, h2⟩ : (nKd X.prog X.w).is s.heap (ndk (t, ks)) q) dd fun h' dd' hs => ?_
  have nk : atKey xs (ndk (t, ks)) = none := by
    cases e : atKey xs (ndk (t, ks)) with
    | none => rfl
    | some p =>
      have := atKey_has (xs := xs) (k := ndk (t, ks))
      rw [e, e1] at this
      have := inL_iff.mp this.symm
      obtain ⟨x, hx, e⟩ := List.mem_map.mp this
      exact absurd (ndk_inj e ▸ hx) nin
  rw [storedH_new nk] at dd'
  obtain ⟨o, es, ep, g1, g2, g3, g4, _, g5⟩ := dd'
  refine ⟨upd H d (NdO X.prog X.w d (xs ++ [(ndk (t, ks), q, u)])), d_write I (by rw [e4]; exact True.intro) hs ⟨o, g1⟩ (ndO_ok hd g1 g2 g3 g4 g5), hq _ (fun c ne => upd_ne ne) ⟨_, upd_same, by rw [List.map_append, List.map_append, e1]; rfl, by simp; omega, fun x hx => ?_⟩⟩
  have tn : ∀ (c : Addr) (zs : List V) (o : HO), H c = some (.tup zs) → upd H d o c = some (.tup zs) := fun c zs o e => by
    rw [upd_ne (fun z => by rw [z, e4] at e; cases e)]; exact e
  rcases List.mem_append.mp hx with hx | hx
  · exact (e3 x hx).mono fun c zs e => tn c zs _ e
  · obtain rfl : x = (ndk (t, ks), q, u) := by simpa using hx
    exact ⟨t, b, rfl, tn _ _ _ h1, tn _ _ _ h2⟩
theorem g_subN {o i : Expr} {to ti : TE} (hu : X.A.units + 64 < cLine) (ho : PE X o to) (hi : PE X i ti) (ha : ∀ v, assign (.Subscript o i pos) X.env v = (do
      let ov ← holding [v] (eval o X.env)
      let iv ← holding [v, ov] (eval i X.env)
      standAt pos
      holding [v, ov, iv] (setItem ov iv v)
      release [v, ov, iv] []) := by intro _; kernel_rfl) : PG X (.Subscript o i pos) (gSub to ti (rNdPut X.prog X.w)) :=
  pg_sub ho hi (set_nd hu) ha
end
end L2
end
section
set_option Elab.async false
set_option linter.all false
set_option maxRecDepth 100000
set_option maxHeartbeats 4000000
namespace L2
open PySem PySem.Spec PyProof.Rows
section
variable {X : Cx} {p pos : Pos} {e : Expr} {es : List Expr} {t : TA}
def rInS : R2 := fun x y H Q => match x, y with
  | .str i, .str j => Q (.bl (!(Builtin.Str.occurrences j i 0 j.length 1).isEmpty)) H
  | _, _ => False
theorem op_inS : OpR X (compareOp .In) rInS := op_in_str.of fun x y H Q q => by
  unfold rInS at q
  split at q
  · exact ⟨_, _, rfl, rfl, q⟩
  · exact q.elim
end
end L2
end
section
set_option Elab.async false
set_option linter.all false
set_option maxRecDepth 100000
set_option maxHeartbeats 4000000
namespace L2
open PySem PySem.Spec PyProof.Rows
section
variable {X : Cx}
variable {elt target iter : Expr} {ifs : List Expr} {scope : Scope} {pos spos : Pos} {wi : TI} {g : TG} {tt : TT} {te : TE}
end
end L2
end
section
set_option Elab.async false
set_option linter.all false
set_option maxRecDepth 100000
set_option maxHeartbeats 4000000
namespace L2
open PySem PySem.Spec PyProof.Rows
section
variable {X : Cx} {tg : Expr}
end
end L2
end
section
set_option Elab.async false
set_option linter.all false
set_option maxRecDepth 100000
set_option maxHeartbeats 4000000
namespace L2
open PySem PySem.Spec PyProof.Rows
section
variable {prog : Program} {w : World} {A : Around} {E : Value → Shared → Prop} {s : Shared}
end
section
variable {X : Cx} {p pos : Pos}
end
end L2
end
section
set_option Elab.async false
set_option linter.all false
set_option maxRecDepth 100000
set_option maxHeartbeats 4000000
namespace Om
section
variable {rows : Rows} {turn : Int} {ks ks' : List Nat} {E E' : Nat → Int} {ed ed' : Nat → Nat → Prop} {s l : Nat} {r : List Bool × Nat}
end
end Om
namespace L2
open PySem PySem.Spec PyProof.Rows
section
variable {H H' : Hp} {kvs : List (Key × V)} {ks : List Nat} {E : Nat → Int} {c : Nat}
end
end L2
end
section
set_option Elab.async false
set_option linter.all false
set_option maxRecDepth 100000
set_option maxHeartbeats 4000000
namespace L2
open PySem PySem.StrLaws Builtin Builtin.Str
abbrev ch (c : Nat) : Str := ⟨#[c]⟩
end L2
end
section
set_option Elab.async false
set_option linter.all false
set_option maxRecDepth 100000
set_option maxHeartbeats 4000000
namespace L2
open PySem PySem.Spec PyProof.Rows Builtin Builtin.Str
section
variable {X : Cx} {p pos apos : Pos} {a b c e o : Expr} {es : List Expr} {t : TA} {to : TE}
def rSplit : V → List V → Hp → VK → Prop := fun x vs H Q => match x, vs with
  | .str z, [.str y] => (y.length == 0) = false ∧ z.length + 2 ≤ sizeLine ∧ ∀ l, H l = none → Q (.ref l) (upd H l (.lst ((Txt.split z y).map V.str)))
  | _, _ => False
def rFind : V → List V → Hp → VK → Prop := fun x vs H Q => match x, vs with
  | .str z, [.str y] => Q (.int (Txt.find z y)) H
  | _, _ => False
theorem mt_findU : MtM X "str.find" rFind := by
  intro pins s σ H x vs v us Q I rx rv h
  unfold rFind at h
  split at h
  · obtain ⟨t, rfl⟩ := rx
    obtain ⟨u, rfl, t', rfl⟩ := rv.one
    exact SC.find ⟨.int _, H, I.tok _, ⟨_, rfl⟩, h⟩
  · exact h.elim
theorem m_find {cpos : Pos} (ho : PE X o to) (ha : PA X (e :: es) t)
    (hbase : attributeBase o "find" X.env (eval o X.env) = eval o X.env := by kernel_rfl)
    (hfew : ((backTo cpos (starEach (e :: es) X.env)).all (fun x => !x.1) && (backToKw cpos (keywordEach [] X.env)).all (fun x => x.1.isSome)
      && decide ((e :: es).length + ([] : List Keyword).length + (if ([] : List Keyword).isEmpty then 0 else 1) < 30)) = true := by kernel_rfl)
    (hline : (apos.endLine == cpos.line) = true := by kernel_rfl) (hs : starEach (e :: es) X.env = (false, eval e X.env) :: starEach es X.env := by kernel_rfl) (hplain : (backTo cpos (starEach es X.env)).any (·.1) = false := by kernel_rfl) :
    PE X (.Call (.Attribute o "find" apos) (e :: es) [] cpos) (tMt "str" rFind to t) := pe_mt PySem.F.plainAttrs_str PySem.F.slot_str_find PySem.F.type_str_find mt_findU ho ha hbase hfew hline hs hplain
end
end L2
end
section
set_option Elab.async false
set_option linter.all false
set_option maxRecDepth 100000
set_option maxHeartbeats 4000000
namespace Om
def allS (rows : Rows) : Sn := fun x => x < rows.length
def byL (rows : Rows) (S : Sn) (w : List Bool) (l : Nat) : Sn := fun y => ∃ x, S x ∧ l < (rows.getD x []).length ∧ step rows x l = (w, y)
def Goes (rows : Rows) (ws : List (List Bool)) (b l : Nat) : Prop := ∃ z, afts rows (byL rows (afts rows (allS rows) (ws.take b)) (ws.getD b []) l) (ws.drop (b + 1)) z
open Classical in
noncomputable def rd (rows : Rows) (k b : Nat) (ws : List (List Bool)) : Option Nat := (List.range (2 ^ k)).find? fun l => decide (Goes rows ws b l)
end Om
namespace L2
open PySem PySem.Spec PyProof.Rows
section
variable {H0 H : Hp} {L q : Addr} {ts : List Addr} {yss : Nat → List Nat}
end
end L2
namespace L2
open PySem PySem.Spec PyProof.Rows
section
variable {X : Cx}
end
end L2
namespace Om
end Om
namespace L2
open PySem PySem.Spec PyProof.Rows
end L2
end
section
set_option Elab.async false
set_option linter.all false
set_option maxRecDepth 100000
set_option maxHeartbeats 4000000
namespace Om
end Om
namespace L2
open PySem PySem.Spec PyProof.Rows
end L2
namespace L2
end L2
namespace L2
end L2
end
section
set_option Elab.async false
set_option linter.all false
set_option maxRecDepth 100000
set_option maxHeartbeats 4000000
namespace L2
open PySem PySem.Spec PyProof.Rows
section
variable {X : Cx} {p pos : Pos}
end
end L2
namespace Om
end Om
end
section
set_option Elab.async false
set_option linter.all false
set_option maxRecDepth 100000
set_option maxHeartbeats 4000000
namespace L2
open PySem PySem.Spec PyProof.Rows
end L2
namespace L2
open PySem PySem.Spec PyProof.Rows
end L2
namespace L2
open PySem PySem.Spec PyProof.Rows
end L2
end
section
set_option Elab.async false
set_option linter.all false
set_option maxRecDepth 100000
set_option maxHeartbeats 4000000
namespace L2
open PySem PySem.Spec PyProof.Rows
section
variable {X : Cx} {p pos apos : Pos} {a b e o : Expr} {es : List Expr} {t : TA} {to : TE}
end
end L2
end
section
set_option Elab.async false
set_option linter.all false
set_option maxRecDepth 100000
set_option maxHeartbeats 4000000
namespace L2
open PySem PySem.Spec PyProof.Rows
section
variable {X : Cx} {p pos : Pos}
end
end L2
end
section
set_option Elab.async false
set_option linter.all false
set_option maxRecDepth 100000
set_option maxHeartbeats 4000000
namespace Om
end Om
end
section
set_option Elab.async false
set_option linter.all false
set_option maxRecDepth 100000
set_option maxHeartbeats 4000000
namespace L2
open PySem PySem.Spec PyProof.Rows
theorem DVs.erase {G : Hp} : ∀ {us : List V} {ds : List PyData} (i : Nat), DVs G us ds → DVs G (us.eraseIdx i) (ds.eraseIdx i)
  | _, _, _, .nil => .nil
  | _, _, 0, .cons _ b => b
  | _, _, i + 1, .cons a b => .cons a (DVs.erase i b)
section
variable {G H0 H H' : Hp} {a A S q : Addr} {ts : List Addr} {ps : List (Nat × Nat)} {rw : Nat → List (List Bool × Nat)}
end
end L2
namespace L2
open PySem PySem.Spec PyProof.Rows
end L2
end
section
set_option Elab.async false
set_option linter.all false
set_option maxRecDepth 100000
set_option maxHeartbeats 4000000
namespace L2
open PySem PySem.Spec PyProof.Rows
section
variable {X : Cx} {p pos : Pos} {a tg : Expr}
end
end L2
namespace L2
open PySem PySem.Spec PyProof.Rows
theorem Vals.rev : ∀ {xs : List V} {us : List Value}, Vals xs us → Vals xs.reverse us.reverse
  | _, _, .nil => .nil
  | _, _, .cons r t => by
    rw [List.reverse_cons, List.reverse_cons]
    exact (Vals.rev t).append (.cons r .nil)
section
variable {prog : Program} {w : World} {A : Around} {E : Value → Shared → Prop} {s : Shared}
end
section
variable {X : Cx} {p p2 pos pos2 : Pos} {a : Expr}
end
end L2
end
section
set_option Elab.async false
set_option linter.all false
set_option maxRecDepth 100000
set_option maxHeartbeats 4000000
namespace L2
open PySem PySem.Spec PyProof.Rows
section
variable {prog : Program} {w : World} {A : Around} {E : Value → Shared → Prop} {s : Shared}
end
section
variable {X : Cx} {pos apos : Pos} {o e : Expr} {to : TE} {t : TA} {es : List Expr}
end
end L2
end
section
set_option Elab.async false
set_option linter.all false
set_option maxRecDepth 100000
set_option maxHeartbeats 4000000
namespace L2
open PySem PySem.Spec PyProof.Rows
section
variable {prog : Program} {w : World} {A : Around}
end
section
variable {X : Cx} {p pos : Pos}
end
end L2
end
section
set_option Elab.async false
set_option linter.all false
set_option maxRecDepth 100000
set_option maxHeartbeats 4000000
namespace L2
open PySem PySem.Spec PyProof.Rows
section
variable {X : Cx}
end
end L2
namespace L2
end L2
end
section
set_option Elab.async false
set_option linter.all false
set_option maxRecDepth 100000
set_option maxHeartbeats 4000000
namespace L2
open PySem PySem.Spec PyProof.Rows PySem.W
section
variable {X : Cx} {p pos : Pos} {e : Expr} {es : List Expr} {t : TA}
theorem any_range : ∀ (bs : List Bool), ((List.range bs.length).any fun i => bs.getD i true) = bs.any id
  | [] => rfl
  | b :: bs => by
    rw [List.length_cons, List.range_succ_eq_map, List.any_cons, List.any_map, List.any_cons, ← any_range bs]
    rfl
def rAny : List V → Hp → VK → Prop := fun vs H Q => match vs with
  | [.ref p] => ∃ bl : List Bool, H p = some (.lst (bl.map V.bl)) ∧ Q (.bl (bl.any id)) H
  | _ => False
theorem call_any (hc : X.calm = true) : CallR X (.builtin "any") rAny := by
  intro pins s σ H xs us Q I r h
  unfold rAny at h
  split at h
  · rename_i p
    obtain ⟨bs, hH, q⟩ := h
    obtain ⟨u, rfl, r1⟩ := vals1 r
    cases r1
    obtain ⟨z, its, n, rv, e⟩ := I.hok p _ hH
    have ei := vals_bools rv
    subst ei
    have hl : s.heap.IsList p (bs.map Value.bool).toArray := ⟨_, e, rfl, _, rfl⟩
    have hp : p < s.heap.objs.size := Heap.lt_size e
    refine call_any_walk (wpAny_pyIter_list hl ?_)
    refine ⟨s.heap.objs.size, _, [s.heap.objs.size], _, _, _, (fun i => bs.getD i true), rfl, Walks.list (A := X.A.in1) (I.ok.hd hc) s.heap.objs.size p (Nat.ne_of_lt hp) (bs.map Value.bool).toArray, ⟨⟨_, Heap.get?_push_size _ rfl, rfl, rfl⟩, hl.push _⟩, ?_, fun h' tk hk => ?_⟩
    · intro i v s' Q' E' hP hQ
      have hP : (bs.map Value.bool).toArray[i]? = some v := hP
      have hb : ∃ b, bs[i]? = some b ∧ v = .bool b := by
        rw [List.getElem?_toArray, List.getElem?_map] at hP
        cases e : bs[i]? with
        | none => rw [e] at hP; cases hP
        | some b => rw [e] at hP; exact ⟨b, rfl, (Option.some.inj hP).symm⟩
      obtain ⟨b, hb, rfl⟩ := hb
      have e : bs.getD i true = b := by rw [List.getD_eq_getElem?_getD, hb]; rfl
      dsimp only at hQ
      rw [e] at hQ
      exact wpAny_truthy_bool hQ
    · have hn : (bs.map Value.bool).toArray.size = bs.length := by simp
      rw [hn, any_range]
      exact ⟨.bl (bs.any id), H, I.kept fun b o e => hk b o (fun hm => by
        have : b = s.heap.objs.size := by simpa using hm
        exact absurd (this ▸ Heap.lt_size e) (Nat.lt_irrefl _)) (Heap.get?_push_of_some _ e), rfl, q⟩
  · exact h.elim
theorem fn_any {mg' : Str → Option Value} (hm : mg' "any" = none) (hX : X.mg = mg') (ha : PA X (e :: es) t) (hc : X.calm = true := by kernel_rfl) (hg : gB X "any" = true := by kernel_rfl) (he : starEach (e :: es) X.env = (false, eval e X.env) :: starEach es X.env := by kernel_rfl) (hpl : (backTo pos (starEach es X.env)).any (·.1) = false := by kernel_rfl) :
    PE X (.Call (.Name "any" p) (e :: es) [] pos) (tCB rAny t) := pe_callB (call_any hc) (gl_of hg) (by rw [hX]; exact hm) PyProof.Rows.boot_any ha (he := he) (hpl := hpl)
theorem flat_ws (ws : List (List Bool)) : (ws.map fun w => V.str (bs w)).all flatV = true := by
  rw [List.all_map, List.all_eq_true]
  intro x _
  rfl
theorem inV_ws (u : List Bool) (ws : List (List Bool)) : inV (.str (bs u)) (ws.map fun w => V.str (bs w)) = inL u ws := by
  unfold inV
  rw [Bool.eq_iff_iff, List.any_eq_true, inL_iff]
  constructor
  · rintro ⟨x, hx, e⟩
    obtain ⟨v, hv, rfl⟩ := List.mem_map.mp hx
    have : bs v = bs u := by simpa [eqV] using e
    rw [← bs_inj this]; exact hv
  · intro h
    exact ⟨.str (bs u), List.mem_map_of_mem (f := fun w => V.str (bs w)) h, by simp [eqV]⟩
def rInW : R2 := fun x y H Q => match x, y with
  | .str z, .ref p => ∃ (u : List Bool) (us : List (List Bool)), z = bs u ∧ H p = some (WS us) ∧ Q (.bl (inL u us)) H
  | _, _ => False
theorem op_inW : OpR X (compareOp .In) rInW := op_in_seq.of fun x y H Q q => by
  unfold rInW at q
  split at q
  · obtain ⟨u, us, rfl, h, q⟩ := q
    refine ⟨_, _, rfl, .inl (SqL.of h), rfl, flat_ws us, ?_⟩
    rw [inV_ws]; exact q
  · exact q.elim
end
end L2
end
section
set_option Elab.async false
set_option linter.all false
set_option maxRecDepth 100000
set_option maxHeartbeats 4000000
namespace L2
open PySem PySem.Spec PyProof.Rows PySem.W
theorem sg_map_inj {v w : List Bool} (h : v.map sg = w.map sg) : v = w := bs_inj (by unfold bs; rw [h])
theorem subAt_bs (w u : List Bool) (i : Nat) : Builtin.Str.subAt (bs w) (bs u) i = true ↔ (w.drop i).take u.length = u := by
  rw [StrLaws.subAt_eq, beq_iff_eq]
  have e1 : (bs w).cps.toList = w.map sg := by unfold bs; simp
  have e2 : (bs u).cps.toList = u.map sg := by unfold bs; simp
  rw [e1, e2, bs_len, ← List.map_drop, ← List.map_take]
  exact ⟨sg_map_inj, fun h => by rw [h]⟩
theorem at_iff {w u : List Bool} {i : Nat} : (i + u.length ≤ w.length ∧ (w.drop i).take u.length = u) ↔ ∃ p q, w = p ++ u ++ q ∧ p.length = i := by
  constructor
  · rintro ⟨h, e⟩
    refine ⟨w.take i, (w.drop i).drop u.length, ?_, by rw [List.length_take]; omega⟩
    have e1 : u ++ (w.drop i).drop u.length = w.drop i := by rw [← e, List.length_take, List.length_drop, Nat.min_eq_left (by omega), List.take_append_drop]
    rw [List.append_assoc, e1, List.take_append_drop]
  · rintro ⟨p, q, rfl, rfl⟩
    refine ⟨by simp, ?_⟩
    rw [List.append_assoc, List.drop_left, List.take_left]
theorem in_bs (w u : List Bool) : (!(Builtin.Str.occurrences (bs w) (bs u) 0 (bs w).length 1).isEmpty) = true ↔ ∃ p q, w = p ++ u ++ q := by
  rw [StrLaws.found_iff]
  constructor
  · rintro ⟨i, h1, h2⟩
    rw [bs_len, bs_len] at h1
    obtain ⟨p, q, e, _⟩ := at_iff.mp ⟨h1, (subAt_bs w u i).mp h2⟩
    exact ⟨p, q, e⟩
  · rintro ⟨p, q, e⟩
    obtain ⟨h1, h2⟩ := at_iff.mpr ⟨p, q, e, rfl⟩
    exact ⟨p.length, by rw [bs_len, bs_len]; exact h1, (subAt_bs w u _).mpr h2⟩
theorem occ_stay (s sub : Str) (hi : Nat) : ∀ (l : List Nat) (st : Array Nat × Nat), 1 ≤ st.1.size → (forIn l st (StrLaws.occBody s sub hi 1)).run.fst = st.1
  | [], st, h => rfl
  | a :: l, st, h => by
    rw [List.forIn_cons]
    unfold StrLaws.occBody
    rw [if_neg (fun z => by have := z.1.1.1; omega)]
    exact occ_stay s sub hi l _ h
theorem occ_first (s sub : Str) (hi : Nat) : ∀ (l : List Nat) (free : Nat), (∀ i ∈ l, free ≤ i) →
    (forIn l ((#[] : Array Nat), free) (StrLaws.occBody s sub hi 1)).run.fst = match l.find? (fun i => decide (i + sub.length ≤ hi ∧ Builtin.Str.subAt s sub i = true)) with
      | some i => #[i]
      | none => #[]
  | [], free, _ => rfl
  | a :: l, free, hf => by
    rw [List.forIn_cons]
    unfold StrLaws.occBody
    have ha : free ≤ a := hf a (List.mem_cons_self ..)
    by_cases hc : a + sub.length ≤ hi ∧ Builtin.Str.subAt s sub a = true
    · rw [if_pos ⟨⟨⟨by simp, ha⟩, hc.1⟩, hc.2⟩, List.find?_cons_of_pos (by exact decide_eq_true hc)]
      exact occ_stay s sub hi l _ (by simp)
    · rw [if_neg (fun z => hc ⟨z.1.2, z.2⟩), List.find?_cons_of_neg (by simpa using hc)]
      exact occ_first s sub hi l free fun i h => hf i (List.mem_cons_of_mem _ h)
theorem find_bs (t u : List Bool) : Txt.find (bs (t ++ u)) (bs u) = (t.length : Int) ↔ ¬ ∃ p q, t ++ u = p ++ u ++ q ∧ p.length < t.length := by
  unfold Txt.find
  rw [StrLaws.occ_eq]
  rw [occ_first _ _ _ _ _ (fun _ _ => Nat.zero_le _)]
  have cond : ∀ i, (i + (bs u).length ≤ (bs (t ++ u)).length ∧ Builtin.Str.subAt (bs (t ++ u)) (bs u) i = true) ↔ ∃ p q, t ++ u = p ++ u ++ q ∧ p.length = i := fun i => by
    rw [← at_iff, subAt_bs, bs_len, bs_len]
  cases e : (List.range' 0 ((bs (t ++ u)).length + 1 - 0)).find? (fun i => decide (i + (bs u).length ≤ (bs (t ++ u)).length ∧ Builtin.Str.subAt (bs (t ++ u)) (bs u) i = true)) with
  | none =>
    have := List.find?_eq_none.mp e t.length (by rw [bs_len]; simp [List.mem_range']; omega)
    exact absurd (decide_eq_true ((cond t.length).mpr ⟨t, [], by simp, rfl⟩)) this
  | some i0 =>
    obtain ⟨h1, j, hj, e1, h2⟩ := List.find?_eq_some_iff_getElem.mp e
    have c0 := (cond i0).mp (of_decide_eq_true h1)
    have ej : j = i0 := by rw [List.getElem_range'] at e1; omega
    subst ej
    have low : ∀ i, i < j → ¬ ∃ p q, t ++ u = p ++ u ++ q ∧ p.length = i := fun i hi z => by
      have := h2 i hi
      rw [List.getElem_range'] at this
      have ei : 0 + 1 * i = i := by omega
      rw [ei] at this
      rw [decide_eq_true ((cond i).mpr z)] at this
      cases this
    show ((j : Int) = (t.length : Int)) ↔ _
    constructor
    · intro z
      have z : j = t.length := by omega
      rintro ⟨p, q, e2, hp⟩
      exact low p.length (by omega) ⟨p, q, e2, rfl⟩
    · intro z
      obtain ⟨p, q, e2, hp⟩ := c0
      have a1 : ¬ p.length < t.length := fun y => z ⟨p, q, e2, y⟩
      have a2 : ¬ t.length < j := fun y => low t.length y ⟨t, [], by simp, rfl⟩
      omega
end L2
end
section
set_option Elab.async false
set_option linter.all false
set_option maxRecDepth 100000
set_option maxHeartbeats 4000000
namespace Om
inductive Spot where
  | mark (i : Nat)
  | word (s l a : Nat)
  deriving DecidableEq
section
variable {k n : Nat} {rows : Rows} {u : List Bool}
def rowAt (rows : Rows) (s l : Nat) : List Bool × Nat := (rows.getD s []).getD l ([], 0)
def sgnAt (rows : Rows) (u : List Bool) : Spot → Bool
  | .mark i => u.getD i false
  | .word s l a => (rowAt rows s l).1.getD a false
def begins (rows : Rows) (s : Nat) : List Spot := .mark 0 :: (List.range (rows.getD s []).length).map fun l => .word s l 0
def nexts (rows : Rows) (n : Nat) (u : List Bool) : Spot → List Spot
  | .mark i => if i + 1 < u.length then [.mark (i + 1)] else begins rows 0
  | .word s l a => if a + 1 < n then [.word s l (a + 1)] else begins rows (rowAt rows s l).2
def OkS (rows : Rows) (n : Nat) (u : List Bool) : Spot → Prop
  | .mark i => i < u.length
  | .word s l a => s < rows.length ∧ l < (rows.getD s []).length ∧ a < n
inductive Pre (rows : Rows) (n : Nat) (u : List Bool) : List Bool → Spot → Prop
  | z : Pre rows n u [] (.mark 0)
  | s {w : List Bool} {p q : Spot} : Pre rows n u w p → q ∈ nexts rows n u p → Pre rows n u (w ++ [sgnAt rows u p]) q
inductive Blk (rows : Rows) (u : List Bool) : List Bool → Prop
  | nil : Blk rows u []
  | s {x v : List Bool} {b : Nat} : Blk rows u x → Wr rows 0 v b → Blk rows u (x ++ u ++ v)
def Desc (rows : Rows) (n : Nat) (u : List Bool) (w : List Bool) : Spot → Prop
  | .mark i => i < u.length ∧ ∃ x, Blk rows u x ∧ w = x ++ u.take i
  | .word s l a => (s < rows.length ∧ l < (rows.getD s []).length ∧ a < n) ∧ ∃ x v, Blk rows u x ∧ Wr rows 0 v s ∧ w = x ++ u ++ v ++ (rowAt rows s l).1.take a
theorem row_mem {s l : Nat} (h : l < (rows.getD s []).length) : rowAt rows s l ∈ rows.getD s [] := by
  unfold rowAt
  generalize rows.getD s [] = st at h ⊢
  rw [List.getD_eq_getElem?_getD, List.getElem?_eq_getElem h]
  exact List.getElem_mem h
theorem take_snoc {w : List Bool} {i : Nat} (h : i < w.length) : w.take i ++ [w.getD i false] = w.take (i + 1) := by
  rw [List.take_succ, List.getD_eq_getElem?_getD, List.getElem?_eq_getElem h]; rfl
theorem desc_begins (ok : CodeOk k n rows) (hu : 1 ≤ u.length) {x v : List Bool} {s : Nat} {q : Spot} (hx : Blk rows u x) (hv : Wr rows 0 v s) (h : q ∈ begins rows s) : Desc rows n u (x ++ u ++ v) q := by
  rcases List.mem_cons.mp h with rfl | h
  · exact ⟨hu, _, .s hx hv, by simp⟩
  · obtain ⟨l, hl, rfl⟩ := List.mem_map.mp h
    have hl := List.mem_range.mp hl
    exact ⟨⟨hv.lt ok ok.s1, hl, ok.n1⟩, x, v, hx, hv, by simp⟩
theorem Pre.desc (ok : CodeOk k n rows) (hu : 1 ≤ u.length) {w : List Bool} {p : Spot} (h : Pre rows n u w p) : Desc rows n u w p := by
  induction h with
  | z => exact ⟨hu, [], .nil, by simp⟩
  | @s w p q _ hq ih =>
    cases p with
    | mark i =>
      obtain ⟨hi, x, hx, rfl⟩ := ih
      have e : x ++ u.take i ++ [sgnAt rows u (.mark i)] = x ++ u.take (i + 1) := by
        rw [List.append_assoc, show sgnAt rows u (.mark i) = u.getD i false from rfl, take_snoc hi]
      rw [e]
      unfold nexts at hq
      simp only [] at hq
      by_cases c : i + 1 < u.length
      · rw [if_pos c] at hq
        obtain rfl : q = .mark (i + 1) := by simpa using hq
        exact ⟨c, x, hx, rfl⟩
      · rw [if_neg c] at hq
        have e2 : u.take (i + 1) = u := List.take_of_length_le (by omega)
        have := desc_begins ok hu hx (.nil (rows := rows) (a := 0)) hq
        rw [List.append_nil] at this
        rw [e2]
        exact this
    | word s l a =>
      obtain ⟨⟨hs, hl, ha⟩, x, v, hx, hv, rfl⟩ := ih
      have rn := (row_in ok (row_mem hl)).1
      have e : x ++ u ++ v ++ (rowAt rows s l).1.take a ++ [sgnAt rows u (.word s l a)] = x ++ u ++ v ++ (rowAt rows s l).1.take (a + 1) := by
        rw [List.append_assoc (x ++ u ++ v), show sgnAt rows u (.word s l a) = (rowAt rows s l).1.getD a false from rfl, take_snoc (by omega)]
      rw [e]
      unfold nexts at hq
      simp only [] at hq
      by_cases c : a + 1 < n
      · rw [if_pos c] at hq
        obtain rfl : q = .word s l (a + 1) := by simpa using hq
        exact ⟨⟨hs, hl, c⟩, x, v, hx, hv, rfl⟩
      · rw [if_neg c] at hq
        have e2 : (rowAt rows s l).1.take (a + 1) = (rowAt rows s l).1 := List.take_of_length_le (by omega)
        have := desc_begins ok hu hx (.snoc hv (row_mem hl)) hq
        rw [e2]
        rw [← List.append_assoc] at this
        exact this
theorem Pre.ok (ok : CodeOk k n rows) (hu : 1 ≤ u.length) {w : List Bool} {p : Spot} (h : Pre rows n u w p) : OkS rows n u p := by
  have := h.desc ok hu
  cases p with
  | mark i => exact this.1
  | word s l a => exact this.1
theorem pre_mark (hu : 1 ≤ u.length) {w : List Bool} (h : Pre rows n u w (.mark 0)) : ∀ i, i < u.length → Pre rows n u (w ++ u.take i) (.mark i)
  | 0, _ => by simpa using h
  | i + 1, hi => by
    have := Pre.s (pre_mark hu h i (by omega)) (show Spot.mark (i + 1) ∈ nexts rows n u (.mark i) by unfold nexts; simp only []; rw [if_pos hi]; simp)
    rw [List.append_assoc, show sgnAt rows u (.mark i) = u.getD i false from rfl, take_snoc (by omega)] at this
    exact this
theorem pre_word (ok : CodeOk k n rows) {w : List Bool} {s l : Nat} (hl : l < (rows.getD s []).length) (h : Pre rows n u w (.word s l 0)) : ∀ a, a < n → Pre rows n u (w ++ (rowAt rows s l).1.take a) (.word s l a)
  | 0, _ => by simpa using h
  | a + 1, ha => by
    have rn := (row_in ok (row_mem hl)).1
    have := Pre.s (pre_word ok hl h a (by omega)) (show Spot.word s l (a + 1) ∈ nexts rows n u (.word s l a) by unfold nexts; simp only []; rw [if_pos ha]; simp)
    rw [List.append_assoc, show sgnAt rows u (.word s l a) = (rowAt rows s l).1.getD a false from rfl, take_snoc (by omega)] at this
    exact this
theorem pre_wire (ok : CodeOk k n rows) (hu : 1 ≤ u.length) {v : List Bool} {s : Nat} (h : Wr rows 0 v s) : ∀ q ∈ begins rows s, Pre rows n u (u ++ v) q := by
  induction h with
  | nil =>
    intro q hq
    have h1 := pre_mark (rows := rows) (n := n) hu .z (u.length - 1) (by omega)
    have := Pre.s h1 (show q ∈ nexts rows n u (.mark (u.length - 1)) by unfold nexts; simp only []; rw [if_neg (by omega)]; exact hq)
    rw [List.nil_append, show sgnAt rows u (.mark (u.length - 1)) = u.getD (u.length - 1) false from rfl, take_snoc (by omega), List.take_of_length_le (by omega)] at this
    rw [List.append_nil]
    exact this
  | @snoc v s r hv hr ih =>
    intro q hq
    obtain ⟨l, hl, er⟩ := List.getElem_of_mem hr
    have ea : rowAt rows s l = r := by rw [← er]; unfold rowAt; generalize rows.getD s [] = st at hl ⊢; rw [List.getD_eq_getElem?_getD, List.getElem?_eq_getElem hl]; rfl
    have rn := (row_in ok hr).1
    have n1 := ok.n1
    have h0 := ih (.word s l 0) (List.mem_cons_of_mem _ (List.mem_map.mpr ⟨l, List.mem_range.mpr hl, rfl⟩))
    have h1 := pre_word ok hl h0 (n - 1) (by omega)
    have := Pre.s h1 (show q ∈ nexts rows n u (.word s l (n - 1)) by unfold nexts; simp only []; rw [if_neg (by omega), ea]; exact hq)
    rw [List.append_assoc, show sgnAt rows u (.word s l (n - 1)) = (rowAt rows s l).1.getD (n - 1) false from rfl, take_snoc (by rw [ea]; omega), ea, List.take_of_length_le (by omega)] at this
    rw [← List.append_assoc]
    exact this
theorem lastN_more {m j : Nat} {A B : List Bool} (h : m ≤ j + B.length) : lastN m (A ++ B) = lastN m (lastN j A ++ B) := by
  unfold lastN
  obtain ⟨c, hc⟩ : ∃ c, c = A.length - j := ⟨_, rfl⟩
  rw [← hc, ← List.drop_append_of_le_length (by omega), List.drop_drop, List.length_drop, List.length_append]
  congr 1
  omega
theorem lastN_suf {m : Nat} {p w : List Bool} (h : w.length = m) : lastN m (p ++ w) = w := by
  unfold lastN
  rw [List.length_append, h, Nat.add_sub_cancel, List.drop_left]
theorem lastN_long {m : Nat} {w : List Bool} (h : m ≤ w.length) : (lastN m w).length = m := by unfold lastN; rw [List.length_drop]; omega
def BadP (rows : Rows) (u : List Bool) : Prop := ∃ v s, Wr rows 0 v s ∧ ((∃ p q, lastN (u.length - 1) (u.tail ++ v) ++ u = p ++ u ++ q ∧ p.length < (lastN (u.length - 1) (u.tail ++ v)).length) ∨ ∃ r ∈ rows.getD s [], ∃ p q, lastN (u.length - 1) (u.tail ++ v) ++ r.1 = p ++ u ++ q)
def BadL (rows : Rows) (n : Nat) (u : List Bool) : Prop := ∃ w p, Pre rows n u w p ∧ lastN u.length (w ++ [sgnAt rows u p]) = u ∧ p ≠ .mark (u.length - 1)
theorem bad_of {x v B : List Bool} (hu : 1 ≤ u.length) (hB : 1 ≤ B.length) (h : lastN u.length (x ++ u ++ v ++ B) = u) : ∃ p, lastN (u.length - 1) (u.tail ++ v) ++ B = p ++ u := by
  obtain ⟨c, u', rfl⟩ : ∃ c u', u = c :: u' := by
    cases u with
    | nil => simp at hu
    | cons c u' => exact ⟨c, u', rfl⟩
  have e : x ++ (c :: u') ++ v ++ B = (x ++ [c]) ++ (u' ++ v ++ B) := by simp
  have l1 : (c :: u').length - 1 = u'.length := by simp
  rw [e] at h
  have h2 : lastN (c :: u').length (u' ++ v ++ B) = c :: u' := by
    have l2 : (c :: u').length ≤ (u' ++ v ++ B).length := by simp; omega
    have e2 : lastN (c :: u').length ((x ++ [c]) ++ (u' ++ v ++ B)) = lastN (c :: u').length (u' ++ v ++ B) := by
      unfold lastN
      rw [List.length_append, show (x ++ [c]).length + (u' ++ v ++ B).length - (c :: u').length = (x ++ [c]).length + ((u' ++ v ++ B).length - (c :: u').length) by omega, ← List.drop_drop, List.drop_left]
    rw [← e2]; exact h
  rw [lastN_more (j := u'.length) (by simp; omega)] at h2
  obtain ⟨p, hp⟩ := lastN_pre (c :: u').length (lastN u'.length (u' ++ v) ++ B)
  rw [h2] at hp
  refine ⟨p, ?_⟩
  rw [l1]
  exact hp
theorem bad_iff (ok : CodeOk k n rows) (hu : 1 ≤ u.length) : BadL rows n u ↔ BadP rows u := by
  constructor
  · rintro ⟨w, p, hp, e, ne⟩
    have d := hp.desc ok hu
    cases p with
    | mark a =>
      obtain ⟨ha, x, hx, rfl⟩ := d
      rw [List.append_assoc, show sgnAt rows u (.mark a) = u.getD a false from rfl, take_snoc ha] at e
      have a1 : a + 1 < u.length := by
        by_cases c : a + 1 < u.length
        · exact c
        · exact absurd (by congr 1; omega) ne
      cases hx with
      | nil =>
        have := congrArg List.length e
        unfold lastN at this
        simp at this
        omega
      | @s x v b hx hv =>
        obtain ⟨p, hp⟩ := bad_of hu (by rw [List.length_take]; omega) e
        refine ⟨v, b, hv, .inl ⟨p, u.drop (a + 1), ?_, ?_⟩⟩
        · rw [← hp, List.append_assoc, List.take_append_drop]
        · have := congrArg List.length hp
          rw [List.length_append, List.length_append, List.length_take] at this
          omega
    | word s l a =>
      obtain ⟨⟨hs, hl, ha⟩, x, v, hx, hv, rfl⟩ := d
      have rn := (row_in ok (row_mem hl)).1
      rw [List.append_assoc (x ++ u ++ v), show sgnAt rows u (.word s l a) = (rowAt rows s l).1.getD a false from rfl, take_snoc (by omega)] at e
      obtain ⟨p, hp⟩ := bad_of hu (by rw [List.length_take]; omega) e
      refine ⟨v, s, hv, .inr ⟨_, row_mem hl, p, (rowAt rows s l).1.drop (a + 1), ?_⟩⟩
      rw [← hp, List.append_assoc, List.take_append_drop]
  · rintro ⟨v, s, hv, h⟩
    have tl : (lastN (u.length - 1) (u.tail ++ v)).length = u.length - 1 := lastN_long (by simp)
    obtain ⟨y, hy⟩ := lastN_pre (u.length - 1) (u.tail ++ v)
    have hut : u = u.take 1 ++ u.tail := by
      cases u with
      | nil => simp at hu
      | cons c u' => rfl
    have euv : u ++ v = u.take 1 ++ y ++ lastN (u.length - 1) (u.tail ++ v) := by
      conv => lhs; rw [hut]
      rw [List.append_assoc, List.append_assoc, ← hy]
    generalize lastN (u.length - 1) (u.tail ++ v) = t at tl euv h
    rcases h with ⟨p, q, e, hp⟩ | ⟨r, hr, p, q, e⟩
    · -- the mark ends within the second mark
      have ln := congrArg List.length e
      simp only [List.length_append] at ln
      obtain ⟨a, ha⟩ : ∃ a, a = p.length + u.length - 1 - t.length := ⟨_, rfl⟩
      have h0 := pre_wire ok hu hv (.mark 0) (List.mem_cons_self ..)
      have h1 := pre_mark hu h0 a (by omega)
      refine ⟨_, _, h1, ?_, fun z => by cases z; omega⟩
      rw [List.append_assoc (u ++ v), show sgnAt rows u (.mark a) = u.getD a false from rfl, take_snoc (by omega), euv, List.append_assoc]
      have e2 : t ++ u.take (a + 1) = p ++ u := by
        have := congrArg (List.take (p ++ u).length) e
        rw [List.take_left, List.take_append, List.take_of_length_le (by simp; omega)] at this
        rw [← this]
        congr 2
        simp
        omega
      rw [e2, ← List.append_assoc]
      exact lastN_suf rfl
    · have rn := (row_in ok hr).1
      have ln := congrArg List.length e
      simp only [List.length_append] at ln
      obtain ⟨l, hl, er⟩ := List.getElem_of_mem hr
      have ea : rowAt rows s l = r := by rw [← er]; unfold rowAt; generalize rows.getD s [] = st at hl ⊢; rw [List.getD_eq_getElem?_getD, List.getElem?_eq_getElem hl]; rfl
      obtain ⟨a, ha⟩ : ∃ a, a = p.length + u.length - 1 - t.length := ⟨_, rfl⟩
      have h0 := pre_wire ok hu hv (.word s l 0) (List.mem_cons_of_mem _ (List.mem_map.mpr ⟨l, List.mem_range.mpr hl, rfl⟩))
      have h1 := pre_word ok hl h0 a (by omega)
      refine ⟨_, _, h1, ?_, fun z => nomatch z⟩
      rw [List.append_assoc (u ++ v), show sgnAt rows u (.word s l a) = (rowAt rows s l).1.getD a false from rfl, take_snoc (by rw [ea]; omega), ea, euv, List.append_assoc]
      have e2 : t ++ r.1.take (a + 1) = p ++ u := by
        have := congrArg (List.take (p ++ u).length) e
        rw [List.take_left, List.take_append, List.take_of_length_le (by simp; omega)] at this
        rw [← this]
        congr 2
        simp
        omega
      rw [e2, ← List.append_assoc]
      exact lastN_suf rfl
theorem rchS_iff {m : Nat} {s0 : List Bool} (hs : s0.length ≤ m) {x : List Bool × Nat} : RchG (stepT rows m) (s0, 0) x ↔ ∃ w, Wr rows 0 w x.2 ∧ x.1 = lastN m (s0 ++ w) := by
  have e0 : lastN m s0 = s0 := by unfold lastN; rw [Nat.sub_eq_zero_of_le hs]; rfl
  constructor
  · intro h
    induction h with
    | z => exact ⟨[], .nil, by rw [List.append_nil, e0]⟩
    | s _ hb ih =>
      obtain ⟨w, hw, e⟩ := ih
      obtain ⟨r, hr, rfl⟩ := List.mem_map.mp hb
      exact ⟨w ++ r.1, .snoc hw hr, by rw [e, ← List.append_assoc]; exact lastN_app m (s0 ++ w) r.1⟩
  · rintro ⟨w, hw, e⟩
    obtain ⟨t, s⟩ := x
    dsimp only at hw e
    subst e
    induction hw with
    | nil => rw [List.append_nil, e0]; exact .z
    | @snoc w b r hw hr ih =>
      refine .s ih (List.mem_map.mpr ⟨r, hr, ?_⟩)
      dsimp only
      rw [lastN_app, List.append_assoc]
def nxL (rows : Rows) (n : Nat) (u : List Bool) (x : List Bool × Spot) : List (List Bool × Spot) := (nexts rows n u x.2).map fun q => (lastN u.length (x.1 ++ [sgnAt rows u x.2]), q)
theorem rchL_iff {x : List Bool × Spot} : RchG (nxL rows n u) ([], .mark 0) x ↔ ∃ w, Pre rows n u w x.2 ∧ x.1 = lastN u.length w := by
  have e0 : lastN u.length [] = [] := by unfold lastN; simp
  constructor
  · intro h
    induction h with
    | z => exact ⟨[], .z, e0.symm⟩
    | s _ hb ih =>
      obtain ⟨w, hw, e⟩ := ih
      obtain ⟨q, hq, rfl⟩ := List.mem_map.mp hb
      exact ⟨_, .s hw hq, by rw [e]; exact lastN_app _ w _⟩
  · rintro ⟨w, hw, e⟩
    obtain ⟨t, p⟩ := x
    dsimp only at hw e
    subst e
    induction hw with
    | z => rw [e0]; exact .z
    | @s w p q hw hq ih =>
      refine .s ih (List.mem_map.mpr ⟨q, hq, ?_⟩)
      dsimp only
      rw [lastN_app]
def BadN (rows : Rows) (u : List Bool) (x : List Bool × Spot) : Prop := lastN u.length (x.1 ++ [sgnAt rows u x.2]) = u ∧ x.2 ≠ .mark (u.length - 1)
theorem badL_iff : BadL rows n u ↔ ∃ x, RchG (nxL rows n u) ([], .mark 0) x ∧ BadN rows u x := by
  constructor
  · rintro ⟨w, p, h, e, ne⟩
    refine ⟨(lastN u.length w, p), rchL_iff.mpr ⟨w, h, rfl⟩, ?_, ne⟩
    dsimp only
    rw [lastN_app]; exact e
  · rintro ⟨⟨t, p⟩, h, e, ne⟩
    obtain ⟨w, hw, et⟩ := rchL_iff.mp h
    dsimp only at hw et e ne
    refine ⟨w, p, hw, ?_, ne⟩
    rw [et, lastN_app] at e
    exact e
end
end Om
end
section
set_option Elab.async false
set_option linter.all false
set_option maxRecDepth 100000
set_option maxHeartbeats 4000000
namespace K40
open PySem L2
def inB (w u : List Bool) : Bool := !(Builtin.Str.occurrences (bs w) (bs u) 0 (bs w).length 1).isEmpty
theorem inB_iff {w u : List Bool} : inB w u = true ↔ ∃ p q, w = p ++ u ++ q := in_bs w u
def GoodT (rows : Om.Rows) (u : List Bool) (x : List Bool × Nat) : Prop := (¬ ∃ p q, x.1 ++ u = p ++ u ++ q ∧ p.length < x.1.length) ∧ ∀ r ∈ rows.getD x.2 [], ¬ ∃ p q, x.1 ++ r.1 = p ++ u ++ q
section
variable {P : Program} {w : World} {K : PySem.W.Frag} {mg : Str → Option Value} {base : Heap}
abbrev sClean : Stmt := top 10
def spClean (P0 : Addr) : Sp := fun vs H Q _ => match vs with
  | [cv, t] => (∃ (k n : Nat) (rows : Om.Rows) (u : List Bool), t = .str (bs u) ∧ 1 ≤ u.length ∧ u.length ≤ 8 ∧ DV H cv (codeD k n rows) ∧ Om.CodeOk k n rows ∧ Tab P0 (lamPos lamTb) qTb H ∧
      ∀ (b : Bool) H', SameT P0 H H' → Tab P0 (lamPos lamTb) qTb H' → (b = true ↔ ¬ Om.Fac rows u ∧ ¬ Om.BadP rows u) → Q (.bl b) H') ∨
    (∃ Tx, tyN H t = some Tx ∧ Tx ≠ "str" ∧ Q (.bl false) H) ∨ ∃ z : Str, t = .str z ∧ z.length ≤ 100 ∧ (z.length = 0 ∨ 8 < z.length ∨ Txt.stripChars z ("01" : Str) ≠ ("" : Str)) ∧ Q (.bl false) H
  | _ => False
theorem scClean : FnScope ["code", "mark", "tail", "state"] ["code", "mark"] (defScope sClean) := ⟨rfl, rfl, rfl, by decide +kernel, rfl, by decide +kernel, by decide +kernel⟩
local macro_rules | `(tactic| walk_at "T.n") => `(tactic| with_reducible first | exact vn "code" 0 | exact vn "mark" 1 | exact vn "tail" 2 | exact vn "state" 3)
local macro_rules | `(tactic| walk_at "T.gn") => `(tactic| with_reducible first | exact gn "tail" 2 (by with_unfolding_all assumption) | exact gn "state" 3 (by with_unfolding_all assumption))
local macro_rules | `(tactic| walk_at "T.n") => `(tactic| with_reducible first | exact vn "row" 0 | exact vn "mark" 1 | exact vn "tail" 2)
local macro_rules | `(tactic| walk_at "T.gn") => `(tactic| with_reducible first | exact gn "row" 0 (by with_unfolding_all assumption))
local macro_rules | `(tactic| walk_at "T.c") => `(tactic| (have ndc : (["row", "mark", "tail"] : List Str).Nodup := (by decide +kernel)); ((with_reducible refine' c_comp ["row", "mark", "tail"] [1, 2] ?b1 ?b2 (fun cl C s H fp => ?b3) (fun cl C s H fp => ?b4) (fun cl C s H fp => ?b5)); (case b1 => exact ndc); (case b2 => walk_at "T.i"); (case b3 => walk_at "T.g"); (case b4 => walk_at "T.pf"); (case b5 => walk_at "T.e")))
local macro_rules | `(tactic| walk_at "T.n") => `(tactic| with_reducible first | exact vn "code" 0 | exact vn "mark" 1 | exact vn "tail" 2 | exact vn "state" 3 | exact vn "row" 0 | exact vn "mark" 1 | exact vn "tail" 2)
local macro_rules | `(tactic| walk_at "T.gn") => `(tactic| with_reducible first | exact gn "tail" 2 (by with_unfolding_all assumption) | exact gn "state" 3 (by with_unfolding_all assumption) | exact gn "row" 0 (by with_unfolding_all assumption))
local macro_rules | `(tactic| walk_at "T.m") => `(tactic| ((with_reducible refine' m_find ?a1 ?a2); (case a1 => walk_at "T.e"); (case a2 => walk_at "T.a")))
local macro_rules | `(tactic| walk_at "T.cmp") => `(tactic| (with_reducible exact op_inS))
local macro_rules | `(tactic| walk_at "T.b") => `(tactic| ((with_reducible refine' fn_any ?a0 ?a9 ?a1); (case a0 => with_reducible assumption); (case a9 => rfl); (case a1 => walk_at "T.a")))
theorem ok_clean {P0 : Addr} (D : FnX K mg "is_clean" sClean ["code", "mark"]) (g1 : mg "len" = none) (g2 : mg "any" = none) (c1 : Can P w K mg base "is_mark" 6 ["code", "thing"] (spMark P0)) (c2 : Can P w K mg base "tails_behind" 4 ["code", "start", "keep"] (spTails P0)) : Can P w K mg base "is_clean" 7 ["code", "mark"] (spClean P0) := by
  refine can_fn (k := 6) D scClean (fun vs H Q E h => ?_) (fun f0 cdv A outer s H vs Q E hr h => ?_)
  all_goals
    unfold spClean at h
    split at h
  · rfl
  · exact h.elim
  · rename_i cv t
    have nd := scClean.nd
    refine ⟨_, (by walk_at "T.top"), ?_⟩
    rcases h with ⟨k, n, rows, u, rfl, u1, u8, hc, ok, tb, q⟩ | ⟨Tx, ht, ns, q⟩ | ⟨z, rfl, z100, hz, q⟩
    · refine .inl ⟨k, n, rows, u, rfl, u1, u8, hc, ok, tb, fun b H1 s1 t1 hb => ?_⟩
      cases b with
      | false => exact ite2 (fun _ => q false H1 s1 t1 ⟨(fun z => nomatch z), fun z => absurd (hb.mpr z.1) (by decide)⟩) (fun z => absurd rfl z)
      | true =>
        have nf := hb.mp rfl
        refine ite2 (fun z => absurd z (by decide)) (fun _ => ?_)
        have hc1 := hc.monoT tb s1
        clear hb
        have st1 : Txt.slice (bs u) (some (1 : Int)) none = bs u.tail := by
          rw [bs_fromZ (by decide) (by omega)]
          congr 1
          cases u <;> rfl
        have e1 : ((u.length : Nat) : Int) - 1 = ((u.length - 1 : Nat) : Int) := by omega
        dsimp only [tNext]
        refine ⟨by rw [bs_len]; exact le_line (by omega), _, lenS (le_line (by omega)), ?_⟩
        refine ⟨k, n, rows, u.length - 1, u.tail, st1, by simp, e1, by omega, hc1, ok, t1, fun l xs bz H2 s2 t2 nl hl bl hb hx x2 => ?_⟩
        have hc2 := hc1.monoT t1 s2
        obtain ⟨a, b, ss, rfl, ha, hbb, hss⟩ := code_inv hc2
        have s12 := s1.trans s2
        have bad_of : ∀ i (hi : i < xs.length), ¬ GoodT rows u xs[i] → Om.BadP rows u := fun i hi nb => by
          obtain ⟨v, hv, ev⟩ := (Om.rchS_iff (by simp)).mp ((hx _).mp (List.getElem_mem hi))
          refine Classical.byContradiction fun z => nb ⟨fun ⟨p, q, e, hp⟩ => z ⟨v, _, hv, .inl ⟨p, q, by rw [← ev]; exact e, by rw [← ev]; exact hp⟩⟩, fun r hr ⟨p, q, e⟩ => z ⟨v, _, hv, .inr ⟨r, hr, p, q, by rw [← ev]; exact e⟩⟩⟩
        refine ⟨⟨_, SqL.of hl⟩, for_by (it_list _ l (bz.map V.ref)) (fun i σ H3 => ∃ v2 v3 : Option V, σ = [some (.ref a), some (.str (bs u)), v2, v3] ∧ Same H2 H3 ∧ ∀ j (hj : j < xs.length), j < i → GoodT rows u xs[j])
          ⟨none, none, rfl, Same.refl _, fun j _ h => absurd h (Nat.not_lt_zero _)⟩ (fun i σ H3 _ ⟨_, _, _, s3, _⟩ => SqL.of (s3 _ _ hl)) ?_ ?_⟩
        · rintro i z σ H3 hi hz ⟨v2, v3, rfl, s3, gd⟩
          rw [List.length_map] at hi
          have hi' : i < xs.length := by omega
          obtain ⟨bb, b1, b2⟩ := hb i xs[i] (List.getElem?_eq_getElem hi')
          rw [List.getElem?_map, b1] at hz
          cases hz
          have xr := (hx _).mp (List.getElem_mem hi')
          have bad := bad_of i hi'
          obtain ⟨w0, hw0, ew0⟩ := (Om.rchS_iff (by simp)).mp xr
          have xl : xs[i].2 < rows.length := hw0.lt ok ok.s1
          have x7 : xs[i].1.length ≤ 7 := by rw [ew0]; exact Nat.le_trans (Om.lastN_le _ _) (by omega)
          have nxt : GoodT rows u xs[i] → ∀ j (hj : j < xs.length), j < i + 1 → GoodT rows u xs[j] := fun g j hj h => by
            by_cases e : j = i
            · subst e; exact g
            · exact gd j hj (by omega)
          generalize xs[i] = x at b2 bad xl x7 nxt
          clear xr hw0 ew0 gd
          obtain ⟨qx, rx, f1, f2, f3⟩ := state_at hss (s := x.2) (st := rows[x.2]) (List.getElem?_eq_getElem xl)
          have rl : rx.length = rows[x.2].length := by rw [f3.length, List.length_map]
          have r8 : rows[x.2].length ≤ 8 := by rw [ok.len _ (List.getElem_mem xl)]; exact Om.pow8 ok.k3
          have eg : rows.getD x.2 [] = rows[x.2] := by rw [List.getD_eq_getElem?_getD, List.getElem?_eq_getElem xl]; rfl
          have t3 := t2.mono s3
          refine ⟨_, .inl (s3 _ _ b2), rfl, rfl, ?_⟩
          dsimp only
          refine ⟨by rw [bs_len, bs_len]; exact le_line (by omega), rfl, _, lenS (le_line (by omega)), ?_⟩
          have fd := find_bs x.1 u
          rw [← bs_app] at fd
          refine ite2 (fun c1 => ?_) (fun c1 => ?_)
          · refine q false _ (s12.trans s3.t) t3 ⟨(fun z => nomatch z), fun z => absurd (bad fun g => ?_) z.2⟩
            rw [decide_eq_true (fd.mpr g.1)] at c1
            exact absurd c1 (by decide)
          · have g1 : ¬ ∃ p q, x.1 ++ u = p ++ u ++ q ∧ p.length < x.1.length := by
              refine fd.mp (Classical.byContradiction fun z => c1 ?_)
              rw [decide_eq_false z]
              rfl
            refine ⟨_, gt (s3 _ _ ha) (by decide) rfl, .ref qx, gl (s3 _ _ hbb) (by omega) (by simpa using f1), ⟨_, SqL.of (s3 _ _ f2)⟩, fun C hC => ?_⟩
            have sC : ∀ o, Same H2 (upd H3 C o) := fun o => s3.trans (Same.upd hC)
            refine comp_by (it_list _ qx rx) (fun i τ H5 ys => (∃ v, τ = [v, some (.str (bs u)), some (.str (bs x.1))]) ∧ H5 = upd H3 C (.lst ys) ∧ i ≤ rx.length ∧ ys = (rows[x.2].take i).map fun r => V.bl (inB (x.1 ++ r.1) u)) (le_line (by omega)) ⟨⟨none, rfl⟩, rfl, Nat.zero_le _, by simp⟩ ?_ ?_ ?_
            · rintro i τ H5 ys hi ⟨_, rfl, _, rfl⟩
              exact ⟨SqL.of (sC _ _ _ f2), upd_same, by rw [List.length_map, List.length_take]; omega⟩
            · rintro i z τ H5 ys hi hz ⟨⟨v, rfl⟩, rfl, _, rfl⟩
              have hj' : i < rows[x.2].length := by omega
              obtain ⟨r, r1, r2⟩ := row_at f3 (l := i) (r := rows[x.2][i]) (List.getElem?_eq_getElem hj')
              rw [hz] at r1
              cases r1
              have okr := ok.row _ (List.getElem_mem xl) _ (List.getElem_mem hj')
              have n6 := ok.n6
              refine ⟨_, gt (sC _ _ _ r2) (by decide) rfl, by rw [bs_len, bs_len]; exact le_line (by omega), ?_⟩
              rw [bs_app]
              refine ⟨upd_same, ⟨_, rfl⟩, upd_upd, by omega, ?_⟩
              rw [List.take_add_one, List.getElem?_eq_getElem hj', List.map_append]
              rfl
            · rintro τ H5 ys ⟨_, rfl, _, rfl⟩
              rw [List.take_of_length_le (by omega)]
              refine ⟨rows[x.2].map fun r => inB (x.1 ++ r.1) u, by rw [upd_same, List.map_map]; rfl, ?_⟩
              have ea : (rows[x.2].map fun r => inB (x.1 ++ r.1) u).any id = true ↔ ∃ r ∈ rows.getD x.2 [], ∃ p q, x.1 ++ r.1 = p ++ u ++ q := by
                rw [eg, List.any_eq_true]
                constructor
                · rintro ⟨b, hb, e⟩
                  obtain ⟨r, hr, rfl⟩ := List.mem_map.mp hb
                  exact ⟨r, hr, inB_iff.mp e⟩
                · rintro ⟨r, hr, e⟩
                  exact ⟨_, List.mem_map.mpr ⟨r, hr, rfl⟩, inB_iff.mpr e⟩
              refine ite2 (fun c2 => ?_) (fun c2 => ?_)
              · refine q false _ (s12.trans (sC _).t) (t2.mono (sC _)) ⟨(fun z => nomatch z), fun z => absurd (bad fun g => ?_) z.2⟩
                obtain ⟨r, hr, h⟩ := ea.mp c2
                exact g.2 r hr h
              · exact ⟨_, _, rfl, sC _, nxt ⟨g1, fun r hr h => c2 (ea.mpr ⟨r, hr, h⟩)⟩⟩
        · rintro σ H3 ⟨v2, v3, rfl, s3, gd⟩
          rw [List.length_map] at gd
          refine q true _ (s12.trans s3.t) (t2.mono s3) ⟨fun _ => ⟨nf, ?_⟩, fun _ => rfl⟩
          rintro ⟨v, s, hv, h⟩
          have xm : (Om.lastN (u.length - 1) (u.tail ++ v), s) ∈ xs := (hx _).mpr ((Om.rchS_iff (by simp)).mpr ⟨v, hv, rfl⟩)
          obtain ⟨j, hj, ej⟩ := List.getElem_of_mem xm
          have g := gd j hj (by omega)
          rw [ej] at g
          rcases h with h | ⟨r, hr, h⟩
          · exact g.1 h
          · exact g.2 r hr h
    · refine .inr (.inl ⟨Tx, ht, ns, ?_⟩)
      exact ite2 (fun _ => q) (fun z => absurd rfl z)
    · refine .inr (.inr ⟨z, rfl, z100, hz, ?_⟩)
      exact ite2 (fun _ => q) (fun z => absurd rfl z)
  · exact h.elim
end

end K40
end
section
set_option Elab.async false
set_option linter.all false
set_option maxRecDepth 100000
set_option maxHeartbeats 4000000
namespace K40
open PySem L2
def spotK : Om.Spot → List Key
  | .mark i => [.inr ("mark" : Str), .inl (i : Nat)]
  | .word s l a => [.inr ("word" : Str), .inl (s : Nat), .inl (l : Nat), .inl (a : Nat)]
theorem spotK_inj {p q : Om.Spot} (h : spotK p = spotK q) : p = q := by
  cases p <;> cases q <;> simp [spotK] at h
  · simp; omega
  · simp; omega
abbrev spotO (p : Om.Spot) : HO := .tup ((spotK p).map kV)
def SpV (H : Hp) (ys : List V) (qs : List Om.Spot) : Prop := ys.length = qs.length ∧ ∀ (j : Nat) (q : Om.Spot), qs[j]? = some q → ∃ b : Addr, ys[j]? = some (V.ref b) ∧ H b = some (spotO q)
theorem SpV.nil {H : Hp} : SpV H [] [] := ⟨rfl, fun j q h => by simp at h⟩
theorem SpV.mono {H H' : Hp} {ys : List V} {qs : List Om.Spot} (h : SpV H ys qs) (s : ∀ b zs, H b = some (.tup zs) → H' b = some (.tup zs)) : SpV H' ys qs :=
  ⟨h.1, fun j q e => let ⟨b, h1, h2⟩ := h.2 j q e; ⟨b, h1, s _ _ h2⟩⟩
theorem SpV.app {H : Hp} {ys zs : List V} {qs ps : List Om.Spot} (h : SpV H ys qs) (g : SpV H zs ps) : SpV H (ys ++ zs) (qs ++ ps) := by
  refine ⟨by rw [List.length_append, List.length_append, h.1, g.1], fun j q e => ?_⟩
  by_cases c : j < qs.length
  · rw [List.getElem?_append_left c] at e
    rw [List.getElem?_append_left (by rw [h.1]; exact c)]
    exact h.2 j q e
  · rw [List.getElem?_append_right (by omega)] at e
    rw [List.getElem?_append_right (by rw [h.1]; omega), h.1]
    exact g.2 _ q e
theorem SpV.one {H : Hp} {b : Addr} {q : Om.Spot} (h : H b = some (spotO q)) : SpV H [.ref b] [q] := ⟨rfl, fun j p e => by
  cases j with
  | zero => cases e; exact ⟨b, rfl, h⟩
  | succ j => simp at e⟩
section
variable {P : Program} {w : World} {K : PySem.W.Frag} {mg : Str → Option Value} {base : Heap}
abbrev sSign : Stmt := top 19
def spSign : Sp := fun vs H Q _ => match vs with
  | [cv, .str z, .ref b] => ∃ (k n : Nat) (rows : Om.Rows) (u : List Bool) (p : Om.Spot), z = bs u ∧ u.length ≤ 8 ∧ DV H cv (codeD k n rows) ∧ Om.CodeOk k n rows ∧ Om.OkS rows n u p ∧ H b = some (spotO p) ∧ Q (.str (bs [Om.sgnAt rows u p])) H
  | _ => False
theorem scSign : FnScope ["code", "mark", "spot"] ["code", "mark", "spot"] (defScope sSign) := ⟨rfl, rfl, rfl, by decide +kernel, rfl, by decide +kernel, by decide +kernel⟩
local macro_rules | `(tactic| walk_at "T.n") => `(tactic| with_reducible first | exact vn "code" 0 | exact vn "mark" 1 | exact vn "spot" 2)
theorem ok_sign (D : FnX K mg "_law_sign" sSign ["code", "mark", "spot"]) : Can P w K mg base "_law_sign" 1 ["code", "mark", "spot"] spSign := by
  refine can_fn (k := 0) D scSign (fun vs H Q E h => ?_) (fun f cdv A outer s H vs Q E hr h => ?_)
  all_goals
    unfold spSign at h
    split at h
  · rfl
  · exact h.elim
  · rename_i cv z b
    obtain ⟨k, n, rows, u, p, rfl, u8, hc, ok, hp, hb, q⟩ := h
    have nd := scSign.nd
    refine ⟨_, (by walk_at "T.top"), ?_⟩
    obtain ⟨a, b0, ss, rfl, ha, hbb, hss⟩ := code_inv hc
    cases p with
    | mark i =>
      have hi : i < u.length := hp
      have hb : H b = some (.tup [.str "mark", .int (i : Nat)]) := hb
      refine ⟨.str "mark", gt hb (by decide) rfl, ?_⟩
      refine ⟨.int (i : Nat), gt hb (by decide) rfl, ?_⟩
      exact ⟨_, gs (le_line (by omega)) (by omega) (by rw [Int.toNat_natCast]; exact List.getElem?_eq_getElem hi), by
        have e : Om.sgnAt rows u (.mark i) = u[i] := by show u.getD i false = _; rw [List.getD_eq_getElem?_getD, List.getElem?_eq_getElem hi]; rfl
        rw [e] at q; exact q⟩
    | word s l c =>
      obtain ⟨hs, hl, hn⟩ := (hp : s < rows.length ∧ l < (rows.getD s []).length ∧ c < n)
      have hb : H b = some (.tup [.str "word", .int (s : Nat), .int (l : Nat), .int (c : Nat)]) := hb
      refine ⟨.str "word", gt hb (by decide) rfl, ?_⟩
      have eg : rows.getD s [] = rows[s] := by rw [List.getD_eq_getElem?_getD, List.getElem?_eq_getElem hs]; rfl
      rw [eg] at hl
      obtain ⟨qx, rx, f1, f2, f3⟩ := state_at hss (s := s) (st := rows[s]) (List.getElem?_eq_getElem hs)
      obtain ⟨r, r1, r2⟩ := row_at f3 (l := l) (r := rows[s][l]) (List.getElem?_eq_getElem hl)
      have er : Om.rowAt rows s l = rows[s][l] := by unfold Om.rowAt; rw [eg, List.getD_eq_getElem?_getD, List.getElem?_eq_getElem hl]; rfl
      have okr := ok.row _ (List.getElem_mem hs) _ (List.getElem_mem hl)
      refine ⟨_, gt ha (by decide) rfl, .int (s : Nat), gt hb (by decide) rfl, .ref qx, gl hbb (by omega) (by simpa using f1), .int (l : Nat), gt hb (by decide) rfl, .ref r, gl f2 (by omega) (by simpa using r1), _, gt r2 (by decide) rfl, .int (c : Nat), gt hb (by decide) rfl, ?_⟩
      have hc' : c < rows[s][l].1.length := by rw [okr.1]; exact hn
      exact ⟨_, gs (le_line (by have := ok.n6; omega)) (by omega) (by rw [Int.toNat_natCast]; exact List.getElem?_eq_getElem hc'), by
        have e : Om.sgnAt rows u (.word s l c) = rows[s][l].1[c] := by show (Om.rowAt rows s l).1.getD c false = _; rw [er, List.getD_eq_getElem?_getD, List.getElem?_eq_getElem hc']; rfl
        rw [e] at q; exact q⟩
  · exact h.elim
end
section
variable {P : Program} {w : World} {K : PySem.W.Frag} {mg : Str → Option Value} {base : Heap}
abbrev sNexts : Stmt := top 18
def spNexts : Sp := fun vs H Q _ => match vs with
  | [cv, .str z, .ref b] => ∃ (k n : Nat) (rows : Om.Rows) (u : List Bool) (p : Om.Spot), z = bs u ∧ u.length ≤ 8 ∧ DV H cv (codeD k n rows) ∧ Om.CodeOk k n rows ∧ Om.OkS rows n u p ∧ H b = some (spotO p) ∧
      ∀ l ys H', Same H H' → H l = none → H' l = some (.lst ys) → SpV H' ys (Om.nexts rows n u p) → Q (.ref l) H'
  | _ => False
theorem scNexts : FnScope ["code", "mark", "spot", "kind", "state", "letter", "at", "later"] ["code", "mark", "spot"] (defScope sNexts) := ⟨rfl, rfl, rfl, by decide +kernel, rfl, by decide +kernel, by decide +kernel⟩
local macro_rules | `(tactic| walk_at "T.n") => `(tactic| with_reducible first | exact vn "code" 0 | exact vn "mark" 1 | exact vn "spot" 2 | exact vn "state" 4 | exact vn "letter" 5 | exact vn "at" 6 | exact vn "later" 7)
local macro_rules | `(tactic| walk_at "T.gn") => `(tactic| with_reducible first | exact gn "kind" 3 (by with_unfolding_all assumption) | exact gn "state" 4 (by with_unfolding_all assumption) | exact gn "letter" 5 (by with_unfolding_all assumption) | exact gn "at" 6 (by with_unfolding_all assumption) | exact gn "later" 7 (by with_unfolding_all assumption))
local macro_rules | `(tactic| walk_at "T.n") => `(tactic| with_reducible first | exact vn "one" 0 | exact vn "later" 1)
local macro_rules | `(tactic| walk_at "T.gn") => `(tactic| with_reducible first | exact gn "one" 0 (by with_unfolding_all assumption))
local macro_rules | `(tactic| walk_at "T.c") => `(tactic| (have ndc : (["one", "later"] : List Str).Nodup := (by decide +kernel)); ((with_reducible refine' c_comp ["one", "later"] [7] ?b1 ?b2 (fun cl C s H fp => ?b3) (fun cl C s H fp => ?b4) (fun cl C s H fp => ?b5)); (case b1 => exact ndc); (case b2 => walk_at "T.i"); (case b3 => walk_at "T.g"); (case b4 => walk_at "T.pf"); (case b5 => walk_at "T.e")))
local macro_rules | `(tactic| walk_at "T.n") => `(tactic| with_reducible first | exact vn "code" 0 | exact vn "mark" 1 | exact vn "spot" 2 | exact vn "kind" 3 | exact vn "state" 4 | exact vn "letter" 5 | exact vn "at" 6 | exact vn "later" 7 | exact vn "one" 0 | exact vn "later" 1 | exact vn "letter" 0)
local macro_rules | `(tactic| walk_at "T.gn") => `(tactic| with_reducible first | exact gn "kind" 3 (by with_unfolding_all assumption) | exact gn "state" 4 (by with_unfolding_all assumption) | exact gn "letter" 5 (by with_unfolding_all assumption) | exact gn "at" 6 (by with_unfolding_all assumption) | exact gn "later" 7 (by with_unfolding_all assumption) | exact gn "one" 0 (by with_unfolding_all assumption) | exact gn "letter" 0 (by with_unfolding_all assumption))
local macro_rules | `(tactic| walk_at "T.c") => `(tactic| (have ndc : (["letter"] : List Str).Nodup := (by decide +kernel)); ((with_reducible refine' c_comp ["letter"] [] ?b1 ?b2 (fun cl C s H fp => ?b3) (fun cl C s H fp => ?b4) (fun cl C s H fp => ?b5)); (case b1 => exact ndc); (case b2 => walk_at "T.i"); (case b3 => with_reducible exact gn "letter" 0 (by with_unfolding_all assumption)); (case b4 => walk_at "T.pf"); (case b5 => walk_at "T.e")))
theorem ok_nexts (D : FnX K mg "_law_nexts" sNexts ["code", "mark", "spot"]) (g1 : mg "len" = none) (g2 : mg "range" = none) : Can P w K mg base "_law_nexts" 1 ["code", "mark", "spot"] spNexts := by
  refine can_fn (k := 0) D scNexts (fun vs H Q E h => ?_) (fun f cdv A outer s H vs Q E hr h => ?_)
  all_goals
    unfold spNexts at h
    split at h
  · rfl
  · exact h.elim
  · rename_i cv z b
    obtain ⟨k, n, rows, u, p, rfl, u8, hc, ok, hp, hb, q⟩ := h
    have nd := scNexts.nd
    refine ⟨_, (by walk_at "T.top"), ?_⟩
    obtain ⟨a, b0, ss, rfl, ha, hbb, hss⟩ := code_inv hc
    have r1 := ok.s1
    have r8 := ok.s8
    cases p with
    | mark i =>
      have hi : i < u.length := hp
      have hb : H b = some (.tup [.str "mark", .int (i : Nat)]) := hb
      refine ⟨.str "mark", gt hb (by decide) rfl, ?_⟩
      refine ⟨.int (i : Nat), gt hb (by decide) rfl, _, lenS (le_line (by omega)), ?_⟩
      refine ite2 (fun c => ?_) (fun c => ?_)
      · have c : i + 1 < u.length := by have := of_decide_eq_true c; omega
        refine ⟨.int (i : Nat), gt hb (by decide) rfl, le_line (Nat.le_of_ble_eq_true rfl), fun m0 hm0 => ⟨le_line (Nat.le_of_ble_eq_true rfl), fun l0 hl0 => ?_⟩⟩
        have e1 : Om.nexts rows n u (.mark i) = [.mark (i + 1)] := by unfold Om.nexts; simp only []; rw [if_pos c]
        refine q l0 _ _ ((Same.upd hm0).trans (Same.upd hl0)) ((Same.upd hm0).free hl0) upd_same ?_
        rw [e1]
        refine SpV.one (Same.upd hl0 _ _ ?_)
        rw [upd_same]
        rfl
      · have c : ¬ i + 1 < u.length := fun z => c (decide_eq_true (by omega))
        have EN : Om.nexts rows n u (.mark i) = Om.begins rows 0 := by unfold Om.nexts; simp only []; rw [if_neg c]
        have hS : 0 < rows.length := r1
        refine ⟨le_line (Nat.le_of_ble_eq_true rfl), fun m0 hm0 => ⟨le_line (Nat.le_of_ble_eq_true rfl), fun l0 hl0 => ?_⟩⟩
        have sA : Same H (upd (upd H m0 (.tup [.str "mark", .int 0])) l0 (.lst [.ref m0])) := (Same.upd hm0).trans (Same.upd hl0)
        have hmA : upd (upd H m0 (.tup [.str "mark", .int 0])) l0 (.lst [.ref m0]) m0 = some (spotO (.mark 0)) := Same.upd hl0 _ _ upd_same
        have hlA : upd (upd H m0 (.tup [.str "mark", .int 0])) l0 (.lst [.ref m0]) l0 = some (.lst [.ref m0]) := upd_same
        generalize upd (upd H m0 (.tup [.str "mark", .int 0])) l0 (.lst [.ref m0]) = HA at sA hmA hlA
        obtain ⟨qy, ry, y1, y2, y3⟩ := state_at hss (s := 0) (st := rows[0]) (List.getElem?_eq_getElem hS)
        have yl : ry.length = rows[0].length := by rw [y3.length, List.length_map]
        have y8 : rows[0].length ≤ 8 := by rw [ok.len _ (List.getElem_mem hS)]; exact Om.pow8 ok.k3
        have ey : rows.getD 0 [] = rows[0] := by rw [List.getD_eq_getElem?_getD, List.getElem?_eq_getElem hS]; rfl
        refine ⟨_, gt (sA _ _ ha) (by decide) rfl, .ref qy, gl (sA _ _ hbb) (by omega) (by simpa using y1), _, lenL (sA _ _ y2), by omega, by omega, fun C hC => ?_⟩
        refine comp_by (it_range 0 _) (fun i τ H5 ys => (∃ v, τ = [v]) ∧ Same HA H5 ∧ H5 C = some (.lst ys) ∧ SpV H5 ys ((List.range i).map fun l => Om.Spot.word 0 l 0) ∧ i ≤ ry.length) (le_line (by rw [List.length_map, List.length_range]; omega)) ⟨⟨none, rfl⟩, Same.upd hC, upd_same, SpV.nil, Nat.zero_le _⟩ ?_ ?_ ?_
        · rintro i τ H5 ys hi ⟨_, s5, hC5, sp, _⟩
          exact ⟨trivial, hC5, by rw [sp.1]; simp⟩
        · rintro i z τ H5 ys hi hz ⟨⟨v, rfl⟩, s5, hC5, sp, il⟩
          rw [List.length_map, List.length_range] at hi
          have ez : z = V.int (i : Nat) := by
            rw [List.getElem?_map, List.getElem?_range hi] at hz
            have := Option.some.inj hz
            rw [← this]; simp
          subst ez
          refine ⟨le_line (Nat.le_of_ble_eq_true rfl), fun p hp => ?_⟩
          have sp6 := Same.upd (o := spotO (.word 0 i 0)) hp
          have hC6 := sp6 _ _ hC5
          refine ⟨hC6, ⟨_, rfl⟩, (s5.trans sp6).own hC, upd_same, ?_, by omega⟩
          rw [List.range_succ, List.map_append]
          have tn : ∀ (b : Addr) (zs : List V) (o : HO), upd H5 p (spotO (.word 0 i 0)) b = some (.tup zs) → upd (upd H5 p (spotO (.word 0 i 0))) C o b = some (.tup zs) := fun b zs o e => by
            rw [upd_ne (fun y => by rw [y, hC6] at e; cases e)]; exact e
          refine SpV.app (sp.mono fun b zs e => tn b zs _ (sp6 _ _ e)) (SpV.one (tn _ _ _ upd_same))
        · rintro τ H5 ys ⟨_, s5, hC5, sp, _⟩
          have en : ((List.range ((ry.length : Int)).toNat).map fun i : Nat => V.int (0 + (i : Nat))).length = ry.length := by simp
          rw [en] at sp
          refine ⟨_, _, s5 _ _ hlA, hC5, le_line (by rw [sp.1]; simp; omega), fun r hr => ?_⟩
          refine q r _ _ (sA.trans (s5.trans (Same.upd hr))) (sA.free (s5.free hr)) upd_same ?_
          have ee : Om.begins rows 0 = [Om.Spot.mark 0] ++ (List.range ry.length).map fun l => Om.Spot.word 0 l 0 := by unfold Om.begins; rw [ey, yl]; rfl
          rw [EN, ee]
          exact SpV.app (SpV.one (Same.upd hr _ _ (s5 _ _ hmA))) (sp.mono fun b zs e => Same.upd hr _ _ e)
    | word s l c =>
      obtain ⟨hs, hl, hn⟩ := (hp : s < rows.length ∧ l < (rows.getD s []).length ∧ c < n)
      have hb : H b = some (.tup [.str "word", .int (s : Nat), .int (l : Nat), .int (c : Nat)]) := hb
      refine ⟨.str "word", gt hb (by decide) rfl, ?_⟩
      have eg : rows.getD s [] = rows[s] := by rw [List.getD_eq_getElem?_getD, List.getElem?_eq_getElem hs]; rfl
      rw [eg] at hl
      obtain ⟨qx, rx, f1, f2, f3⟩ := state_at hss (s := s) (st := rows[s]) (List.getElem?_eq_getElem hs)
      obtain ⟨r, w1, w2⟩ := row_at f3 (l := l) (r := rows[s][l]) (List.getElem?_eq_getElem hl)
      have er : Om.rowAt rows s l = rows[s][l] := by unfold Om.rowAt; rw [eg, List.getD_eq_getElem?_getD, List.getElem?_eq_getElem hl]; rfl
      have okr := ok.row _ (List.getElem_mem hs) _ (List.getElem_mem hl)
      refine ⟨_, .inl hb, rfl, rfl, ?_⟩
      dsimp only [gName]
      refine ⟨_, gt ha (by decide) rfl, ite2 (fun d => ?_) (fun d => ?_)⟩
      · have d : c + 1 < n := by have := of_decide_eq_true d; omega
        refine ⟨le_line (Nat.le_of_ble_eq_true rfl), fun m0 hm0 => ⟨le_line (Nat.le_of_ble_eq_true rfl), fun l0 hl0 => ?_⟩⟩
        have e1 : Om.nexts rows n u (.word s l c) = [.word s l (c + 1)] := by unfold Om.nexts; simp only []; rw [if_pos d]
        refine q l0 _ _ ((Same.upd hm0).trans (Same.upd hl0)) ((Same.upd hm0).free hl0) upd_same ?_
        rw [e1]
        refine SpV.one (Same.upd hl0 _ _ ?_)
        rw [upd_same]
        rfl
      · have d : ¬ c + 1 < n := fun z => d (decide_eq_true (by omega))
        have EN : Om.nexts rows n u (.word s l c) = Om.begins rows rows[s][l].2 := by unfold Om.nexts; simp only []; rw [if_neg d, er]
        have hS : rows[s][l].2 < rows.length := okr.2
        refine ⟨_, gt ha (by decide) rfl, .ref qx, gl hbb (by omega) (by simpa using f1), .ref r, gl f2 (by omega) (by simpa using w1), _, gt w2 (by decide) rfl, ?_⟩
        dsimp only [gName]
        generalize rows[s][l].2 = tt at EN hS
        refine ⟨le_line (Nat.le_of_ble_eq_true rfl), fun m0 hm0 => ⟨le_line (Nat.le_of_ble_eq_true rfl), fun l0 hl0 => ?_⟩⟩
        have sA : Same H (upd (upd H m0 (.tup [.str "mark", .int 0])) l0 (.lst [.ref m0])) := (Same.upd hm0).trans (Same.upd hl0)
        have hmA : upd (upd H m0 (.tup [.str "mark", .int 0])) l0 (.lst [.ref m0]) m0 = some (spotO (.mark 0)) := Same.upd hl0 _ _ upd_same
        have hlA : upd (upd H m0 (.tup [.str "mark", .int 0])) l0 (.lst [.ref m0]) l0 = some (.lst [.ref m0]) := upd_same
        generalize upd (upd H m0 (.tup [.str "mark", .int 0])) l0 (.lst [.ref m0]) = HA at sA hmA hlA
        obtain ⟨qy, ry, y1, y2, y3⟩ := state_at hss (s := tt) (st := rows[tt]) (List.getElem?_eq_getElem hS)
        have yl : ry.length = rows[tt].length := by rw [y3.length, List.length_map]
        have y8 : rows[tt].length ≤ 8 := by rw [ok.len _ (List.getElem_mem hS)]; exact Om.pow8 ok.k3
        have ey : rows.getD tt [] = rows[tt] := by rw [List.getD_eq_getElem?_getD, List.getElem?_eq_getElem hS]; rfl
        refine ⟨_, gt (sA _ _ ha) (by decide) rfl, .ref qy, gl (sA _ _ hbb) (by omega) (by simpa using y1), _, lenL (sA _ _ y2), by omega, by omega, fun C hC => ?_⟩
        refine comp_by (it_range 0 _) (fun i τ H5 ys => (∃ v, τ = [v, some (.int (tt : Nat))]) ∧ Same HA H5 ∧ H5 C = some (.lst ys) ∧ SpV H5 ys ((List.range i).map fun l => Om.Spot.word tt l 0) ∧ i ≤ ry.length) (le_line (by rw [List.length_map, List.length_range]; omega)) ⟨⟨none, rfl⟩, Same.upd hC, upd_same, SpV.nil, Nat.zero_le _⟩ ?_ ?_ ?_
        · rintro i τ H5 ys hi ⟨_, s5, hC5, sp, _⟩
          exact ⟨trivial, hC5, by rw [sp.1]; simp⟩
        · rintro i z τ H5 ys hi hz ⟨⟨v, rfl⟩, s5, hC5, sp, il⟩
          rw [List.length_map, List.length_range] at hi
          have ez : z = V.int (i : Nat) := by
            rw [List.getElem?_map, List.getElem?_range hi] at hz
            have := Option.some.inj hz
            rw [← this]; simp
          subst ez
          refine ⟨le_line (Nat.le_of_ble_eq_true rfl), fun p hp => ?_⟩
          have sp6 := Same.upd (o := spotO (.word tt i 0)) hp
          have hC6 := sp6 _ _ hC5
          refine ⟨hC6, ⟨_, rfl⟩, (s5.trans sp6).own hC, upd_same, ?_, by omega⟩
          rw [List.range_succ, List.map_append]
          have tn : ∀ (b : Addr) (zs : List V) (o : HO), upd H5 p (spotO (.word tt i 0)) b = some (.tup zs) → upd (upd H5 p (spotO (.word tt i 0))) C o b = some (.tup zs) := fun b zs o e => by
            rw [upd_ne (fun y => by rw [y, hC6] at e; cases e)]; exact e
          refine SpV.app (sp.mono fun b zs e => tn b zs _ (sp6 _ _ e)) (SpV.one (tn _ _ _ upd_same))
        · rintro τ H5 ys ⟨_, s5, hC5, sp, _⟩
          have en : ((List.range ((ry.length : Int)).toNat).map fun i : Nat => V.int (0 + (i : Nat))).length = ry.length := by simp
          rw [en] at sp
          refine ⟨_, _, s5 _ _ hlA, hC5, le_line (by rw [sp.1]; simp; omega), fun r hr => ?_⟩
          refine q r _ _ (sA.trans (s5.trans (Same.upd hr))) (sA.free (s5.free hr)) upd_same ?_
          have ee : Om.begins rows tt = [Om.Spot.mark 0] ++ (List.range ry.length).map fun l => Om.Spot.word tt l 0 := by unfold Om.begins; rw [ey, yl]; rfl
          rw [EN, ee]
          exact SpV.app (SpV.one (Same.upd hr _ _ (s5 _ _ hmA))) (sp.mono fun b zs e => Same.upd hr _ _ e)
  · exact h.elim
end

end K40
end
section
set_option Elab.async false
set_option linter.all false
set_option maxRecDepth 100000
set_option maxHeartbeats 4000000
namespace L2
open PySem PySem.Spec PyProof.Rows
section
variable {X : Cx} {pins : List (Addr × Obj)} {σ : St} {H : Hp} {s : Shared} {a : Addr} {u : HO} {o : Obj}
end
section
variable {X : Cx} {st : Stmt} {t : TS}
end
end L2
end
section
set_option Elab.async false
set_option linter.all false
set_option maxRecDepth 100000
set_option maxHeartbeats 4000000
namespace L2
open PySem PySem.Spec PyProof.Rows
section
variable {X : Cx} {pos apos : Pos} {o : Expr} {to : TE}
theorem m_pop0 {cpos : Pos} (ho : PE X o to) (hbase : attributeBase o "pop" X.env (eval o X.env) = eval o X.env := by kernel_rfl) (hline : (apos.endLine == cpos.line) = true := by kernel_rfl) : PE X (.Call (.Attribute o "pop" apos) [] [] cpos) (tMt "list" rPop to tNil) := pe_mt0 PySem.F.plainAttrs_list PySem.F.slot_list_pop PySem.F.type_list_pop mt_pop ho hbase hline
end
end L2
end
section
set_option Elab.async false
set_option linter.all false
set_option maxRecDepth 100000
set_option maxHeartbeats 4000000
namespace K40
open PySem L2
def spotD : Om.Spot → PyData
  | .mark i => .tuple [.str ("mark" : Str), .int (i : Nat)]
  | .word s l a => .tuple [.str ("word" : Str), .int (s : Nat), .int (l : Nat), .int (a : Nat)]
theorem spot_DV {H : Hp} {b : Addr} {p : Om.Spot} (h : H b = some (spotO p)) : DV H (.ref b) (spotD p) := by
  cases p with
  | mark i => exact .tup (xs := [.str "mark", .int (i : Nat)]) h (.cons (.str _) (.cons (.int _) .nil))
  | word s l a => exact .tup (xs := [.str "word", .int (s : Nat), .int (l : Nat), .int (a : Nat)]) h (.cons (.str _) (.cons (.int _) (.cons (.int _) (.cons (.int _) .nil))))
theorem mark_ok : PyData.strOk ("mark" : Str) = true := by decide +kernel
theorem word_ok : PyData.strOk ("word" : Str) = true := by decide +kernel
theorem spotD_lay (p : Om.Spot) : (spotD p).canLay0 = true := by
  cases p with
  | mark i => simp [spotD, PyData.canLay0, PyData.canLayAll0, mark_ok]
  | word s l a => simp [spotD, PyData.canLay0, PyData.canLayAll0, word_ok]
theorem spotD_depth (p : Om.Spot) : (spotD p).depth ≤ 1 := by
  cases p <;> simp [spotD, PyData.depth, PyData.depthAll]
theorem spotD_shaped (p : Om.Spot) : SeqAt.shaped (spotD p) = true := by
  unfold SeqAt.shaped
  rw [Bool.and_eq_true]
  exact ⟨spotD_lay p, decide_eq_true (by have := spotD_depth p; omega)⟩
theorem spotD_eqv (p q : Om.Spot) : PyData.eqv (spotD p) (spotD q) = decide (p = q) := by
  have ne : ¬ (("word" : Str) = ("mark" : Str)) := by decide +kernel
  have ne2 : ¬ (("mark" : Str) = ("word" : Str)) := by decide +kernel
  cases p <;> cases q <;> simp [spotD, PyData.eqv, PyData.eqvAll, ne, ne2]
  all_goals try (rw [Bool.eq_iff_iff]; simp; try omega)
abbrev Nod := List Bool × Om.Spot
def nodeD (x : Nod) : PyData := .tuple [.str (bs x.1), spotD x.2]
theorem nodeD_lay (x : Nod) : (nodeD x).canLay0 = true := by
  have h1 : (PyData.str (bs x.1)).canLay0 = true := bs_ok x.1
  rw [nodeD, PyData.canLay0, PyData.canLayAll0, h1, PyData.canLayAll0, spotD_lay]
  rfl
theorem nodeD_depth (x : Nod) : (nodeD x).depth ≤ 2 := by
  have := spotD_depth x.2
  rw [nodeD, PyData.depth, PyData.depthAll, PyData.depthAll, PyData.depthAll]
  simp only [PyData.depth]
  omega
theorem nodes_shaped (ws : List Nod) : SeqAt.shaped (.list (ws.map nodeD)) = true := shaped_list (k := 2) (fun d hd => by
  obtain ⟨x, _, rfl⟩ := List.mem_map.mp hd
  exact nodeD_lay x) (fun d hd => by
  obtain ⟨x, _, rfl⟩ := List.mem_map.mp hd
  exact nodeD_depth x) (by decide)
def NdA (H : Hp) (c : Addr) (x : Nod) : Prop := ∃ b, H c = some (.tup [.str (bs x.1), .ref b]) ∧ H b = some (spotO x.2)
theorem NdA.mono {H H' : Hp} {c : Addr} {x : Nod} (h : NdA H c x) (s : ∀ b zs, H b = some (.tup zs) → H' b = some (.tup zs)) : NdA H' c x :=
  let ⟨b, h1, h2⟩ := h; ⟨b, s _ _ h1, s _ _ h2⟩
def WtV (H : Hp) (zs : List V) (ws : List Nod) : Prop := zs.length = ws.length ∧ ∀ (j : Nat) (x : Nod), ws[j]? = some x → ∃ c : Addr, zs[j]? = some (V.ref c) ∧ NdA H c x
theorem WtV.mono {H H' : Hp} {zs : List V} {ws : List Nod} (h : WtV H zs ws) (s : ∀ b zs, H b = some (.tup zs) → H' b = some (.tup zs)) : WtV H' zs ws :=
  ⟨h.1, fun j x e => let ⟨c, h1, h2⟩ := h.2 j x e; ⟨c, h1, h2.mono s⟩⟩
theorem WtV.snoc {H : Hp} {zs : List V} {ws : List Nod} {c : Addr} {x : Nod} (h : WtV H zs ws) (g : NdA H c x) : WtV H (zs ++ [.ref c]) (ws ++ [x]) := by
  refine ⟨by rw [List.length_append, List.length_append, h.1]; rfl, fun j y e => ?_⟩
  by_cases k : j < ws.length
  · rw [List.getElem?_append_left k] at e
    rw [List.getElem?_append_left (by rw [h.1]; exact k)]
    exact h.2 j y e
  · rw [List.getElem?_append_right (by omega)] at e
    have j0 : j - ws.length = 0 := by have := (List.getElem?_eq_some_iff.mp e).1; simp at this; omega
    rw [j0] at e
    cases e
    refine ⟨c, ?_, g⟩
    rw [List.getElem?_append_right (by rw [h.1]; omega), h.1, j0]
    rfl
theorem WtV.last {H : Hp} {zs : List V} {ws : List Nod} (h : WtV H zs ws) (ne : ws ≠ []) : ∃ ws' x zs' c, ws = ws' ++ [x] ∧ zs = zs' ++ [V.ref c] ∧ WtV H zs' ws' ∧ NdA H c x := by
  obtain ⟨ws', x, rfl⟩ : ∃ ws' x, ws = ws' ++ [x] := ⟨ws.dropLast, ws.getLast ne, (List.dropLast_concat_getLast ne).symm⟩
  have zl : zs.length = ws'.length + 1 := by rw [h.1]; simp
  have zne : zs ≠ [] := fun z => by rw [z] at zl; simp at zl
  obtain ⟨zs', z, rfl⟩ : ∃ zs' z, zs = zs' ++ [z] := ⟨zs.dropLast, zs.getLast zne, (List.dropLast_concat_getLast zne).symm⟩
  have zl' : zs'.length = ws'.length := by simpa using zl
  obtain ⟨c, h1, h2⟩ := h.2 ws'.length x (by simp)
  rw [List.getElem?_append_right (by omega), zl', Nat.sub_self] at h1
  cases h1
  refine ⟨ws', x, zs', c, rfl, rfl, ⟨zl', fun j y e => ?_⟩, h2⟩
  have jl := (List.getElem?_eq_some_iff.mp e).1
  obtain ⟨c', g1, g2⟩ := h.2 j y (by rw [List.getElem?_append_left jl]; exact e)
  rw [List.getElem?_append_left (by omega)] at g1
  exact ⟨c', g1, g2⟩
theorem wt_DV {H : Hp} {W : Addr} {zs : List V} {ws : List Nod} (h : H W = some (.lst zs)) (g : WtV H zs ws) : DV H (.ref W) (.list (ws.map nodeD)) := by
  refine .lst h (DVs.of_get (by rw [List.length_map]; exact g.1) fun i d e => ?_)
  rw [List.getElem?_map] at e
  obtain ⟨x, hx, rfl⟩ := Option.map_eq_some_iff.mp e
  obtain ⟨c, h1, b, h2, h3⟩ := g.2 i x hx
  exact ⟨_, h1, .tup h2 (.cons (.str _) (.cons (spot_DV h3) .nil))⟩
abbrev nodeK (x : Nod) : Str × List Key := (bs x.1, spotK x.2)
theorem nodeK_inj {x y : Nod} (h : nodeK x = nodeK y) : x = y := by
  have h1 := congrArg Prod.fst h
  have h2 := congrArg Prod.snd h
  exact Prod.ext (bs_inj h1) (spotK_inj h2)
theorem inL_nodes {x : Nod} {xs : List Nod} : inL (nodeK x) (xs.map nodeK) = decide (x ∈ xs) := by
  rw [Bool.eq_iff_iff, inL_iff, decide_eq_true_eq, List.mem_map]
  exact ⟨fun ⟨y, hy, e⟩ => nodeK_inj e ▸ hy, fun h => ⟨x, h, rfl⟩⟩
def spotN : Om.Spot → Nat
  | .mark i => i
  | .word s l a => 8 + (s * 64 + l * 8 + a)
def SmallN (x : Nod) : Prop := x.1.length ≤ 8 ∧ match x.2 with
  | .mark i => i < 8
  | .word s l a => s < 8 ∧ l < 8 ∧ a < 8
theorem few_spots {xs : List Nod} (nd : xs.Nodup) (h : ∀ x ∈ xs, SmallN x) : xs.length ≤ 266240 := by
  have sb : ∀ x ∈ xs, spotN x.2 < 520 := fun x hx => by
    obtain ⟨_, g⟩ := h x hx
    obtain ⟨t, p⟩ := x
    cases p with
    | mark i => exact Nat.lt_of_lt_of_le g (by decide)
    | word s l a => obtain ⟨g1, g2, g3⟩ := g; show 8 + (s * 64 + l * 8 + a) < 520; omega
  have vb9 : ∀ x ∈ xs, Om.vb x.1 < 512 := fun x hx => Nat.lt_of_lt_of_le (Om.vb_lt x.1) (by
    have := Nat.pow_le_pow_right (show 0 < 2 by decide) (show x.1.length + 1 ≤ 9 by have := (h x hx).1; omega)
    simpa using this)
  have nd2 := Om.nodup_on (f := fun x : Nod => Om.vb x.1 * 520 + spotN x.2) (l := xs) (fun x hx y hy e => by
    have a1 := sb x hx
    have a2 := sb y hy
    have e : Om.vb x.1 * 520 + spotN x.2 = Om.vb y.1 * 520 + spotN y.2 := e
    have e1 : Om.vb x.1 = Om.vb y.1 := by omega
    have e2 : spotN x.2 = spotN y.2 := by omega
    have g1 := (h x hx).2
    have g2 := (h y hy).2
    obtain ⟨t, p⟩ := x
    obtain ⟨t', p'⟩ := y
    have et : t = t' := Om.vb_inj e1
    subst et
    cases p <;> cases p' <;> simp only [spotN] at e2 <;> simp only [] at g1 g2
    · subst e2; rfl
    · omega
    · omega
    · obtain ⟨b1, b2, b3⟩ := g1
      obtain ⟨c1, c2, c3⟩ := g2
      congr 2 <;> omega) nd
  have := Om.nodup_len 266240 _ nd2 fun s hs => by
    obtain ⟨x, hx, rfl⟩ := List.mem_map.mp hs
    have a1 := sb x hx
    have a2 := vb9 x hx
    show Om.vb x.1 * 520 + spotN x.2 < 266240
    omega
  rwa [List.length_map] at this
theorem idx_neg (len : Nat) {L : Nat} (h : 1 ≤ L) : Builtin.Str.strSliceIndices (some (-(L : Int))) none 1 len = Builtin.Str.strSliceIndices (some ((len - L : Nat) : Int)) none 1 len := by
  have a : (-(L : Int)) < 0 := by omega
  have b : ¬ (((len - L : Nat) : Int) < 0) := by omega
  have c : max (-(L : Int) + (len : Int)) 0 = min ((len - L : Nat) : Int) (len : Int) := by omega
  simp only [Builtin.Str.strSliceIndices, a, b, if_true, if_false]
  congr 1
  rw [if_pos (by decide), if_pos (by decide)]
  omega
theorem bs_lastZ {w : List Bool} {L : Nat} (h : 1 ≤ L) : Txt.slice (bs w) (some (-(L : Int))) none = bs (Om.lastN L w) := by
  have e : Txt.slice (bs w) (some (-(L : Int))) none = Txt.slice (bs w) (some ((w.length - L : Nat) : Int)) none := by
    rw [slice_eq, slice_eq]
    unfold StrLaws.sliceText
    rw [bs_len, idx_neg _ h]
  rw [e, bs_fromZ (by omega) (by omega)]
  rfl
structure Wk (rows : Om.Rows) (n : Nat) (u : List Bool) (xs ws : List Nod) : Prop where
  nd : xs.Nodup
  rc : ∀ x ∈ xs, Om.RchG (Om.nxL rows n u) ([], .mark 0) x
  wc : ∀ x ∈ ws, x = ([], .mark 0) ∨ x ∈ xs
  dn : ∀ x, (x = ([], .mark 0) ∨ x ∈ xs) → x ∈ ws ∨ (¬ Om.BadN rows u x ∧ ∀ y ∈ Om.nxL rows n u x, y ∈ xs)
  lw : ws.length ≤ xs.length + 1
theorem Wk.reach {rows : Om.Rows} {n : Nat} {u : List Bool} {xs ws : List Nod} (h : Wk rows n u xs ws) {x : Nod} (hx : x ∈ ws) : Om.RchG (Om.nxL rows n u) ([], .mark 0) x := by
  rcases h.wc x hx with rfl | z
  · exact .z
  · exact h.rc x z
theorem Wk.done {rows : Om.Rows} {n : Nat} {u : List Bool} {xs : List Nod} (h : Wk rows n u xs []) : ¬ Om.BadL rows n u := by
  rw [Om.badL_iff]
  rintro ⟨x, hx, bad⟩
  have all : x = ([], .mark 0) ∨ x ∈ xs := by
    clear bad
    induction hx with
    | z => exact .inl rfl
    | s _ hy ih =>
      rcases h.dn _ ih with z | ⟨_, z⟩
      · exact nomatch z
      · exact .inr (z _ hy)
  rcases h.dn _ all with z | ⟨z, _⟩
  · exact nomatch z
  · exact z bad
theorem small_of {k n : Nat} {rows : Om.Rows} {u : List Bool} (ok : Om.CodeOk k n rows) (u1 : 1 ≤ u.length) (u8 : u.length ≤ 8) {x : Nod} (h : Om.RchG (Om.nxL rows n u) ([], .mark 0) x) : SmallN x := by
  obtain ⟨w, hw, e⟩ := Om.rchL_iff.mp h
  have o := hw.ok ok u1
  obtain ⟨t, p⟩ := x
  dsimp only at hw e o
  refine ⟨by rw [e]; exact Nat.le_trans (Om.lastN_le _ _) u8, ?_⟩
  cases p with
  | mark i => exact Nat.lt_of_lt_of_le o u8
  | word s l a =>
    obtain ⟨h1, h2, h3⟩ := o
    have r8 := ok.s8
    have n6 := ok.n6
    rw [List.getD_eq_getElem?_getD, List.getElem?_eq_getElem h1] at h2
    have h2 : l < rows[s].length := h2
    rw [ok.len _ (List.getElem_mem h1)] at h2
    have := Om.pow8 ok.k3
    exact ⟨by omega, by omega, by omega⟩
theorem Wk.few {k n : Nat} {rows : Om.Rows} {u : List Bool} {xs ws : List Nod} (h : Wk rows n u xs ws) (ok : Om.CodeOk k n rows) (u1 : 1 ≤ u.length) (u8 : u.length ≤ 8) : xs.length ≤ 266240 := few_spots h.nd fun x hx => small_of ok u1 u8 (h.rc x hx)
structure Wi (rows : Om.Rows) (n : Nat) (u : List Bool) (x : Nod) (tx : List Bool) (xs ws' xs' ws2 : List Nod) (i : Nat) : Prop where
  nd : xs'.Nodup
  rc : ∀ y ∈ xs', Om.RchG (Om.nxL rows n u) ([], .mark 0) y
  wc : ∀ y ∈ ws2, y = ([], .mark 0) ∨ y ∈ xs'
  dn : ∀ y, (y = ([], .mark 0) ∨ y ∈ xs') → y ∈ ws2 ∨ y = x ∨ (¬ Om.BadN rows u y ∧ ∀ z ∈ Om.nxL rows n u y, z ∈ xs')
  did : ∀ (j : Nat) (q : Om.Spot), j < i → (Om.nexts rows n u x.2)[j]? = some q → (tx, q) ∈ xs'
  l1 : xs.length ≤ xs'.length
  l2 : ws2.length + xs.length = ws'.length + xs'.length
  lw : ws'.length ≤ xs.length
section
variable {k n : Nat} {rows : Om.Rows} {u : List Bool} {x : Nod} {tx : List Bool} {xs ws' xs' ws2 : List Nod} {i : Nat}
theorem Wi.start (h : Wk rows n u xs (ws' ++ [x])) : Wi rows n u x tx xs ws' xs ws' 0 :=
  ⟨h.nd, h.rc, fun y hy => h.wc y (List.mem_append_left _ hy), fun y hy => by
    rcases h.dn y hy with z | z
    · rcases List.mem_append.mp z with z | z
      · exact .inl z
      · exact .inr (.inl (by simpa using z))
    · exact .inr (.inr z), fun j q hj => absurd hj (Nat.not_lt_zero _), Nat.le_refl _, rfl, by have := h.lw; rw [List.length_append] at this; simp at this; exact this⟩
theorem Wi.skip {q : Om.Spot} (h : Wi rows n u x tx xs ws' xs' ws2 i) (hq : (Om.nexts rows n u x.2)[i]? = some q) (m : (tx, q) ∈ xs') : Wi rows n u x tx xs ws' xs' ws2 (i + 1) :=
  ⟨h.nd, h.rc, h.wc, h.dn, fun j p hj e => by
    by_cases c : j = i
    · subst c; rw [hq] at e; cases e; exact m
    · exact h.did j p (by omega) e, h.l1, h.l2, h.lw⟩
theorem Wi.put {q : Om.Spot} (h : Wi rows n u x tx xs ws' xs' ws2 i) (hq : (Om.nexts rows n u x.2)[i]? = some q) (nm : (tx, q) ∉ xs') (xr : Om.RchG (Om.nxL rows n u) ([], .mark 0) x) (hnx : Om.nxL rows n u x = (Om.nexts rows n u x.2).map fun q => (tx, q)) :
    Wi rows n u x tx xs ws' (xs' ++ [(tx, q)]) (ws2 ++ [(tx, q)]) (i + 1) := by
  refine ⟨?_, fun y hy => ?_, fun y hy => ?_, fun y hy => ?_, fun j p hj e => ?_, by have := h.l1; simp; omega, by have := h.l2; simp; omega, h.lw⟩
  · rw [List.nodup_append]
    exact ⟨h.nd, by simp, fun a ha b hb e => nm (by rw [← (by simpa using hb : b = (tx, q)), ← e]; exact ha)⟩
  · rcases List.mem_append.mp hy with z | z
    · exact h.rc y z
    · obtain rfl : y = (tx, q) := by simpa using z
      exact .s xr (by rw [hnx]; exact List.mem_map.mpr ⟨q, List.mem_of_getElem? hq, rfl⟩)
  · rcases List.mem_append.mp hy with z | z
    · exact (h.wc y z).imp id (List.mem_append_left _)
    · exact .inr (List.mem_append_right _ z)
  · have go : y = ([], .mark 0) ∨ y ∈ xs' → y ∈ ws2 ++ [(tx, q)] ∨ y = x ∨ (¬ Om.BadN rows u y ∧ ∀ z ∈ Om.nxL rows n u y, z ∈ xs' ++ [(tx, q)]) := fun hy => by
      rcases h.dn y hy with z | z | ⟨z1, z2⟩
      · exact .inl (List.mem_append_left _ z)
      · exact .inr (.inl z)
      · exact .inr (.inr ⟨z1, fun v hv => List.mem_append_left _ (z2 v hv)⟩)
    rcases hy with z | z
    · exact go (.inl z)
    · rcases List.mem_append.mp z with z | z
      · exact go (.inr z)
      · exact .inl (List.mem_append_right _ z)
  · by_cases c : j = i
    · subst c; rw [hq] at e; cases e; simp
    · exact List.mem_append_left _ (h.did j p (by omega) e)
theorem Wi.fin (h : Wi rows n u x tx xs ws' xs' ws2 i) (hi : (Om.nexts rows n u x.2).length ≤ i) (nb : ¬ Om.BadN rows u x) (hnx : Om.nxL rows n u x = (Om.nexts rows n u x.2).map fun q => (tx, q)) : Wk rows n u xs' ws2 := by
  refine ⟨h.nd, h.rc, h.wc, fun y hy => ?_, by have := h.l2; have := h.l1; have := h.lw; omega⟩
  rcases h.dn y hy with z | rfl | z
  · exact .inl z
  · refine .inr ⟨nb, fun v hv => ?_⟩
    rw [hnx] at hv
    obtain ⟨q, hq, rfl⟩ := List.mem_map.mp hv
    obtain ⟨j, hj, e⟩ := List.getElem_of_mem hq
    exact h.did j q (by omega) (by rw [List.getElem?_eq_getElem hj, e])
  · exact .inr z
theorem Wi.few (h : Wi rows n u x tx xs ws' xs' ws2 i) (ok : Om.CodeOk k n rows) (u1 : 1 ≤ u.length) (u8 : u.length ≤ 8) : xs'.length ≤ 266240 := few_spots h.nd fun y hy => small_of ok u1 u8 (h.rc y hy)
end
def Kp (d W : Addr) (X Y : Hp) : Prop := ∀ b o, b ≠ d → b ≠ W → X b = some o → Y b = some o
theorem Kp.refl {d W : Addr} {X : Hp} : Kp d W X X := fun _ _ _ _ h => h
theorem Kp.trans {d W : Addr} {X Y Z : Hp} (a : Kp d W X Y) (b : Kp d W Y Z) : Kp d W X Z := fun c o n m h => b c o n m (a c o n m h)
theorem Same.kp {d W : Addr} {X Y : Hp} (a : Same X Y) : Kp d W X Y := fun c o _ _ h => a c o h
theorem Kp.same {d W : Addr} {H X Y : Hp} (s : Same H X) (hd : H d = none) (hW : H W = none) (a : Kp d W X Y) : Same H Y := fun b o e => a b o (fun z => by rw [z, hd] at e; cases e) (fun z => by rw [z, hW] at e; cases e) (s b o e)
section
variable {P : Program} {w : World} {K : PySem.W.Frag} {mg : Str → Option Value} {base : Heap}
abbrev sLClean : Stmt := top 20
def spLClean : Sp := fun vs H Q _ => match vs with
  | [cv, .str z] => ∃ (k n : Nat) (rows : Om.Rows) (u : List Bool), z = bs u ∧ 1 ≤ u.length ∧ u.length ≤ 8 ∧ DV H cv (codeD k n rows) ∧ Om.CodeOk k n rows ∧ ∀ (b : Bool) H', Same H H' → (b = true ↔ ¬ Om.BadL rows n u) → Q (.bl b) H'
  | _ => False
theorem scLClean : FnScope ["code", "mark", "been", "waiting", "last", "spot", "text", "later"] ["code", "mark"] (defScope sLClean) := ⟨rfl, rfl, rfl, by decide +kernel, rfl, by decide +kernel, by decide +kernel⟩
local macro_rules | `(tactic| walk_at "T.n") => `(tactic| with_reducible first | exact vn "code" 0 | exact vn "mark" 1 | exact vn "been" 2 | exact vn "waiting" 3 | exact vn "last" 4 | exact vn "spot" 5 | exact vn "text" 6 | exact vn "later" 7)
local macro_rules | `(tactic| walk_at "T.gn") => `(tactic| with_reducible first | exact gn "been" 2 (by with_unfolding_all assumption) | exact gn "waiting" 3 (by with_unfolding_all assumption) | exact gn "last" 4 (by with_unfolding_all assumption) | exact gn "spot" 5 (by with_unfolding_all assumption) | exact gn "text" 6 (by with_unfolding_all assumption) | exact gn "later" 7 (by with_unfolding_all assumption))
local macro_rules | `(tactic| walk_at "T.e") => `(tactic| (with_reducible exact pe_dnewN))
local macro_rules | `(tactic| walk_at "T.g") => `(tactic| ((with_reducible refine' g_subN ?a0 ?a1 ?a2); (case a0 => exact Room.units (by assumption)); (case a1 => walk_at "T.e"); (case a2 => walk_at "T.e")))
local macro_rules | `(tactic| walk_at "T.cmp") => `(tactic| ((with_reducible refine' op_notInNd ?a0); (case a0 => exact Room.units (by assumption))))
local macro_rules | `(tactic| walk_at "T.m") => `(tactic| ((with_reducible refine' m_pop0 ?a1); (case a1 => walk_at "T.e")))
theorem ok_lclean (D : FnX K mg "_law_clean" sLClean ["code", "mark"]) (g1 : mg "len" = none) (c1 : Can P w K mg base "_law_sign" 1 ["code", "mark", "spot"] spSign) (c2 : Can P w K mg base "_law_nexts" 1 ["code", "mark", "spot"] spNexts) : Can P w K mg base "_law_clean" 2 ["code", "mark"] spLClean := by
  refine can_fn (k := 1) D scLClean (fun vs H Q E h => ?_) (fun f cdv A outer s H vs Q E hr h => ?_)
  all_goals
    unfold spLClean at h
    split at h
  · rfl
  · exact h.elim
  · rename_i cv z
    obtain ⟨k, n, rows, u, rfl, u1, u8, hc, ok, q⟩ := h
    have nd := scLClean.nd
    refine ⟨_, (by walk_at "T.top"), ?_⟩
    obtain ⟨a, b, ss, rfl, ha, hbb, hss⟩ := code_inv hc
    intro d Hd hd hne hnd
    have sd : Same H Hd := fun c o e => by rw [hne c (fun z => by rw [z, hd] at e; cases e)]; exact e
    refine ⟨le_line (Nat.le_of_ble_eq_true rfl), fun b0 hb0 => ⟨le_line (Nat.le_of_ble_eq_true rfl), fun c0 hc0 => ⟨le_line (Nat.le_of_ble_eq_true rfl), fun Wt hWt => ?_⟩⟩⟩
    have sb := Same.upd (o := .tup [.str "mark", .int 0]) hb0
    have sc := Same.upd (o := .tup [.str "", .ref b0]) hc0
    have sw := Same.upd (o := .lst [.ref c0]) hWt
    have sA : Same Hd (upd (upd (upd Hd b0 (.tup [.str "mark", .int 0])) c0 (.tup [.str "", .ref b0])) Wt (.lst [.ref c0])) := sb.trans (sc.trans sw)
    have nA := hnd.same sA
    have hWA : upd (upd (upd Hd b0 (.tup [.str "mark", .int 0])) c0 (.tup [.str "", .ref b0])) Wt (.lst [.ref c0]) Wt = some (.lst [.ref c0]) := upd_same
    have wA : WtV (upd (upd (upd Hd b0 (.tup [.str "mark", .int 0])) c0 (.tup [.str "", .ref b0])) Wt (.lst [.ref c0])) [.ref c0] [([], .mark 0)] := ⟨rfl, fun j x e => by
      cases j with
      | zero => cases e; exact ⟨c0, rfl, b0, by rw [← bs_nil]; exact sw _ _ upd_same, sw _ _ (sc _ _ upd_same)⟩
      | succ j => simp at e⟩
    have nWt : H Wt = none := (sd.trans (sb.trans sc)).free hWt
    have s0 := sd.trans sA
    have ndW : d ≠ Wt := fun z => by
      obtain ⟨_, e, _⟩ := nA
      rw [z, hWA] at e
      cases e
    generalize upd (upd (upd Hd b0 (.tup [.str "mark", .int 0])) c0 (.tup [.str "", .ref b0])) Wt (.lst [.ref c0]) = HA at s0 nA hWA wA
    clear hb0 hc0 hWt sb sc sw sA hnd
    have W0 : Wk rows n u [] [([], .mark 0)] := ⟨List.nodup_nil, (fun x hx => nomatch hx), (fun x hx => .inl (by simpa using hx)), (fun x hx => .inl (hx.elim (fun z => by rw [z]; simp) fun z => nomatch z)), by simp⟩
    dsimp only [gName]
    refine ⟨fun mm σ H2 => ∃ (v4 v5 v6 v7 : Option V) (xs ws : List Nod) (zs : List V), σ = [some (.ref a), some (.str (bs u)), some (.ref d), some (.ref Wt), v4, v5, v6, v7] ∧ mm + 2 * xs.length = 532480 + ws.length ∧ Same H H2 ∧ ND P w H2 d (xs.map nodeK) ∧ H2 Wt = some (.lst zs) ∧ WtV H2 zs ws ∧ Wk rows n u xs ws,
      ⟨532481, none, none, none, none, [], [([], .mark 0)], [.ref c0], rfl, rfl, s0, nA, hWA, wA, W0⟩, ?_⟩
    rintro mm σ H2 ⟨v4, v5, v6, v7, xs, ws, zs, rfl, hmm, s2, nd2, hW2, w2, K2⟩
    have few := K2.few ok u1 u8
    refine ⟨Nat.zero_le _, fun e0 he0 => ?_⟩
    have se := Same.upd (o := .lst []) he0
    refine ⟨_, .list [], wt_DV (se _ _ hW2) (w2.mono fun b zs e => se _ _ e), .lst upd_same .nil, nodes_shaped _, nil_shaped, ?_⟩
    rw [eqv_nil]
    refine ite2 (fun c => ?_) (fun c => ?_)
    · have wne : ws ≠ [] := fun z => by rw [z] at c; exact absurd c (by decide)
      have s3 := s2.trans se
      have nd3 := nd2.same se
      have hW3 := se _ _ hW2
      have w3 := w2.mono (H' := upd H2 e0 (.lst [])) fun b zs e => se _ _ e
      generalize upd H2 e0 (.lst []) = H3 at s3 nd3 hW3 w3
      clear se he0 hW2 w2 nd2 s2
      obtain ⟨ws', x, zs', cn, rfl, rfl, w4, hx⟩ := w3.last wne
      have xr := K2.reach (x := x) (by simp)
      obtain ⟨pw, hpw, epw⟩ := Om.rchL_iff.mp xr
      have oks := hpw.ok ok u1
      have x8 : x.1.length ≤ 8 := by rw [epw]; exact Nat.le_trans (Om.lastN_le _ _) u8
      refine ⟨fun σ' H' => ∃ (v4 v5 v6 v7 : Option V) (xs' ws2 : List Nod) (zs2 : List V), σ' = [some (.ref a), some (.str (bs u)), some (.ref d), some (.ref Wt), v4, v5, v6, v7] ∧ Same H H' ∧ ND P w H' d (xs'.map nodeK) ∧ H' Wt = some (.lst zs2) ∧ WtV H' zs2 ws2 ∧ Wk rows n u xs' ws2 ∧ xs.length ≤ xs'.length ∧ ws2.length + xs.length = ws'.length + xs'.length, ?_, ?_⟩
      · rintro σ' H' ⟨v4, v5, v6, v7, xs', ws2, zs2, rfl, s', nd', hW', w', K', l1, l2⟩
        have few' := K'.few ok u1 u8
        rw [List.length_append] at hmm
        simp only [List.length_cons, List.length_nil] at hmm
        exact ⟨532480 + ws2.length - 2 * xs'.length, by omega, v4, v5, v6, v7, xs', ws2, zs2, rfl, by omega, s', nd', hW', w', K'⟩
      · refine ⟨⟨_, rfl, hW3⟩, Wt, _, .ref cn, rfl, rfl, hW3, by simp, ?_⟩
        rw [List.dropLast_concat]
        have tn : ∀ (b : Addr) (ys : List V) (o : HO), H3 b = some (.tup ys) → upd H3 Wt o b = some (.tup ys) := fun b ys o e => by
          rw [upd_ne (fun z => by rw [z, hW3] at e; cases e)]; exact e
        have s4 : Same H (upd H3 Wt (.lst zs')) := s3.own nWt
        have nd4 : ND P w (upd H3 Wt (.lst zs')) d (xs.map nodeK) := nd3.lst hW3
        have hW4 : upd H3 Wt (.lst zs') Wt = some (.lst zs') := upd_same
        have w4' := w4.mono (H' := upd H3 Wt (.lst zs')) fun b ys e => tn b ys _ e
        have hx4 := hx.mono (H' := upd H3 Wt (.lst zs')) fun b ys e => tn b ys _ e
        generalize upd H3 Wt (.lst zs') = H4 at s4 nd4 hW4 w4' hx4
        clear w3 hx w4 tn s3 nd3 hW3
        obtain ⟨bn, hcn, hbn⟩ := hx4
        refine ⟨_, .inl hcn, rfl, rfl, ?_⟩
        dsimp only [gName]
        refine ⟨k, n, rows, u, x.2, rfl, u8, hc.mono s4, ok, oks, hbn, by rw [bs_len, bs_len]; exact le_line (by simp; omega), _, lenS (le_line (by omega)), by rw [bs_app, bs_len]; exact le_line (by simp; omega), ?_⟩
        rw [bs_app, bs_lastZ u1]
        have t8 : (Om.lastN u.length (x.1 ++ [Om.sgnAt rows u x.2])).length ≤ 8 := Nat.le_trans (Om.lastN_le _ _) u8
        have hnx : Om.nxL rows n u x = (Om.nexts rows n u x.2).map fun q => (Om.lastN u.length (x.1 ++ [Om.sgnAt rows u x.2]), q) := rfl
        have hbad : Om.BadN rows u x ↔ Om.lastN u.length (x.1 ++ [Om.sgnAt rows u x.2]) = u ∧ x.2 ≠ .mark (u.length - 1) := Iff.rfl
        generalize Om.lastN u.length (x.1 ++ [Om.sgnAt rows u x.2]) = tx at t8 hnx hbad
        dsimp only [gName]
        refine seq_by (fun σ H5 => σ = [some (.ref a), some (.str (bs u)), some (.ref d), some (.ref Wt), some (.str (bs x.1)), some (.ref bn), some (.str (bs tx)), v7] ∧ Same H4 H5 ∧ ¬ Om.BadN rows u x) ?_ (fun fin => ?_)
        · rintro σ H5 ⟨rfl, s5, nb⟩
          have s45 := s4.trans s5
          refine ⟨k, n, rows, u, x.2, rfl, u8, hc.mono s45, ok, oks, s5 _ _ hbn, fun l ys H6 s6 nl hl sp => ?_⟩
          have nd6 := (nd4.same s5).same s6
          have hW6 := s6 _ _ (s5 _ _ hW4)
          have w6 := (w4'.mono fun b zs e => s5 _ _ e).mono (H' := H6) fun b zs e => s6 _ _ e
          have sH6 := s45.trans s6
          have lW : l ≠ Wt := fun z => by rw [z, s5 _ _ hW4] at nl; cases nl
          have ld : l ≠ d := fun z => by
            obtain ⟨_, e, _⟩ := nd4.same s5
            rw [← z, nl] at e
            cases e
          clear nd4 hW4 w4' s4 s5 s45 s6 hcn hbn
          refine ⟨⟨_, SqL.of hl⟩, for_by (it_list _ l ys) (fun i σ H7 => ∃ (v7 : Option V) (xs' ws2 : List Nod) (zs2 : List V), σ = [some (.ref a), some (.str (bs u)), some (.ref d), some (.ref Wt), some (.str (bs x.1)), some (.ref bn), some (.str (bs tx)), v7] ∧ Kp d Wt H6 H7 ∧ ND P w H7 d (xs'.map nodeK) ∧ H7 Wt = some (.lst zs2) ∧ WtV H7 zs2 ws2 ∧ Wi rows n u x tx xs ws' xs' ws2 i)
            ⟨v7, xs, ws', zs', rfl, Kp.refl, nd6, hW6, w6, Wi.start K2⟩ (fun i σ H7 _ ⟨_, _, _, _, _, kp, _⟩ => SqL.of (kp _ _ ld lW hl)) ?_ ?_⟩
          · rintro i z σ H7 hi hz ⟨v7, xs', ws2, zs2, rfl, kp, nd7, hW7, w7, I7⟩
            have hi' : i < (Om.nexts rows n u x.2).length := by rw [← sp.1]; exact hi
            have hq : (Om.nexts rows n u x.2)[i]? = some (Om.nexts rows n u x.2)[i] := List.getElem?_eq_getElem hi'
            generalize (Om.nexts rows n u x.2)[i] = qs at hq
            obtain ⟨bq, q1, q2⟩ := sp.2 i qs hq
            rw [hz] at q1
            cases q1
            have few7 := I7.few ok u1 u8
            have q7 : H7 bq = some (spotO qs) := kp _ _ (fun z => by
              obtain ⟨_, e, _⟩ := nd6
              rw [← z, q2] at e
              cases e) (fun z => by rw [z, hW6] at q2; cases q2) q2
            dsimp only [gName]
            refine ⟨le_line (Nat.le_of_ble_eq_true rfl), fun p1 hp1 => ?_⟩
            have s8 := Same.upd (o := .tup [.str (bs tx), .ref bq]) hp1
            have nd8 := nd7.same s8
            have hW8 := s8 _ _ hW7
            have w8 := w7.mono (H' := upd H7 p1 (.tup [.str (bs tx), .ref bq])) fun b zs e => s8 _ _ e
            have q8 := s8 _ _ q7
            have k8 := kp.trans (Same.kp s8)
            refine ⟨p1, bs tx, bq, spotK qs, d, xs'.map nodeK, rfl, upd_same, q8, rfl, nd8, ?_⟩
            rw [show inL (bs tx, spotK qs) (xs'.map nodeK) = decide ((tx, qs) ∈ xs') from inL_nodes (x := (tx, qs))]
            generalize upd H7 p1 (.tup [.str (bs tx), .ref bq]) = H8 at nd8 hW8 w8 q8 k8
            refine ite2 (fun c => ?_) (fun c => ?_)
            · have nm : (tx, qs) ∉ xs' := by simpa using c
              refine ⟨le_line (Nat.le_of_ble_eq_true rfl), fun p2 hp2 => ?_⟩
              have s9 := Same.upd (o := .tup [.str (bs tx), .ref bq]) hp2
              have nd8' := nd8.same s9
              refine ⟨d, p2, bs tx, bq, spotK qs, xs'.map nodeK, rfl, rfl, upd_same, s9 _ _ q8, nd8', fun z => ?_, by rw [List.length_map, sizeLine_eq]; omega, fun H9 ne9 nd9 => ?_⟩
              · obtain ⟨y, hy, e⟩ := List.mem_map.mp z
                exact nm (nodeK_inj (y := (tx, qs)) e ▸ hy)
              have k9 : Kp d Wt H6 H9 := (k8.trans (Same.kp s9)).trans fun b o n1 n2 e => by rw [ne9 b n1]; exact e
              have tn9 : ∀ (b : Addr) (zs : List V), H8 b = some (.tup zs) → H9 b = some (.tup zs) := fun b zs e => by
                rw [ne9 b (fun z => by
                  obtain ⟨_, e', _⟩ := nd8
                  rw [← z, e] at e'
                  cases e')]
                exact s9 _ _ e
              have hW9 : H9 Wt = some (.lst zs2) := by rw [ne9 _ (Ne.symm ndW)]; exact s9 _ _ hW8
              have w9 := w8.mono tn9
              have q9 := tn9 _ _ q8
              have zl : zs2.length ≤ 266241 := by rw [w9.1]; have := I7.l2; have := I7.lw; have := I7.l1; omega
              refine ⟨⟨_, rfl, hW9⟩, le_line (Nat.le_of_ble_eq_true rfl), fun p3 hp3 => ?_⟩
              have s10 := Same.upd (o := .tup [.str (bs tx), .ref bq]) hp3
              have hW10 := s10 _ _ hW9
              refine ⟨_, hW10, by rw [sizeLine_eq]; omega, ?_⟩
              have tn10 : ∀ (b : Addr) (zs : List V) (o : HO), upd H9 p3 (.tup [.str (bs tx), .ref bq]) b = some (.tup zs) → upd (upd H9 p3 (.tup [.str (bs tx), .ref bq])) Wt o b = some (.tup zs) := fun b zs o e => by
                rw [upd_ne (fun z => by rw [z, hW10] at e; cases e)]; exact e
              refine ⟨_, xs' ++ [(tx, qs)], ws2 ++ [(tx, qs)], zs2 ++ [.ref p3], rfl, (k9.trans (Same.kp s10)).trans fun b o n1 n2 e => by rw [upd_ne n2]; exact e, ?_, upd_same, ?_, I7.put hq nm xr hnx⟩
              · rw [List.map_append]
                exact (nd9.same s10).lst hW10
              · exact (w9.mono fun b zs e => tn10 b zs _ (s10 _ _ e)).snoc ⟨bq, tn10 _ _ _ upd_same, tn10 _ _ _ (s10 _ _ q9)⟩
            · have m : (tx, qs) ∈ xs' := by
                by_cases y : (tx, qs) ∈ xs'
                · exact y
                · exact absurd (by simpa using y) c
              exact ⟨_, xs', ws2, zs2, rfl, k8, nd8, hW8, w8, I7.skip hq m⟩
          · rintro σ H7 ⟨v7, xs', ws2, zs2, rfl, kp, nd7, hW7, w7, I7⟩
            exact ⟨_, _, _, _, xs', ws2, zs2, rfl, Kp.same sH6 hd nWt kp, nd7, hW7, w7, I7.fin (by rw [sp.1]; exact Nat.le_refl _) nb hnx, I7.l1, I7.l2⟩
        · dsimp only [tIfS, tNext, tAnd]
          refine ite2 (fun c1 => ?_) (fun c1 => iteF (fin _ _ ⟨rfl, Same.refl _, fun z => c1 (decide_eq_true (by rw [(hbad.mp z).1]))⟩))
          have e1 : tx = u := bs_inj (of_decide_eq_true c1)
          have e2 : ((u.length : Nat) : Int) - 1 = ((u.length - 1 : Nat) : Int) := by omega
          refine ⟨_, lenS (le_line (by omega)), le_line (Nat.le_of_ble_eq_true rfl), fun p hp => ?_⟩
          have hpp : upd H4 p (.tup [.str "mark", .int ((u.length : Nat) - 1)]) p = some (spotO (.mark (u.length - 1))) := by
            rw [upd_same, e2]
            rfl
          refine ⟨_, _, spot_DV (Same.upd hp _ _ hbn), spot_DV hpp, spotD_shaped _, spotD_shaped _, ?_⟩
          rw [spotD_eqv]
          refine ite2 (fun c2 => ?_) (fun c2 => ?_)
          · refine q false _ (s4.trans (Same.upd hp)) ⟨(fun z => nomatch z), fun z => absurd (Om.badL_iff.mpr ⟨x, xr, hbad.mpr ⟨e1, ?_⟩⟩) z⟩
            simpa using c2
          · refine fin _ _ ⟨rfl, Same.upd hp, fun z => c2 ?_⟩
            simpa using (hbad.mp z).2
    · have we : ws = [] := by
        cases ws with
        | nil => rfl
        | cons x r => exact absurd rfl c
      subst we
      exact q true _ (s2.trans se) ⟨fun _ => K2.done, fun _ => rfl⟩
  · exact h.elim
end

end K40
end
section
set_option Elab.async false
set_option linter.all false
set_option maxRecDepth 100000
set_option maxHeartbeats 4000000
namespace K40
open PySem L2
section
variable {P : Program} {w : World} {K : PySem.W.Frag} {mg : Str → Option Value} {base : Heap}
abbrev sLaw : Stmt := top 21
def spLaw (P0 : Addr) (K : PySem.W.Frag) : Sp := fun vs H Q _ => match vs with
  | [.ref a] => ∃ ns : List Int, SqL K H a (ns.map V.int) ∧ ns.length ≤ 63 ∧ Tab P0 (lamPos lamTb) qTb H ∧ ∀ H', Q (.bl true) H'
  | _ => False
theorem scLaw : FnScope ["script", "code", "handed", "k", "cell", "length", "some", "mark", "due", "found", "odd"] ["script"] (defScope sLaw) := ⟨rfl, rfl, rfl, by decide +kernel, rfl, by decide +kernel, by decide +kernel⟩
def rIsNotA : R2 := fun x y H Q => match x, y with
  | .bl a, .bl b => Q (.bl (a != b)) H
  | _, _ => False
theorem op_isNotA {X : Cx} : OpR X (compareOp .IsNot) rIsNotA := by
  intro pins s σ H x y v u Q I rx ry h
  unfold rIsNotA at h
  split at h
  · cases rx
    cases ry
    exact PyProof.Rows.isnot_bool ⟨.bl _, H, I, rfl, h⟩
  · exact h.elim
theorem bs_0110 : ("0110" : Str) = bs [false, true, true, false] := by decide +kernel
noncomputable abbrev askS (rows : Om.Rows) (l : Nat) : List (List Bool) := markS rows l ++ [[false, true], [true], [false, true, true, false]]
theorem askS_len {rows : Om.Rows} {l : Nat} (l1 : 1 ≤ l) (l8 : l ≤ 8) : ∀ u ∈ askS rows l, 1 ≤ u.length ∧ u.length ≤ 8 := fun u hu => by
  rcases List.mem_append.mp hu with z | z
  · rw [(markS_mem.mp z).1]; exact ⟨l1, l8⟩
  · simp only [List.mem_cons, List.not_mem_nil, or_false] at z
    rcases z with rfl | rfl | rfl <;> decide
theorem inL_mark {rows : Om.Rows} {u : List Bool} : inL u (markS rows u.length) = true ↔ ¬ Om.Fac rows u := by
  rw [inL_iff, markS_mem]
  exact ⟨fun h => h.2, fun h => ⟨rfl, h⟩⟩
local macro_rules | `(tactic| walk_at "T.n") => `(tactic| with_reducible first | exact vn "script" 0 | exact vn "code" 1 | exact vn "handed" 2 | exact vn "k" 3 | exact vn "cell" 4 | exact vn "length" 5 | exact vn "some" 6 | exact vn "mark" 7 | exact vn "due" 8 | exact vn "found" 9 | exact vn "odd" 10)
local macro_rules | `(tactic| walk_at "T.gn") => `(tactic| with_reducible first | exact gn "code" 1 (by with_unfolding_all assumption) | exact gn "handed" 2 (by with_unfolding_all assumption) | exact gn "k" 3 (by with_unfolding_all assumption) | exact gn "cell" 4 (by with_unfolding_all assumption) | exact gn "length" 5 (by with_unfolding_all assumption) | exact gn "some" 6 (by with_unfolding_all assumption) | exact gn "mark" 7 (by with_unfolding_all assumption) | exact gn "due" 8 (by with_unfolding_all assumption) | exact gn "found" 9 (by with_unfolding_all assumption) | exact gn "odd" 10 (by with_unfolding_all assumption))
local macro_rules | `(tactic| walk_at "T.cmp") => `(tactic| first | (with_reducible exact op_inW) | (with_reducible exact op_isNotA))
local macro_rules | `(tactic| walk_at "T.b") => `(tactic| ((with_reducible refine' fn_lenS ?a0 ?a9 ?a1); (case a0 => with_reducible assumption); (case a9 => rfl); (case a1 => ((with_reducible refine' a_cons ?c1 ?c2); (case c1 => with_reducible exact vn "script" 0); (case c2 => with_reducible exact pa_nil)))))
theorem ok_law {f : Addr} {fd : FuncData} {P0 : Addr} (D : Fun K "law" "law" sLaw f fd) (g1 : mg "range" = none) (g2 : mg "len" = none) (g3 : mg "int" = none) (g4 : mg "max" = none) (g5 : mg "min" = none) (g6 : mg "isinstance" = none) (g7 : mg "bool" = none) (c1 : Can P w K mg base "_law_code" 2 ["script"] (spLCode K)) (c2 : Can P w K mg base "_law_copy" 1 ["code"] spCopyF)
    (c3 : Can P w K mg base "_law_cell" 1 ["script", "k"] (spCell K)) (c4 : Can P w K mg base "marks" 6 ["code", "length"] (spMarks P0)) (c5 : Can P w K mg base "_law_clean" 2 ["code", "mark"] spLClean) (c6 : Can P w K mg base "is_clean" 7 ["code", "mark"] (spClean P0)) : FnOk P w K mg base CX0 8 f fd ["script"] (spLaw P0 K) := by
  refine D.ok (k := 7) scLaw (fun vs H Q E h => ?_) (fun cdv A outer s H vs Q E hr h => ?_)
  all_goals
    unfold spLaw at h
    split at h
  · rfl
  · exact h.elim
  · rename_i a
    obtain ⟨ns, hS, h63, tb, q⟩ := h
    have nd := scLaw.nd
    refine ⟨_, (by walk_at "T.top"), ?_⟩
    refine ⟨ns, hS, fun cv k n rows H1 s1 d1 ok => ?_⟩
    refine ⟨k, n, rows, d1, ok.s8, fun ah bh qs H2 s2 na C2 => ?_⟩
    have tb2 : Tab P0 (lamPos lamTb) qTb H2 := (tb.mono s1).mono s2
    obtain ⟨ps0, hP⟩ := tb2.tbl
    have G0 : Same (wo1 P0 H2) H2 := wo1.same (SameT.refl _ _)
    have GP : wo1 P0 H2 P0 = none := by unfold wo1; rw [if_pos rfl]
    have dvc := (d1.mono s2).wo1 hP
    have dvh := C2.dv.wo1 hP
    have hSG := ((s1.trans s2).seq hS).wo1 hP
    generalize wo1 P0 H2 = G at G0 GP dvc dvh hSG
    obtain ⟨a0, b0, ss0, rfl, ha0, hb0, hss0⟩ := code_inv dvc
    have r1 := ok.s1
    have r8 := ok.s8
    obtain ⟨q0, rs0, e01, e02, e03⟩ := state_at hss0 (s := 0) (st := rows[0]) (List.getElem?_eq_getElem r1)
    have keep : ∀ {X Y : Hp}, Same G X → SameT P0 X Y → Same G Y := fun {X Y} s1 s2 b o e => s2 _ _ (fun z => by rw [z, GP] at e; cases e) (s1 _ _ e)
    dsimp only [gName]
    refine ⟨_, G0.seq hSG, ?_⟩
    rw [List.length_map]
    have bd : 22 ≤ (if (if (23 : Int) < (ns.length : Int) then 23 else (ns.length : Int)) > 22 then (if (23 : Int) < (ns.length : Int) then 23 else (ns.length : Int)) else 22) ∧ (if (if (23 : Int) < (ns.length : Int) then 23 else (ns.length : Int)) > 22 then (if (23 : Int) < (ns.length : Int) then 23 else (ns.length : Int)) else 22) ≤ 23 := by
      by_cases z1 : (23 : Int) < (ns.length : Int)
      · rw [if_pos z1]; decide
      · rw [if_neg z1]
        by_cases z2 : (ns.length : Int) > 22
        · rw [if_pos z2]; omega
        · rw [if_neg z2]; decide
    refine ⟨⟨by decide, by decide, Int.le_trans (by decide) bd.1, Int.lt_of_le_of_lt bd.2 (by decide)⟩, ?_⟩
    generalize (if (if (23 : Int) < (ns.length : Int) then 23 else (ns.length : Int)) > 22 then (if (23 : Int) < (ns.length : Int) then 23 else (ns.length : Int)) else 22) = top at bd
    refine for_by (it_range 20 _) (fun i σ H7 => ∃ v3 v4 v5 v6 v7 v8 v9 v10 : Option V, σ = [some (.ref a), some (.ref a0), some (.ref ah), v3, v4, v5, v6, v7, v8, v9, v10] ∧ Same G H7 ∧ Tab P0 (lamPos lamTb) qTb H7)
      ⟨none, none, none, none, none, none, none, none, rfl, G0, tb2⟩ (fun _ _ _ _ _ => trivial) ?_ ?_
    · rintro i x σ H7 hi hx ⟨v3, v4, v5, v6, v7, v8, v9, v10, rfl, G7, t7⟩
      rw [List.length_map, List.length_range] at hi
      have ex : x = V.int (20 + (i : Nat)) := by
        rw [List.getElem?_map, List.getElem?_range hi] at hx
        exact (Option.some.inj hx).symm
      subst ex
      refine ⟨ns, G7.seq hSG, by omega, by omega, fun c => ?_⟩
      dsimp only [gName]
      refine seq_by (fun σ Hx => ∃ (z : Int) (l : Nat), z = (l : Nat) ∧ σ = [some (.ref a), some (.ref a0), some (.ref ah), some (.int (20 + (i : Nat))), some (.int c), some (.int z), v6, v7, v8, v9, v10] ∧ 1 ≤ l ∧ l ≤ 8 ∧ Same H7 Hx) ?_ (fun fin => ?_)
      · rintro σ Hx ⟨_, l, rfl, rfl, l1, l8, sx⟩
        have G8 := G7.trans sx
        have t8 := t7.mono sx
        clear G7 t7 sx
        refine ⟨k, n, rows, l, rfl, l1, l8, dvh.mono G8, ok, t8, fun F H9 s9 t9 nF hF => ?_⟩
        have G9 := keep G8 s9
        refine ⟨le_line (Nat.le_of_ble_eq_true rfl), fun p hp => ?_⟩
        have m256 := markS_le (rows := rows) l8
        have sp := Same.upd (o := .lst [.str "01", .str "1", .str "0110"]) hp
        refine ⟨_, _, sp _ _ hF, upd_same, by rw [ws_len]; exact le_line (by simp; omega), fun r hr => ?_⟩
        have e3 : ((markS rows l).map fun w => V.str (bs w)) ++ [.str "01", .str "1", .str "0110"] = (askS rows l).map fun w => V.str (bs w) := by
          rw [List.map_append, bs_01, bs_1, bs_0110]; rfl
        have sr := sp.trans (Same.upd (o := .lst (((markS rows l).map fun w => V.str (bs w)) ++ [.str "01", .str "1", .str "0110"])) hr)
        have G10 := G9.trans sr
        have t10 := t9.mono sr
        have hr10 : upd (upd H9 p (.lst [.str "01", .str "1", .str "0110"])) r (.lst (((markS rows l).map fun w => V.str (bs w)) ++ [.str "01", .str "1", .str "0110"])) r = some (WS (askS rows l)) := by rw [upd_same, e3]; rfl
        generalize upd (upd H9 p (.lst [.str "01", .str "1", .str "0110"])) r (.lst (((markS rows l).map fun w => V.str (bs w)) ++ [.str "01", .str "1", .str "0110"])) = H10 at G10 t10 hr10
        dsimp only [gName]
        have al : (askS rows l).length = (markS rows l).length + 3 := by simp
        have i0 := Int.emod_nonneg (c / 8) (show (((askS rows l).length : Nat) : Int) ≠ 0 by omega)
        have i1 := Int.emod_lt_of_pos (c / 8) (show (0 : Int) < ((askS rows l).length : Nat) by omega)
        have il : (c / 8 % ((askS rows l).length : Nat)).toNat < (askS rows l).length := by omega
        refine ⟨⟨by decide, by decide⟩, _, lenL hr10, ?_⟩
        rw [ws_len]
        refine ⟨by omega, _, gl hr10 i0 (ws_get (List.getElem?_eq_getElem il)), ?_⟩
        have um := askS_len l1 l8 _ (List.getElem_mem il)
        generalize (askS rows l)[(c / 8 % ((askS rows l).length : Nat)).toNat] = u at um
        obtain ⟨u1, u8⟩ := um
        have biff := Om.bad_iff (u := u) ok u1
        dsimp only [gName]
        refine seq_by (fun σ Hx => ∃ due : Bool, σ = [some (.ref a), some (.ref a0), some (.ref ah), some (.int (20 + (i : Nat))), some (.int c), some (.int (l : Nat)), some (.ref r), some (.str (bs u)), some (.bl due), v9, v10] ∧ Same G Hx ∧ Tab P0 (lamPos lamTb) qTb Hx ∧ (due = true ↔ ¬ Om.Fac rows u ∧ ¬ Om.BadP rows u)) ?_ (fun fin => ?_)
        · rintro σ Hx ⟨due, rfl, G11, t11, hdue⟩
          refine .inl ⟨k, n, rows, u, rfl, u1, u8, dvh.mono G11, ok, t11, fun b1 H12 s12 t12 h12 => ?_⟩
          have e : b1 = due := Bool.eq_iff_iff.mpr (h12.trans hdue.symm)
          subst e
          have G12 := keep G11 s12
          refine ⟨"bool", rfl, by decide, ?_⟩
          refine ite2 (fun z => absurd z (by decide)) (fun _ => ?_)
          refine ite2 (fun z => absurd z (by simp)) (fun _ => ?_)
          refine .inl ⟨k, n, rows, u, rfl, u1, u8, dvh.mono G12, ok, t12, fun b2 H13 s13 t13 h13 => ?_⟩
          have e : b2 = b1 := Bool.eq_iff_iff.mpr (h13.trans hdue.symm)
          subst e
          refine ite2 (fun z => absurd z (by simp)) (fun _ => ?_)
          exact ⟨_, _, _, _, _, _, _, _, rfl, keep G12 s13, t13⟩
        · refine ⟨_, lenS (le_line (by omega)), k, n, rows, u.length, rfl, u1, u8, dvh.mono G10, ok, t10, fun F2 H11 s11 t11 nF2 hF2 => ?_⟩
          have G11 := keep G10 s11
          refine ⟨u, _, rfl, hF2, ?_⟩
          cases em : inL u (markS rows u.length) with
          | false =>
            have hf : Om.Fac rows u := Classical.byContradiction fun z => by rw [inL_mark.mpr z] at em; cases em
            exact fin _ _ ⟨false, rfl, G11, t11, (fun z => nomatch z), fun z => absurd hf z.1⟩
          | true =>
            have hf := inL_mark.mp em
            refine ⟨k, n, rows, u, rfl, u1, u8, dvc.mono G11, ok, fun b2 H12 s12 h12 => ?_⟩
            exact fin _ _ ⟨b2, rfl, G11.trans s12, t11.mono s12, fun z => ⟨hf, fun y => h12.mp z (biff.mpr y)⟩, fun z => h12.mpr fun y => z.2 (biff.mp y)⟩
      · refine ⟨le_line (Nat.le_of_ble_eq_true rfl), fun p0 hp0 => ?_⟩
        have s5 : Same H7 (upd H7 p0 (.lst [.int 8, .int 5])) := Same.upd hp0
        have G5 := G7.trans s5
        have pick : ∀ c : Bool, ∃ m : Int, (m = 8 ∨ m = 5) ∧ getV (upd H7 p0 (.lst [.int 8, .int 5])) (.ref p0) (if c = true then 1 else 0) = some (.int m) := fun c => by
          cases c
          · exact ⟨8, .inl rfl, gl upd_same (by decide) rfl⟩
          · exact ⟨5, .inr rfl, gl upd_same (by decide) rfl⟩
        have out : ∀ m : Int, m = 8 ∨ m = 5 → 0 < m ∧ ∃ l : Nat, 1 + c % m = (l : Nat) ∧ 1 ≤ l ∧ l ≤ 8 := fun m hm => by
          have m0 : 0 < m := by omega
          have b0 := Int.emod_nonneg c (show m ≠ 0 by omega)
          have b1 := Int.emod_lt_of_pos c m0
          exact ⟨m0, (1 + c % m).toNat, by omega, by omega, by omega⟩
        have sl0 : ss0.length = rows.length := by rw [hss0.length, List.length_map]
        have n6 := ok.n6
        have pr : 0 ≤ ((n : Nat) : Int) * (ss0.length : Int) ∧ ((n : Nat) : Int) * (ss0.length : Int) ≤ 48 := by
          have h1 : n * ss0.length ≤ 6 * 8 := Nat.mul_le_mul n6 (by omega)
          rw [← Int.natCast_mul]
          omega
        refine ⟨_, gt (G5 _ _ ha0) (by decide) rfl, _, gt (G5 _ _ ha0) (by decide) rfl, _, lenL (G5 _ _ hb0), .inl ⟨by omega, by omega⟩, _, gt (G5 _ _ ha0) (by decide) rfl, .ref q0, gl (G5 _ _ hb0) (by decide) (by simpa using e01), _, lenL (G5 _ _ e02), .inl ⟨by omega, by omega⟩, ?_⟩
        obtain ⟨m, hm, e⟩ := pick (decide ((60 : Int) < ((n : Nat) : Int) * (ss0.length : Int) * (rs0.length : Int)))
        obtain ⟨m0, l, el, l1, l8⟩ := out m hm
        exact ⟨.int m, e, m0, fin _ _ ⟨_, l, el, rfl, l1, l8, s5⟩⟩
    · rintro σ H7 ⟨v3, v4, v5, v6, v7, v8, v9, v10, rfl, G7, t7⟩
      refine ⟨le_line (Nat.le_of_ble_eq_true rfl), fun q1 hq1 => ⟨le_line (Nat.le_of_ble_eq_true rfl), fun Lo hLo => ?_⟩⟩
      have w1 : Same H7 (upd H7 q1 (.lst [.str "0"])) := Same.upd hq1
      have w3 := Same.upd (o := .lst [.str "", .non, .int 0, .ref q1, .str "000000000", .str "a", .bl true]) hLo
      have k1 : upd (upd H7 q1 (.lst [.str "0"])) Lo (.lst [.str "", .non, .int 0, .ref q1, .str "000000000", .str "a", .bl true]) q1 = some (.lst [.str "0"]) := w3 _ _ upd_same
      have k3 : upd (upd H7 q1 (.lst [.str "0"])) Lo (.lst [.str "", .non, .int 0, .ref q1, .str "000000000", .str "a", .bl true]) Lo = some (.lst [.str "", .non, .int 0, .ref q1, .str "000000000", .str "a", .bl true]) := upd_same
      have G8 := G7.trans (w1.trans w3)
      generalize upd (upd H7 q1 (.lst [.str "0"])) Lo (.lst [.str "", .non, .int 0, .ref q1, .str "000000000", .str "a", .bl true]) = H8 at k1 k3 G8
      have odd : ∀ x ∈ [V.str "", .non, .int 0, .ref q1, .str "000000000", .str "a", .bl true], (∃ Tx, tyN H8 x = some Tx ∧ Tx ≠ "str") ∨ ∃ z : Str, x = .str z ∧ z.length ≤ 100 ∧ (z.length = 0 ∨ 8 < z.length ∨ Txt.stripChars z ("01" : Str) ≠ ("" : Str)) := by
        intro x hx
        simp only [List.mem_cons, List.not_mem_nil, or_false] at hx
        rcases hx with rfl | rfl | rfl | rfl | rfl | rfl | rfl
        · exact .inr ⟨_, rfl, by decide +kernel, .inl (by decide +kernel)⟩
        · exact .inl ⟨_, rfl, by decide⟩
        · exact .inl ⟨_, rfl, by decide⟩
        · exact .inl ⟨"list", by simp [tyN, k1], by decide⟩
        · exact .inr ⟨_, rfl, by decide +kernel, .inr (.inl (by decide +kernel))⟩
        · exact .inr ⟨_, rfl, by decide +kernel, .inr (.inr (by decide +kernel))⟩
        · exact .inl ⟨_, rfl, by decide⟩
      refine ⟨⟨_, SqL.of k3⟩, for_by (it_list _ Lo _) (fun i σ Hz => ∃ v10 : Option V, σ = [some (.ref a), some (.ref a0), some (.ref ah), v3, v4, v5, v6, v7, v8, v9, v10] ∧ Hz = H8) ⟨v10, rfl, rfl⟩ (fun i σ Hz _ ⟨_, _, e⟩ => e ▸ SqL.of k3) ?_ ?_⟩
      · rintro i x σ Hz hi hx ⟨v10, rfl, rfl⟩
        rcases odd x (List.mem_of_getElem? hx) with ⟨Tx, h1, h2⟩ | ⟨z, rfl, h1, h2⟩
        · refine .inr (.inl ⟨Tx, h1, h2, ?_⟩)
          dsimp only [tC, rIsNotA, tNext]
          exact ite2 (fun z => absurd z (by decide)) (fun _ => ⟨_, rfl, rfl⟩)
        · refine .inr (.inr ⟨z, rfl, h1, h2, ?_⟩)
          dsimp only [tC, rIsNotA, tNext]
          exact ite2 (fun z => absurd z (by decide)) (fun _ => ⟨_, rfl, rfl⟩)
      · rintro σ Hz ⟨v10, rfl, rfl⟩
        refine ⟨_, _, dvh.mono G8, dvc.mono G8, codeD_shaped _ _ _, codeD_shaped _ _ _, ?_⟩
        rw [codeD_eq]
        exact q _
  · exact h.elim
end

end K40
end
section
set_option Elab.async false
set_option linter.all false
set_option maxRecDepth 100000
set_option maxHeartbeats 4000000
namespace K40
open PySem L2
theorem fnX_1 {K : PySem.W.Frag} {h : Heap} {mg : Str → Option Value} {x : Str} {st : Stmt} {p0 : Str} (D : DefIn K x st) (X : K.In h) (G : h.Ns mainGlobals mg)
    (hb : ∀ (kV doc pm : Value) (an : Option Addr) (cdv ct : Value) (a0 : Value), bindArgs (PySem.W.fnOf x x (defArgs st) (defBody st) (defScope st) .none kV doc pm an cdv ct) ⟨[a0], []⟩ = pure ([p0].zip [a0])) : FnX K mg x st [p0] :=
  D.fnX X G fun kV doc pm an cdv ct us hl => match us, hl with
    | [a0], _ => hb kV doc pm an cdv ct a0
theorem fnX_2 {K : PySem.W.Frag} {h : Heap} {mg : Str → Option Value} {x : Str} {st : Stmt} {p0 p1 : Str} (D : DefIn K x st) (X : K.In h) (G : h.Ns mainGlobals mg)
    (hb : ∀ (kV doc pm : Value) (an : Option Addr) (cdv ct : Value) (a0 a1 : Value), bindArgs (PySem.W.fnOf x x (defArgs st) (defBody st) (defScope st) .none kV doc pm an cdv ct) ⟨[a0, a1], []⟩ = pure ([p0, p1].zip [a0, a1])) : FnX K mg x st [p0, p1] :=
  D.fnX X G fun kV doc pm an cdv ct us hl => match us, hl with
    | [a0, a1], _ => hb kV doc pm an cdv ct a0 a1
theorem fnX_3 {K : PySem.W.Frag} {h : Heap} {mg : Str → Option Value} {x : Str} {st : Stmt} {p0 p1 p2 : Str} (D : DefIn K x st) (X : K.In h) (G : h.Ns mainGlobals mg)
    (hb : ∀ (kV doc pm : Value) (an : Option Addr) (cdv ct : Value) (a0 a1 a2 : Value), bindArgs (PySem.W.fnOf x x (defArgs st) (defBody st) (defScope st) .none kV doc pm an cdv ct) ⟨[a0, a1, a2], []⟩ = pure ([p0, p1, p2].zip [a0, a1, a2])) : FnX K mg x st [p0, p1, p2] :=
  D.fnX X G fun kV doc pm an cdv ct us hl => match us, hl with
    | [a0, a1, a2], _ => hb kV doc pm an cdv ct a0 a1 a2
theorem all_mk {l : PySem.W.OpenLaw} {w : World} {K : PySem.W.Frag} {h : Heap} {mg : Str → Option Value} {fa : Addr} (X : K.In h) (G : h.Ns mainGlobals mg) (hfa : mg "law" = some (.ref fa))
    (d1 : DefIn K "texts_from" sTexts) (d2 : DefIn K "tail_steps" sTailS) (d3 : DefIn K "tails_behind" sTails) (d4 : DefIn K "standing" sStand) (d5 : DefIn K "is_mark" sMark) (d6 : DefIn K "all_signs" sAll) (d7 : DefIn K "marks" sMarks) (d8 : DefIn K "is_clean" sClean) (d9 : DefIn K "_law_copy" sCopy) (d10 : DefIn K "_law_cell" sCell) (d11 : DefIn K "_law_mixed" sMixed) (d12 : DefIn K "_law_known" sKnown) (d13 : DefIn K "_law_code" sLCode) (d14 : DefIn K "_law_sign" sSign) (d15 : DefIn K "_law_nexts" sNexts) (d16 : DefIn K "_law_clean" sLClean) (dl : DefIn K "law" sLaw) {c0 P0 : Addr} (ht : PySem.W.tabIn K "tails_behind" = some (c0, P0))
    (z1 : PySem.W.nsIn K mainGlobals "len" = some none) (z2 : PySem.W.nsIn K mainGlobals "range" = some none) (z3 : PySem.W.nsIn K mainGlobals "isinstance" = some none) (z4 : PySem.W.nsIn K mainGlobals "int" = some none) (z5 : PySem.W.nsIn K mainGlobals "bool" = some none) (z6 : PySem.W.nsIn K mainGlobals "str" = some none) (z7 : PySem.W.nsIn K mainGlobals "list" = some none) (z8 : PySem.W.nsIn K mainGlobals "max" = some none) (z9 : PySem.W.nsIn K mainGlobals "min" = some none) (z10 : PySem.W.nsIn K mainGlobals "enumerate" = some none) (z11 : PySem.W.nsIn K mainGlobals "any" = some none) (tx1 : ∃ tk, PySem.W.nsIn K mainGlobals "LONGEST" = some (some (.int 8 tk))) :
    ∃ fd : FuncData, (∀ (s : Shared) (v : Value), BindsTo s fd ⟨[v], []⟩ [("script", v)]) ∧ ∀ base : Heap, K.In base → base.Ns mainGlobals mg → Maker mg base c0 P0 → FnOk l.prog w K mg base CX0 8 fa fd ["script"] (spLaw P0 K) := by
  obtain ⟨f, oc, od, an, osl, kV, dc, pm, cd, ct, h1, h2, h3, h4⟩ := dl
  have e := hfa.symm.trans (PySem.W.mg_of X G h1)
  cases e
  have F := fun_mk (st := sLaw) h2 h3 h4
  refine ⟨PySem.W.fnOf "law" "law" (defArgs sLaw) (defBody sLaw) (defScope sLaw) .none kV dc pm an cd ct, fun s v => .of_eq rfl, fun base _ _ M => ?_⟩
  have z_len := PySem.W.mg_none_of X G z1
  have z_range := PySem.W.mg_none_of X G z2
  have z_isinstance := PySem.W.mg_none_of X G z3
  have z_int := PySem.W.mg_none_of X G z4
  have z_bool := PySem.W.mg_none_of X G z5
  have z_str := PySem.W.mg_none_of X G z6
  have z_list := PySem.W.mg_none_of X G z7
  have z_max := PySem.W.mg_none_of X G z8
  have z_min := PySem.W.mg_none_of X G z9
  have z_enumerate := PySem.W.mg_none_of X G z10
  have z_any := PySem.W.mg_none_of X G z11
  have t_LONGEST : ∃ tk, mg "LONGEST" = some (.int 8 tk) := let ⟨tk, h⟩ := tx1; ⟨tk, PySem.W.mg_of X G h⟩
  have x_tf := fnX_2 d1 X G (fun _ _ _ _ _ _ _ _ => rfl)
  have x_ts := fnX_3 d2 X G (fun _ _ _ _ _ _ _ _ _ => rfl)
  have c_tails := ok_tails (P := l.prog) (w := w) (base := base) (FnC.of d3 ht X G (fun kV doc pm an cdv ct us hl => match us, hl with | [_, _, _], _ => rfl)) x_tf z_len z_list (fun base => ok_tailS (P := l.prog) (w := w) (base := base) x_ts z_enumerate z_max z_len) M
  have c_stand := ok_stand (P := l.prog) (w := w) (base := base) (fnX_2 d4 X G (fun _ _ _ _ _ _ _ _ => rfl)) z_len z_range c_tails
  have c_mark := ok_mark (P := l.prog) (w := w) (base := base) (fnX_2 d5 X G (fun _ _ _ _ _ _ _ _ => rfl)) z_len z_isinstance z_str t_LONGEST c_stand
  have c_all := ok_all (P := l.prog) (w := w) (base := base) (fnX_1 d6 X G (fun _ _ _ _ _ _ _ => rfl)) z_range
  have c_marks := ok_marks (P := l.prog) (w := w) (base := base) (fnX_2 d7 X G (fun _ _ _ _ _ _ _ _ => rfl)) t_LONGEST c_stand c_all
  have c_clean := ok_clean (P := l.prog) (w := w) (base := base) (fnX_2 d8 X G (fun _ _ _ _ _ _ _ _ => rfl)) z_len z_any c_mark c_tails
  have c_copy := ok_copy (P := l.prog) (w := w) (base := base) (fnX_1 d9 X G (fun _ _ _ _ _ _ _ => rfl)) z_list
  have c_cell := ok_cell (P := l.prog) (w := w) (base := base) (fnX_2 d10 X G (fun _ _ _ _ _ _ _ _ => rfl)) z_len
  have c_mixed := ok_mixed (P := l.prog) (w := w) (base := base) (fnX_2 d11 X G (fun _ _ _ _ _ _ _ _ => rfl)) 
  have c_known := ok_known (P := l.prog) (w := w) (base := base) (fnX_1 d12 X G (fun _ _ _ _ _ _ _ => rfl)) z_len
  have c_lcode := ok_lcode (P := l.prog) (w := w) (base := base) (fnX_1 d13 X G (fun _ _ _ _ _ _ _ => rfl)) z_range c_cell c_known c_mixed
  have c_sign := ok_sign (P := l.prog) (w := w) (base := base) (fnX_3 d14 X G (fun _ _ _ _ _ _ _ _ _ => rfl)) 
  have c_nexts := ok_nexts (P := l.prog) (w := w) (base := base) (fnX_3 d15 X G (fun _ _ _ _ _ _ _ _ _ => rfl)) z_len z_range
  have c_lclean := ok_lclean (P := l.prog) (w := w) (base := base) (fnX_2 d16 X G (fun _ _ _ _ _ _ _ _ => rfl)) z_len c_sign c_nexts
  exact ok_law F z_range z_len z_int z_max z_min z_isinstance z_bool c_lcode c_copy c_cell c_marks c_lclean c_clean
theorem walk {l : PySem.W.OpenLaw} {q : Program} {loose : List Str} {XP : (Str → Option Value) → Heap → Prop} {YP : World → Heap → Prop} {d : DefRec} {K : Params → PySem.W.Frag} {c0 P0 : Addr} (hn : l.most = some 63) (hdf : d.params.defaults = [])
    (hY : ∀ (w : World) (h : Heap), YP w h → (K w.params).In h) (hnt : ∀ w : World, PySem.W.noTabs (K w.params) = true) (htb : ∀ (w : World) (h : Heap), YP w h → h.get? P0 = some (PySem.W.tabObj #[])) (hcd : ∀ w : World, PySem.W.codeHdIn (K w.params) c0 P0 = true) (ht0 : ∀ w : World, PySem.W.tabIn (K w.params) "tails_behind" = some (c0, P0))
    (F : ∀ (w : World) (mg : Str → Option Value) (fa : Addr) (h : Heap), (K w.params).In h → h.Ns mainGlobals mg → mg d.name = some (.ref fa) →
      ∃ fd : FuncData, (∀ (s : Shared) (u : Value), BindsTo s fd ⟨[u], []⟩ [("script", u)]) ∧ ∀ base : Heap, (K w.params).In base → base.Ns mainGlobals mg → Maker mg base c0 P0 → FnOk l.prog w (K w.params) mg base CX0 8 fa fd ["script"] (spLaw P0 (K w.params))) :
    PySem.W.WalkO q loose XP YP l.row.toRowW d [] (fun f vs => PySem.call f vs) :=
  L2.walk_ofT (n := 63) (k := 8) (x := "script") (CX := fun _ => CX0) (sp := fun w => spLaw P0 (K w.params)) hn (by decide) hdf ⟨rfl, by decide, by decide⟩ hY hnt htb hcd F (fun _ _ a ns hl hT hS => ⟨ns, hS, hl, .inl hT, fun _ => rfl⟩) fun _ _ _ _ _ z => z
end K40
open PySem PySem.W PyProof.Rows
local macro_rules | `(tactic| walk_at "k_def") => `(tactic| ((refine' L2.DefIn.mk ?a ?l ?c ?k); (case a => k_is); (case l => k_is); (case c => k_is); (case k => k_is)))
set_option maxRecDepth 100000 in
set_option maxHeartbeats 0 in
theorem PySem.Challenge.cw_ownbeat_k40_clean_marks_holds : PySem.Challenge.rw_ownbeat_k40_clean_marks.Holds := by
  w_on; o_law; k_head; (case hw => w_witness2)
  k_fill
  refine' K40.walk (l := PySem.Challenge.rw_ownbeat_k40_clean_marks) rfl rfl (fun w h Y => PySem.W.km_in_of Y) ?nt ?tb ?cd ?t0 ?F
  (case t0 => intro w; exact rfl)
  (case nt => intro w; exact rfl)
  (case tb => intro w h Y; exact PySem.W.km_tabs_of Y _ (by decide))
  (case cd => intro w; exact rfl)
  case F =>
    intro w mg fa h KX G hmg
    refine' K40.all_mk KX G hmg ?d1 ?d2 ?d3 ?d4 ?d5 ?d6 ?d7 ?d8 ?d9 ?d10 ?d11 ?d12 ?d13 ?d14 ?d15 ?d16 ?dl (by exact rfl) ?z1 ?z2 ?z3 ?z4 ?z5 ?z6 ?z7 ?z8 ?z9 ?z10 ?z11 ?tx1
    (case d1 => walk_at "k_def")
    (case d2 => walk_at "k_def")
    (case d3 => walk_at "k_def")
    (case d4 => walk_at "k_def")
    (case d5 => walk_at "k_def")
    (case d6 => walk_at "k_def")
    (case d7 => walk_at "k_def")
    (case d8 => walk_at "k_def")
    (case d9 => walk_at "k_def")
    (case d10 => walk_at "k_def")
    (case d11 => walk_at "k_def")
    (case d12 => walk_at "k_def")
    (case d13 => walk_at "k_def")
    (case d14 => walk_at "k_def")
    (case d15 => walk_at "k_def")
    (case d16 => walk_at "k_def")
    (case dl => walk_at "k_def")
    (case z1 => k_is)
    (case z2 => k_is)
    (case z3 => k_is)
    (case z4 => k_is)
    (case z5 => k_is)
    (case z6 => k_is)
    (case z7 => k_is)
    (case z8 => k_is)
    (case z9 => k_is)
    (case z10 => k_is)
    (case z11 => k_is)
    (case tx1 => ((refine' L2.nx_mk ?hx ?ex); (case hx => k_is); (case ex => rfl)))
end
end
