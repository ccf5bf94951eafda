import PyProof.Rows.All
import Wide.All
import OpenK.AllK
import Wide.FinOn
import PyProof.EqAt
import PyProof.EqKinds
import PyProof.TupleCall
import Lean
import PyProof.CompFree
import PyProof.IsInstanceH
import PyProof.IsiPairs
import PyProof.ConsumeWalk
import PyProof.IsiNone
import KE.KIntText
import PyProof.Rows.EqDataRows
import PyProof.RangeIter
import PyProof.ZipIter
import PyProof.EnumMake
import PyProof.WalksEnum
import PyProof.Rows.ZipGen
import PyProof.Rows.SortWalk
import KE.KEqDict
import KE.KDictLaws
import PyProof.Rows.SumAny
import PyProof.Rows.FStr
import PyProof.ListRange
import PyProof.DictWalks
import PyProof.DictCopy
import KE.KDictOf
import PyProof.StrLawsIdx
import KE.KTryMore
import PyProof.ExcClass2
import PyProof.ExcBaseAll.ValueError
import PyProof.RulesAs
import PyProof.NsDelKeeps
import OpenK.KRaise
import PyProof.ExcArgs
import PyProof.Rows.StrRev
import PyProof.ListStr
import KE.KRevSl
import KE.KLam
import PyProof.Rows.SetFrom
import PyProof.SetRoads
import PySem.Challenge.RW_ownbeat_k03_bits_and_letters
set_option compiler.extract_closed false
-- CHANGE: your row's module here, as the last of these rows
set_option Elab.async false
set_option linter.all false
set_option maxRecDepth 100000
namespace L2
open PySem PySem.Spec PyProof.Rows

abbrev Key := Sum Int Str
def keyIs : Key → Value → Bool
  | .inl k, v => Value.isInt k v
  | .inr x, v => Value.isStrOf x v
def keyH (w : World) : Key → Int
  | .inl k => hashInt k
  | .inr x => hashStr w x
theorem keyIs_shape : ∀ {k : Key} {v : Value}, keyIs k v = true → (∃ i t, k = Sum.inl i ∧ v = Value.int i t) ∨ (∃ x t, k = Sum.inr x ∧ v = Value.str x t)
  | .inl i, v, h => by
    obtain ⟨t, e⟩ := Value.isInt_shape (k := i) (v := v) h
    exact .inl ⟨i, t, rfl, e⟩
  | .inr x, v, h => by
    obtain ⟨t, e⟩ := Value.isStrOf_shape (x := x) (v := v) h
    exact .inr ⟨x, t, rfl, e⟩
theorem keyIs_int (i : Int) (t : Tok) : keyIs (.inl i) (.int i t) = true := by simp [keyIs, Value.isInt]
theorem keyIs_str (x : Str) (t : Tok) : keyIs (.inr x) (.str x t) = true := by simp [keyIs, Value.isStrOf]
theorem key_ll (a b : Int) : decide ((Sum.inl a : Key) = Sum.inl b) = (a == b) := by
  by_cases e : a = b
  · subst e; simp
  · have h : ¬ (Sum.inl a : Key) = Sum.inl b := fun q => e (Sum.inl.inj q)
    rw [decide_eq_false h]
    exact (beq_eq_false_iff_ne.mpr e).symm
theorem key_rr (a b : Str) : decide ((Sum.inr a : Key) = Sum.inr b) = decide (a = b) := by
  by_cases e : a = b
  · subst e; simp
  · have h : ¬ (Sum.inr a : Key) = Sum.inr b := fun q => e (Sum.inr.inj q)
    rw [decide_eq_false h, decide_eq_false e]
theorem key_lr (a : Int) (b : Str) : decide ((Sum.inl a : Key) = Sum.inr b) = false := decide_eq_false (fun q => nomatch q)
theorem key_rl (a : Str) (b : Int) : decide ((Sum.inr a : Key) = Sum.inl b) = false := decide_eq_false (fun q => nomatch q)

def mixKind (prog : Program) (w : World) : PySem.KeyKind prog w Key where
  is := keyIs
  hash := keyH w
  inj := fun v a b ha hb => by
    rcases keyIs_shape ha with ⟨i, t, rfl, rfl⟩ | ⟨x, t, rfl, rfl⟩
    · rcases keyIs_shape hb with ⟨j, u, rfl, e⟩ | ⟨y, u, rfl, e⟩
      · injection e with e1 _; rw [e1]
      · exact nomatch e
    · rcases keyIs_shape hb with ⟨j, u, rfl, e⟩ | ⟨y, u, rfl, e⟩
      · exact nomatch e
      · injection e with e1 _; rw [e1]
  byValue := fun k v h => by
    rcases keyIs_shape h with ⟨i, t, rfl, rfl⟩ | ⟨x, t, rfl, rfl⟩ <;> rfl
  pyHash := fun hv h => by
    rcases keyIs_shape hv with ⟨i, t, rfl, rfl⟩ | ⟨x, t, rfl, rfl⟩
    · exact wpAny_pyHash_int h
    · exact wpAny_pyHash_str h
  eqBool := fun hu hv h => by
    rcases keyIs_shape hu with ⟨i, t, rfl, rfl⟩ | ⟨x, t, rfl, rfl⟩
    · rcases keyIs_shape hv with ⟨j, u, rfl, rfl⟩ | ⟨y, u, rfl, rfl⟩
      · rw [key_ll] at h; exact wpAny_eqBool_int h
      · rw [key_lr] at h; exact SeqAt.EqAt.int_str i t y u _ _ _ _ h
    · rcases keyIs_shape hv with ⟨j, u, rfl, rfl⟩ | ⟨y, u, rfl, rfl⟩
      · rw [key_rl] at h; exact SeqAt.EqAt.str_int x t j u _ _ _ _ h
      · rw [key_rr] at h; exact wpAny_eqBool_str h
  «strs» := fun k x t v h => by
    rcases keyIs_shape h with ⟨i, u, rfl, e⟩ | ⟨y, u, rfl, e⟩
    · exact nomatch e
    · injection e with e1 _
      subst e1
      cases v <;> rfl

theorem mixKind_int (prog : Program) (w : World) (i : Int) (t : Tok) : (mixKind prog w).is (.inl i) (.int i t) = true := keyIs_int i t
theorem mixKind_str (prog : Program) (w : World) (x : Str) (t : Tok) : (mixKind prog w).is (.inr x) (.str x t) = true := keyIs_str x t
end L2

namespace L2
open PySem PySem.Spec PyProof.Rows

inductive V where
  | non | bl (b : Bool) | int (i : Int) | str (x : Str) | byt (b : Array UInt8) | flt (b : UInt64) | ref (a : Addr) | ty (n : String)
  deriving DecidableEq

def RelV : V → Value → Prop
  | .non, u => u = Value.none
  | .bl b, u => u = Value.bool b
  | .int i, u => ∃ t, u = Value.int i t
  | .str x, u => ∃ t, u = Value.str x t
  | .byt b, u => ∃ t, u = Value.bytes b t
  | .flt b, u => ∃ t, u = Value.float b t
  | .ref a, u => u = Value.ref a
  | .ty n, u => u = Value.type n

abbrev Vals : List V → List Value → Prop := Paired RelV
theorem Vals.length {xs : List V} {us : List Value} (r : Vals xs us) : xs.length = us.length := Paired.length r
theorem Vals.get : ∀ {xs : List V} {us : List Value} {i : Nat} {x : V}, Vals xs us → xs[i]? = some x → ∃ u, us[i]? = some u ∧ RelV x u
  | _, _, _, _, .nil, e => by simp at e
  | _, _, 0, _, .cons r _, e => by simp at e; subst e; exact ⟨_, rfl, r⟩
  | _, _, i + 1, x, .cons _ t, e => by
    obtain ⟨u, h1, h2⟩ := Vals.get (i := i) (x := x) t (by simpa using e)
    exact ⟨u, by simpa using h1, h2⟩
theorem Vals.set {x : V} {u : Value} (r : RelV x u) : ∀ {xs : List V} {us : List Value} (i : Nat), Vals xs us → Vals (xs.set i x) (us.set i u)
  | _, _, _, .nil => .nil
  | _, _, 0, .cons _ t => .cons r t
  | _, _, i + 1, .cons q t => .cons q (Vals.set r i t)
theorem Vals.append : ∀ {xs ys : List V} {us ws : List Value}, Vals xs us → Vals ys ws → Vals (xs ++ ys) (us ++ ws)
  | _, _, _, _, .nil, s => s
  | _, _, _, _, .cons r t, s => .cons r (Vals.append t s)
theorem Vals.take : ∀ {xs : List V} {us : List Value} (n : Nat), Vals xs us → Vals (xs.take n) (us.take n)
  | _, _, 0, _ => .nil
  | _, _, _ + 1, .nil => .nil
  | _, _, n + 1, .cons r t => .cons r (Vals.take n t)
theorem Vals.drop : ∀ {xs : List V} {us : List Value} (n : Nat), Vals xs us → Vals (xs.drop n) (us.drop n)
  | _, _, 0, r => r
  | _, _, _ + 1, .nil => .nil
  | _, _, n + 1, .cons _ t => Vals.drop n t
def RelO : Option V → Option Value → Prop
  | some v, some u => RelV v u
  | none, none => True
  | _, _ => False
def KV {κ : Type} : List (κ × V) → List (κ × Value) → Prop := Paired fun (p : κ × V) (q : κ × Value) => p.1 = q.1 ∧ RelV p.2 q.2

def kV : Key → V
  | .inl i => .int i
  | .inr x => .str x

inductive HO where
    | lst (xs : List V)
    | tup (xs : List V)
    | dK (kvs : List (Key × V)) | dT (kvs : List (List Key × V))
    | set (S : Int → Bool) (n : Nat)
    | ins (C dx : Addr) (fs : List (Str × V))
    | own (x : Addr)
    | xd (fs : List (Str × V))
    | met (f x : Addr)
    | rng (lo hi : Int)
    | frz (o : Obj) (u : HO)
    | tbl (ps : Array Value)
    | ext (φ : Heap → Prop)

abbrev Hp := Addr → Option HO
def upd (H : Hp) (a : Addr) (o : HO) : Hp := fun b => if b = a then some o else H b
theorem upd_same {H : Hp} {a : Addr} {o : HO} : upd H a o a = some o := by unfold upd; rw [if_pos rfl]
theorem upd_ne {H : Hp} {a b : Addr} {o : HO} (h : b ≠ a) : upd H a o b = H b := by unfold upd; rw [if_neg h]
theorem upd_upd {H : Hp} {a : Addr} {o u : HO} : upd (upd H a o) a u = upd H a u := by
  funext b; unfold upd; split <;> rfl
theorem ne_of {H : Hp} {a b : Addr} {o u : HO} (h : H a = some o) (h' : H b = some u) (d : o ≠ u) : a ≠ b := by
  intro e; subst e; rw [h] at h'; exact d (Option.some.inj h')
theorem ne_of_none {H : Hp} {a b : Addr} {o : HO} (h : H a = some o) (h' : H b = none) : a ≠ b := by
  intro e; subst e; rw [h] at h'; cases h'

section
variable (P : Program) (w : World)
def ObjOk (H : Hp) (h : Heap) (a : Addr) : HO → Prop
  | .lst xs => xs.length ≤ sizeLine ∧ ∃ (its : List Value) (n : Nat), Vals xs its ∧ h.get? a = some { cls := .type "list", data := .seq its.toArray n }
  | .tup xs => xs.length ≤ sizeLine ∧ ∃ its : List Value, Vals xs its ∧ IsTup h a its.toArray
  | .dK kvs => kvs.length ≤ sizeLine ∧ (a == sysModules) = false ∧ ∃ vs, KV kvs vs ∧ h.DictOf (mixKind P w) a vs
  | .dT kvs => kvs.length ≤ sizeLine ∧ (a == sysModules) = false ∧ ∃ xs : List (List Key × Addr × Value),
      Paired (fun (p : List Key × V) (q : List Key × Addr × Value) => p.1 = q.1 ∧ H q.2.1 = some (.tup (p.1.map kV)) ∧ RelV p.2 q.2.2) kvs xs ∧
      ∃ o es ep, h.get? a = some o ∧ o.ExactDict ∧ o.data = .dict es ep ∧ es.toList = xs.map (entryOfKey (tupleKind (mixKind P w))) ∧ (xs.map (·.1)).Nodup
  | .set S n => h.SetOf (intKind P w) a S n
  | .ins C dx fs => H dx = some (.own a) ∧ fs.length ≤ 1000 ∧ dx ≠ a ∧ h.get? a = some (PySem.W.instObj C dx) ∧
      ∃ mA, h.Ns1 dx mA ∧ (∀ f, RelO (fs.lookup f) (mA f)) ∧ PySem.Within mA (fs.map (·.1))
  | .own _ => ∃ o, h.get? a = some o
  | .xd fs => ∃ mA, h.Ns1 a mA ∧ ∀ f, RelO (fs.lookup f) (mA f)
  | .rng lo hi => ∃ t u v, h.get? a = some { cls := .type "range", data := .fields #[.int lo t, .int hi u, .int 1 v] }
  | .frz o u => h.get? a = some o ∧ ObjOk H h a u
  | .tbl ps => h.get? a = some { cls := .none, data := .fields ps }
  | .met f x => h.get? a = some (PySem.W.methodObj (.ref f) (.ref x))
  | .ext φ => φ h ∧ (∃ o, h.get? a = some o) ∧ ∀ h1 h2 : Heap, φ h1 → (∀ o, h1.get? a = some o → h2.get? a = some o) → φ h2
def HOk (H : Hp) (h : Heap) : Prop := ∀ a o, H a = some o → ObjOk P w H h a o
end

section
variable {P : Program} {w : World} {H H' : Hp} {h h' : Heap} {a : Addr} {o : HO}
theorem ObjOk.lt (x : ObjOk P w H h a o) : a < h.objs.size := by
  cases o with
  | lst xs => obtain ⟨_, _, _, _, e⟩ := x; exact Heap.lt_size e
  | tup xs => obtain ⟨_, _, _, p⟩ := x; exact p.lt
  | dK kvs => obtain ⟨_, _, _, _, o, _, _, e, _⟩ := x; exact Heap.lt_size e
  | dT kvs => obtain ⟨_, _, _, _, o, _, _, e, _⟩ := x; exact Heap.lt_size e
  | set S n => obtain ⟨o, _, _, _, e, _⟩ := x; exact Heap.lt_size e
  | ins C dx fs => obtain ⟨_, _, _, e, _⟩ := x; exact Heap.lt_size e
  | own y => obtain ⟨_, e⟩ := x; exact Heap.lt_size e
  | xd fs => obtain ⟨_, ⟨_, _, _, e, _⟩, _⟩ := x; exact Heap.lt_size e
  | rng lo hi => obtain ⟨_, _, _, e⟩ := x; exact Heap.lt_size e
  | frz ob u => obtain ⟨e, _⟩ := x; exact Heap.lt_size e
  | tbl ps => exact Heap.lt_size (show h.get? a = some _ from x)
  | met f y => exact Heap.lt_size (show h.get? a = some _ from x)
  | ext φ => obtain ⟨_, ⟨_, e⟩, _⟩ := x; exact Heap.lt_size e
theorem Paired.mapP {α β : Type} {F G : α → β → Prop} : ∀ {l₁ : List α} {l₂ : List β}, Paired F l₁ l₂ → (∀ a b, F a b → G a b) → Paired G l₁ l₂
  | _, _, .nil, _ => .nil
  | _, _, .cons r t, f => .cons (f _ _ r) (Paired.mapP t f)
theorem ObjOk.stay (x : ObjOk P w H h a o) (k : ∀ b u, (b = a ∨ H b = some (.own a)) → h.get? b = some u → h'.get? b = some u)
    (ho : ∀ b, H b = some (.own a) → H' b = some (.own a)) (ht : ∀ b xs, H b = some (.tup xs) → H' b = some (.tup xs)) : ObjOk P w H' h' a o := by
  induction o with
  | lst xs => obtain ⟨z, its, n, r, e⟩ := x; exact ⟨z, its, n, r, k _ _ (.inl rfl) e⟩
  | tup xs => obtain ⟨z, its, r, ob, e, c⟩ := x; exact ⟨z, its, r, ob, k _ _ (.inl rfl) e, c⟩
  | dK kvs => obtain ⟨z, y, vs, r, ob, es, ep, e, c⟩ := x; exact ⟨z, y, vs, r, ob, es, ep, k _ _ (.inl rfl) e, c⟩
  | dT kvs =>
    obtain ⟨z, y, xs, r, ob, es, ep, e, c⟩ := x
    exact ⟨z, y, xs, Paired.mapP r fun p q z => ⟨z.1, ht _ _ z.2.1, z.2.2⟩, ob, es, ep, k _ _ (.inl rfl) e, c⟩
  | set S n => obtain ⟨ob, es, ep, t, e, c⟩ := x; exact ⟨ob, es, ep, t, k _ _ (.inl rfl) e, c⟩
  | ins C dx fs =>
    obtain ⟨d, z, ne, e, mA, ⟨od, es, ep, e2, c⟩, r⟩ := x
    exact ⟨ho _ d, z, ne, k _ _ (.inl rfl) e, mA, ⟨od, es, ep, k _ _ (.inr d) e2, c⟩, r⟩
  | own y => obtain ⟨ob, e⟩ := x; exact ⟨ob, k _ _ (.inl rfl) e⟩
  | xd fs => obtain ⟨mA, ⟨od, es, ep, e, c⟩, r⟩ := x; exact ⟨mA, ⟨od, es, ep, k _ _ (.inl rfl) e, c⟩, r⟩
  | rng lo hi => obtain ⟨t, u, v, e⟩ := x; exact ⟨t, u, v, k _ _ (.inl rfl) e⟩
  | frz ob u ih => obtain ⟨e, q⟩ := x; exact ⟨k _ _ (.inl rfl) e, ih q⟩
  | tbl ps =>
    have e : h.get? a = some { cls := .none, data := .fields ps } := x
    show h'.get? a = some { cls := .none, data := .fields ps }
    exact k a _ (.inl rfl) e
  | met f y =>
    have e : h.get? a = some (PySem.W.methodObj (.ref f) (.ref y)) := x
    show h'.get? a = some (PySem.W.methodObj (.ref f) (.ref y))
    exact k a _ (.inl rfl) e
  | ext φ => obtain ⟨p, ⟨o, e⟩, st⟩ := x; exact ⟨st _ _ p fun o q => k _ _ (.inl rfl) q, ⟨o, k _ _ (.inl rfl) e⟩, st⟩
theorem HOk.lt (x : HOk P w H h) (e : H a = some o) : a < h.objs.size := (x a o e).lt
theorem HOk.fresh (x : HOk P w H h) (e : h.objs.size ≤ a) : H a = none := by
  cases q : H a with
  | none => rfl
  | some u => exact absurd (Nat.lt_of_lt_of_le (x.lt q) e) (Nat.lt_irrefl _)
theorem HOk.kept (x : HOk P w H h) (k : ∀ b u, h.get? b = some u → h'.get? b = some u) : HOk P w H h' := fun a o e =>
  (x a o e).stay (fun b u _ q => k b u q) (fun _ q => q) fun _ _ q => q
theorem HOk.laid (x : HOk P w H h) (k : ∀ b u, h.get? b = some u → h'.get? b = some u) (hp : h.objs.size ≤ a) (new : ObjOk P w (upd H a o) h' a o) : HOk P w (upd H a o) h' := fun b u e => by
  have hn := x.fresh hp
  by_cases hb : b = a
  · subst hb; rw [upd_same] at e; cases e; exact new
  · rw [upd_ne hb] at e
    exact (x b u e).stay (fun c v _ q => k c v q) (fun c q => by rw [upd_ne (ne_of_none q hn)]; exact q) fun c xs q => by rw [upd_ne (ne_of_none q hn)]; exact q
end

def Rd (H : Hp) (a : Addr) (u : HO) : Prop := H a = some u ∨ ∃ o, H a = some (.frz o u)
theorem Rd.of {H : Hp} {a : Addr} {u : HO} (h : H a = some u) : Rd H a u := .inl h
theorem Rd.ok {P : Program} {w : World} {H : Hp} {h : Heap} {a : Addr} {u : HO} (r : Rd H a u) (x : HOk P w H h) : ObjOk P w H h a u := by
  rcases r with r | ⟨o, r⟩
  · exact x a u r
  · obtain ⟨_, q⟩ := x a _ r
    exact q
def Mut : Option HO → Prop
  | some (.lst _) => True
  | some (.dK _) => True
  | some (.dT _) => True
  | some (.set _ _) => True
  | some (.ins _ _ _) => True
  | some (.ext _) => True
  | _ => False
section
variable {P : Program} {w : World} {H : Hp} {h h' : Heap} {x e : Addr} {o' : HO}
theorem HOk.write (ok : HOk P w H h) (mu : Mut (H x)) (he : e = x ∨ H e = some (.own x)) (k : ∀ b u, b ≠ e → h.get? b = some u → h'.get? b = some u) (heo : ∃ u, h'.get? e = some u)
    (new : ObjOk P w (upd H x o') h' x o') : HOk P w (upd H x o') h' := fun b u q => by
  have nown : ∀ c y, H c = some (.own y) → c ≠ x := fun c y r z => by subst z; rw [r] at mu; exact mu
  have ntup : ∀ c xs, H c = some (.tup xs) → c ≠ x := fun c xs r z => by subst z; rw [r] at mu; exact mu
  by_cases hb : b = x
  · subst hb; rw [upd_same] at q; cases q; exact new
  · rw [upd_ne hb] at q
    by_cases hbe : b = e
    · have q' : H b = some (.own x) := by
        rcases he with z | z
        · exact absurd (hbe.trans z) hb
        · rw [hbe]; exact z
      rw [q] at q'; cases q'
      obtain ⟨v, hv⟩ := heo
      exact ⟨v, by rw [hbe]; exact hv⟩
    · refine (ok b u q).stay (fun c v hc r => k c v ?_ r) (fun c r => by rw [upd_ne (nown c b r)]; exact r) fun c xs r => by rw [upd_ne (ntup c xs r)]; exact r
      rcases hc with rfl | hc
      · exact hbe
      · rintro rfl
        rcases he with z | z
        · exact nown c b hc z
        · rw [hc] at z; cases z; exact hb rfl
end

structure Un (fs ex : List Addr) (H H' : Hp) (h h' : Heap) : Prop where
  keep : ∀ b o, h.get? b = some o → H b = none → b ∉ fs → b ∉ ex → h'.get? b = some o
  slot : ∀ b o, h.get? b = some o → H b = none → b ∈ fs → b ∉ ex → ∃ sl, h'.get? b = some { o with slots := sl }
  free : ∀ b o, h.get? b = some o → H b = none → b ∉ ex → H' b = none
  there : ∀ b o, h.get? b = some o → b ∉ ex → ∃ o', h'.get? b = some o'
  tups : ∀ b xs, H b = some (.tup xs) → H' b = some (.tup xs)
  frzs : ∀ b o u, H b = some (.frz o u) → H' b = some (.frz o u)
  tbls : ∀ b ps, H b = some (.tbl ps) → ∃ more, H' b = some (.tbl (ps ++ more))
section
variable {fs fs' ex ex' : List Addr} {H H1 H2 : Hp} {h h1 h2 h' : Heap} {a x e : Addr} {o : HO}
theorem Un.any (u : Un fs ex H H1 h h1) {b : Addr} {ob : Obj} (q : h.get? b = some ob) (n : H b = none) (hx : b ∉ ex) : ∃ sl, h1.get? b = some { ob with slots := sl } := by
  by_cases hb : b ∈ fs
  · exact u.slot b ob q n hb hx
  · exact ⟨ob.slots, u.keep b ob q n hb hx⟩
theorem Un.trans (a : Un fs ex H H1 h h1) (b : Un fs ex H1 H2 h1 h2) : Un fs ex H H2 h h2 where
  keep := fun c ob q n hc hx => b.keep c ob (a.keep c ob q n hc hx) (a.free c ob q n hx) hc hx
  slot := fun c ob q n hc hx => by
    obtain ⟨sl, e1⟩ := a.slot c ob q n hc hx
    obtain ⟨sl', e2⟩ := b.slot c _ e1 (a.free c ob q n hx) hc hx
    exact ⟨sl', e2⟩
  free := fun c ob q n hx => by
    obtain ⟨o', e1⟩ := a.there c ob q hx
    exact b.free c o' e1 (a.free c ob q n hx) hx
  there := fun c ob q hx => by
    obtain ⟨o', e1⟩ := a.there c ob q hx
    exact b.there c o' e1 hx
  tups := fun c xs q => b.tups c xs (a.tups c xs q)
  frzs := fun c ob xs q => b.frzs c ob xs (a.frzs c ob xs q)
  tbls := fun c ps q => by
    obtain ⟨m1, e1⟩ := a.tbls c ps q
    obtain ⟨m2, e2⟩ := b.tbls c _ e1
    exact ⟨m1 ++ m2, by rw [e2, Array.append_assoc]⟩
theorem Un.kept (k : ∀ b u, h.get? b = some u → h'.get? b = some u) : Un fs ex H H h h' :=
  ⟨fun b ob q _ _ _ => k b ob q, fun b ob q _ _ _ => ⟨ob.slots, k b ob q⟩, fun _ _ _ n _ => n, fun b ob q _ => ⟨ob, k b ob q⟩, fun _ _ q => q, fun _ _ _ q => q, fun _ ps q => ⟨#[], by rw [q]; simp⟩⟩
theorem Un.refl : Un fs ex H H h h := Un.kept fun _ _ q => q
theorem Un.laid (k : ∀ b u, h.get? b = some u → h'.get? b = some u) (hp : h.objs.size ≤ a) (hn : H a = none) : Un fs ex H (upd H a o) h h' where
  keep := fun b u q _ _ _ => k b u q
  slot := fun b u q _ _ _ => ⟨u.slots, k b u q⟩
  free := fun b u q n _ => by rw [upd_ne (Nat.ne_of_lt (Nat.lt_of_lt_of_le (Heap.lt_size q) hp))]; exact n
  there := fun b u q _ => ⟨u, k b u q⟩
  tups := fun b xs q => by rw [upd_ne (ne_of_none q hn)]; exact q
  frzs := fun b u xs q => by rw [upd_ne (ne_of_none q hn)]; exact q
  tbls := fun b ps q => ⟨#[], by rw [upd_ne (ne_of_none q hn), q]; simp⟩
theorem Un.write (mu : Mut (H x)) (he : e = x ∨ H e = some (.own x)) (k : ∀ b u, b ≠ e → h.get? b = some u → h'.get? b = some u) (heo : ∃ u, h'.get? e = some u) : Un fs ex H (upd H x o) h h' := by
  have hx : ∀ b, H b = none → b ≠ x := fun b n z => by subst z; rw [n] at mu; exact mu
  have hb : ∀ b, H b = none → b ≠ e := fun b n z => by
    subst z
    rcases he with r | r
    · exact hx b n r
    · rw [n] at r; cases r
  have hm : ∀ b u, H b = some u → ¬ Mut (some u) → b ≠ x := fun b u q nm z => by subst z; rw [q] at mu; exact nm mu
  refine ⟨fun b u q n _ _ => k b u (hb b n) q, fun b u q n _ _ => ⟨u.slots, k b u (hb b n) q⟩, fun b u q n _ => by rw [upd_ne (hx b n)]; exact n, fun b u q _ => ?_,
    fun b xs q => by rw [upd_ne (hm b _ q fun z => z)]; exact q, fun b u xs q => by rw [upd_ne (hm b _ q fun z => z)]; exact q, fun b ps q => ⟨#[], by rw [upd_ne (hm b _ q fun z => z), q]; simp⟩⟩
  by_cases hbe : b = e
  · subst hbe; exact heo
  · exact ⟨u, k b u hbe q⟩
theorem Un.mono (u : Un fs ex H H1 h h1) (hs : ∀ b ∈ fs, b ∈ fs') (hx : ∀ b ∈ ex, b ∈ ex') : Un fs' ex' H H1 h h1 :=
  ⟨fun b ob q n hb he => u.keep b ob q n (fun z => hb (hs b z)) fun z => he (hx b z), fun _ _ q n _ he => u.any q n fun z => he (hx _ z), fun b ob q n he => u.free b ob q n fun z => he (hx b z), fun b ob q he => u.there b ob q fun z => he (hx b z), u.tups, u.frzs, u.tbls⟩
end

def trk (h : Heap) (H : Hp) : List Addr := (List.range h.objs.size).filter fun a => (H a).isSome
def hidT (h : Heap) (H : Hp) : Heap := PySem.W.hideAll h (trk h H)
theorem hidT_size (h : Heap) (H : Hp) : (hidT h H).objs.size = h.objs.size := PySem.W.hideAll_size _ _
theorem hidT_get {h : Heap} {H : Hp} {b : Addr} {o : Obj} (e : h.get? b = some o) (n : H b = none) : (hidT h H).get? b = some o :=
  PySem.W.hideAll_get _ e fun hm => by
    have q : (H b).isSome = true := (List.mem_filter.mp hm).2
    rw [n] at q; simp at q
theorem of_hidT {h : Heap} {H : Hp} {b : Addr} {o : Obj} (e : (hidT h H).get? b = some o) : h.get? b = some o ∧ H b = none := by
  have e' : h.get? b = some o := PySem.W.of_hideAll (trk h H) e
  refine ⟨e', ?_⟩
  cases q : H b with
  | none => rfl
  | some x =>
    have hm : b ∈ trk h H := List.mem_filter.mpr ⟨List.mem_range.mpr (Heap.lt_size e'), by simp [q]⟩
    have z : (hidT h H).get? b = none := PySem.W.hideAll_none (trk h H) hm
    rw [z] at e; cases e

def allNews (g h : Heap) (L : Addr) : List (Addr × Obj) := (List.range h.objs.size).filterMap fun a => if a = L ∨ (g.get? a).isSome = true then none else (h.get? a).map fun o => (a, o)
def rest (g h : Heap) (L d : Addr) : List (Addr × Obj) := (allNews g h L).filter fun p => decide (p.1 ≠ d)
end L2

namespace L2
open PySem PySem.Spec PyProof.Rows

structure Mod (K : PySem.W.Frag) (mg : Str → Option Value) (base : Heap) : Prop where
  kin : K.In base
  glob : base.Ns mainGlobals mg
  blt : ∃ mb, base.Ns builtinsNs mb ∧ ∀ x : Str, x ≠ "__name__" → mb x = bootBuiltins x
  nolimit : base.NoLimit

structure Cx where
  prog : Program
  w : World
  K : PySem.W.Frag
  mg : Str → Option Value
  base : Heap
  A : Around
  N : List Str
  s₀ : Shared
  H₀ : Hp
  env : Env
  outer : List Env
  stack : List Env
  ex : List Addr
  fn : Str → Bool
  calm : Bool
  pn : List (Addr × Obj)
  xe : Value → Shared → Prop
def frs (l : List Env) : List Addr := l.filterMap (·.frame)
abbrev Cx.fs (X : Cx) : List Addr := frs X.outer

def Vis (sc : Scope) (x : Str) : Prop := sc.names.lookup x = some .local ∨ sc.names.lookup x = some .cell ∨ sc.names.lookup x = some .free
def Loc (sc : Scope) (x : Str) : Prop := sc.names.lookup x = some .local ∨ sc.names.lookup x = some .cell
def Look (env : Env) (h : Heap) (m : Str → Option Value) (x : Str) (u : Value) : Prop :=
  (env.kindOf x = some .local ∧ m x = some u) ∨ ((env.kindOf x = some .cell ∨ env.kindOf x = some .free) ∧ ∃ c, env.cells.lookup x = some c ∧ h.IsCell c (some u))

structure Cx.Ok (X : Cx) : Prop where
  mod : Mod X.K X.mg X.base
  kind : X.env.scope.kind = .function
  glob : X.env.globals = mainGlobals
  blt : X.env.builtins = builtinsNs
  above : X.s₀.heap.objs.size ≤ X.env.locals
  inj : ∀ x y c, X.env.cells.lookup x = some c → X.env.cells.lookup y = some c → x = y
  has : ∀ x, (X.env.kindOf x = some .cell ∨ X.env.kindOf x = some .free) → ∃ c, X.env.cells.lookup x = some c
  cab : ∀ x c, X.fn x = true → X.env.cells.lookup x = some c → X.s₀.heap.objs.size ≤ c
  hd : X.calm = true → X.A.handled = none
  frames : X.A.frames = some X.stack
  stk : X.stack = X.outer ∨ (X.stack = X.env :: X.outer ∧ X.env.frame = some X.env.locals)
  exf : ∀ b ∈ X.ex, b ≠ X.env.locals ∧ ∀ x c, X.env.cells.lookup x = some c → c ≠ b
  bs : ∀ b o, X.base.get? b = some o → X.s₀.heap.get? b = some o ∧ X.H₀ b = none
  bsz : X.base.objs.size ≤ X.s₀.heap.objs.size
  noex : ∀ b o, X.base.get? b = some o → b ∉ X.ex
  exfs : ∀ b ∈ X.ex, b ∉ X.fs
  funs : X.s₀.heap.FunFrames X.base X.outer
  frf : ∀ b ∈ X.fs, X.H₀ b = none

structure Inv (X : Cx) (pins : List (Addr × Obj)) (σ : List (Option V)) (H : Hp) (s : Shared) : Prop where
  ok : X.Ok
  os : s.os = X.s₀.os
  bare : AllBare s.gens
  base : Un X.fs X.ex X.H₀ H X.s₀.heap s.heap
  loc : ∃ m, s.heap.Ns X.env.locals m ∧ ∀ (i : Nat) (x : Str) (v : V), X.N[i]? = some x → σ[i]? = some (some v) → Vis X.env.scope x → ∃ u, RelV v u ∧ Look X.env s.heap m x u
  cell : ∀ x c, X.env.cells.lookup x = some c → ∃ v, s.heap.IsCell c v
  free : H X.env.locals = none
  freeC : ∀ x c, X.env.cells.lookup x = some c → H c = none
  pin : ∀ p ∈ X.pn ++ pins, s.heap.get? p.1 = some p.2 ∧ H p.1 = none ∧ p.1 ≠ X.env.locals ∧ p.1 ∉ X.fs ∧ ∀ v, p.2.data ≠ .cell v
  hok : HOk X.prog X.w H s.heap
  len : σ.length = X.N.length

section
variable {X : Cx} {pins : List (Addr × Obj)} {σ : List (Option V)} {H H' : Hp} {s : Shared} {h' : Heap}

theorem Cx.Ok.nofr (ok : X.Ok) {b : Addr} {o : Obj} (e : X.base.get? b = some o) : b ∉ X.fs := fun hb => by
  have := (ok.funs.mem hb).1
  rw [e] at this; cases this
theorem Inv.bs (I : Inv X pins σ H s) : ∀ b o, X.base.get? b = some o → s.heap.get? b = some o ∧ H b = none := fun b o e =>
  ⟨I.base.keep b o (I.ok.bs b o e).1 (I.ok.bs b o e).2 (I.ok.nofr e) (I.ok.noex b o e), I.base.free b o (I.ok.bs b o e).1 (I.ok.bs b o e).2 (I.ok.noex b o e)⟩
theorem Inv.bk (I : Inv X pins σ H s) : ∀ b o, X.base.get? b = some o → s.heap.get? b = some o := fun b o e => (I.bs b o e).1
theorem Inv.mod (I : Inv X pins σ H s) : Mod X.K X.mg X.base := I.ok.mod
theorem Inv.kIn (I : Inv X pins σ H s) : X.K.In s.heap := I.ok.mod.kin.keeps I.bk
theorem Inv.nolimit (I : Inv X pins σ H s) : s.heap.NoLimit := I.ok.mod.nolimit.keeps I.bk
theorem Inv.fr (I : Inv X pins σ H s) : ∃ m, Fr X.base X.env.locals s.heap m :=
  let ⟨m, hn, _⟩ := I.loc
  ⟨m, hn, I.bk, Nat.le_trans I.ok.bsz I.ok.above⟩
theorem Inv.lt (I : Inv X pins σ H s) : X.env.locals < s.heap.objs.size := let ⟨_, hn, _⟩ := I.loc; hn.lt
theorem Inv.sz (I : Inv X pins σ H s) : X.s₀.heap.objs.size ≤ s.heap.objs.size := Nat.le_trans I.ok.above (Nat.le_of_lt I.lt)
theorem Inv.nofs (I : Inv X pins σ H s) {a : Addr} (h : s.heap.objs.size ≤ a) : a ∉ X.fs := fun hb => by
  obtain ⟨_, o, ho, _⟩ := I.ok.funs.mem hb
  exact absurd (Nat.lt_of_lt_of_le (Heap.lt_size ho) (Nat.le_trans I.sz h)) (Nat.lt_irrefl _)
theorem Inv.cne (I : Inv X pins σ H s) : ∀ x c, X.env.cells.lookup x = some c → c ≠ X.env.locals := fun x c e z => by
  obtain ⟨v, o, ho, hd⟩ := I.cell x c e
  obtain ⟨m, ⟨o', es, ep, ho', hd', _⟩, _⟩ := I.loc
  rw [z, ho'] at ho; cases ho; rw [hd'] at hd; cases hd
theorem Inv.funs (I : Inv X pins σ H s) : s.heap.FunFrames X.base X.outer := by
  have all : ∀ (l : List Env), (∀ b ∈ frs l, b ∈ X.fs) → X.s₀.heap.FunFrames X.base l → s.heap.FunFrames X.base l := by
    intro l
    induction l with
    | nil => intro _ _; trivial
    | cons env r ih =>
      intro hs hl
      obtain ⟨hk, ⟨L, o, hf, hn, ho, hd⟩, hr⟩ := hl
      have hL : L ∈ X.fs := hs L (by unfold frs; rw [List.filterMap_cons, hf]; exact List.mem_cons_self)
      obtain ⟨sl, e⟩ := I.base.slot L o ho (I.ok.frf L hL) hL fun z => I.ok.exfs L z hL
      exact ⟨hk, ⟨L, _, hf, hn, e, hd⟩, ih (fun b hb => hs b (by unfold frs; rw [List.filterMap_cons, hf]; exact List.mem_cons_of_mem _ hb)) hr⟩
  exact all X.outer (fun _ hb => hb) I.ok.funs

theorem Inv.stack (I : Inv X pins σ H s) : s.heap.FunFrames X.base X.stack := by
  rcases I.ok.stk with e | ⟨e, hf⟩
  · rw [e]; exact I.funs
  · rw [e]
    obtain ⟨m, hn, _⟩ := I.loc
    refine .cons (by rw [I.ok.kind]; decide) hf hn ?_ I.funs
    exact Heap.get?_none_of_le (Nat.le_trans I.ok.bsz I.ok.above)
theorem Inv.stkSub (I : Inv X pins σ H s) : ∀ b ∈ frs X.stack, b ∈ X.env.locals :: X.fs := fun b hb => by
  rcases I.ok.stk with e | ⟨e, hf⟩
  · rw [e] at hb; exact List.mem_cons_of_mem _ hb
  · rw [e] at hb
    unfold frs at hb
    rw [List.filterMap_cons, hf] at hb
    exact hb
theorem Inv.stkFree (I : Inv X pins σ H s) : ∀ b ∈ frs X.stack, H b = none := fun b hb => by
  rcases List.mem_cons.mp (I.stkSub b hb) with e | hb
  · rw [e]; exact I.free
  · obtain ⟨_, o, ho, _⟩ := I.ok.funs.mem hb
    exact I.base.free b o ho (I.ok.frf b hb) fun z => I.ok.exfs b z hb

theorem Inv.step {g' : Array GenState} {t' : Nat} {d' : Drawn} {ch : List Addr} (I : Inv X pins σ H s)
    (hch : ∀ b ∈ ch, (b ∈ X.ex ∨ X.s₀.heap.objs.size ≤ b) ∧ b ≠ X.env.locals ∧ (∀ x c, X.env.cells.lookup x = some c → c ≠ b) ∧ ∀ p ∈ X.pn ++ pins, p.1 ≠ b)
    (keep : ∀ b o, b ≠ X.env.locals → b ∉ X.fs → b ∉ ch → s.heap.get? b = some o → H b = none → h'.get? b = some o)
    (slot : ∀ b o, b ≠ X.env.locals → b ∈ X.fs → b ∉ ch → s.heap.get? b = some o → H b = none → ∃ sl, h'.get? b = some { o with slots := sl }) (free : ∀ b o, b ∉ ch → s.heap.get? b = some o → H b = none → H' b = none)
    (there : ∀ b o, b ∉ ch → s.heap.get? b = some o → ∃ o', h'.get? b = some o')
    (tups : ∀ b xs, H b = some (.tup xs) → H' b = some (.tup xs)) (frzs : ∀ b o u, H b = some (.frz o u) → H' b = some (.frz o u)) (tbls : ∀ b ps, H b = some (.tbl ps) → ∃ more, H' b = some (.tbl (ps ++ more)))
    (ns : ∀ m, s.heap.Ns X.env.locals m → h'.Ns X.env.locals m) (hok : HOk X.prog X.w H' h') (hg : AllBare g') :
    Inv X pins σ H' { s with heap := h', gens := g', drawn := d', toks := t' } := by
  have neL : ∀ b o, X.s₀.heap.get? b = some o → b ≠ X.env.locals := fun b o e => Nat.ne_of_lt (Nat.lt_of_lt_of_le (Heap.lt_size e) I.ok.above)
  have neC : ∀ b o, X.s₀.heap.get? b = some o → b ∉ X.ex → b ∉ ch := fun b o e hx hb => by
    rcases (hch b hb).1 with z | z
    · exact hx z
    · exact absurd (Nat.lt_of_lt_of_le (Heap.lt_size e) z) (Nat.lt_irrefl _)
  have cellK : ∀ x c, X.env.cells.lookup x = some c → ∀ v, s.heap.IsCell c v → h'.IsCell c v := fun x c e v ⟨o, ho, hd⟩ => by
    have nch : c ∉ ch := fun z => (hch c z).2.2.1 x c e rfl
    by_cases hc : c ∈ X.fs
    · obtain ⟨sl, q⟩ := slot c o (I.cne x c e) hc nch ho (I.freeC x c e)
      exact ⟨_, q, hd⟩
    · exact ⟨o, keep c o (I.cne x c e) hc nch ho (I.freeC x c e), hd⟩
  refine ⟨I.ok, I.os, hg, ⟨fun b o e n hb hx => ?_, fun b o e n hb hx => ?_, fun b o e n hx => ?_, fun b o e hx => ?_, fun b xs e => tups b xs (I.base.tups b xs e), fun b o xs e => frzs b o xs (I.base.frzs b o xs e), fun b ps e => ?_⟩, ?_, fun x c e => ?_, ?_, fun x c e => ?_, fun p hp => ?_, hok, I.len⟩
  · exact keep b o (neL b o e) hb (neC b o e hx) (I.base.keep b o e n hb hx) (I.base.free b o e n hx)
  · obtain ⟨sl, e1⟩ := I.base.slot b o e n hb hx
    obtain ⟨sl', e2⟩ := slot b _ (neL b o e) hb (neC b o e hx) e1 (I.base.free b o e n hx)
    exact ⟨sl', e2⟩
  · obtain ⟨o', e1⟩ := I.base.there b o e hx
    exact free b o' (neC b o e hx) e1 (I.base.free b o e n hx)
  · obtain ⟨o', e1⟩ := I.base.there b o e hx
    exact there b o' (neC b o e hx) e1
  · obtain ⟨m1, e1⟩ := I.base.tbls b ps e
    obtain ⟨m2, e2⟩ := tbls b _ e1
    exact ⟨m1 ++ m2, by rw [e2, Array.append_assoc]⟩
  · obtain ⟨m, hn, hl⟩ := I.loc
    refine ⟨m, ns m hn, fun i x v e1 e2 e3 => ?_⟩
    obtain ⟨u, r, l⟩ := hl i x v e1 e2 e3
    refine ⟨u, r, ?_⟩
    rcases l with l | ⟨k, c, e, z⟩
    · exact .inl l
    · exact .inr ⟨k, c, e, cellK x c e _ z⟩
  · obtain ⟨v, z⟩ := I.cell x c e
    exact ⟨v, cellK x c e v z⟩
  · obtain ⟨m, ⟨o, _, _, ho, _⟩, _⟩ := I.loc
    exact free _ o (fun z => (hch _ z).2.1 rfl) ho I.free
  · obtain ⟨v, o, ho, hd⟩ := I.cell x c e
    exact free c o (fun z => (hch c z).2.2.1 x c e rfl) ho (I.freeC x c e)
  · obtain ⟨e, n, ne, nf, d⟩ := I.pin p hp
    have nch : p.1 ∉ ch := fun z => (hch p.1 z).2.2.2 p hp rfl
    exact ⟨keep p.1 p.2 ne nf nch e n, free p.1 p.2 nch e n, ne, nf, d⟩
theorem Inv.un {t' : Nat} (I : Inv X pins σ H s) (u : Un X.fs [] H H' s.heap h') (hok : HOk X.prog X.w H' h') : Inv X pins σ H' { s with heap := h', toks := t' } := by
  obtain ⟨m, ⟨o, es, ep, ho, r⟩, _⟩ := id I.loc
  obtain ⟨sl, hL⟩ := u.any ho I.free (by simp)
  exact I.step (g' := s.gens) (d' := s.drawn) (ch := []) (fun _ z => nomatch z) (fun b o _ hb _ e n => u.keep b o e n hb (by simp)) (fun b o _ hb _ e n => u.slot b o e n hb (by simp)) (fun b o _ e n => u.free b o e n (by simp)) (fun b o _ e => u.there b o e (by simp)) u.tups u.frzs u.tbls (fun m' hm => by
    obtain ⟨o', es', ep', ho', r'⟩ := hm
    rw [ho] at ho'; cases ho'
    exact ⟨_, es', ep', hL, r'⟩) hok I.bare
theorem Inv.call {g' : Array GenState} {t' : Nat} {d' : Drawn} {ch : List Addr} (I : Inv X pins σ H s) (u : Un (frs X.stack) ch H H' s.heap h') (hok : HOk X.prog X.w H' h') (hg : AllBare g')
    (hch : ∀ b ∈ ch, (b ∈ X.ex ∨ X.s₀.heap.objs.size ≤ b) ∧ b ≠ X.env.locals ∧ (∀ x c, X.env.cells.lookup x = some c → c ≠ b) ∧ ∀ p ∈ X.pn ++ pins, p.1 ≠ b) :
    Inv X pins σ H' { s with heap := h', gens := g', drawn := d', toks := t' } := by
  obtain ⟨m, ⟨o, es, ep, ho, r⟩, _⟩ := id I.loc
  obtain ⟨sl, hL⟩ := u.any ho I.free fun z => (hch _ z).2.1 rfl
  exact I.step (ch := ch) hch (fun b o hL hb hc e n => u.keep b o e n (fun z => (List.mem_cons.mp (I.stkSub b z)).elim hL hb) hc) (fun b o _ _ hc e n => u.any e n hc) (fun b o hc e n => u.free b o e n hc) (fun b o hc e => u.there b o e hc) u.tups u.frzs u.tbls (fun m' hm => by
    obtain ⟨o', es', ep', ho', r'⟩ := hm
    rw [ho] at ho'; cases ho'
    exact ⟨_, es', ep', hL, r'⟩) hok hg
theorem Inv.turned {t' : Nat} {it : Addr} (I : Inv X pins σ H s) (k : ∀ b o, b ≠ it → s.heap.get? b = some o → h'.get? b = some o) (hn : H it = none) (hL : it ≠ X.env.locals)
    (h1 : it ∈ X.ex ∨ X.s₀.heap.objs.size ≤ it) (h2 : ∀ x c, X.env.cells.lookup x = some c → c ≠ it) (h3 : ∀ p ∈ X.pn ++ pins, p.1 ≠ it) : Inv X pins σ H { s with heap := h', toks := t' } := by
  have nit : ∀ b u, H b = some u → b ≠ it := fun b u e z => by rw [z, hn] at e; cases e
  refine I.step (g' := s.gens) (d' := s.drawn) (ch := [it]) (fun b hb => ?_) (fun b o _ _ hc e _ => k b o (fun z => hc (by simp [z])) e) (fun b o _ _ hc e _ => ⟨o.slots, k b o (fun z => hc (by simp [z])) e⟩) (fun _ _ _ _ n => n)
    (fun b o hc e => ⟨o, k b o (fun z => hc (by simp [z])) e⟩) (fun _ _ e => e) (fun _ _ _ e => e) (fun b ps e => ⟨#[], by rw [e]; simp⟩) (fun m hm => ?_) (fun b u e => ?_) I.bare
  · have e : b = it := by simpa using hb
    subst e
    exact ⟨h1, hL, h2, h3⟩
  · obtain ⟨o, es, ep, ho, r⟩ := hm
    exact ⟨o, es, ep, k _ o (Ne.symm hL) ho, r⟩
  · refine (I.hok b u e).stay (fun c v hc q => k c v ?_ q) (fun _ q => q) fun _ _ q => q
    rcases hc with z | z
    · rw [z]; exact nit b u e
    · exact nit c _ z
theorem Inv.tok (I : Inv X pins σ H s) (t : Nat) : Inv X pins σ H { s with toks := t } := I.un (h' := s.heap) (t' := t) Un.refl I.hok
theorem Inv.kept {t' : Nat} (I : Inv X pins σ H s) (k : ∀ b u, s.heap.get? b = some u → h'.get? b = some u) : Inv X pins σ H { s with heap := h', toks := t' } := I.un (Un.kept k) (I.hok.kept k)
theorem Inv.laid {a : Addr} {o : HO} {t' : Nat} (I : Inv X pins σ H s) (k : ∀ b u, s.heap.get? b = some u → h'.get? b = some u) (hp : s.heap.objs.size ≤ a) (new : ObjOk X.prog X.w (upd H a o) h' a o) :
    Inv X pins σ (upd H a o) { s with heap := h', toks := t' } := I.un (Un.laid k hp (I.hok.fresh hp)) (I.hok.laid k hp new)
theorem Inv.write {x e : Addr} {o : HO} {t' : Nat} (I : Inv X pins σ H s) (mu : Mut (H x)) (he : e = x ∨ H e = some (.own x)) (k : ∀ b u, b ≠ e → s.heap.get? b = some u → h'.get? b = some u) (heo : ∃ u, h'.get? e = some u)
    (new : ObjOk X.prog X.w (upd H x o) h' x o) : Inv X pins σ (upd H x o) { s with heap := h', toks := t' } := I.un (Un.write mu he k heo) (I.hok.write mu he k heo new)
theorem Inv.pins_of {pins' : List (Addr × Obj)} (I : Inv X pins σ H s) (h : ∀ p ∈ pins', s.heap.get? p.1 = some p.2 ∧ H p.1 = none ∧ p.1 ≠ X.env.locals ∧ p.1 ∉ X.fs ∧ ∀ v, p.2.data ≠ .cell v) : Inv X pins' σ H s :=
  ⟨I.ok, I.os, I.bare, I.base, I.loc, I.cell, I.free, I.freeC, fun p hp => (List.mem_append.mp hp).elim (fun z => I.pin p (List.mem_append_left _ z)) (h p), I.hok, I.len⟩

theorem nodup_ix {N : List Str} (hN : N.Nodup) {i j : Nat} {x : Str} (a : N[i]? = some x) (b : N[j]? = some x) : i = j := by
  obtain ⟨h1, e1⟩ := List.getElem?_eq_some_iff.mp a
  obtain ⟨h2, e2⟩ := List.getElem?_eq_some_iff.mp b
  exact (List.getElem_inj hN).mp (e1.trans e2.symm)

theorem store_ok2 {M : Model} {A : Around} {E : Value → Shared → Prop} {i : Nat} {x : Str} {v : V} {u : Value} {Q : Unit → Shared → Prop} (I : Inv X pins σ H s) (hN : X.N.Nodup) (hi : X.N[i]? = some x) (hx : Loc X.env.scope x) (r : RelV v u)
    (h : ∀ s', Inv X pins (σ.set i (some v)) H s' → (∃ a, Heap.SameBut a s.heap s'.heap ∧ (a = X.env.locals ∨ X.env.cells.lookup x = some a)) → Q () s') (hf : X.fn x = true ∨ X.env.scope.names.lookup x = some .local := by first | exact .inl rfl | exact .inr rfl | assumption) : wpAny M A (storeName X.env x u) Q E s := by
  obtain ⟨m, hn, hl⟩ := id I.loc
  have hcls : (X.env.scope.kind == .class || (X.env.scope.kind == .module && X.env.locals != X.env.globals)) = false := by rw [I.ok.kind]; rfl
  have hiσ : i < σ.length := by rw [I.len]; exact (List.getElem?_eq_some_iff.mp hi).1
  have cne := I.cne
  have tracked : ∀ {a : Addr} {h' : Heap}, (∃ o, s.heap.get? a = some o ∧ H a = none) → Heap.SameBut a s.heap h' → HOk X.prog X.w H h' := fun {a h'} ha hs b ob e => by
    obtain ⟨_, _, hfree⟩ := ha
    refine (I.hok b ob e).stay (fun c w' hc q => (hs.2 c ?_).trans q) (fun _ q => q) fun _ _ q => q
    rintro rfl
    rcases hc with rfl | hc
    · rw [hfree] at e; cases e
    · rw [hfree] at hc; cases hc
  rcases hx with hk | hk
  · refine wpAny_storeName_local hk hn (fun h' hn' hs => ?_) hcls
    obtain ⟨oL, _, _, hoL, _⟩ := id hn
    refine h _ ⟨I.ok, I.os, I.bare, ⟨fun b o e n hb hx => ?_, fun b o e n hb hx => ?_, I.base.free, fun b o e hx => ?_, I.base.tups, I.base.frzs, I.base.tbls⟩, ⟨_, hn', fun j y v' e1 e2 e3 => ?_⟩, fun y c e => ?_, I.free, I.freeC, fun p hp => ?_, tracked ⟨oL, hoL, I.free⟩ hs, by simpa using I.len⟩ ⟨_, hs, .inl rfl⟩
    · exact (hs.2 b (Nat.ne_of_lt (Nat.lt_of_lt_of_le (Heap.lt_size e) I.ok.above))).trans (I.base.keep b o e n hb hx)
    · obtain ⟨sl, e1⟩ := I.base.slot b o e n hb hx
      exact ⟨sl, (hs.2 b (Nat.ne_of_lt (Nat.lt_of_lt_of_le (Heap.lt_size e) I.ok.above))).trans e1⟩
    · obtain ⟨o', e1⟩ := I.base.there b o e hx
      exact ⟨o', (hs.2 b (Nat.ne_of_lt (Nat.lt_of_lt_of_le (Heap.lt_size e) I.ok.above))).trans e1⟩
    · by_cases hj : j = i
      · subst hj
        rw [hi] at e1; cases e1
        rw [List.getElem?_set_self hiσ] at e2
        cases e2
        exact ⟨u, r, .inl ⟨hk, by simp⟩⟩
      · rw [List.getElem?_set_ne (Ne.symm hj)] at e2
        obtain ⟨u', r', q⟩ := hl j y v' e1 e2 e3
        refine ⟨u', r', ?_⟩
        rcases q with ⟨k, e⟩ | ⟨k, c, e, z⟩
        · refine .inl ⟨k, ?_⟩
          have : y ≠ x := fun e => hj (nodup_ix hN e1 (e ▸ hi))
          simp [this, e]
        · exact .inr ⟨k, c, e, z.sameBut hs (cne y c e)⟩
    · obtain ⟨w', z⟩ := I.cell y c e
      exact ⟨w', z.sameBut hs (cne y c e)⟩
    · obtain ⟨e, n, ne, nf, d⟩ := I.pin p hp
      exact ⟨(hs.2 p.1 ne).trans e, n, ne, nf, d⟩
  · have hfn : X.fn x = true := by
      rcases hf with z | z
      · exact z
      · rw [z] at hk; cases hk
    obtain ⟨c, hc⟩ := I.ok.has x (.inl hk)
    obtain ⟨w', z⟩ := I.cell x c hc
    refine wpAny_storeName_cell I.ok.kind hk hc z (fun h' hc' hs => ?_)
    obtain ⟨oc, hoc, hocd⟩ := id z
    refine h { s with heap := h' } ⟨I.ok, I.os, I.bare, ⟨fun b o e n hb hx => ?_, fun b o e n hb hx => ?_, I.base.free, fun b o e hx => ?_, I.base.tups, I.base.frzs, I.base.tbls⟩, ⟨m, hn.sameBut hs (Ne.symm (cne x c hc)), fun j y v' e1 e2 e3 => ?_⟩, fun y c' e => ?_, I.free, I.freeC, fun p hp => ?_, tracked ⟨oc, hoc, I.freeC x c hc⟩ hs, by simpa using I.len⟩ ⟨c, hs, .inr hc⟩
    · exact (hs.2 b (Nat.ne_of_lt (Nat.lt_of_lt_of_le (Heap.lt_size e) (I.ok.cab x c hfn hc)))).trans (I.base.keep b o e n hb hx)
    · obtain ⟨sl, e1⟩ := I.base.slot b o e n hb hx
      exact ⟨sl, (hs.2 b (Nat.ne_of_lt (Nat.lt_of_lt_of_le (Heap.lt_size e) (I.ok.cab x c hfn hc)))).trans e1⟩
    · obtain ⟨o', e1⟩ := I.base.there b o e hx
      exact ⟨o', (hs.2 b (Nat.ne_of_lt (Nat.lt_of_lt_of_le (Heap.lt_size e) (I.ok.cab x c hfn hc)))).trans e1⟩
    · by_cases hj : j = i
      · subst hj
        rw [hi] at e1; cases e1
        rw [List.getElem?_set_self hiσ] at e2
        cases e2
        exact ⟨u, r, .inr ⟨.inl hk, c, hc, hc'⟩⟩
      · rw [List.getElem?_set_ne (Ne.symm hj)] at e2
        obtain ⟨u', r', q⟩ := hl j y v' e1 e2 e3
        refine ⟨u', r', ?_⟩
        rcases q with q | ⟨k, c', e, z'⟩
        · exact .inl q
        · refine .inr ⟨k, c', e, z'.sameBut hs ?_⟩
          rintro rfl
          exact hj (nodup_ix hN e1 (I.ok.inj _ _ _ e hc ▸ hi))
    · by_cases hcc : c' = c
      · subst hcc; exact ⟨_, hc'⟩
      · obtain ⟨w2, z2⟩ := I.cell y c' e
        exact ⟨w2, z2.sameBut hs hcc⟩
    · obtain ⟨e, n, ne, nf, d⟩ := I.pin p hp
      refine ⟨(hs.2 p.1 ?_).trans e, n, ne, nf, d⟩
      intro q
      rw [q, hoc] at e
      have q' : oc = p.2 := Option.some.inj e
      exact d w' (by rw [← q']; exact hocd)
theorem store_ok {M : Model} {A : Around} {E : Value → Shared → Prop} {i : Nat} {x : Str} {v : V} {u : Value} {Q : Unit → Shared → Prop} (I : Inv X pins σ H s) (hN : X.N.Nodup) (hi : X.N[i]? = some x) (hx : Loc X.env.scope x) (r : RelV v u)
    (h : ∀ s', Inv X pins (σ.set i (some v)) H s' → Q () s') (hf : X.fn x = true ∨ X.env.scope.names.lookup x = some .local := by first | exact .inl rfl | exact .inr rfl | assumption) : wpAny M A (storeName X.env x u) Q E s :=
  store_ok2 I hN hi hx r (fun s' I' _ => h s' I') hf
theorem Inv.call' {s' : Shared} {ch : List Addr} (I : Inv X pins σ H s) (ho : s'.os = s.os) (u : Un (frs X.stack) ch H H' s.heap s'.heap) (hok : HOk X.prog X.w H' s'.heap) (hg : AllBare s'.gens)
    (hch : ∀ b ∈ ch, (b ∈ X.ex ∨ X.s₀.heap.objs.size ≤ b) ∧ b ≠ X.env.locals ∧ (∀ x c, X.env.cells.lookup x = some c → c ≠ b) ∧ ∀ p ∈ X.pn ++ pins, p.1 ≠ b) : Inv X pins σ H' s' := by
  obtain ⟨h', g', d', t', o'⟩ := s'
  have e : o' = s.os := ho
  subst e
  exact I.call (g' := g') (t' := t') (d' := d') u hok hg hch
end

abbrev XK := Value → Option Addr → Hp → Prop
abbrev St := List (Option V)
abbrev VK := V → Hp → Prop
abbrev TE := St → Hp → VK → Prop
abbrev TT := St → Hp → (Bool → Hp → Prop) → Prop
abbrev TA := St → Hp → (List V → Hp → Prop) → Prop
structure Ends where
  nx : St → Hp → Prop
  rt : VK
  bk : St → Hp → Prop := fun _ _ => False
  ct : St → Hp → Prop := fun _ _ => False
abbrev TS := Ends → St → Hp → Prop

def EP (X : Cx) (pins : List (Addr × Obj)) (σ : St) (Q : VK) (u : Value) (s' : Shared) : Prop := ∃ v H', Inv X pins σ H' s' ∧ RelV v u ∧ Q v H'
def TP (X : Cx) (pins : List (Addr × Obj)) (σ : St) (Q : Bool → Hp → Prop) (b : Bool) (s' : Shared) : Prop := ∃ H', Inv X pins σ H' s' ∧ Q b H'
def AP (X : Cx) (pins : List (Addr × Obj)) (σ : St) (Q : List V → Hp → Prop) (us : List Value) (s' : Shared) : Prop := ∃ vs H', Inv X pins σ H' s' ∧ Vals vs us ∧ Q vs H'
def SP (X : Cx) (pins : List (Addr × Obj)) (D : Ends) (f : Flow) (s' : Shared) : Prop :=
  match f with
  | .next => ∃ σ' H', Inv X pins σ' H' s' ∧ D.nx σ' H'
  | .brk => ∃ σ' H', Inv X pins σ' H' s' ∧ D.bk σ' H'
  | .cont => ∃ σ' H', Inv X pins σ' H' s' ∧ D.ct σ' H'
  | .ret u => ∃ v σ' H', Inv X pins σ' H' s' ∧ RelV v u ∧ D.rt v H'

def PE (X : Cx) (e : Expr) (t : TE) : Prop :=
  ∀ (pins : List (Addr × Obj)) (s : Shared) (σ : St) (H : Hp) (Q : VK), Inv X pins σ H s → t σ H Q → wpAny (model X.prog X.w) X.A (eval e X.env) (EP X pins σ Q) X.xe s
def PT (X : Cx) (e : Expr) (t : TT) : Prop :=
  ∀ (pins : List (Addr × Obj)) (s : Shared) (σ : St) (H : Hp) (Q : Bool → Hp → Prop), Inv X pins σ H s → t σ H Q → wpAny (model X.prog X.w) X.A (isTrue e X.env (eval e X.env)) (TP X pins σ Q) X.xe s
def PW (X : Cx) (e : Expr) (t : TT) : Prop :=
  ∀ (whole : Sem Value) (pins : List (Addr × Obj)) (s : Shared) (σ : St) (H : Hp) (Q : Bool → Hp → Prop), Inv X pins σ H s → t σ H Q → wpAny (model X.prog X.w) X.A (isTrue e X.env whole) (TP X pins σ Q) X.xe s
theorem PW.pt {X : Cx} {e : Expr} {t : TT} (h : PW X e t) : PT X e t := h _
def PA (X : Cx) (es : List Expr) (t : TA) : Prop :=
  ∀ (pos : Pos) (pins : List (Addr × Obj)) (s : Shared) (σ : St) (H : Hp) (Q : List V → Hp → Prop), Inv X pins σ H s → t σ H Q → wpAny (model X.prog X.w) X.A (spliced (backTo pos (starEach es X.env))) (AP X pins σ Q) X.xe s
def PS (X : Cx) (st : Stmt) (t : TS) : Prop :=
  ∀ (pins : List (Addr × Obj)) (s : Shared) (σ : St) (H : Hp) (D : Ends), Inv X pins σ H s → t D σ H → wpAny (model X.prog X.w) X.A (exec st X.env) (SP X pins D) X.xe s
def PSs (X : Cx) (st : List Stmt) (t : TS) : Prop :=
  ∀ (pins : List (Addr × Obj)) (s : Shared) (σ : St) (H : Hp) (D : Ends), Inv X pins σ H s → t D σ H → wpAny (model X.prog X.w) X.A (execs st X.env) (SP X pins D) X.xe s
theorem thn {α : Type} {t : Sem α} {Q Q' : α → Shared → Prop} {M : Model} {A : Around} {E : Value → Shared → Prop} {s : Shared} (h : wpAny M A t Q E s) (hQ : ∀ a s, Q a s → Q' a s) : wpAny M A t Q' E s := wpAny_mono h hQ fun _ _ x => x
end L2

namespace L2
open PySem PySem.Spec PyProof.Rows
section
variable {X : Cx}

def tVar (i : Nat) : TE := fun σ H Q => ∃ v, σ[i]? = some (some v) ∧ Q v H
def tC (v : V) : TE := fun _ H Q => Q v H
theorem pe_var {i : Nat} {x : Str} {pos : Pos} (hN : X.N[i]? = some x) (hv : Vis X.env.scope x) (hd : (x == ("__debug__" : Str)) = false := by decide) (hcd : (x == ("__classdict__" : Str)) = false := by decide) : PE X (.Name x pos) (tVar i) := by
  intro pins s σ H Q I h
  obtain ⟨v, e, h⟩ := h
  obtain ⟨m, hn, hl⟩ := I.loc
  obtain ⟨u, r, l⟩ := hl i x v hN e hv
  have fin : EP X pins σ Q u s := ⟨v, H, I, r, h⟩
  rcases l with ⟨hk, hm⟩ | ⟨hk, c, hc, hcell⟩
  · exact wpAny_Name (wpAny_loadName_local I.ok.kind hk hn hm fin) hd
  · rcases hk with hk | hk
    · exact wpAny_Name (wpAny_loadName_cell I.ok.kind hk hc hcell fin) hd
    · exact wpAny_Name (wpAny_loadName_free I.ok.kind hk hc hcell fin hcd) hd
theorem pe_int {i j pos} : PE X (.Constant (.int i) j pos) (tC (.int i)) := fun _ _ _ H _ I h => wpAny_Constant_int ⟨.int i, H, I.tok _, ⟨_, rfl⟩, h⟩
theorem pe_bl {b j pos} : PE X (.Constant (.bool b) j pos) (tC (.bl b)) := fun _ _ _ H _ I h => Constant_bool ⟨.bl b, H, I, rfl, h⟩
theorem pe_non {j pos} : PE X (.Constant .none j pos) (tC .non) := fun _ _ _ H _ I h => Constant_none ⟨.non, H, I, rfl, h⟩
theorem pe_str {x j pos} : PE X (.Constant (.str x) j pos) (tC (.str x)) := fun _ _ _ H _ I h => Calls.Constant_str ⟨.str x, H, I.tok _, ⟨_, rfl⟩, h⟩

def Gl (X : Cx) (x : Str) : Prop := X.env.kindOf x = some .globalImplicit
theorem ld_glob {E : Value → Shared → Prop} {pins : List (Addr × Obj)} {s : Shared} {σ : St} {H : Hp} {x : Str} {u : Value} {pos : Pos} {Q : Value → Shared → Prop} (I : Inv X pins σ H s) (hg : Gl X x) (hm : X.mg x = some u) (h : Q u s)
    (hd : (x == ("__debug__" : Str)) = false := by decide) : wpAny (model X.prog X.w) X.A (eval (.Name x pos) X.env) Q E s :=
  Calls.Name_function_global I.ok.kind hg (Calls.loadGlobal_global (by rw [I.ok.glob]; exact I.mod.glob.keeps I.bk) hm h) hd
theorem ld_blt {E : Value → Shared → Prop} {pins : List (Addr × Obj)} {s : Shared} {σ : St} {H : Hp} {x : Str} {u : Value} {pos : Pos} {Q : Value → Shared → Prop} (I : Inv X pins σ H s) (hg : Gl X x) (hm : X.mg x = none) (hv : bootBuiltins x = some u) (h : Q u s)
    (hn : x ≠ "__name__" := by decide) (hd : (x == ("__debug__" : Str)) = false := by decide) : wpAny (model X.prog X.w) X.A (eval (.Name x pos) X.env) Q E s := by
  obtain ⟨mb, h1, h2⟩ := I.mod.blt
  exact Calls.Name_function_global I.ok.kind hg (Calls.loadGlobal_builtin (by rw [I.ok.glob]; exact I.mod.glob.keeps I.bk) hm (by rw [I.ok.blt]; exact h1.keeps I.bk) ((h2 x hn).trans hv) h) hd
theorem pe_glob {x : Str} {v : V} {u : Value} {pos : Pos} (hg : Gl X x) (hm : X.mg x = some u) (r : RelV v u) (hd : (x == ("__debug__" : Str)) = false := by decide) : PE X (.Name x pos) (tC v) :=
  fun _ _ _ H _ I h => ld_glob I hg hm ⟨v, H, I, r, h⟩ hd
theorem pe_bltn {x : Str} {v : V} {u : Value} {pos : Pos} (hg : Gl X x) (hm : X.mg x = none) (hv : bootBuiltins x = some u) (r : RelV v u) (hn : x ≠ "__name__" := by decide) (hd : (x == ("__debug__" : Str)) = false := by decide) : PE X (.Name x pos) (tC v) :=
  fun _ _ _ H _ I h => ld_blt I hg hm hv ⟨v, H, I, r, h⟩ hn hd

variable {a b : Expr} {ta tb : TE} {pos : Pos}
variable {tA tB' : TT} {rest : List Expr}
def tAnd (t u : TT) : TT := fun σ H Q => t σ H fun c H1 => if c = true then u σ H1 Q else Q false H1
def tOr (t u : TT) : TT := fun σ H Q => t σ H fun c H1 => if c = true then Q true H1 else u σ H1 Q
def tNot (t : TT) : TT := fun σ H Q => t σ H fun c H1 => Q (!c) H1
theorem pw_and1 (ha : PT X a tA) : PW X (.BoolOp .And [a] pos) tA := by
  intro wh pins s σ H Q I h
  refine isTrue_and (thn (ha pins s σ H Q I h) fun c s1 e => ?_)
  cases c with
  | true => exact isTrue_and_nil e
  | false => exact e
theorem pw_or1 (ha : PT X a tA) : PW X (.BoolOp .Or [a] pos) tA := by
  intro wh pins s σ H Q I h
  refine isTrue_or (thn (ha pins s σ H Q I h) fun c s1 e => ?_)
  cases c with
  | false => exact isTrue_or_nil e
  | true => exact e
theorem pw_and (ha : PT X a tA) (hb : PW X (.BoolOp .And (b :: rest) pos) tB') : PW X (.BoolOp .And (a :: b :: rest) pos) (tAnd tA tB') := by
  intro wh pins s σ H Q I h
  refine isTrue_and (thn (ha pins s σ H _ I h) fun c s1 ⟨H1, I1, q1⟩ => ?_)
  cases c with
  | true => exact hb wh pins s1 σ H1 Q I1 q1
  | false => exact ⟨H1, I1, q1⟩
theorem pw_or (ha : PT X a tA) (hb : PW X (.BoolOp .Or (b :: rest) pos) tB') : PW X (.BoolOp .Or (a :: b :: rest) pos) (tOr tA tB') := by
  intro wh pins s σ H Q I h
  refine isTrue_or (thn (ha pins s σ H _ I h) fun c s1 ⟨H1, I1, q1⟩ => ?_)
  cases c with
  | true => exact ⟨H1, I1, q1⟩
  | false => exact hb wh pins s1 σ H1 Q I1 q1
theorem pt_not (ha : PT X a tA) : PT X (.UnaryOp .Not a pos) (tNot tA) := by
  intro pins s σ H Q I h
  exact isTrue_not (ha pins s σ H (fun c H1 => Q (!c) H1) I h)
theorem pe_one {op} {t : TE} (h : PE X a t) : PE X (.BoolOp op [a] pos) t := fun pins s σ H Q I hw => BoolOp_one (h pins s σ H Q I hw)
end
end L2

namespace L2
open PySem PySem.Spec PyProof.Rows

def SqL (K : PySem.W.Frag) (H : Hp) (a : Addr) (xs : List V) : Prop :=
  Rd H a (.lst xs) ∨
    ∃ (o : Obj) (its : Array Value) (n : Nat), K.lookup a = some o ∧ o.cls = .type "list" ∧ o.dict = none ∧ o.data = .seq its n ∧ its.size ≤ sizeLine ∧ Vals xs its.toList
def SqT (K : PySem.W.Frag) (H : Hp) (a : Addr) (xs : List V) : Prop :=
  Rd H a (.tup xs) ∨
    ∃ (o : Obj) (its : Array Value) (n : Nat), K.lookup a = some o ∧ o.cls = .type "tuple" ∧ o.data = .seq its n ∧ its.size ≤ sizeLine ∧ Vals xs its.toList
def absV : Value → Option V
  | .none => some .non
  | .bool b => some (.bl b)
  | .int i _ => some (.int i)
  | .str x _ => some (.str x)
  | .bytes b _ => some (.byt b)
  | .float b _ => some (.flt b)
  | .ref a => some (.ref a)
  | .type n => some (.ty n)
  | _ => none
theorem RelV.abs {x : V} {u : Value} (r : RelV x u) : absV u = some x := by
  cases x with
  | non => cases r; rfl
  | bl _ => cases r; rfl
  | int _ => obtain ⟨t, rfl⟩ := r; rfl
  | str _ => obtain ⟨t, rfl⟩ := r; rfl
  | byt _ => obtain ⟨t, rfl⟩ := r; rfl
  | flt _ => obtain ⟨t, rfl⟩ := r; rfl
  | ref _ => cases r; rfl
  | ty _ => cases r; rfl
theorem RelV.inj {x y : V} {u : Value} (r : RelV x u) (q : RelV y u) : x = y := Option.some.inj (r.abs.symm.trans q.abs)
theorem Vals.inj : ∀ {xs ys : List V} {us : List Value}, Vals xs us → Vals ys us → xs = ys
  | _, _, _, .nil, .nil => rfl
  | _, _, _, .cons r t, .cons r' t' => by rw [r.inj r', Vals.inj t t']
section
variable {X : Cx} {pins : List (Addr × Obj)} {σ : St} {H : Hp} {s : Shared} {a : Addr} {xs ys : List V}
theorem SqL.of {K : PySem.W.Frag} (h : H a = some (.lst xs)) : SqL K H a xs := .inl (.inl h)
theorem SqT.of {K : PySem.W.Frag} (h : H a = some (.tup xs)) : SqT K H a xs := .inl (.inl h)
theorem Inv.list (I : Inv X pins σ H s) (h : SqL X.K H a xs) : ∃ its : List Value, Vals xs its ∧ PlainL s.heap a its.toArray ∧ xs.length ≤ sizeLine := by
  rcases h with h | ⟨o, its, n, hk, hc, hd, hs, hz, r⟩
  · obtain ⟨z, its, n, r, e⟩ := h.ok I.hok
    exact ⟨its, r, ⟨_, n, e, rfl, rfl, rfl⟩, z⟩
  · refine ⟨its.toList, r, ⟨o, n, I.kIn a o hk, hc, hd, by simpa using hs⟩, ?_⟩
    have e := r.length
    simp only [Array.length_toList] at e
    omega
theorem Inv.tuple (I : Inv X pins σ H s) (h : SqT X.K H a xs) : ∃ its : List Value, Vals xs its ∧ IsTup s.heap a its.toArray ∧ xs.length ≤ sizeLine := by
  rcases h with h | ⟨o, its, n, hk, hc, hs, hz, r⟩
  · obtain ⟨z, its, r, p⟩ := h.ok I.hok
    exact ⟨its, r, p, z⟩
  · refine ⟨its.toList, r, ⟨o, I.kIn a o hk, hc, n, by simpa using hs⟩, ?_⟩
    have e := r.length
    simp only [Array.length_toList] at e
    omega
theorem Inv.list_inj (I : Inv X pins σ H s) (h : SqL X.K H a xs) (h' : SqL X.K H a ys) : xs = ys := by
  obtain ⟨its, r, ⟨o, n, e, _, _, d⟩, _⟩ := I.list h
  obtain ⟨its', r', ⟨o', n', e', _, _, d'⟩, _⟩ := I.list h'
  rw [e] at e'; cases e'
  rw [d] at d'
  injection d' with d1 _
  have : its = its' := by simpa using congrArg Array.toList d1
  subst this
  exact r.inj r'
end

abbrev Cx.wish (X : Cx) (E : Value → Shared → Prop) : Cx := { X with xe := E }
abbrev Cx.nox (X : Cx) : Cx := X.wish fun _ _ => False
theorem Cx.Ok.wish {X : Cx} (ok : X.Ok) (E : Value → Shared → Prop) : (X.wish E).Ok :=
  ⟨ok.mod, ok.kind, ok.glob, ok.blt, ok.above, ok.inj, ok.has, ok.cab, ok.hd, ok.frames, ok.stk, ok.exf, ok.bs, ok.bsz, ok.noex, ok.exfs, ok.funs, ok.frf⟩
theorem Cx.Ok.unwish {X : Cx} {E : Value → Shared → Prop} (ok : (X.wish E).Ok) : X.Ok :=
  ⟨ok.mod, ok.kind, ok.glob, ok.blt, ok.above, ok.inj, ok.has, ok.cab, ok.hd, ok.frames, ok.stk, ok.exf, ok.bs, ok.bsz, ok.noex, ok.exfs, ok.funs, ok.frf⟩
section
variable {X : Cx} {pins : List (Addr × Obj)} {σ : St} {H : Hp} {s : Shared} {E : Value → Shared → Prop}
theorem Inv.wish (I : Inv X pins σ H s) (E : Value → Shared → Prop) : Inv (X.wish E) pins σ H s := ⟨I.ok.wish E, I.os, I.bare, I.base, I.loc, I.cell, I.free, I.freeC, I.pin, I.hok, I.len⟩
theorem Inv.unwish (I : Inv (X.wish E) pins σ H s) : Inv X pins σ H s := ⟨I.ok.unwish, I.os, I.bare, I.base, I.loc, I.cell, I.free, I.freeC, I.pin, I.hok, I.len⟩
theorem SP.unwish {D : Ends} {f : Flow} {s' : Shared} (h : SP (X.wish E) pins D f s') : SP X pins D f s' := by
  cases f with
  | next => obtain ⟨σ', H', I, q⟩ := h; exact ⟨σ', H', I.unwish, q⟩
  | brk => obtain ⟨σ', H', I, q⟩ := h; exact ⟨σ', H', I.unwish, q⟩
  | cont => obtain ⟨σ', H', I, q⟩ := h; exact ⟨σ', H', I.unwish, q⟩
  | ret u => obtain ⟨v, σ', H', I, r, q⟩ := h; exact ⟨v, σ', H', I.unwish, r, q⟩
theorem PE.nox {e : Expr} {t : TE} (h : PE X.nox e t) : PE X e t := fun pins s σ H Q I hw =>
  wpAny_mono (h pins s σ H Q (I.wish _) hw) (fun _ _ ⟨v, H', I', r, q⟩ => ⟨v, H', I'.unwish, r, q⟩) fun _ _ z => False.elim z
theorem PT.nox {e : Expr} {t : TT} (h : PT X.nox e t) : PT X e t := fun pins s σ H Q I hw =>
  wpAny_mono (h pins s σ H Q (I.wish _) hw) (fun _ _ ⟨H', I', q⟩ => ⟨H', I'.unwish, q⟩) fun _ _ z => False.elim z
theorem PSs.nox {st : List Stmt} {t : TS} (h : PSs X.nox st t) : PSs X st t := fun pins s σ H D I hw =>
  wpAny_mono (h pins s σ H D (I.wish _) hw) (fun _ _ q => q.unwish) fun _ _ z => False.elim z
end

section
variable {X : Cx} {st : Stmt} {rest : List Stmt} {t u : TS} {e : Expr} {te : TE} {pos : Pos}
def tNext : TS := fun D σ H => D.nx σ H
def tSeq (t u : TS) : TS := fun D σ H => t { D with nx := u D } σ H
theorem pss_nil : PSs X [] tNext := fun _ _ σ H _ I h => wpAny_execs_nil ⟨σ, H, I, h⟩
theorem pss_cons (h1 : PS X st t) (h2 : PSs X rest u) : PSs X (st :: rest) (tSeq t u) := by
  intro pins s σ H D I h
  refine wpAny_execs_cons (thn (h1 pins s σ H { D with nx := u D } I h) fun f s1 q => ?_)
  cases f with
  | next =>
    obtain ⟨σ', H', I', q⟩ := q
    exact h2 pins s1 σ' H' D I' q
  | ret v => exact q
  | brk => exact q
  | cont => exact q
theorem pss_one (h1 : PS X st t) : PSs X [st] t := by
  intro pins s σ H D I h
  refine wpAny_execs_cons (thn (h1 pins s σ H D I h) fun f s1 q => ?_)
  cases f with
  | next => exact wpAny_execs_nil q
  | ret v => exact q
  | brk => exact q
  | cont => exact q
theorem Inv.quiet {pins : List (Addr × Obj)} {σ : St} {H : Hp} {s : Shared} (I : Inv X pins σ H s) : interactive X.env = false := by simp [interactive, I.ok.kind]
def tDrop (te : TE) : TS := fun D σ H => te σ H fun _ H1 => D.nx σ H1
theorem ps_expr (he : PE X e te) (hs : swapsWith e none pos.line X.env = pure false := by rfl) : PS X (.Expr e pos) (tDrop te) := by
  intro pins s σ H D I h
  exact wpAny_Expr_any (thn (he pins s σ H _ I h) fun v s1 ⟨x, H1, I1, r1, q1⟩ => ⟨σ, H1, I1, q1⟩) I.quiet hs
def tRet (te : TE) : TS := fun D σ H => te σ H D.rt
theorem ps_ret (he : PE X e te) : PS X (.Return (some e) pos) (tRet te) := by
  intro pins s σ H D I h
  exact wpAny_Return_some (thn (he pins s σ H _ I h) fun v s1 ⟨x, H1, I1, r1, q1⟩ => ⟨x, σ, H1, I1, r1, q1⟩)
def tIfS (c : TT) (t u : TS) : TS := fun D σ H => c σ H fun b H1 => if b = true then t D σ H1 else u D σ H1
theorem ps_if {c : Expr} {a b : List Stmt} {tc : TT} (hc : PT X c tc) (ha : PSs X a t) (hb : PSs X b u) : PS X (.If c a b pos) (tIfS tc t u) := by
  intro pins s σ H D I h
  refine wpAny_If (thn (hc pins s σ H _ I h) fun d s1 ⟨H1, I1, q1⟩ => ?_)
  cases d with
  | true => exact ha pins s1 σ H1 D I1 q1
  | false => exact hb pins s1 σ H1 D I1 q1
end

abbrev TG := V → St → Hp → (St → Hp → Prop) → Prop
abbrev TGs := List V → St → Hp → (St → Hp → Prop) → Prop
def PG (X : Cx) (target : Expr) (t : TG) : Prop :=
  ∀ (pins : List (Addr × Obj)) (s : Shared) (σ : St) (H : Hp) (v : V) (u : Value) (Q : St → Hp → Prop), Inv X pins σ H s → RelV v u → t v σ H Q →
    wpAny (model X.prog X.w) X.A (assign target X.env u) (fun _ s' => ∃ σ' H', Inv X pins σ' H' s' ∧ Q σ' H') X.xe s
abbrev TSet := V → V → V → Hp → (Hp → Prop) → Prop
def PSet (X : Cx) (t : TSet) : Prop :=
  ∀ (pins : List (Addr × Obj)) (s : Shared) (σ : St) (H : Hp) (o i v : V) (ov iv u : Value) (Q : Hp → Prop), Inv X pins σ H s → RelV o ov → RelV i iv → RelV v u → t o i v H Q →
    wpAny (model X.prog X.w) X.A (setItem ov iv u) (fun _ s' => ∃ H', Inv X pins σ H' s' ∧ Q H') X.xe s
section
variable {X : Cx} {pos : Pos}
def gName (i : Nat) : TG := fun v σ H Q => Q (σ.set i (some v)) H
theorem pg_name {i : Nat} {x : Str} (hN : X.N.Nodup) (hi : X.N[i]? = some x) (hx : Loc X.env.scope x) (hf : X.fn x = true ∨ X.env.scope.names.lookup x = some .local := by first | exact .inl rfl | exact .inr rfl | assumption) : PG X (.Name x pos) (gName i) := by
  intro pins s σ H v u Q I r h
  exact wpAny_assign_Name (store_ok I hN hi hx r (fun s' I' => ⟨_, H, I', h⟩) hf)
def gSub (to ti : TE) (t : TSet) : TG := fun v σ H Q => to σ H fun o H1 => ti σ H1 fun i H2 => t o i v H2 fun H3 => Q σ H3
theorem pg_sub {o i : Expr} {to ti : TE} {t : TSet} (ho : PE X o to) (hi : PE X i ti) (hs : PSet X t)
    (ha : ∀ v, assign (.Subscript o i pos) X.env v = (do
      let ov ← holding [v] (eval o X.env)
      let iv ← holding [v, ov] (eval i X.env)
      standAt pos
      holding [v, ov, iv] (setItem ov iv v)
      release [v, ov, iv] []) := by intro _; rfl) : PG X (.Subscript o i pos) (gSub to ti t) := by
  intro pins s σ H v u Q I r h
  rw [ha]
  refine wpAny_bind (wpAny_holding (thn (ho pins s σ H _ I h) fun ov s1 ⟨x, H1, I1, r1, q1⟩ => ?_))
  refine wpAny_bind (wpAny_holding (thn (hi pins s1 σ H1 _ I1 q1) fun iv s2 ⟨y, H2, I2, r2, q2⟩ => ?_))
  refine wpAny_bind (wpAny_standAt (wpAny_bind (wpAny_holding (thn (hs pins s2 σ H2 x y v ov iv u _ I2 r1 r2 r q2) fun _ s3 ⟨H3, I3, q3⟩ => ?_))))
  exact wpAny_release ⟨σ, H3, I3, q3⟩
def tAsg (te : TE) (g : TG) : TS := fun D σ H => te σ H fun x H1 => g x σ H1 D.nx
theorem ps_asg {tg e : Expr} {te : TE} {g : TG} (he : PE X e te) (hg : PG X tg g) (hs : swapsWithSole [tg] e pos.line X.env = pure false := by rfl) (hw : swappedStores [tg] e X.env = pure none := by rfl)
    (h1 : (assignEach [tg] X.env).map (·.2) = [assign tg X.env] := by rfl) : PS X (.Assign [tg] e pos) (tAsg te g) := by
  intro pins s σ H D I h
  refine wpAny_Assign_stores (thn (he pins s σ H _ I h) fun v s1 ⟨x, H1, I1, r1, q1⟩ => ?_) hs hw
  rw [h1]
  exact thn (hg pins s1 σ H1 x v _ I1 r1 q1) fun _ s2 q => q
end

section
variable {X : Cx} {pos : Pos}
end

structure It where
  go : Nat → Hp → Prop
  yld : Nat → Hp → V → Hp → Prop
  stop : Nat → Hp → Prop
def FpOk (X : Cx) (pins : List (Addr × Obj)) (H : Hp) (b : Addr) : Prop :=
  H b = none ∧ b ≠ X.env.locals ∧ b ∉ X.fs ∧ (b ∈ X.ex ∨ X.s₀.heap.objs.size ≤ b) ∧ (∀ x c, X.env.cells.lookup x = some c → c ≠ b) ∧ ∀ p ∈ X.pn ++ pins, p.1 ≠ b
theorem Inv.fpOk {X : Cx} {pins : List (Addr × Obj)} {σ : St} {H H' : Hp} {s : Shared} {b : Addr} (I : Inv X pins σ H s) (hb : s.heap.objs.size ≤ b) (hn : H' b = none) : FpOk X pins H' b := by
  refine ⟨hn, Nat.ne_of_gt (Nat.lt_of_lt_of_le I.lt hb), I.nofs hb, .inr (Nat.le_trans I.sz hb), fun x c e z => ?_, fun p hp z => ?_⟩
  · obtain ⟨v, q⟩ := I.cell x c e
    exact absurd (Nat.lt_of_lt_of_le q.lt (by rw [z]; exact hb)) (Nat.lt_irrefl _)
  · exact absurd (Nat.lt_of_lt_of_le (Heap.lt_size (I.pin p hp).1) (by rw [z]; exact hb)) (Nat.lt_irrefl _)
structure Turn (P : Program) (w : World) (K : PySem.W.Frag) (tg : Expr) (J : It) (fp : List Addr) (it : Addr) (tn : Nat → Heap → Prop) : Prop where
  mem : it ∈ fp
  obj : ∀ i h, tn i h → ∀ b ∈ fp, ∃ o, h.get? b = some o ∧ ∀ v, o.data ≠ .cell v
  keep : ∀ i h h', tn i h → (∀ b ∈ fp, ∀ o, h.get? b = some o → h'.get? b = some o) → tn i h'
  item : ∀ (X : Cx), X.prog = P → X.w = w → X.K = K → X.calm = true → ∀ (i : Nat) (pins : List (Addr × Obj)) (s : Shared) (σ : St) (H : Hp) (E : Value → Shared → Prop), Inv X pins σ H s → (∀ b ∈ fp, FpOk X pins H b) → tn i s.heap → J.go i H →
    wpAny (model P w) X.A (pyNext (.ref it)) (fun r s1 => ∃ u, r = some u ∧
      wpAny (model P w) X.A (letOwnedTupleGo tg (.ref it) u) (fun _ s2 => ∃ x H', Inv X pins σ H' s2 ∧ RelV x u ∧ J.yld i H x H' ∧ tn (i + 1) s2.heap ∧ ∀ b ∈ fp, H' b = none) E s1) E s
  done : ∀ (X : Cx), X.prog = P → X.w = w → X.K = K → X.calm = true → ∀ (i : Nat) (pins : List (Addr × Obj)) (s : Shared) (σ : St) (H : Hp) (E : Value → Shared → Prop), Inv X pins σ H s → (∀ b ∈ fp, FpOk X pins H b) → tn i s.heap → J.stop i H →
    wpAny (model P w) X.A (pyNext (.ref it)) (fun r s1 => r = none ∧ Inv X pins σ H s1) E s
  self : ∀ (A : Around) (i : Nat) (s : Shared) (Q : Value → Shared → Prop) (E : Value → Shared → Prop), tn i s.heap → Q (.ref it) s → wpAny (model P w) A (pyIter (.ref it)) Q E s
abbrev TI := St → Hp → (It → Hp → Prop) → Prop
def PIE (X : Cx) (pins : List (Addr × Obj)) (σ : St) (tg : Expr) (R : It → Hp → Prop) (itv : Value) (s2 : Shared) : Prop :=
  ∃ (it : Addr) (fp : List Addr) (tn : Nat → Heap → Prop) (J : It) (H' : Hp), itv = .ref it ∧ Inv X pins σ H' s2 ∧ Turn X.prog X.w X.K tg J fp it tn ∧ tn 0 s2.heap ∧ (∀ b ∈ fp, FpOk X pins H' b) ∧ R J H'
def PI (X : Cx) (tg iter : Expr) (wi : TI) : Prop :=
  ∀ (pins : List (Addr × Obj)) (s : Shared) (σ : St) (H : Hp) (R : It → Hp → Prop), Inv X pins σ H s → wi σ H R →
    wpAny (model X.prog X.w) X.A (eval iter X.env) (fun v s1 => wpAny (model X.prog X.w) X.A (pyIter v) (PIE X pins σ tg R) X.xe s1) X.xe s

theorem go_of {M : Model} {A : Around} {E : Value → Shared → Prop} {s : Shared} {tg : Expr} {it : Addr} {u : Value} {o : Obj} {n : String} {vs : Array Value} {Q : Unit → Shared → Prop} (ho : s.heap.get? it = some o) (hc : o.cls = .type n) (hd : o.data = .fields vs)
    (hn : ["enumerate", "zip", "dict_itemiterator", "dict_reverseitemiterator", "odict_iterator", "itertools.zip_longest", "itertools.pairwise"].contains n = false) (hQ : Q () s) : wpAny M A (letOwnedTupleGo tg (.ref it) u) Q E s := by
  unfold letOwnedTupleGo
  cases tg <;> first
    | exact wpAny_pure hQ
    | (cases u <;> first
        | exact wpAny_pure hQ
        | (refine wpAny_bind (wpAny_load ho ?_)
           rw [hc, hd]
           show wpAny M A (if (["enumerate", "zip", "dict_itemiterator", "dict_reverseitemiterator", "odict_iterator", "itertools.zip_longest", "itertools.pairwise"].contains n && vs[0]? == some (rawInt _)) = true then _ else _) Q E s
           rw [if_neg (by intro h; rw [hn, Bool.false_and] at h; cases h)]
           exact wpAny_pure hQ))

def Itl (K : PySem.W.Frag) (a : Addr) : It :=
  ⟨fun i H => ∃ xs x, SqL K H a xs ∧ xs[i]? = some x, fun i H x H' => H' = H ∧ ∀ xs, SqL K H a xs → xs[i]? = some x, fun i H => ∃ xs, SqL K H a xs ∧ xs.length ≤ i⟩
def Itr (lo : Int) (n : Nat) : It := ⟨fun i _ => i < n, fun i H x H' => H' = H ∧ x = .int (lo + i), fun i _ => n ≤ i⟩
theorem turn_list {P : Program} {w : World} {K : PySem.W.Frag} {tg : Expr} (a it : Addr) : Turn P w K tg (Itl K a) [it] it (fun i h => h.IsListIter it a i) where
  mem := by simp
  obj := fun i h st b hb => by
    have e : b = it := by simpa using hb
    subst e
    obtain ⟨o, e, c, d⟩ := st
    exact ⟨o, e, fun v z => by rw [d] at z; cases z⟩
  keep := fun i h h' st k => st.at fun o e => k it (by simp) o e
  item := by
    intro X hP hw hK hc i pins s σ H E I hf st hg
    subst hP hw hK
    obtain ⟨xs, x, hq, hx⟩ := hg
    obtain ⟨its, rv, p, hz⟩ := I.list hq
    obtain ⟨u, hu, ru⟩ := rv.get hx
    obtain ⟨f0, f1, f2, f3, f4, f5⟩ := hf it (by simp)
    refine wpAny_pyNext_list_item st p.isList (x := u) (by simpa using hu) fun h' st' sb => ?_
    have I1 : Inv X pins σ H { s with heap := h' } := I.turned (t' := s.toks) (fun b o hb e => (sb.2 b hb).trans e) f0 f1 f3 f4 f5
    obtain ⟨o, e, c, d⟩ := id st'
    exact ⟨u, rfl, go_of (s := { s with heap := h' }) e c d (by decide) ⟨x, H, I1, ru, ⟨rfl, fun ys hy => by rw [I.list_inj hy hq]; exact hx⟩, st', fun b hb => (hf b hb).1⟩⟩
  done := by
    intro X hP hw hK hc i pins s σ H E I hf st hg
    subst hP hw hK
    obtain ⟨xs, hq, hx⟩ := hg
    obtain ⟨its, rv, p, hz⟩ := I.list hq
    obtain ⟨f0, f1, f2, f3, f4, f5⟩ := hf it (by simp)
    have hl := rv.length
    exact wpAny_pyNext_list_end (I.ok.hd hc) st p.isList (by simp; omega) fun h' eb => ⟨rfl, I.turned (t' := s.toks) (fun b o hb e => eb b o hb e) f0 f1 f3 f4 f5⟩
  self := fun _ _ _ _ _ st h => wpAny_pyIter_listiter st h
theorem turn_range {P : Program} {w : World} {K : PySem.W.Frag} {tg : Expr} (it : Addr) (lo : Int) (n : Nat) : Turn P w K tg (Itr lo n) [it] it (fun i h => IsRangeIter h it (lo + (i : Nat) * 1) ((n : Int) - (i : Nat)) 1) where
  mem := by simp
  obj := fun i h st b hb => by
    have e : b = it := by simpa using hb
    subst e
    exact ⟨_, st, fun v z => by
      have z' : Data.fields _ = Data.cell v := z
      cases z'⟩
  keep := fun i h h' st k => k it (by simp) _ st
  item := by
    intro X hP hw hK hc i pins s σ H E I hf st hg
    subst hP hw hK
    obtain ⟨f0, f1, f2, f3, f4, f5⟩ := hf it (by simp)
    have W := Walks.range (prog := X.prog) (w := X.w) (I.ok.hd hc) it lo 1 n
    refine W.item i s _ _ hg st fun v h' tk hv st' kk => ?_
    obtain ⟨t, rfl⟩ := hv
    have I1 : Inv X pins σ H { s with heap := h', toks := tk } := I.turned (fun b o hb e => kk b o (by simpa using hb) e) f0 f1 f3 f4 f5
    refine ⟨_, rfl, go_of (s := { s with heap := h', toks := tk }) (n := "range_iterator") st' rfl rfl (by decide) ⟨.int (lo + i), H, I1, ⟨t, ?_⟩, ⟨rfl, rfl⟩, st', fun b hb => (hf b hb).1⟩⟩
    rw [Int.mul_one]
  done := by
    intro X hP hw hK hc i pins s σ H E I hf st hg
    subst hP hw hK
    obtain ⟨f0, f1, f2, f3, f4, f5⟩ := hf it (by simp)
    exact wpAny_pyNext_range_end (I.ok.hd hc) st (by have : n ≤ i := hg; omega) fun h' eb => ⟨rfl, I.turned (t' := s.toks) (fun b o hb e => eb b o hb e) f0 f1 f3 f4 f5⟩
  self := fun _ _ _ _ _ st h => wpAny_pyIter_rangeiter st h
end L2

namespace L2
open PySem PySem.Spec PyProof.Rows
section
variable {X : Cx} {tg : Expr}
theorem range_it {pins : List (Addr × Obj)} {σ : St} {H : Hp} {s : Shared} {R : It → Hp → Prop} {E : Value → Shared → Prop} {lo hi : Int} {t u v : Tok} {tk : Nat} (I : Inv X pins σ H s) (h1 : -(2 ^ 62) ≤ lo) (h2 : lo < 2 ^ 62) (h3 : -(2 ^ 62) ≤ hi) (h4 : hi < 2 ^ 62)
    (q : R (Itr lo (hi - lo).toNat) H) : wpAny (model X.prog X.w) X.A (pyIter (.ref s.heap.objs.size)) (PIE X pins σ tg R) E { s with heap := s.heap.push { cls := .type "range", data := .fields #[.int lo t, .int hi u, .int 1 v] }, toks := tk } := by
  refine wpAny_pyIter_range (IsRange.new ..) (small_one h1 h2 h3 h4) ?_
  have I1 : Inv X pins σ H { s with heap := s.heap.push { cls := .type "range", data := .fields #[.int lo t, .int hi u, .int 1 v] }, toks := tk } := I.kept fun b o e => Heap.get?_push_of_some _ e
  refine ⟨(s.heap.push { cls := .type "range", data := .fields #[.int lo t, .int hi u, .int 1 v] }).objs.size, [(s.heap.push { cls := .type "range", data := .fields #[.int lo t, .int hi u, .int 1 v] }).objs.size], _, _, H, rfl,
    I1.kept (t' := tk) fun b o e => Heap.get?_push_of_some _ e, turn_range _ lo (hi - lo).toNat, ?_, fun b hb => ?_, q⟩
  · have e1 : lo + ((0 : Nat) : Int) * 1 = lo := by simp
    have e2 : (((hi - lo).toNat : Nat) : Int) - ((0 : Nat) : Int) = Builtin.Range.rangeSize lo hi 1 := by rw [rangeSize_one]; split <;> omega
    show IsRangeIter _ _ (lo + ((0 : Nat) : Int) * 1) ((((hi - lo).toNat : Nat) : Int) - ((0 : Nat) : Int)) 1
    rw [e1, e2]
    exact Heap.get?_push_size _ rfl
  · have e : b = (s.heap.push { cls := .type "range", data := .fields #[.int lo t, .int hi u, .int 1 v] }).objs.size := by simpa using hb
    subst e
    exact I1.fpOk (Nat.le_refl _) (I1.hok.fresh (Nat.le_refl _))
def tFor (wi : TI) (g : TG) (tb : TS) : TS := fun D σ H => wi σ H fun J H1 => ∃ W : Nat → Nat → St → Hp → Prop, (∃ m, W 0 m σ H1) ∧ ∀ i m σ H, W i m σ H →
  (J.stop i H ∧ D.nx σ H) ∨ (J.go i H ∧ ∃ N : St → Hp → Prop, (∀ σ' H', N σ' H' → ∃ m', m' < m ∧ W (i + 1) m' σ' H') ∧ ∀ x H', J.yld i H x H' → g x σ H' fun σ2 H2 => tb { D with nx := N, ct := N, bk := D.nx } σ2 H2)
def pinsAt (fp : List Addr) (h : Heap) : List (Addr × Obj) := fp.filterMap fun b => (h.get? b).map fun o => (b, o)
theorem mem_pinsAt {fp : List Addr} {h : Heap} {b : Addr} {o : Obj} (hb : b ∈ fp) (e : h.get? b = some o) : (b, o) ∈ pinsAt fp h := List.mem_filterMap.mpr ⟨b, hb, by rw [e]; rfl⟩
theorem of_pinsAt {fp : List Addr} {h : Heap} {p : Addr × Obj} (hp : p ∈ pinsAt fp h) : p.1 ∈ fp ∧ h.get? p.1 = some p.2 := by
  obtain ⟨b, hb, e⟩ := List.mem_filterMap.mp hp
  cases q : h.get? b with
  | none => rw [q] at e; cases e
  | some o =>
    rw [q] at e
    have e' : (b, o) = p := Option.some.inj e
    subst e'
    exact ⟨hb, q⟩
theorem Inv.pinned {pins : List (Addr × Obj)} {σ : St} {H : Hp} {s : Shared} {fp : List Addr} (I : Inv X pins σ H s) (hf : ∀ b ∈ fp, FpOk X pins H b) (ho : ∀ b ∈ fp, ∃ o, s.heap.get? b = some o ∧ ∀ v, o.data ≠ .cell v) : Inv X (pins ++ pinsAt fp s.heap) σ H s :=
  I.pins_of fun p hp => (List.mem_append.mp hp).elim (fun z => I.pin p (List.mem_append_right _ z)) fun z => by
    obtain ⟨hb, e⟩ := of_pinsAt z
    obtain ⟨f0, f1, f2, _⟩ := hf p.1 hb
    obtain ⟨o, e', d⟩ := ho p.1 hb
    rw [e] at e'; cases e'
    exact ⟨e, f0, f1, f2, d⟩
theorem Inv.unpinned {pins pl : List (Addr × Obj)} {σ : St} {H : Hp} {s : Shared} (I : Inv X (pins ++ pl) σ H s) : Inv X pins σ H s := I.pins_of fun p hp => I.pin p (List.mem_append_right _ (List.mem_append_left _ hp))
theorem ps_for {iter : Expr} {body : List Stmt} {wi : TI} {g : TG} {tb : TS} {pos : Pos} (hp : PassesOwn (model X.prog X.w) X.A X.env X.xe) (hc : X.calm = true) (hi : PI X tg iter wi) (hg : PG X tg g) (hb : PSs X body tb)
    (hs : ∀ x, foldedSetIterable iter X.env x = pure x := by intro _; rfl) : PS X (.For tg iter body [] pos) (tFor wi g tb) := by
  intro pins s σ H D I h
  refine wpAny_For (thn (hi pins s σ H _ I h) fun v s1 h1 => thn h1 fun itv s2 h2 => ?_) hs
  obtain ⟨it, fp, tn, J, H2, e, I2, T, st2, f2, W, ⟨m0, w0⟩, turn⟩ := h2
  subst e
  -- what stays true of the iterator's objects through the loop
  have stat : ∀ {H' : Hp}, (∀ b ∈ fp, H' b = none) → ∀ b ∈ fp, FpOk X pins H' b := fun hn b hb => ⟨hn b hb, (f2 b hb).2⟩
  refine codeAny_forLoop_any (fun n s' => ∃ i σ' H', Inv X pins σ' H' s' ∧ tn i s'.heap ∧ (∀ b ∈ fp, H' b = none) ∧ W i n σ' H') ?_ m0 ⟨0, σ, H2, I2, st2, fun b hb => (f2 b hb).1, w0⟩
  rintro n s3 ⟨i, σ3, H3, I3, st3, fr3, w3⟩
  rcases turn i n σ3 H3 w3 with ⟨stop, qn⟩ | ⟨go, N, hN, step⟩
  · refine wpAny_passesOwn hp (thn (T.done X rfl rfl rfl hc i pins s3 σ3 H3 X.xe I3 (stat fr3) st3 stop) fun r s4 ⟨hr, I4⟩ => ?_)
    subst hr
    exact wpAny_execs_nil ⟨σ3, H3, I4, qn⟩
  · refine wpAny_passesOwn hp (thn (T.item X rfl rfl rfl hc i pins s3 σ3 H3 X.xe I3 (stat fr3) st3 go) fun r s4 ⟨u, hr, h4⟩ => ?_)
    subst hr
    refine wpAny_passesOwn hp (thn h4 fun _ s5 ⟨x, H5, I5, r5, y5, st5, fr5⟩ => ?_)
    have I5' := I5.pinned (stat fr5) (T.obj _ _ st5)
    refine wpAny_passesOwn hp (thn (hg _ s5 σ3 H5 x u _ I5' r5 (step x H5 y5)) fun _ s6 ⟨σ6, H6, I6, q6⟩ => ?_)
    refine wpAny_passesOwn hp (thn (hb _ s6 σ6 H6 _ I6 q6) fun f s7 q7 => ?_)
    have again : ∀ {σ7 : St} {H7 : Hp}, Inv X (pins ++ pinsAt fp s5.heap) σ7 H7 s7 → N σ7 H7 → ∃ m, m < n ∧ ∃ i σ' H', Inv X pins σ' H' s7 ∧ tn i s7.heap ∧ (∀ b ∈ fp, H' b = none) ∧ W i m σ' H' := fun {σ7 H7} I7 n7 => by
      obtain ⟨m', hm, w7⟩ := hN σ7 H7 n7
      refine ⟨m', hm, i + 1, σ7, H7, I7.unpinned, T.keep _ _ _ st5 fun b hb o e => (I7.pin (b, o) (List.mem_append_right _ (List.mem_append_right _ (mem_pinsAt hb e)))).1, fun b hb => ?_, w7⟩
      obtain ⟨o, e, d⟩ := T.obj _ _ st5 b hb
      exact (I7.pin (b, o) (List.mem_append_right _ (List.mem_append_right _ (mem_pinsAt hb e)))).2.1
    cases f with
    | next => obtain ⟨σ7, H7, I7, n7⟩ := q7; exact again I7 n7
    | cont => obtain ⟨σ7, H7, I7, n7⟩ := q7; exact again I7 n7
    | brk => obtain ⟨σ7, H7, I7, q7⟩ := q7; exact ⟨σ7, H7, I7.unpinned, q7⟩
    | ret v => obtain ⟨x7, σ7, H7, I7, r7, q7⟩ := q7; exact ⟨x7, σ7, H7, I7.unpinned, r7, q7⟩
end

end L2

namespace L2
open PySem PySem.Spec PyProof.Rows

abbrev R2 := V → V → Hp → VK → Prop
def OpR (X : Cx) (f : Value → Value → Sem Value) (r : R2) : Prop :=
  ∀ (pins : List (Addr × Obj)) (s : Shared) (σ : St) (H : Hp) (x y : V) (v u : Value) (Q : VK), Inv X pins σ H s → RelV x v → RelV y u → r x y H Q →
    wpAny (model X.prog X.w) X.A (f v u) (EP X pins σ Q) X.xe s
def UnR (X : Cx) (f : Value → Sem Value) (r : V → Hp → VK → Prop) : Prop :=
  ∀ (pins : List (Addr × Obj)) (s : Shared) (σ : St) (H : Hp) (x : V) (v : Value) (Q : VK), Inv X pins σ H s → RelV x v → r x H Q →
    wpAny (model X.prog X.w) X.A (f v) (EP X pins σ Q) X.xe s
def CallR (X : Cx) (f : Value) (r : List V → Hp → VK → Prop) : Prop :=
  ∀ (pins : List (Addr × Obj)) (s : Shared) (σ : St) (H : Hp) (xs : List V) (us : List Value) (Q : VK), Inv X pins σ H s → Vals xs us → r xs H Q →
    wpAny (model X.prog X.w) X.A (call f us) (EP X pins σ Q) X.xe s
def TruR (X : Cx) (r : V → Hp → (Bool → Hp → Prop) → Prop) : Prop :=
  ∀ (pins : List (Addr × Obj)) (s : Shared) (σ : St) (H : Hp) (x : V) (v : Value) (Q : Bool → Hp → Prop), Inv X pins σ H s → RelV x v → r x H Q →
    wpAny (model X.prog X.w) X.A (truthy v) (TP X pins σ Q) X.xe s

def tOp (r : R2) (ta tb : TE) : TE := fun σ H Q => ta σ H fun x H1 => tb σ H1 fun y H2 => r x y H2 Q
def tUn (r : V → Hp → VK → Prop) (ta : TE) : TE := fun σ H Q => ta σ H fun x H1 => r x H1 Q
def rI (C : Int → Int → Prop) (g : Int → Int → V) : R2 := fun x y H Q => ∃ i j, x = .int i ∧ y = .int j ∧ C i j ∧ Q (g i j) H
def rI0 (g : Int → Int → V) : R2 := fun x y H Q => ∃ i j, x = .int i ∧ y = .int j ∧ Q (g i j) H
def rU (g : Int → V) : V → Hp → VK → Prop := fun x H Q => ∃ i, x = .int i ∧ Q (g i) H

section
variable {X : Cx} {a b c : Expr} {ta tb tc : TE} {pos : Pos}

theorem binT (ha : PE X a ta) (hb : PE X b tb) {pins : List (Addr × Obj)} {s : Shared} {σ : St} {H : Hp} {R : V → V → Hp → Prop} (I : Inv X pins σ H s)
    (h : ta σ H fun x H1 => tb σ H1 fun y H2 => R x y H2) {Q : Value → Shared → Prop} {f : Value → Value → Sem Value}
    (hf : ∀ v u s2 x y H2, Inv X pins σ H2 s2 → RelV x v → RelV y u → R x y H2 → wpAny (model X.prog X.w) X.A (f v u) Q X.xe s2) :
    wpAny (model X.prog X.w) X.A (eval a X.env) (fun v s₁ => wpAny (model X.prog X.w) X.A (eval b X.env) (fun u s₂ => wpAny (model X.prog X.w) X.A (f v u) Q X.xe s₂) X.xe s₁) X.xe s := by
  refine thn (ha pins s σ H _ I h) fun v s1 ⟨x, H1, I1, r1, q1⟩ => ?_
  refine thn (hb pins s1 σ H1 _ I1 q1) fun u s2 ⟨y, H2, I2, r2, q2⟩ => ?_
  exact hf v u s2 x y H2 I2 r1 r2 q2

theorem pe_op {op : Operator} {r : R2} (ho : OpR X (binaryOp op) r) (ha : PE X a ta) (hb : PE X b tb) : PE X (.BinOp a op b pos) (tOp r ta tb) := by
  intro pins s σ H Q I h
  exact wpAny_BinOp (binT ha hb I h fun v u s2 x y H2 I2 rx ry q => ho pins s2 σ H2 x y v u Q I2 rx ry q)
theorem pe_un {op : UnaryOp} {r : V → Hp → VK → Prop} (ho : UnR X (unaryOp op) r) (ha : PE X a ta) : PE X (.UnaryOp op a pos) (tUn r ta) := by
  intro pins s σ H Q I h
  exact UnaryOp_ (thn (ha pins s σ H _ I h) fun v s1 ⟨x, H1, I1, r1, q1⟩ => ho pins s1 σ H1 x v Q I1 r1 q1)
theorem opI {f : Value → Value → Sem Value} {C : Int → Int → Prop} {g : Int → Int → Int}
    (rule : ∀ (i j : Int) (t u : Tok) (s : Shared) (Q : Value → Shared → Prop) (E : Value → Shared → Prop), C i j → Q (.int (g i j) s.toks) { s with toks := s.toks + 1 } → wpAny (model X.prog X.w) X.A (f (.int i t) (.int j u)) Q E s) :
    OpR X f (rI C fun i j => .int (g i j)) := by
  intro pins s σ H x y v u Q I rx ry h
  obtain ⟨i, j, rfl, rfl, hc, q⟩ := h
  obtain ⟨t, rfl⟩ := rx
  obtain ⟨t', rfl⟩ := ry
  exact rule i j t t' s _ _ hc ⟨.int (g i j), H, I.tok _, ⟨_, rfl⟩, q⟩
theorem opI0 {f : Value → Value → Sem Value} {g : Int → Int → Int}
    (rule : ∀ (i j : Int) (t u : Tok) (s : Shared) (Q : Value → Shared → Prop) (E : Value → Shared → Prop), Q (.int (g i j) s.toks) { s with toks := s.toks + 1 } → wpAny (model X.prog X.w) X.A (f (.int i t) (.int j u)) Q E s) :
    OpR X f (rI0 fun i j => .int (g i j)) := by
  intro pins s σ H x y v u Q I rx ry h
  obtain ⟨i, j, rfl, rfl, q⟩ := h
  obtain ⟨t, rfl⟩ := rx
  obtain ⟨t', rfl⟩ := ry
  exact rule i j t t' s _ _ ⟨.int (g i j), H, I.tok _, ⟨_, rfl⟩, q⟩
theorem opB0 {f : Value → Value → Sem Value} {g : Int → Int → Bool}
    (rule : ∀ (i j : Int) (t u : Tok) (s : Shared) (Q : Value → Shared → Prop) (E : Value → Shared → Prop), Q (.bool (g i j)) s → wpAny (model X.prog X.w) X.A (f (.int i t) (.int j u)) Q E s) :
    OpR X f (rI0 fun i j => .bl (g i j)) := by
  intro pins s σ H x y v u Q I rx ry h
  obtain ⟨i, j, rfl, rfl, q⟩ := h
  obtain ⟨t, rfl⟩ := rx
  obtain ⟨t', rfl⟩ := ry
  exact rule i j t t' s _ _ ⟨.bl (g i j), H, I, rfl, q⟩

def CDiv (i j : Int) : Prop := 0 < j ∧ j < 1073741824
def CPow (i j : Int) : Prop := 0 ≤ j ∧ j ≤ 1000000 ∧ i.natAbs < 2 ^ 64
def CMul (i j : Int) : Prop := (-(2 ^ 64) < i ∧ i < 2 ^ 64) ∨ (-(2 ^ 64) < j ∧ j < 2 ^ 64)
theorem CMul.ok {i j : Int} (h : CMul i j) : IntMulOk i j := by
  rcases h with ⟨h1, h2⟩ | ⟨h1, h2⟩
  · exact .of_left (intBits_le_64 h1 h2)
  · exact .of_right (intBits_le_64 h1 h2)
theorem two_pow_nn (k : Nat) : (0 : Int) ≤ 2 ^ k := by
  rw [two_pow_cast]
  exact Int.natCast_nonneg _

theorem op_add : OpR X (binaryOp .Add) (rI0 fun i j => .int (i + j)) := opI0 fun _ _ _ _ _ _ _ q => add_int q
theorem op_sub : OpR X (binaryOp .Sub) (rI0 fun i j => .int (i - j)) := opI0 fun _ _ _ _ _ _ _ q => sub_int q
theorem op_mul : OpR X (binaryOp .Mult) (rI CMul fun i j => .int (i * j)) := opI fun _ _ _ _ _ _ _ hc q => mul_int q hc.ok
theorem op_fdiv : OpR X (binaryOp .FloorDiv) (rI CDiv fun i j => .int (i / j)) := opI fun i j _ _ _ _ _ hc q => by
  have h1 : (0 : Int) < j := hc.1
  have h2 : j < 1073741824 := hc.2
  exact floordiv_int (by omega) (by rw [Int.fdiv_eq_ediv_of_nonneg i (by omega)]; exact q) (.inl (PyProof.noPylong_small (by omega)))
theorem op_mod : OpR X (binaryOp .Mod) (rI (fun _ j => 0 < j) fun i j => .int (i % j)) := opI fun i j _ _ _ _ _ hc q => by
  have h1 : (0 : Int) < j := hc
  exact mod_int' (by omega) (by rw [Int.fmod_eq_emod_of_nonneg i (by omega)]; exact q)
theorem op_pow : OpR X (binaryOp .Pow) (rI CPow fun i j => .int (i ^ j.toNat)) := opI fun _ _ _ _ _ _ _ hc q => pow_int_small hc.1 hc.2.1 hc.2.2 q
theorem op_shr : OpR X (binaryOp .RShift) (rI (fun _ j => 0 ≤ j) fun i j => .int (i / 2 ^ j.toNat)) := opI fun i j _ _ _ _ _ hc q =>
  rshift_int hc (by rw [Int.fdiv_eq_ediv_of_nonneg i (two_pow_nn _)]; exact q)
theorem op_and : OpR X (binaryOp .BitAnd) (rI0 fun i j => .int (Builtin.bitAnd i j)) := opI0 fun _ _ _ _ _ _ _ q => and_int q
theorem unI {f : Value → Sem Value} {g : Int → Int}
    (rule : ∀ (i : Int) (t : Tok) (s : Shared) (Q : Value → Shared → Prop) (E : Value → Shared → Prop), Q (.int (g i) s.toks) { s with toks := s.toks + 1 } → wpAny (model X.prog X.w) X.A (f (.int i t)) Q E s) :
    UnR X f (rU fun i => .int (g i)) := by
  intro pins s σ H x v Q I rx h
  obtain ⟨i, rfl, q⟩ := h
  obtain ⟨t, rfl⟩ := rx
  exact rule i t s _ _ ⟨.int (g i), H, I.tok _, ⟨_, rfl⟩, q⟩
theorem un_neg : UnR X (unaryOp .USub) (rU fun i => .int (-i)) := unI fun _ _ _ _ _ q => neg_int q
end

def scal : V → V → Bool
  | .non, .non => true | .non, .int _ => true | .int _, .non => true | .non, .bl _ => true | .bl _, .non => true | .non, .str _ => true | .str _, .non => true
  | .int _, .int _ => true | .bl _, .bl _ => true | .str _, .str _ => true | .byt _, .byt _ => true
  | .int _, .str _ => true | .str _, .int _ => true | .bl _, .str _ => true | .str _, .bl _ => true
  | _, _ => false
def rEq : R2 := fun x y H Q => scal x y = true ∧ Q (.bl (decide (x = y))) H
def rNe : R2 := fun x y H Q => scal x y = true ∧ Q (.bl (!decide (x = y))) H

theorem dec_int {i j : Int} : decide (V.int i = V.int j) = (i == j) := by
  rw [Bool.eq_iff_iff]
  simp
theorem dec_bl {i j : Bool} : decide (V.bl i = V.bl j) = (i == j) := by
  rw [Bool.eq_iff_iff]
  simp
theorem dec_str {i j : Str} : decide (V.str i = V.str j) = (i == j) := by
  rw [Bool.eq_iff_iff]
  simp
theorem dec_byt {i j : Array UInt8} : decide (V.byt i = V.byt j) = (i.toList == j.toList) := by
  rw [Bool.eq_iff_iff]
  cases i
  cases j
  simp

section
variable {X : Cx} {a b c : Expr} {ta tb tc : TE} {pos : Pos}
theorem fin_bl {pins : List (Addr × Obj)} {σ : St} {H : Hp} {s : Shared} {Q : VK} {k k' : Bool} (I : Inv X pins σ H s) (q : Q (.bl k) H) (e : k = k') : EP X pins σ Q (.bool k') s := by
  subst e
  exact ⟨.bl k, H, I, rfl, q⟩
theorem op_eq : OpR X (compareOp .Eq) rEq := by
  intro pins s σ H x y v u Q I rx ry h
  obtain ⟨hs, q⟩ := h
  cases x with
  | non =>
    cases rx
    cases y with
    | non => cases ry; exact PySem.EqNone.eq_none_none (fin_bl I q (by simp))
    | bl j => cases ry; exact PySem.EqNone.eq_none_bool (fin_bl I q (by simp))
    | int j => obtain ⟨t', rfl⟩ := ry; exact PySem.EqNone.eq_none_int (fin_bl I q (by simp))
    | str j => obtain ⟨t', rfl⟩ := ry; exact PySem.EqNone.eq_none_str (fin_bl I q (by simp))
    | _ => exact absurd (show false = true from hs) Bool.false_ne_true
  | bl i =>
    cases rx
    cases y with
    | non => cases ry; exact PySem.EqNone.eq_bool_none (fin_bl I q (by simp))
    | bl j => cases ry; exact eq_bool (fin_bl I q dec_bl)
    | str j => obtain ⟨t', rfl⟩ := ry; exact PySem.EqMixed.eq_bool_str (fin_bl I q (by simp))
    | _ => exact absurd (show false = true from hs) Bool.false_ne_true
  | int i =>
    obtain ⟨t, rfl⟩ := rx
    cases y with
    | non => cases ry; exact PySem.EqNone.eq_int_none (fin_bl I q (by simp))
    | int j => obtain ⟨t', rfl⟩ := ry; exact eq_int (fin_bl I q dec_int)
    | str j => obtain ⟨t', rfl⟩ := ry; exact PySem.EqMixed.eq_int_str (fin_bl I q (by simp))
    | _ => exact absurd (show false = true from hs) Bool.false_ne_true
  | str i =>
    obtain ⟨t, rfl⟩ := rx
    cases y with
    | non => cases ry; exact PySem.EqNone.eq_str_none (fin_bl I q (by simp))
    | bl j => cases ry; exact PySem.EqMixed.eq_str_bool (fin_bl I q (by simp))
    | int j => obtain ⟨t', rfl⟩ := ry; exact PySem.EqMixed.eq_str_int (fin_bl I q (by simp))
    | str j => obtain ⟨t', rfl⟩ := ry; exact eq_str (fin_bl I q dec_str)
    | _ => exact absurd (show false = true from hs) Bool.false_ne_true
  | byt i =>
    obtain ⟨t, rfl⟩ := rx
    cases y with
    | byt j => obtain ⟨t', rfl⟩ := ry; exact PySem.W.eq_bytes (fin_bl I q dec_byt)
    | _ => exact absurd (show false = true from hs) Bool.false_ne_true
  | _ => cases y <;> exact absurd (show false = true from hs) Bool.false_ne_true
theorem op_ne : OpR X (compareOp .NotEq) rNe := by
  intro pins s σ H x y v u Q I rx ry h
  obtain ⟨hs, q⟩ := h
  cases x with
  | non =>
    cases rx
    cases y with
    | non => cases ry; exact PySem.EqNone.ne_none_none (fin_bl I q (by simp))
    | bl j => cases ry; exact PySem.EqNone.ne_none_bool (fin_bl I q (by simp))
    | int j => obtain ⟨t', rfl⟩ := ry; exact PySem.EqNone.ne_none_int (fin_bl I q (by simp))
    | str j => obtain ⟨t', rfl⟩ := ry; exact PySem.EqNone.ne_none_str (fin_bl I q (by simp))
    | _ => exact absurd (show false = true from hs) Bool.false_ne_true
  | bl i =>
    cases rx
    cases y with
    | non => cases ry; exact PySem.EqNone.ne_bool_none (fin_bl I q (by simp))
    | bl j => cases ry; exact ne_bool (fin_bl I q (congrArg not dec_bl))
    | str j => obtain ⟨t', rfl⟩ := ry; exact PySem.EqMixed.ne_bool_str (fin_bl I q (by simp))
    | _ => exact absurd (show false = true from hs) Bool.false_ne_true
  | int i =>
    obtain ⟨t, rfl⟩ := rx
    cases y with
    | non => cases ry; exact PySem.EqNone.ne_int_none (fin_bl I q (by simp))
    | int j => obtain ⟨t', rfl⟩ := ry; exact ne_int (fin_bl I q (congrArg not dec_int))
    | str j => obtain ⟨t', rfl⟩ := ry; exact PySem.EqMixed.ne_int_str (fin_bl I q (by simp))
    | _ => exact absurd (show false = true from hs) Bool.false_ne_true
  | str i =>
    obtain ⟨t, rfl⟩ := rx
    cases y with
    | non => cases ry; exact PySem.EqNone.ne_str_none (fin_bl I q (by simp))
    | bl j => cases ry; exact PySem.EqMixed.ne_str_bool (fin_bl I q (by simp))
    | int j => obtain ⟨t', rfl⟩ := ry; exact PySem.EqMixed.ne_str_int (fin_bl I q (by simp))
    | str j => obtain ⟨t', rfl⟩ := ry; exact ne_str (fin_bl I q (congrArg not dec_str))
    | _ => exact absurd (show false = true from hs) Bool.false_ne_true
  | byt i =>
    obtain ⟨t, rfl⟩ := rx
    cases y with
    | byt j => obtain ⟨t', rfl⟩ := ry; exact PySem.W.ne_bytes (fin_bl I q (congrArg not dec_byt))
    | _ => exact absurd (show false = true from hs) Bool.false_ne_true
  | _ => cases y <;> exact absurd (show false = true from hs) Bool.false_ne_true

theorem op_lt : OpR X (compareOp .Lt) (rI0 fun i j => .bl (decide (i < j))) := opB0 fun _ _ _ _ _ _ _ q => lt_int q
theorem op_le : OpR X (compareOp .LtE) (rI0 fun i j => .bl (decide (i ≤ j))) := opB0 fun _ _ _ _ _ _ _ q => le_int q
theorem op_gt : OpR X (compareOp .Gt) (rI0 fun i j => .bl (decide (j < i))) := opB0 fun _ _ _ _ _ _ _ q => gt_int q
theorem op_ge : OpR X (compareOp .GtE) (rI0 fun i j => .bl (decide (j ≤ i))) := opB0 fun _ _ _ _ _ _ _ q => ge_int q
theorem op_notN : OpR X (compareOp .IsNot) (fun x y H Q => y = .non ∧ Q (.bl (!decide (x = .non))) H) := by
  intro pins s σ H x y v u Q I rx ry h
  obtain ⟨rfl, q⟩ := h
  cases ry
  refine isnot_none_gen (fin_bl I q ?_)
  cases x <;> first
    | (cases rx; rfl)
    | (obtain ⟨t, rfl⟩ := rx; rfl)

theorem OpR.or {f : Value → Value → Sem Value} {r r' : R2} (h : OpR X f r) (h' : OpR X f r') : OpR X f (fun x y H Q => r x y H Q ∨ r' x y H Q) := by
  intro pins s σ H x y v u Q I rx ry q
  rcases q with q | q
  · exact h pins s σ H x y v u Q I rx ry q
  · exact h' pins s σ H x y v u Q I rx ry q

theorem nomark (b : Expr) {op : CmpOp} (h : op ≠ .In := by decide) (h2 : op ≠ .NotIn := by decide) : behindInMarks op b = false := by
  have e1 : (op == CmpOp.In) = false := by cases op <;> first | rfl | exact absurd rfl h
  have e2 : (op == CmpOp.NotIn) = false := by cases op <;> first | rfl | exact absurd rfl h2
  cases b <;> simp [behindInMarks, e1, e2]
theorem pe_cmpR {op : CmpOp} {r : R2} (ho : OpR X (compareOp op) r) (ha : PE X a ta) (hb : PE X b tb) (hm : behindInMarks op b = false) : PE X (.Compare a [op] [b] pos) (tOp r ta tb) := by
  intro pins s σ H Q I h
  exact wpAny_Compare1 (binT ha hb I h fun v u s2 x y H2 I2 rx ry q => ho pins s2 σ H2 x y v u Q I2 rx ry q) hm
def TruV (K : PySem.W.Frag) (x : V) (H : Hp) (k : Bool) : Prop :=
  match x with
  | .non => k = false
  | .bl b => k = b
  | .int i => k = (i != 0)
  | .str y => y.length ≤ sizeLine ∧ k = ((y.length : Int) != 0)
  | .byt y => y.size ≤ sizeLine ∧ k = ((y.size : Int) != 0)
  | .ref p => (∃ xs, SqL K H p xs ∧ k = !xs.isEmpty) ∨ (∃ xs, SqT K H p xs ∧ k = !xs.isEmpty) ∨ ∃ kvs, H p = some (.dK kvs) ∧ k = !kvs.isEmpty
  | _ => False
theorem isEmpty_kv {κ : Type} {kvs : List (κ × V)} {vs : List (κ × Value)} (r : KV kvs vs) : (!vs.isEmpty) = !kvs.isEmpty := by
  cases r <;> rfl
theorem isEmpty_of {xs : List V} {its : List Value} (r : Vals xs its) : (!its.toArray.isEmpty) = !xs.isEmpty := by
  cases r <;> simp
theorem line63 : (sizeLine : Nat) < 2 ^ 63 := by rw [sizeLine_eq]; decide
theorem tru_ok : TruR X (fun x H Q => ∃ k, TruV X.K x H k ∧ Q k H) := by
  intro pins s σ H x v Q I rx h
  obtain ⟨k, e, q⟩ := h
  have hl := line63
  have hs : sizeLine = 16777216 := sizeLine_eq
  cases x with
  | non =>
    cases rx
    have e' : k = false := e
    subst e'
    exact truthy_none ⟨H, I, q⟩
  | bl b =>
    cases rx
    have e' : k = b := e
    subst e'
    exact wpAny_truthy_bool ⟨H, I, q⟩
  | int i =>
    obtain ⟨t, rfl⟩ := rx
    have e' : k = (i != 0) := e
    subst e'
    exact PySem.P.truthy_int ⟨H, I, q⟩
  | str y =>
    obtain ⟨t, rfl⟩ := rx
    obtain ⟨hy, e'⟩ : y.length ≤ sizeLine ∧ k = ((y.length : Int) != 0) := e
    subst e'
    exact PySem.P.truthy_str (by omega) ⟨H, I.tok _, q⟩
  | byt y =>
    obtain ⟨t, rfl⟩ := rx
    obtain ⟨hy, e'⟩ : y.size ≤ sizeLine ∧ k = ((y.size : Int) != 0) := e
    subst e'
    exact PySem.W.truthy_bytes (by omega) ⟨H, I.tok _, q⟩
  | ref p =>
    cases rx
    have e' : (∃ xs, SqL X.K H p xs ∧ k = !xs.isEmpty) ∨ (∃ xs, SqT X.K H p xs ∧ k = !xs.isEmpty) ∨ ∃ kvs, H p = some (.dK kvs) ∧ k = !kvs.isEmpty := e
    rcases e' with ⟨xs, hx, e'⟩ | ⟨xs, hx, e'⟩ | ⟨kvs, hx, e'⟩
    · subst e'
      obtain ⟨its, r, pl, hz⟩ := I.list hx
      have hlen := r.length
      exact wpAny_truthy_list pl.isList (by simp only [List.size_toArray]; omega) ⟨H, I.tok _, by rw [isEmpty_of r]; exact q⟩
    · subst e'
      obtain ⟨its, r, pl, hz⟩ := I.tuple hx
      have hlen := r.length
      exact truthy_tuple pl (by simp only [List.size_toArray]; omega) ⟨H, I.tok _, by rw [isEmpty_of r]; exact q⟩
    · subst e'
      obtain ⟨hz, hS, vs, r, m⟩ : kvs.length ≤ sizeLine ∧ (p == sysModules) = false ∧ ∃ vs, KV kvs vs ∧ s.heap.DictOf (mixKind X.prog X.w) p vs := I.hok p _ hx
      have hlen : kvs.length = vs.length := Paired.length r
      exact wpAny_truthy_dict hS m (by omega) ⟨H, I.tok _, by rw [isEmpty_kv r]; exact q⟩
  | _ => exact (show False from e).elim
theorem op_add_str : OpR X (binaryOp .Add) (fun x y H Q => ∃ i j, x = .str i ∧ y = .str j ∧ i.length + j.length ≤ sizeLine ∧ Q (.str (i ++ j)) H) := by
  intro pins s σ H x y v u Q I rx ry h
  obtain ⟨i, j, rfl, rfl, hz, q⟩ := h
  obtain ⟨t, rfl⟩ := rx
  obtain ⟨t', rfl⟩ := ry
  exact add_str (fun t' tk => ⟨.str (i ++ j), H, I.tok _, ⟨_, rfl⟩, q⟩) hz
theorem vals1 {x : V} {us : List Value} (r : Vals [x] us) : ∃ u, us = [u] ∧ RelV x u := by
  cases r with
  | cons r1 r2 => cases r2; exact ⟨_, rfl, r1⟩
theorem vals2 {x y : V} {us : List Value} (r : Vals [x, y] us) : ∃ u w', us = [u, w'] ∧ RelV x u ∧ RelV y w' := by
  cases r with
  | cons r1 r2 =>
    cases r2 with
    | cons r3 r4 => cases r4; exact ⟨_, _, rfl, r1, r3⟩
theorem call_max2 (hc : X.calm = true) : CallR X (.builtin "max") (fun xs H Q => ∃ i j, xs = [.int i, .int j] ∧ Q (.int (if j > i then j else i)) H) := by
  intro pins s σ H xs us Q I r h
  obtain ⟨i, j, rfl, q⟩ := h
  obtain ⟨u, w', rfl, ⟨t, rfl⟩, ⟨t', rfl⟩⟩ := vals2 r
  refine max_two_ints (I.ok.hd hc) fun h' tk k => ⟨_, H, I.kept k, ?_, q⟩
  by_cases hj : j > i
  · rw [if_pos hj, if_pos hj]; exact ⟨_, rfl⟩
  · rw [if_neg hj, if_neg hj]; exact ⟨_, rfl⟩
theorem call_min2 (hc : X.calm = true) : CallR X (.builtin "min") (fun xs H Q => ∃ i j, xs = [.int i, .int j] ∧ Q (.int (if j < i then j else i)) H) := by
  intro pins s σ H xs us Q I r h
  obtain ⟨i, j, rfl, q⟩ := h
  obtain ⟨u, w', rfl, ⟨t, rfl⟩, ⟨t', rfl⟩⟩ := vals2 r
  refine min_two_ints (I.ok.hd hc) fun h' tk k => ⟨_, H, I.kept k, ?_, q⟩
  by_cases hj : j < i
  · rw [if_pos hj, if_pos hj]; exact ⟨_, rfl⟩
  · rw [if_neg hj, if_neg hj]; exact ⟨_, rfl⟩
theorem call_int1 : CallR X (.type "int") (fun xs H Q => (∃ i, xs = [.int i] ∧ Q (.int i) H) ∨ ∃ k, xs = [.bl k] ∧ Q (.int (if k then 1 else 0)) H) := by
  intro pins s σ H xs us Q I r h
  rcases h with ⟨i, rfl, q⟩ | ⟨k, rfl, q⟩
  · obtain ⟨u, rfl, t, rfl⟩ := vals1 r
    exact call_int_int ⟨.int i, H, I, ⟨_, rfl⟩, q⟩
  · obtain ⟨u, rfl, r1⟩ := vals1 r
    cases r1
    exact call_int_bool ⟨.int (if k then 1 else 0), H, I.tok _, ⟨_, rfl⟩, q⟩
end
end L2

namespace L2
open PySem PySem.Spec PyProof.Rows

section
variable {prog : Program} {w : World} {A : Around} {E : Value → Shared → Prop} {s : Shared} {K : PySem.W.Frag} {x dx C f : Addr} {mA : Str → Option Value} {name : Str} {v : Value}

end

section
variable {P : Program} {w : World} {H H' : Hp} {h h' : Heap} {a C dx : Addr} {fs fs' : List (Str × V)}
end

section
variable {X : Cx} {pins : List (Addr × Obj)} {σ : St} {H : Hp} {s : Shared} {a C dx : Addr} {fs : List (Str × V)} {f : Str} {v : V} {A : Around} {E : Value → Shared → Prop}

end

section
variable {X : Cx} {o e value : Expr} {f : Str} {pos pos' tpos : Pos} {ta tv : TE}
end

section
variable {X : Cx} {pins : List (Addr × Obj)} {σ : St} {H : Hp} {s : Shared} {A : Around} {E : Value → Shared → Prop} {Q : Value → Shared → Prop} {c : Value} {b : Bool}
end
end L2

namespace L2
open PySem PySem.Spec PyProof.Rows

structure Room (k : Nat) (A : Around) : Prop where
  hd : A.handled = none
  dp : A.depth + 3 * k + 5 < recursionLimit
  un : A.units + 16 * k + 200 < cLine
theorem Room.mono {j k : Nat} {A : Around} (r : Room k A) (h : j ≤ k) : Room j A := ⟨r.hd, by have := r.dp; omega, by have := r.un; omega⟩
theorem Room.deeper {k : Nat} {A : Around} (r : Room (k + 1) A) (env : Env) : Room k (A.deeper env) :=
  ⟨r.hd, by have := r.dp; show A.depth + 1 + 3 * k + 5 < _; omega, by have := r.un; show A.units + 3 + 16 * k + 200 < _; omega⟩
theorem Room.in1 {k : Nat} {A : Around} (r : Room (k + 1) A) : Room k A.in1 :=
  ⟨r.hd, by have := r.dp; show A.depth + 3 * k + 5 < _; omega, by have := r.un; show A.units + 1 + 16 * k + 200 < _; omega⟩
theorem Room.depth {k : Nat} {A : Around} (r : Room k A) : A.depth < recursionLimit := by have := r.dp; omega
theorem Room.units {k : Nat} {A : Around} (r : Room k A) : A.units + 64 < cLine := by have := r.un; omega
def tNil : TA := fun _ H Q => Q [] H
def tCons (ta : TE) (tr : TA) : TA := fun σ H Q => ta σ H fun x H1 => tr σ H1 fun xs H2 => Q (x :: xs) H2
section
variable {X : Cx} {e : Expr} {es : List Expr} {te : TE} {t : TA} {pos : Pos}
theorem pa_nil : PA X [] tNil := fun _ _ _ _ H Q I h => Calls.spliced_nil ⟨[], H, I, .nil, h⟩
theorem pa_cons (ha : PE X e te) (hr : PA X es t) (hs : starEach (e :: es) X.env = (false, eval e X.env) :: starEach es X.env := by rfl) : PA X (e :: es) (tCons te t) := by
  intro pos pins s σ H Q I h
  rw [hs]
  show wpAny _ _ (spliced ((false, eval e X.env) :: backTo pos (starEach es X.env))) _ _ s
  refine Calls.spliced_cons (thn (ha pins s σ H _ I h) fun u s1 ⟨x, H1, I1, r1, q1⟩ => ?_)
  exact thn (hr pos pins s1 σ H1 _ I1 q1) fun us s2 ⟨xs, H2, I2, r2, q2⟩ => ⟨x :: xs, H2, I2, .cons r1 r2, q2⟩

def tTup (t : TA) : TE := fun σ H Q => t σ H fun xs H1 => xs.length ≤ sizeLine ∧ ∀ p, H1 p = none → Q (.ref p) (upd H1 p (.tup xs))
def tLst (t : TA) : TE := fun σ H Q => t σ H fun xs H1 => xs.length ≤ sizeLine ∧ ∀ p, H1 p = none → Q (.ref p) (upd H1 p (.lst xs))
theorem pe_tup {x1} (h : PA X es t) : PE X (.Tuple es x1 pos) (tTup t) := by
  intro pins s σ H Q I hq
  refine wpAny_Tuple_spliced (thn (h pos pins s σ H _ I hq) fun us s1 ⟨xs, H1, I1, r, z, q⟩ => ⟨by rw [← r.length]; exact z, ?_⟩)
  have hf : H1 s1.heap.objs.size = none := I1.hok.fresh (Nat.le_refl _)
  refine ⟨.ref s1.heap.objs.size, upd H1 s1.heap.objs.size (.tup xs), I1.laid (t' := s1.toks) (fun b u e => Heap.get?_push_of_some _ e) (Nat.le_refl _) ?_, rfl, q _ hf⟩
  exact ⟨z, us, r, ⟨_, Heap.get?_push_size _ rfl, rfl, _, rfl⟩⟩
theorem pe_lst (h : PA X es t) : PE X (.List es pos) (tLst t) := by
  intro pins s σ H Q I hq
  refine wpAny_List_spliced (thn (h pos pins s σ H _ I hq) fun us s1 ⟨xs, H1, I1, r, z, q⟩ => ⟨by rw [← r.length]; exact z, ?_⟩)
  have hf : H1 s1.heap.objs.size = none := I1.hok.fresh (Nat.le_refl _)
  refine ⟨.ref s1.heap.objs.size, upd H1 s1.heap.objs.size (.lst xs), I1.laid (t' := s1.toks) (fun b u e => Heap.get?_push_of_some _ e) (Nat.le_refl _) ?_, rfl, q _ hf⟩
  exact ⟨z, us, 0, r, Heap.get?_push_size _ rfl⟩
end

abbrev Sp := List V → Hp → VK → XK → Prop
abbrev CXT := List Env → Hp → Shared → XK → Value → Shared → Prop

structure Env0 (P : Program) (w : World) (K : PySem.W.Frag) (mg : Str → Option Value) (base : Heap) (A : Around) (outer : List Env) (s : Shared) (H : Hp) : Prop where
  frames : A.frames = some outer
  mod : Mod K mg base
  bs : ∀ b o, base.get? b = some o → s.heap.get? b = some o ∧ H b = none
  bsz : base.objs.size ≤ s.heap.objs.size
  funs : s.heap.FunFrames base outer
  frf : ∀ b ∈ frs outer, H b = none
  hok : HOk P w H s.heap
  bare : AllBare s.gens
def CE (outer : List Env) (P : Program) (w : World) (H : Hp) (s : Shared) (Q : VK) (u : Value) (s' : Shared) : Prop :=
  ∃ v H', s'.os = s.os ∧ AllBare s'.gens ∧ Un (frs outer) [] H H' s.heap s'.heap ∧ HOk P w H' s'.heap ∧ RelV v u ∧ Q v H'
def CR (CX : CXT) (outer : List Env) (P : Program) (w : World) (H : Hp) (s : Shared) (Q : VK) (E : XK) (r : Result) (s' : Shared) : Prop :=
  match r with
  | .ok (.ret u) => CE outer P w H s Q u s'
  | .ok _ => False
  | .error e => CX outer H s E e s'
structure FnOk (P : Program) (w : World) (K : PySem.W.Frag) (mg : Str → Option Value) (base : Heap) (CX : CXT) (k : Nat) (f : Addr) (fd : FuncData) (ps : List Str) (sp : Sp) : Prop where
  len : ∀ vs H Q E, sp vs H Q E → vs.length = ps.length
  run : ∀ (A : Around) (outer : List Env) (s : Shared) (H : Hp) (args : Args) (us : List Value) (vs : List V) (Q : VK) (E : XK), Room k A → Env0 P w K mg base A outer s H → BindsTo s fd args (ps.zip us) → Vals vs us → sp vs H Q E →
    codeAny (model P w) A (.call (.ref f) args) (CR CX outer P w H s Q E) s
theorem FnOk.mono {P : Program} {w : World} {K : PySem.W.Frag} {mg : Str → Option Value} {base : Heap} {CX : CXT} {j k : Nat} {f : Addr} {fd : FuncData} {ps : List Str} {sp : Sp} (F : FnOk P w K mg base CX j f fd ps sp) (h : j ≤ k) :
    FnOk P w K mg base CX k f fd ps sp := ⟨F.len, fun A outer s H args us vs Q E hr => F.run A outer s H args us vs Q E (hr.mono h)⟩
theorem FnOk.imp {P : Program} {w : World} {K : PySem.W.Frag} {mg : Str → Option Value} {base : Heap} {CX : CXT} {k : Nat} {f : Addr} {fd : FuncData} {ps : List Str} {sp sp' : Sp} (F : FnOk P w K mg base CX k f fd ps sp)
    (h : ∀ vs H Q E, sp' vs H Q E → sp vs H Q E) : FnOk P w K mg base CX k f fd ps sp' :=
  ⟨fun vs H Q E q => F.len vs H Q E (h _ _ _ _ q), fun A outer s H args us vs Q E hr he hb hv hs => F.run A outer s H args us vs Q E hr he hb hv (h _ _ _ _ hs)⟩

theorem Env0.in1 {P : Program} {w : World} {K : PySem.W.Frag} {mg : Str → Option Value} {base : Heap} {A : Around} {outer : List Env} {s : Shared} {H : Hp} (e : Env0 P w K mg base A outer s H) :
    Env0 P w K mg base A.in1 outer s H := ⟨e.frames, e.mod, e.bs, e.bsz, e.funs, e.frf, e.hok, e.bare⟩

section
variable {X : Cx} {pins : List (Addr × Obj)} {σ : St} {H : Hp} {s s' : Shared}
theorem Inv.env0 (I : Inv X pins σ H s) : Env0 X.prog X.w X.K X.mg X.base X.A X.stack s H :=
  ⟨I.ok.frames, I.ok.mod, I.bs, Nat.le_trans I.ok.bsz I.sz, I.stack, I.stkFree, I.hok, I.bare⟩
theorem Inv.after {Q : VK} {u : Value} (I : Inv X pins σ H s) (h : CE X.stack X.prog X.w H s Q u s') : EP X pins σ Q u s' := by
  obtain ⟨v, H', os, bare, un, hok, r, q⟩ := h
  obtain ⟨hh, g, d, t, os'⟩ := s'
  obtain rfl : os' = s.os := os
  exact ⟨v, H', I.call (h' := hh) (g' := g) (d' := d) (t' := t) (ch := []) un hok bare (fun b z => absurd z (by simp)), r, q⟩
end

def tCall (sp : Sp) (dvs : List V) (E : XK) (t : TA) : TE := fun σ H Q => t σ H fun vs H1 => sp (vs ++ dvs) H1 Q E
def Binds (K : PySem.W.Frag) (fd : FuncData) (ps : List Str) (ds : List Value) : Prop :=
  ∀ (s : Shared) (us : List Value), K.In s.heap → (us ++ ds).length = ps.length → BindsTo s fd ⟨us, []⟩ (ps.zip (us ++ ds))
theorem Binds.all {K : PySem.W.Frag} {fd : FuncData} {ps : List Str} (h : ∀ us : List Value, us.length = ps.length → bindArgs fd ⟨us, []⟩ = pure (ps.zip us)) : Binds K fd ps [] := fun s us _ hl => by
  rw [List.append_nil] at hl ⊢
  exact .of_eq (h us hl)

def Passes (CX : CXT) (X : Cx) (E : XK) : Prop := ∀ (pins : List (Addr × Obj)) (σ : St) (H : Hp) (s : Shared) (e : Value) (s' : Shared), Inv X pins σ H s → CX X.stack H s E e s' → X.xe e s'

section
variable {X : Cx} {CX : CXT} {k : Nat} {f C : Addr} {fd : FuncData} {ps : List Str} {sp : Sp} {dvs : List V} {ds : List Value} {E : XK} {x m : Str} {p pos apos : Pos} {e o : Expr} {es : List Expr} {ta : TE} {t : TA}

theorem run_fn {pins : List (Addr × Obj)} {σ : St} {H : Hp} {s : Shared} {Q : VK} {us : List Value} {vs : List V} (F : FnOk X.prog X.w X.K X.mg X.base CX k f fd ps sp) (hr : Room k X.A) (hb : Binds X.K fd ps ds) (hd : Vals dvs ds) (hx : Passes CX X E)
    (I : Inv X pins σ H s) (r : Vals vs us) (h : sp (vs ++ dvs) H Q E) : wpAny (model X.prog X.w) X.A (call (.ref f) us) (EP X pins σ Q) X.xe s := by
  have r2 : Vals (vs ++ dvs) (us ++ ds) := r.append hd
  have hl : (us ++ ds).length = ps.length := by rw [← r2.length]; exact F.len _ _ _ _ h
  refine wpAny_call (codeAny_mono (F.run X.A X.stack s H ⟨us, []⟩ (us ++ ds) (vs ++ dvs) Q E hr I.env0 (hb s us I.kIn hl) r2 h) fun r s' hq => ?_)
  cases r with
  | error e => exact hx pins σ H s e s' I hq
  | ok fl =>
    cases fl with
    | ret u => exact I.after hq
    | next => exact False.elim hq
    | brk => exact False.elim hq
    | cont => exact False.elim hq

theorem pe_call (F : FnOk X.prog X.w X.K X.mg X.base CX k f fd ps sp) (hr : Room k X.A) (hg : Gl X x) (hm : X.mg x = some (.ref f)) (hk : PySem.W.keepIn X.K (.ref f) = true) (hb : Binds X.K fd ps ds) (hd : Vals dvs ds) (hx : Passes CX X E)
    (ha : PA X (e :: es) t) (hdb : (x == ("__debug__" : Str)) = false := by decide) (he : starEach (e :: es) X.env = (false, eval e X.env) :: starEach es X.env := by rfl) (hpl : (backTo pos (starEach es X.env)).any (·.1) = false := by rfl) :
    PE X (.Call (.Name x p) (e :: es) [] pos) (tCall sp dvs E t) := by
  intro pins s σ H Q I h
  refine wpAny_Call_Name_kw (ld_glob I hg hm ?_ hdb)
  refine PySem.W.callWith_K (h₀ := X.base) I.ok.mod.kin hk (thn (ha pos pins s σ H _ I h) fun us s1 ⟨vs, H1, I1, r, q⟩ => ⟨I1.kIn, ?_⟩) he hpl
  exact run_fn F hr hb hd hx I1 r q
end

section
variable {X : Cx} {CX : CXT} {k : Nat} {f C : Addr} {fd : FuncData} {ps ks : List Str} {sp : Sp} {E : XK} {x m : Str} {p pos apos kpos : Pos} {e o : Expr} {es : List Expr} {kws : List Keyword} {te ta : TE} {t tk : TA} {nm : Option Str}
variable {g : List Value → List Value → List Value} {gV : List V → List V → List V}
end

structure FnScope (N P : List Str) (sc : Scope) : Prop where
  kind : sc.kind = .function
  co : sc.isCoroutine = false
  gen : sc.isGenerator = false
  nd : N.Nodup
  pre : N.take P.length = P
  par : ∀ x ∈ P, sc.names.lookup x = some .local ∨ sc.names.lookup x = some .cell
  nofree : ∀ y ∈ sc.names, y.2 ≠ .free

theorem bindL_out {kindOf : Str → Option NameKind} {x : Str} : ∀ {binds : List (Str × Value)} {m : Str → Option Value}, (∀ v, (x, v) ∉ binds) → bindL kindOf binds m x = m x
  | [], _, _ => rfl
  | (n, v) :: r, m, h => by
    unfold bindL
    rw [bindL_out fun w hw => h w (List.mem_cons_of_mem _ hw)]
    split
    · have : x ≠ n := by rintro rfl; exact h v List.mem_cons_self
      simp [this]
    · rfl
theorem bindC_out {kindOf : Str → Option NameKind} {x : Str} : ∀ {binds : List (Str × Value)} {m : Str → Option Value}, (∀ v, (x, v) ∉ binds) → bindC kindOf binds m x = m x
  | [], _, _ => rfl
  | (n, v) :: r, m, h => by
    unfold bindC
    rw [bindC_out fun w hw => h w (List.mem_cons_of_mem _ hw)]
    split
    · rfl
    · have : x ≠ n := by rintro rfl; exact h v List.mem_cons_self
      simp [this]
theorem bindL_get {kindOf : Str → Option NameKind} {x : Str} {v : Value} : ∀ {P : List Str} {vs : List Value} {i : Nat} {m : Str → Option Value}, P.Nodup → P[i]? = some x → vs[i]? = some v → kindOf x = some .local →
    bindL kindOf (P.zip vs) m x = some v
  | [], _, _, _, _, h, _, _ => by simp at h
  | _ :: _, [], _, _, _, _, h, _ => by simp at h
  | p :: P, w :: vs, 0, m, nd, h1, h2, hk => by
    simp at h1 h2; subst h1; subst h2
    show bindL kindOf ((p, w) :: P.zip vs) m p = _
    unfold bindL
    rw [bindL_out fun v hv => (List.nodup_cons.mp nd).1 (List.of_mem_zip hv).1, if_pos hk]
    simp
  | p :: P, w :: vs, i + 1, m, nd, h1, h2, hk => by
    show bindL kindOf ((p, w) :: P.zip vs) m x = _
    unfold bindL
    exact bindL_get (i := i) (List.nodup_cons.mp nd).2 (by simpa using h1) (by simpa using h2) hk
theorem bindC_get {kindOf : Str → Option NameKind} {x : Str} {v : Value} : ∀ {P : List Str} {vs : List Value} {i : Nat} {m : Str → Option Value}, P.Nodup → P[i]? = some x → vs[i]? = some v → kindOf x ≠ some .local →
    bindC kindOf (P.zip vs) m x = some v
  | [], _, _, _, _, h, _, _ => by simp at h
  | _ :: _, [], _, _, _, _, h, _ => by simp at h
  | p :: P, w :: vs, 0, m, nd, h1, h2, hk => by
    simp at h1 h2; subst h1; subst h2
    show bindC kindOf ((p, w) :: P.zip vs) m p = _
    unfold bindC
    rw [bindC_out fun v hv => (List.nodup_cons.mp nd).1 (List.of_mem_zip hv).1, if_neg hk]
    simp
  | p :: P, w :: vs, i + 1, m, nd, h1, h2, hk => by
    show bindC kindOf ((p, w) :: P.zip vs) m x = _
    unfold bindC
    exact bindC_get (i := i) (List.nodup_cons.mp nd).2 (by simpa using h1) (by simpa using h2) hk

def start (N : List Str) (vs : List V) : St := vs.map some ++ List.replicate (N.length - vs.length) none

def cxOf (CX : CXT) (P : Program) (w : World) (K : PySem.W.Frag) (mg : Str → Option Value) (base : Heap) (N : List Str) (qual : Str) (scope : Scope) (f : Addr) (cd : Value) (A : Around) (outer : List Env) (s : Shared) (H : Hp) (E : XK) : Cx where
  prog := P
  w := w
  K := K
  mg := mg
  base := base
  A := A.deeper (envOfC qual scope s.heap.objs.size f cd)
  N := N
  s₀ := s
  H₀ := H
  env := envOfC qual scope s.heap.objs.size f cd
  outer := outer
  stack := envOfC qual scope s.heap.objs.size f cd :: outer
  ex := []
  calm := true
  fn := fun _ => true
  pn := []
  xe := fun e s' => wpAny (model P w) (A.deeper (envOfC qual scope s.heap.objs.size f cd)) (leaving (envOfC qual scope s.heap.objs.size f cd) e) (fun _ s'' => CX outer H s E e s'') (fun e' s'' => CX outer H s E e' s'') s'

theorem cell_has {sc : Scope} {n : Nat} {x : Str} (h : sc.names.lookup x = some .cell) : ∃ c, (cellsFrom n sc.names []).lookup x = some c := by
  have q := PySem.W.cellsFrom_some sc.names n [] (.inl h)
  exact Option.isSome_iff_exists.mp q

theorem inv_start {CX : CXT} {P : Program} {w : World} {K : PySem.W.Frag} {mg : Str → Option Value} {base : Heap} {N ps : List Str} {qual : Str} {scope : Scope} {f : Addr} {cd : Value} {A : Around} {outer : List Env} {s s1 : Shared} {H : Hp} {E : XK} {us : List Value} {vs : List V}
    (S : FnScope N ps scope) (hd : A.handled = none) (e0 : Env0 P w K mg base A outer s H) (hl : vs.length = ps.length) (r : Vals vs us)
    (x : InCallC s s.heap.objs.size (bindL (envOfC qual scope s.heap.objs.size f cd).kindOf (ps.zip us) fun _ => none) (cellsFrom (s.heap.objs.size + 1) scope.names []) (bindC (envOfC qual scope s.heap.objs.size f cd).kindOf (ps.zip us) fun _ => none) s1) :
    Inv (cxOf CX P w K mg base N qual scope f cd A outer s H E) [] (start N vs) H s1 := by
  have hpl : ps.length ≤ N.length := by have := congrArg List.length S.pre; rw [List.length_take] at this; omega
  obtain ⟨h1, tk, rfl, hk⟩ := x.done
  have noA : ∀ b : Addr, b ∉ (cxOf CX P w K mg base N qual scope f cd A outer s H E).ex := fun b z => absurd (show b ∈ ([] : List Addr) from z) (by simp)
  refine ⟨⟨e0.mod, S.kind, rfl, rfl, Nat.le_refl _, fun y z c h1 h2 => ?_, fun y hy => ?_, fun y c _ h => ?_, fun _ => hd, Around.frames_deeper e0.frames, .inr ⟨rfl, rfl⟩, fun b z => absurd z (noA b), e0.bs, e0.bsz, fun b _ _ => noA b, fun b z => absurd z (noA b), e0.funs, e0.frf⟩,
    rfl, e0.bare, Un.kept hk, ⟨_, x.toInCall.ns, fun i y v h1 h2 h3 => ?_⟩, fun y c h => ⟨_, x.cell y c h⟩, e0.hok.fresh (Nat.le_refl _), fun y c h => ?_, fun p hp => absurd (show p ∈ ([] : List (Addr × Obj)) from hp) (by simp), e0.hok.kept hk, ?_⟩
  · exact name_of_addr x.apart (PySem.mem_of_lookup h1) (PySem.mem_of_lookup h2)
  · have hy : scope.names.lookup y = some .cell ∨ scope.names.lookup y = some .free := hy
    rcases hy with hy | hy
    · exact cell_has hy
    · exact absurd rfl (S.nofree _ (PySem.mem_of_lookup hy))
  · exact Nat.le_of_lt (x.above y c (PySem.mem_of_lookup h))
  · have hi : i < vs.length := by
      unfold start at h2
      by_cases hi : i < vs.length
      · exact hi
      · rw [List.getElem?_append_right (by simpa using hi)] at h2
        rw [List.getElem?_replicate] at h2
        split at h2 <;> cases h2
    have ha : vs[i]? = some v := by
      unfold start at h2
      rw [List.getElem?_append_left (by simpa using hi), List.getElem?_map] at h2
      cases e : vs[i]? with
      | none => rw [e] at h2; cases h2
      | some a => rw [e] at h2; cases h2; rfl
    obtain ⟨u, hu, rv⟩ := r.get ha
    have hp : ps[i]? = some y := by
      rw [← S.pre, List.getElem?_take_of_lt (by omega)]; exact h1
    have ndP : ps.Nodup := by rw [← S.pre]; exact S.nd.sublist (List.take_sublist _ _)
    refine ⟨u, rv, ?_⟩
    rcases S.par y (List.mem_of_getElem? hp) with k | k
    · exact .inl ⟨k, bindL_get ndP hp hu k⟩
    · obtain ⟨c, e⟩ := cell_has (n := s.heap.objs.size + 1) k
      refine .inr ⟨.inl k, c, e, ?_⟩
      have q := x.cell y c e
      rw [bindC_get ndP hp hu (by show scope.names.lookup y ≠ _; rw [k]; decide)] at q
      exact q
  · exact e0.hok.fresh (Nat.le_of_lt (x.above y c (PySem.mem_of_lookup h)))
  · unfold start
    show _ = N.length
    rw [List.length_append, List.length_map, List.length_replicate]
    omega

theorem fn_of {CX : CXT} {P : Program} {w : World} {K : PySem.W.Frag} {mg : Str → Option Value} {base : Heap} {k : Nat} {f : Addr} {name qual : Str} {params : Arguments} {body : List Stmt} {scope : Scope} {dV kV doc pm cdv ct oc : Value} {an od : Option Addr}
    {osl : Array (Option Value)} {N ps : List Str} {sp : Sp} (lk : K.lookup f = some ⟨oc, od, .func (PySem.W.fnOf name qual params body scope dV kV doc pm an cdv ct), osl⟩) (hcd : PySem.W.codeIn K cdv qual = true) (S : FnScope N ps scope)
    (len : ∀ vs H Q E, sp vs H Q E → vs.length = ps.length)
    (hbody : ∀ (A : Around) (outer : List Env) (s : Shared) (H : Hp) (vs : List V) (Q : VK) (E : XK), Room k (A.deeper (envOfC qual scope s.heap.objs.size f cdv)) → sp vs H Q E →
      ∃ t, PSs (cxOf CX P w K mg base N qual scope f cdv A outer s H E) body t ∧ t { nx := fun _ H' => Q .non H', rt := Q } (start N vs) H) :
    FnOk P w K mg base CX (k + 1) f (PySem.W.fnOf name qual params body scope dV kV doc pm an cdv ct) ps sp := by
  refine ⟨len, fun A outer s H args us vs Q E hr e0 hb r hsp => ?_⟩
  have hl := len _ _ _ _ hsp
  have KX : K.In s.heap := e0.mod.kin.keeps fun b o e => (e0.bs b o e).1
  have lim : s.heap.NoLimit := e0.mod.nolimit.keeps fun b o e => (e0.bs b o e).1
  have hkind : ∀ y ∈ ps.zip us, scope.names.lookup y.1 = some .local ∨ (scope.names.lookup y.1 = some .cell ∧ ((cellsFrom (s.heap.objs.size + 1) scope.names []).lookup y.1).isSome = true) := fun ⟨n, v⟩ hy => by
    rcases S.par n (List.of_mem_zip hy).1 with q | q
    · exact .inl q
    · exact .inr ⟨q, PySem.W.cellsFrom_some _ _ _ (.inl q)⟩
  refine codeAny_call_function hr.depth (KX _ _ lk) rfl S.co S.gen rfl (PySem.W.codeRec_of KX hcd) (hb _ _ _ _ ?_)
  refine wpAny_newFunctionEnv_cells S.kind hkind fun env he s1 x => ?_
  subst he
  refine ⟨lim.keeps x.toInCall.keep, codeAny_func ?_⟩
  obtain ⟨t, ht, hq⟩ := hbody A outer s H vs Q E (hr.deeper _) hsp
  have I : Inv (cxOf CX P w K mg base N qual scope f cdv A outer s H E) [] (start N vs) H s1 := inv_start S hr.hd e0 hl r x
  refine wpAny_mono (ht [] s1 (start N vs) H _ I hq) (fun fl s' hs => ?_) fun e s' hs => hs
  have fin : ∀ {σ' : St} {H' : Hp} {v : V} {u : Value}, Inv (cxOf CX P w K mg base N qual scope f cdv A outer s H E) [] σ' H' s' → RelV v u → Q v H' → CE outer P w H s Q u s' :=
    fun {σ' H' v u} J rv q => ⟨v, H', J.os, J.bare, J.base, J.hok, rv, q⟩
  cases fl with
  | ret u =>
    obtain ⟨v, σ', H', J, rv, q⟩ := hs
    exact fin J rv q
  | next =>
    obtain ⟨σ', H', J, q⟩ := hs
    exact fin (v := V.non) (u := Value.none) J rfl q
  | brk =>
    obtain ⟨_, _, _, q⟩ := hs
    exact False.elim q
  | cont =>
    obtain ⟨_, _, _, q⟩ := hs
    exact False.elim q
end L2

namespace L2
open PySem PySem.Spec PyProof.Rows
section
variable {X : Cx} {x : Str} {p pos : Pos} {e : Expr} {es : List Expr} {t : TA} {id T : String} {r : List V → Hp → VK → Prop}

def tCB (r : List V → Hp → VK → Prop) (t : TA) : TE := fun σ H Q => t σ H fun vs H1 => r vs H1 Q
theorem pe_callB (hc : CallR X (.builtin id) r) (hg : Gl X x) (hm : X.mg x = none) (hv : bootBuiltins x = some (.builtin id)) (ha : PA X (e :: es) t) (hn : x ≠ "__name__" := by decide) (hdb : (x == ("__debug__" : Str)) = false := by decide)
    (he : starEach (e :: es) X.env = (false, eval e X.env) :: starEach es X.env := by rfl) (hpl : (backTo pos (starEach es X.env)).any (·.1) = false := by rfl) : PE X (.Call (.Name x p) (e :: es) [] pos) (tCB r t) := by
  intro pins s σ H Q I h
  refine wpAny_Call_Name_kw (ld_blt I hg hm hv ?_ hn hdb)
  exact PyProof.Rows.callWith_builtin1 (thn (ha pos pins s σ H _ I h) fun us s1 ⟨vs, H1, I1, r1, q1⟩ => hc pins s1 σ H1 vs us Q I1 r1 q1) he hpl
theorem pe_callTy (hc : CallR X (.type T) r) (hg : Gl X x) (hm : X.mg x = none) (hv : bootBuiltins x = some (.type T)) (ha : PA X (e :: es) t) (hn : x ≠ "__name__" := by decide) (hdb : (x == ("__debug__" : Str)) = false := by decide)
    (he : starEach (e :: es) X.env = (false, eval e X.env) :: starEach es X.env := by rfl) (hpl : (backTo pos (starEach es X.env)).any (·.1) = false := by rfl) : PE X (.Call (.Name x p) (e :: es) [] pos) (tCB r t) := by
  intro pins s σ H Q I h
  refine wpAny_Call_Name_kw (ld_blt I hg hm hv ?_ hn hdb)
  exact PyProof.Rows.callWith_type1 (thn (ha pos pins s σ H _ I h) fun us s1 ⟨vs, H1, I1, r1, q1⟩ => hc pins s1 σ H1 vs us Q I1 r1 q1) he hpl
end
end L2

namespace HT
open PySem PyProof.Rows

section
open PySem.SeqAt
open PySem.AutoSeq1 (wpAny_loadPart')
open PySem.MeetsSeq PySem.MeetsSeq2 PySem.MeetsSeq3

end

section
variable {prog : Program} {w : World} {A : Around} {E : Value → Shared → Prop} {s : Shared}

def sIx (n d : Nat) : Option Int → Nat
  | none => d
  | some v => if v < 0 then (v + (n : Int)).toNat else min v.toNat n
theorem sIx_nat (n d k : Nat) : sIx n d (some (k : Int)) = min k n := by
  show (if (k : Int) < 0 then ((k : Int) + (n : Int)).toNat else min (k : Int).toNat n) = min k n
  rw [if_neg (by omega), Int.toNat_natCast]
end
end HT

namespace L2
open PySem PySem.Spec PyProof.Rows

abbrev TO := St → Hp → (Option Int → Hp → Prop) → Prop
def PO (X : Cx) (e : Option Expr) (t : TO) : Prop :=
  ∀ (pins : List (Addr × Obj)) (s : Shared) (σ : St) (H : Hp) (Q : Option Int → Hp → Prop), Inv X pins σ H s → t σ H Q →
    wpAny (model X.prog X.w) X.A (evalPart e X.env) (fun u s' => ∃ o H', Inv X pins σ H' s' ∧ IsPart u o ∧ Q o H') X.xe s
def tNoPart : TO := fun _ H Q => Q none H
section
variable {X : Cx} {e : Expr} {te : TE} {lo hi : Option Expr} {tl th : TO} {pos p2 : Pos}

theorem po_none : PO X none tNoPart := by
  intro pins s σ H Q I h
  rw [evalPart_none]
  exact wpAny_pure ⟨none, H, I, .none, h⟩
def SlR (X : Cx) (r : V → Option Int → Option Int → Hp → VK → Prop) : Prop :=
  ∀ (pins : List (Addr × Obj)) (s : Shared) (σ : St) (H : Hp) (x : V) (v vl vu : Value) (lo hi : Option Int) (sl : Addr) (Q : VK), Inv X pins σ H s → RelV x v → s.heap.IsSliceOf sl vl vu .none → IsPart vl lo → IsPart vu hi → r x lo hi H Q →
    ∃ T id, typeLookup (.type T) "__getitem__" = pure (some (.builtin id)) ∧ s.TypeIs v T ∧ wpAny (model X.prog X.w) X.A (getItem v (.ref sl)) (EP X pins σ Q) X.xe s
theorem SlR.or {r r' : V → Option Int → Option Int → Hp → VK → Prop} (h : SlR X r) (h' : SlR X r') : SlR X (fun x lo hi H Q => r x lo hi H Q ∨ r' x lo hi H Q) := by
  intro pins s σ H x v vl vu lo hi sl Q I rx hs pl pu q
  rcases q with q | q
  · exact h pins s σ H x v vl vu lo hi sl Q I rx hs pl pu q
  · exact h' pins s σ H x v vl vu lo hi sl Q I rx hs pl pu q
def tSl (r : V → Option Int → Option Int → Hp → VK → Prop) (te : TE) (tl th : TO) : TE := fun σ H Q => te σ H fun x H1 => tl σ H1 fun l H2 => th σ H2 fun u H3 => r x l u H3 Q
theorem pe_slice {r : V → Option Int → Option Int → Hp → VK → Prop} (hr : SlR X r) (he : PE X e te) (hl : PO X lo tl) (hu : PO X hi th) : PE X (.Subscript e (.Slice lo hi none p2) pos) (tSl r te tl th) := by
  intro pins s σ H Q I h
  refine Subscript_ (thn (he pins s σ H _ I h) fun v s1 ⟨x, H1, I1, r1, q1⟩ => ?_)
  refine wpAny_Slice (thn (hl pins s1 σ H1 _ I1 q1) fun vl s2 ⟨l, H2, I2, pl, q2⟩ => thn (hu pins s2 σ H2 _ I2 q2) fun vu s3 ⟨u, H3, I3, pu, q3⟩ => ?_)
  rw [evalPart_none]
  refine wpAny_pure ?_
  have I4 : Inv X pins σ H3 { s3 with heap := s3.heap.push { cls := .type "slice", data := .fields #[vl, vu, .none] } } := I3.kept (t' := s3.toks) fun b ob q => Heap.get?_push_of_some _ q
  obtain ⟨T, id, hT, ht, hg⟩ := hr pins { s3 with heap := s3.heap.push { cls := .type "slice", data := .fields #[vl, vu, .none] } } σ H3 x v vl vu l u s3.heap.objs.size Q I4 r1 (Heap.IsSliceOf.new ..) pl pu q3
  show wpAny (model X.prog X.w) X.A (subscriptTail e (.Slice lo hi none p2) v (.ref s3.heap.objs.size)) (EP X pins σ Q) X.xe { s3 with heap := s3.heap.push { cls := .type "slice", data := .fields #[vl, vu, .none] } }
  exact tail_any (ops := [.ref s3.heap.objs.size, v]) ht hT hg (by with_unfolding_all rfl)

def cutV (xs : List V) (lo hi : Option Int) : List V := (xs.drop (HT.sIx xs.length 0 lo)).take (HT.sIx xs.length xs.length hi - HT.sIx xs.length 0 lo)
theorem cutV_length (xs : List V) (lo hi : Option Int) : (cutV xs lo hi).length ≤ xs.length := by
  unfold cutV
  rw [List.length_take, List.length_drop]
  omega
end
end L2

namespace L2
open PySem PySem.Spec PyProof.Rows

def ixN (n : Nat) (i : Int) : Option Nat := if 0 ≤ i then (if i < n then some i.toNat else none) else if -(n : Int) ≤ i then some (i + n).toNat else none
def atI {α : Type} (xs : List α) (i : Int) : Option α := (ixN xs.length i).bind fun j => xs[j]?
theorem ixN_seq {n : Nat} {i : Int} {j : Nat} (h : ixN n i = some j) : seqIndex? i n = some j ∧ j < n ∧ -(n : Int) ≤ i ∧ i < n := by
  unfold ixN at h
  by_cases h0 : 0 ≤ i
  · rw [if_pos h0] at h
    by_cases h1 : i < n
    · rw [if_pos h1] at h
      have e : i.toNat = j := Option.some.inj h
      exact ⟨by rw [seqIndex_of h0 h1, e], by omega, by omega, h1⟩
    · rw [if_neg h1] at h; cases h
  · rw [if_neg h0] at h
    by_cases h1 : -(n : Int) ≤ i
    · rw [if_pos h1] at h
      have e : (i + n).toNat = j := Option.some.inj h
      exact ⟨by rw [seqIndex_neg (by omega) h1, e], by omega, h1, by omega⟩
    · rw [if_neg h1] at h; cases h
theorem atI_get {α : Type} {xs : List α} {i : Int} {v : α} (h : atI xs i = some v) : ∃ j, seqIndex? i xs.length = some j ∧ xs[j]? = some v ∧ j < xs.length ∧ -(xs.length : Int) ≤ i ∧ i < xs.length := by
  unfold atI at h
  cases e : ixN xs.length i with
  | none => rw [e] at h; cases h
  | some j =>
    rw [e] at h
    obtain ⟨h1, h2, h3, h4⟩ := ixN_seq e
    exact ⟨j, h1, h, h2, h3, h4⟩
theorem atI_nat {α : Type} {xs : List α} {j : Nat} {v : α} (h : xs[j]? = some v) : atI xs (j : Int) = some v := by
  have hj : j < xs.length := (List.getElem?_eq_some_iff.mp h).1
  have e : ixN xs.length (j : Int) = some j := by
    unfold ixN
    rw [if_pos (by omega), if_pos (by omega)]; simp
  unfold atI; rw [e]; exact h
def PlainIx (b : Expr) : Prop := ∀ o i, subscripted b false o i = operate [o, i] (getItem o i)
def IxR (X : Cx) (r : R2) : Prop :=
  ∀ (value slice : Expr) (pins : List (Addr × Obj)) (s : Shared) (σ : St) (H : Hp) (x y : V) (v u : Value) (Q : VK), Inv X pins σ H s → RelV x v → RelV y u → r x y H Q →
    subscripted slice false v u = operate [v, u] (getItem v u) → wpAny (model X.prog X.w) X.A (subscriptTail value slice v u) (EP X pins σ Q) X.xe s
section
variable {X : Cx} {a b : Expr} {ta tb : TE} {pos : Pos}
theorem IxR.or {r r' : R2} (h : IxR X r) (h' : IxR X r') : IxR X (fun x y H Q => r x y H Q ∨ r' x y H Q) := by
  intro value slice pins s σ H x y v u Q I rx ry q hs
  rcases q with q | q
  · exact h value slice pins s σ H x y v u Q I rx ry q hs
  · exact h' value slice pins s σ H x y v u Q I rx ry q hs
theorem pe_ix {r : R2} (hr : IxR X r) (ha : PE X a ta) (hb : PE X b tb) (hs : PlainIx b) : PE X (.Subscript a b pos) (tOp r ta tb) := by
  intro pins s σ H Q I h
  exact Subscript_ (binT ha hb I h fun v u s2 x y H2 I2 rx ry q => hr a b pins s2 σ H2 x y v u Q I2 rx ry q (hs _ _))

def rIxL (K : PySem.W.Frag) : R2 := fun x y H Q => ∃ p xs i v, x = .ref p ∧ y = .int i ∧ SqL K H p xs ∧ atI xs i = some v ∧ Q v H
def rIxT (K : PySem.W.Frag) : R2 := fun x y H Q => ∃ p xs i v, x = .ref p ∧ y = .int i ∧ SqT K H p xs ∧ atI xs i = some v ∧ Q v H
def rIxS : R2 := fun x y H Q => ∃ z i c, x = .str z ∧ y = .int i ∧ z.length ≤ sizeLine ∧ atI z.cps.toList i = some c ∧ Q (.str ⟨#[c]⟩) H
theorem ix_list : IxR X (rIxL X.K) := by
  intro value slice pins s σ H x y v u Q I rx ry h hs
  obtain ⟨p, xs, i, z, rfl, rfl, hq, he, q⟩ := h
  cases rx
  obtain ⟨t, rfl⟩ := ry
  obtain ⟨its, r, pl, hz⟩ := I.list hq
  obtain ⟨j, h1, h2, h3, h4, h5⟩ := atI_get he
  obtain ⟨w, ew, rw'⟩ := r.get h2
  have hl := r.length
  have hn := line63
  have fin : EP X pins σ Q w s := ⟨z, H, I, rw', q⟩
  by_cases h0 : 0 ≤ i
  · have hj : i.toNat = j := by
      rw [seqIndex_of h0 h5] at h1
      exact Option.some.inj h1
    exact item_listR pl.isList h0 (by omega) (by rw [hj]; simpa using ew) fin hs
  · have hj : (i + (its.toArray.size : Int)).toNat = j := by
      rw [seqIndex_neg (by omega) h4] at h1
      rw [List.size_toArray, ← hl]
      exact Option.some.inj h1
    exact subscriptTail_builtinR (x := w) pl.isList.typeIs slot_list_getitem.lookup
      (wpAny_getItem_list_neg (Q := fun r s' => r = w ∧ EP X pins σ Q r s') pl.isList (by omega) (by rw [List.size_toArray] <;> omega) (by omega) (by rw [hj]; simpa using ew) ⟨rfl, fin⟩) hs
theorem ix_tup : IxR X (rIxT X.K) := by
  intro value slice pins s σ H x y v u Q I rx ry h hs
  obtain ⟨p, xs, i, z, rfl, rfl, hq, he, q⟩ := h
  cases rx
  obtain ⟨t, rfl⟩ := ry
  obtain ⟨its, r, pl, hz⟩ := I.tuple hq
  obtain ⟨j, h1, h2, h3, h4, h5⟩ := atI_get he
  obtain ⟨w, ew, rw'⟩ := r.get h2
  have hl := r.length
  have hn := line63
  have fin : EP X pins σ Q w s := ⟨z, H, I, rw', q⟩
  exact subscriptTail_builtinR (x := w) pl.typeIs slot_tuple_getitem.lookup
    (getItem_tuple (j := j) (Q := fun r s' => r = w ∧ EP X pins σ Q r s') pl (by omega) (by omega) (by rw [List.size_toArray, ← hl]; exact h1) (by simpa using ew) ⟨rfl, fin⟩) hs
theorem ix_str : IxR X rIxS := by
  intro value slice pins s σ H x y v u Q I rx ry h hs
  obtain ⟨z, i, c, rfl, rfl, hz, he, q⟩ := h
  obtain ⟨t, rfl⟩ := rx
  obtain ⟨t', rfl⟩ := ry
  obtain ⟨j, h1, h2, h3, h4, h5⟩ := atI_get he
  have hl : z.cps.toList.length = z.length := by simp [Str.length]
  rw [hl] at h1 h4 h5
  have hn := line63
  exact tail_any (typeIs_str s z t) slot_str_getitem.lookup (getItem_str (c := c) (by
    have e1 : decide (i < -(2 ^ 63 : Int)) = false := decide_eq_false (by omega)
    have e2 : decide (i ≥ 2 ^ 63) = false := decide_eq_false (by omega)
    rw [e1, e2, Bool.or_false]) (by rw [h1]; simpa using h2) ⟨.str ⟨#[c]⟩, H, I.tok _, ⟨_, rfl⟩, q⟩) hs
def rIx (K : PySem.W.Frag) : R2 := fun x y H Q => rIxL K x y H Q ∨ rIxT K x y H Q ∨ rIxS x y H Q
theorem ix_seq : IxR X (rIx X.K) := ix_list.or (ix_tup.or ix_str)

theorem mapSeq_set (its : List Value) (n j : Nat) (u : Value) : Obj.mapSeq (·.setIfInBounds j u) { cls := .type "list", data := .seq its.toArray n } = { cls := .type "list", data := .seq (its.set j u).toArray n } := by
  simp [Obj.mapSeq]
theorem Inv.lst {pins : List (Addr × Obj)} {σ : St} {H : Hp} {s : Shared} {p : Addr} {xs : List V} (I : Inv X pins σ H s) (h : H p = some (.lst xs)) :
    ∃ (its : List Value) (n : Nat), Vals xs its ∧ s.heap.get? p = some { cls := .type "list", data := .seq its.toArray n } ∧ xs.length ≤ sizeLine := by
  obtain ⟨z, its, n, r, e⟩ := I.hok p _ h
  exact ⟨its, n, r, e, z⟩
theorem Inv.lstUpd {pins : List (Addr × Obj)} {σ : St} {H : Hp} {s : Shared} {p : Addr} {xs ys : List V} {its its' : List Value} {n n' : Nat} {f : Obj → Obj} (I : Inv X pins σ H s) (h : H p = some (.lst xs))
    (ho : s.heap.get? p = some { cls := .type "list", data := .seq its.toArray n }) (hf : f { cls := .type "list", data := .seq its.toArray n } = { cls := .type "list", data := .seq its'.toArray n' }) (r : Vals ys its') (hz : ys.length ≤ sizeLine) (t : Nat) :
    Inv X pins σ (upd H p (.lst ys)) { s with heap := s.heap.update p f, toks := t } := by
  have e : (s.heap.update p f).get? p = some { cls := .type "list", data := .seq its'.toArray n' } := by
    rw [Heap.get?_update_self f ho (by rw [hf] <;> rfl), hf]
  refine I.write (x := p) (e := p) (by rw [h]; trivial) (.inl rfl) (fun b u hb q => (Heap.get?_update_other _ _ (Ne.symm hb)).trans q) ⟨_, e⟩ ?_
  exact ⟨hz, its', n', r, e⟩
def rSetL : V → V → V → Hp → (Hp → Prop) → Prop := fun o i v H Q => ∃ p xs k j, o = .ref p ∧ i = .int k ∧ H p = some (.lst xs) ∧ ixN xs.length k = some j ∧ Q (upd H p (.lst (xs.set j v)))
theorem set_list : PSet X rSetL := by
  intro pins s σ H o i v ov iv u Q I ro ri rv h
  obtain ⟨p, xs, k, j, rfl, rfl, hp, hj, q⟩ := h
  cases ro
  obtain ⟨t, rfl⟩ := ri
  obtain ⟨its, n, r, ho, hz⟩ := I.lst hp
  obtain ⟨h1, h2, h3, h4⟩ := ixN_seq hj
  have hl := r.length
  have hn := line63
  have I' : Inv X pins σ (upd H p (.lst (xs.set j v))) { s with heap := s.heap.update p (Obj.mapSeq (·.setIfInBounds j u)) } :=
    I.lstUpd hp ho (mapSeq_set its n j u) (r.set rv j) (by rw [List.length_set]; exact hz) s.toks
  by_cases h0 : 0 ≤ k
  · have hk : k.toNat = j := by
      rw [seqIndex_of h0 h4] at h1
      exact Option.some.inj h1
    exact PySem.W.ki_setAt ho h0 (by omega) (by rw [List.size_toArray, ← hl]; exact h4) (by rw [hk]; exact ⟨_, I', q⟩)
  · have hk : (k + (its.toArray.size : Int)).toNat = j := by
      rw [seqIndex_neg (by omega) h3] at h1
      rw [List.size_toArray, ← hl]
      exact Option.some.inj h1
    exact PySem.W.ki_setBack ho (by omega) (by rw [List.size_toArray, ← hl]; exact h3) (by omega) (by rw [hk]; exact ⟨_, I', q⟩)

theorem slice_bounds (lo hi : Option Int) (n : Nat) : (sliceBounds lo hi none n).1 = ((HT.sIx n 0 lo : Nat) : Int) ∧ (sliceBounds lo hi none n).2.1 = ((HT.sIx n n hi : Nat) : Int) ∧ (sliceBounds lo hi none n).2.2 = 1 := by
  refine ⟨?_, ?_, rfl⟩
  · cases lo with
    | none => simp [sliceBounds, HT.sIx]
    | some i =>
      simp only [sliceBounds, HT.sIx, Option.getD_none, show (1 : Int) > 0 by decide, if_true]
      by_cases h : i < 0
      · simp only [h, if_true] <;> omega
      · simp only [h, if_false] <;> omega
  · cases hi with
    | none => simp [sliceBounds, HT.sIx]
    | some i =>
      simp only [sliceBounds, HT.sIx, Option.getD_none, show (1 : Int) > 0 by decide, if_true]
      by_cases h : i < 0
      · simp only [h, if_true] <;> omega
      · simp only [h, if_false] <;> omega
theorem slicePick_cut (its : List Value) (lo hi : Option Int) : slicePick its.toArray lo hi none = ((its.drop (HT.sIx its.length 0 lo)).take (HT.sIx its.length its.length hi - HT.sIx its.length 0 lo)).toArray := by
  obtain ⟨h1, h2, h3⟩ := slice_bounds lo hi its.toArray.size
  unfold slicePick
  rw [h1, h2, h3]
  simp only [sliceRange_one, pick_run, List.size_toArray] <;> rfl
def rSlL (K : PySem.W.Frag) : V → Option Int → Option Int → Hp → VK → Prop := fun x lo hi H Q => ∃ a xs, x = .ref a ∧ SqL K H a xs ∧ ∀ p, H p = none → Q (.ref p) (upd H p (.lst (cutV xs lo hi)))
theorem sl_list : SlR X (rSlL X.K) := by
  intro pins s σ H x v vl vu lo hi sl Q I rx hs pl pu h
  obtain ⟨a, xs, rfl, hx, q⟩ := h
  cases rx
  obtain ⟨its, r, ht, hz⟩ := I.list hx
  have hlen := r.length
  refine ⟨"list", _, slot_list_getitem.lookup, ht.isList.typeIs, ?_⟩
  refine wpAny_getItem_list_slice ht.isList hs pl pu .none (by simp) ?_ (by rw [List.size_toArray] <;> omega)
  rw [slicePick_cut, ← hlen]
  refine ⟨.ref s.heap.objs.size, _, I.laid (t' := s.toks) (o := .lst (cutV xs lo hi)) (fun b ob q => Heap.get?_push_of_some _ q) (Nat.le_refl _) ?_, rfl, q _ (I.hok.fresh (Nat.le_refl _))⟩
  exact ⟨Nat.le_trans (cutV_length xs lo hi) hz, _, 0, (r.drop (HT.sIx xs.length 0 lo)).take (HT.sIx xs.length xs.length hi - HT.sIx xs.length 0 lo), Heap.get?_push_size _ rfl⟩

theorem call_len_seq : CallR X (.builtin "len") (fun xs H Q => ∃ p ys, xs = [.ref p] ∧ (SqL X.K H p ys ∨ SqT X.K H p ys) ∧ Q (.int ys.length) H) := by
  intro pins s σ H xs us Q I r h
  obtain ⟨p, ys, rfl, hq, q⟩ := h
  obtain ⟨u, rfl, rx⟩ := vals1 r
  cases rx
  have hn := line63
  rcases hq with hq | hq
  · obtain ⟨its, r', pl, hz⟩ := I.list hq
    have hlen := r'.length
    exact Calls.call_len_list pl.isList (by simp only [List.size_toArray] <;> omega) ⟨.int ys.length, H, I.tok _, ⟨s.toks + 1, by rw [List.size_toArray, hlen]⟩, q⟩
  · obtain ⟨its, r', pl, hz⟩ := I.tuple hq
    have hlen := r'.length
    exact len_tuple pl (by simp only [List.size_toArray] <;> omega) ⟨.int ys.length, H, I.tok _, ⟨s.toks + 1, by rw [List.size_toArray, hlen]⟩, q⟩
theorem call_len_str : CallR X (.builtin "len") (fun xs H Q => ∃ z, xs = [.str z] ∧ z.length ≤ sizeLine ∧ Q (.int z.length) H) := by
  intro pins s σ H xs us Q I r h
  obtain ⟨z, rfl, hz, q⟩ := h
  obtain ⟨u, rfl, t, rfl⟩ := vals1 r
  have hn := line63
  exact len_str (by omega) ⟨.int z.length, H, I.tok _, ⟨_, rfl⟩, q⟩
theorem CallR.or {f : Value} {r r' : List V → Hp → VK → Prop} (h : CallR X f r) (h' : CallR X f r') : CallR X f (fun xs H Q => r xs H Q ∨ r' xs H Q) := by
  intro pins s σ H xs us Q I rs q
  rcases q with q | q
  · exact h pins s σ H xs us Q I rs q
  · exact h' pins s σ H xs us Q I rs q
theorem call_list_of : CallR X (.type "list") (fun xs H Q => ∃ p ys, xs = [.ref p] ∧ (SqL X.K H p ys ∨ SqT X.K H p ys) ∧ ∀ l, H l = none → Q (.ref l) (upd H l (.lst ys))) := by
  intro pins s σ H xs us Q I r h
  obtain ⟨p, ys, rfl, hq, q⟩ := h
  obtain ⟨u, rfl, rx⟩ := vals1 r
  cases rx
  have fin : ∀ (its : List Value), Vals ys its → ys.length ≤ sizeLine → ∀ (h' : Heap) (c' : Nat), (∀ b o', s.heap.get? b = some o' → h'.get? b = some o') →
      h'.get? s.heap.objs.size = some { cls := .type "list", dict := none, data := .seq its.toArray c', slots := #[] } → EP X pins σ Q (.ref s.heap.objs.size) { s with heap := h' } := fun its r' hz h' c' kp e =>
    ⟨.ref s.heap.objs.size, _, I.laid (t' := s.toks) kp (Nat.le_refl _) (show ObjOk X.prog X.w _ h' _ (.lst ys) from ⟨hz, its, c', r', e⟩), rfl, q _ (I.hok.fresh (Nat.le_refl _))⟩
  rcases hq with hq | hq
  · obtain ⟨its, r', pl, hz⟩ := I.list hq
    have hlen := r'.length
    obtain ⟨o, ho, hc, n, hd⟩ := pl.isList
    exact call_list_seq p (.inl rfl) ho hc hd (fun h' c' kp e => fin its r' hz h' c' kp e) (by simp only [List.size_toArray] <;> omega)
  · obtain ⟨its, r', pl, hz⟩ := I.tuple hq
    have hlen := r'.length
    obtain ⟨o, ho, hc, n, hd⟩ := pl
    exact call_list_seq p (.inr rfl) ho hc hd (fun h' c' kp e => fin its r' hz h' c' kp e) (by simp only [List.size_toArray] <;> omega)
def tyV (K : PySem.W.Frag) (T : String) (x : V) (H : Hp) : Prop := match x with
  | .str _ => T = "str"
  | .int _ => T = "int"
  | .ref p => (T = "list" ∧ ∃ xs, SqL K H p xs) ∨ (T = "tuple" ∧ ∃ o, K.lookup p = some o ∧ o.cls = .type "tuple" ∧ o.dict = none) ∨
      (T = "dict" ∧ ((∃ kvs, H p = some (.dK kvs)) ∨ ∃ kvs, H p = some (.dT kvs))) ∨ (T = "set" ∧ ∃ S n, H p = some (.set S n))
  | _ => False
theorem tyV_is {pins : List (Addr × Obj)} {σ : St} {H : Hp} {s : Shared} {T : String} {x : V} {v : Value} (I : Inv X pins σ H s) (r : RelV x v) (ty : tyV X.K T x H) :
    s.TypeIs v T ∧ ∀ a, v = .ref a → ∃ ob, s.heap.get? a = some ob ∧ ob.dict = none := by
  cases x with
  | str z =>
    obtain ⟨t, rfl⟩ := r
    cases (show T = "str" from ty)
    exact ⟨typeIs_str s z t, fun _ e => nomatch e⟩
  | int i =>
    obtain ⟨t, rfl⟩ := r
    cases (show T = "int" from ty)
    exact ⟨typeIs_int s i t, fun _ e => nomatch e⟩
  | ref p =>
    cases r
    rcases ty with ⟨rfl, xs, hq⟩ | ⟨rfl, o, hk, hc, hd⟩ | ⟨rfl, hk⟩ | ⟨rfl, S, n, hk⟩
    · obtain ⟨its, _, pl, _⟩ := I.list hq
      refine ⟨pl.isList.typeIs, fun a e => ?_⟩
      cases e
      obtain ⟨o, n, e, c, hd, _⟩ := pl
      exact ⟨o, e, hd⟩
    · refine ⟨⟨o, I.kIn p o hk, hc⟩, fun a e => ?_⟩
      cases e
      exact ⟨o, I.kIn _ o hk, hd⟩
    · have z : ∃ o, s.heap.get? p = some o ∧ o.ExactDict := by
        rcases hk with ⟨kvs, hk⟩ | ⟨kvs, hk⟩
        · obtain ⟨_, _, _, _, o, _, _, e, ex, _⟩ := I.hok p _ hk
          exact ⟨o, e, ex⟩
        · obtain ⟨_, _, _, _, o, _, _, e, ex, _⟩ := I.hok p _ hk
          exact ⟨o, e, ex⟩
      obtain ⟨o, e, ex⟩ := z
      refine ⟨⟨o, e, ex.1⟩, fun a e2 => ?_⟩
      cases e2
      exact ⟨o, e, ex.2.1⟩
    · obtain ⟨o, _, _, _, e, ex, _⟩ := I.hok p _ hk
      refine ⟨⟨o, e, ex.1⟩, fun a e2 => ?_⟩
      cases e2
      exact ⟨o, e, ex.2.1⟩
  | _ => exact False.elim ty
variable {o e : Expr} {es : List Expr} {to : TE} {t : TA} {name : Str} {apos cpos : Pos} {T id : String} {r : V → List V → Hp → VK → Prop}
/- xs.append(e), list.index on a module's tuple .. are MtR facts of 06m -/
end
end L2

namespace L2
open PySem PySem.Spec PyProof.Rows

def MtM (X : Cx) (id : String) (r : V → List V → Hp → VK → Prop) : Prop :=
  ∀ (pins : List (Addr × Obj)) (s : Shared) (σ : St) (H : Hp) (x : V) (xs : List V) (v : Value) (us : List Value) (Q : VK), Inv X pins σ H s → RelV x v → Vals xs us → r x xs H Q →
    wpAny (model X.prog X.w) X.A (call (.builtin id) (v :: us)) (EP X pins σ Q) X.xe s

theorem Vals.one : ∀ {x : V} {us : List Value}, Vals [x] us → ∃ u, us = [u] ∧ RelV x u
  | _, _, .cons r .nil => ⟨_, rfl, r⟩
theorem Vals.two : ∀ {x y : V} {us : List Value}, Vals [x, y] us → ∃ u v, us = [u, v] ∧ RelV x u ∧ RelV y v
  | _, _, _, .cons r (.cons q .nil) => ⟨_, _, rfl, r, q⟩
theorem Vals.zero : ∀ {us : List Value}, Vals [] us → us = []
  | _, .nil => rfl
theorem Vals.rep {xs : List V} {us : List Value} (h : Vals xs us) : ∀ k : Nat, Vals (List.replicate k xs).flatten (List.replicate k us).flatten
  | 0 => .nil
  | k + 1 => by
    rw [List.replicate_succ, List.replicate_succ, List.flatten_cons, List.flatten_cons]
    exact Vals.append h (Vals.rep h k)
theorem foldl_rep (its : List Value) : ∀ (k : Nat) (acc : List Value),
    List.foldl (fun x1 x2 => x1 ++ x2) acc.toArray (List.replicate k its.toArray) = (acc ++ (List.replicate k its).flatten).toArray
  | 0, acc => by simp
  | k + 1, acc => by
    have e : acc.toArray ++ its.toArray = (acc ++ its).toArray := by simp
    have e2 : (acc ++ its) ++ (List.replicate k its).flatten = acc ++ (List.replicate (k + 1) its).flatten := by
      rw [List.replicate_succ, List.flatten_cons, List.append_assoc]
    rw [← e2, ← foldl_rep its k (acc ++ its), ← e, List.replicate_succ, List.foldl_cons]

section
variable {X : Cx} {pins : List (Addr × Obj)} {σ : St} {H : Hp} {s : Shared} {l b : Addr} {xs ys zs : List V}

theorem Inv.lset {its its' : List Value} {n : Nat} {f : Array Value → Array Value} {t' : Nat} (I : Inv X pins σ H s) (hH : H l = some (.lst xs))
    (e : s.heap.get? l = some { cls := .type "list", data := .seq its.toArray n }) (hf : f its.toArray = its'.toArray) (hv : Vals ys its') (hz : ys.length ≤ sizeLine) :
    Inv X pins σ (upd H l (.lst ys)) { s with heap := s.heap.update l (Obj.mapSeq f), toks := t' } := by
  have q := PySem.IsL.update e f
  rw [hf] at q
  refine I.write (x := l) (e := l) (by rw [hH]; exact trivial) (.inl rfl) (fun b' u hb hu => (Heap.get?_update_other s.heap (Obj.mapSeq f) (Ne.symm hb)).trans hu) ⟨_, q⟩ ?_
  exact ⟨hz, its', _, hv, q⟩
theorem Inv.lnew {its : List Value} {t' : Nat} (I : Inv X pins σ H s) (hv : Vals ys its) (hz : ys.length ≤ sizeLine) :
    Inv X pins σ (upd H s.heap.objs.size (.lst ys)) { s with heap := s.heap.push { cls := .type "list", data := .seq its.toArray }, toks := t' } :=
  I.laid (fun _ _ q => Heap.get?_push_of_some _ q) (Nat.le_refl _) ⟨hz, its, 0, hv, Heap.get?_push_size _ rfl⟩
theorem Inv.fresh (I : Inv X pins σ H s) : H s.heap.objs.size = none := I.hok.fresh (Nat.le_refl _)
theorem Inv.lstM (I : Inv X pins σ H s) (hH : H l = some (.lst xs)) : xs.length ≤ sizeLine ∧ ∃ (its : List Value) (n : Nat), Vals xs its ∧ xs.length = its.length ∧ s.heap.get? l = some { cls := .type "list", data := .seq its.toArray n } := by
  obtain ⟨z, its, n, r, e⟩ := I.hok l _ hH
  exact ⟨z, its, n, r, r.length, e⟩

theorem notLongL {n : Nat} (h : n ≤ sizeLine) : Builtin.List.listTooLong n = false := by
  unfold Builtin.List.listTooLong
  exact decide_eq_false (by omega)
end

section
variable {X : Cx}

def rAppend : V → List V → Hp → VK → Prop := fun x vs H Q => ∃ l xs y, x = .ref l ∧ vs = [y] ∧ H l = some (.lst xs) ∧ xs.length < sizeLine ∧ Q .non (upd H l (.lst (xs ++ [y])))
theorem mt_append : MtM X "list.append" rAppend := by
  intro pins s σ H x vs v us Q I rx rv h
  obtain ⟨l, xs, y, rfl, rfl, hH, hz, q⟩ := h
  cases rx
  obtain ⟨u, rfl, ru⟩ := rv.one
  obtain ⟨z, its, n, r, hl, e⟩ := I.lstM hH
  refine call_meets F.slot_list_append ⟨_, e, rfl⟩ F.entry_list_append (F.args_list_append_2 _ _) (PySem.list_append l its.toArray n u (by rw [List.size_toArray]; omega)) ⟨e, ?_⟩
  refine ⟨.non, _, I.lset (its' := its ++ [u]) hH e (by simp) (r.append (.cons ru .nil)) ?_, rfl, q⟩
  rw [List.length_append, List.length_singleton]
  omega

def rExtend : V → List V → Hp → VK → Prop := fun x vs H Q => ∃ l b xs zs, x = .ref l ∧ vs = [.ref b] ∧ H l = some (.lst xs) ∧ H b = some (.lst zs) ∧ xs.length + zs.length ≤ sizeLine ∧ Q .non (upd H l (.lst (xs ++ zs)))
theorem mt_extend : MtM X "list.extend" rExtend := by
  intro pins s σ H x vs v us Q I rx rv h
  obtain ⟨l, b, xs, zs, rfl, rfl, hH, hB, hz, q⟩ := h
  cases rx
  obtain ⟨u, rfl, ru⟩ := rv.one
  cases ru
  obtain ⟨z, its, n, r, hl, e⟩ := I.lstM hH
  obtain ⟨z2, its2, n2, r2, hl2, e2⟩ := I.lstM hB
  have hsz : its.toArray.size + its2.toArray.size ≤ sizeLine := by rw [List.size_toArray, List.size_toArray]; omega
  have hlong : ¬ (!its.toArray.isEmpty && Builtin.List.listTooLong (its.toArray.size + its2.toArray.size)) = true := by
    rw [notLongL hsz, Bool.and_false]
    exact Bool.false_ne_true
  refine call_meets F.slot_list_extend ⟨_, e, rfl⟩ F.entry_list_extend (F.args_list_extend_2 _ _)
    (AutoSeq1.list_extend_list_list_0 l its.toArray n b its2.toArray n2 hlong (by rw [List.size_toArray]; omega) (by omega)) ⟨e, e2, ?_⟩
  refine ⟨.non, _, I.lset (its' := its ++ its2) hH e (by simp) (r.append r2) ?_, rfl, q⟩
  rw [List.length_append]
  omega

def rCat : R2 := fun x y H Q => ∃ l b xs zs, x = .ref l ∧ y = .ref b ∧ H l = some (.lst xs) ∧ H b = some (.lst zs) ∧ xs.length + zs.length ≤ sizeLine ∧ ∀ p, H p = none → Q (.ref p) (upd H p (.lst (xs ++ zs)))
theorem op_cat : OpR X (binaryOp .Add) rCat := by
  intro pins s σ H x y v u Q I rx ry h
  obtain ⟨l, b, xs, zs, rfl, rfl, hH, hB, hz, q⟩ := h
  cases rx
  cases ry
  obtain ⟨z, its, n, r, hl, e⟩ := I.lstM hH
  obtain ⟨z2, its2, n2, r2, hl2, e2⟩ := I.lstM hB
  refine PySem.P.add_list e e2 ?_ (by rw [List.size_toArray, List.size_toArray]; omega)
  have ea : its.toArray ++ its2.toArray = (its ++ its2).toArray := by simp
  rw [ea]
  exact ⟨.ref _, _, I.lnew (t' := s.toks) (r.append r2) (by rw [List.length_append]; omega), rfl, q _ I.fresh⟩
def rRep : R2 := fun x y H Q => ∃ l k xs, x = .ref l ∧ y = .int k ∧ H l = some (.lst xs) ∧ -(2 ^ 63) ≤ k ∧ k < 2 ^ 63 ∧ xs.length * k.toNat ≤ sizeLine ∧
  ∀ p, H p = none → Q (.ref p) (upd H p (.lst (List.replicate k.toNat xs).flatten))
theorem len_rep {α : Type} (xs : List α) (k : Nat) : (List.replicate k xs).flatten.length = k * xs.length := by
  induction k with
  | zero => simp
  | succ k ih => rw [List.replicate_succ, List.flatten_cons, List.length_append, ih, Nat.succ_mul, Nat.add_comm]
theorem op_rep : OpR X (binaryOp .Mult) rRep := by
  intro pins s σ H x y v u Q I rx ry h
  obtain ⟨l, k, xs, rfl, rfl, hH, h1, h2, hz, q⟩ := h
  cases rx
  obtain ⟨t, rfl⟩ := ry
  obtain ⟨z, its, n, r, hl, e⟩ := I.lstM hH
  have hlen : its.toArray.size * k.toNat ≤ sizeLine := by rw [List.size_toArray, ← hl]; exact hz
  have hcap : ¬ its.toArray.size * k.toNat > (2 ^ 63 - 1) / 8 := by
    have : (sizeLine : Nat) ≤ (2 ^ 63 - 1) / 8 := by decide
    omega
  have hfit : ¬ (!Builtin.List.listFitsIndex k) = true := by
    rw [fitsIndex_both h1 h2]
    exact Bool.false_ne_true
  have hlong : ¬ Builtin.List.listTooLong (its.toArray.size * k.toNat) = true := by
    rw [notLongL hlen]
    exact Bool.false_ne_true
  have hnew : List.foldl (fun x1 x2 => x1 ++ x2) #[] (List.replicate (if its.toArray.isEmpty = true then 0 else k.toNat) its.toArray) = (List.replicate k.toNat its).flatten.toArray := by
    have f0 : ∀ m : Nat, List.foldl (fun x1 x2 => x1 ++ x2) #[] (List.replicate m its.toArray) = (List.replicate m its).flatten.toArray := fun m => by
      have := foldl_rep its m []
      rw [List.nil_append] at this
      exact this
    rw [f0]
    cases its with
    | nil => simp
    | cons a r' => rw [if_neg (by simp)]
  refine wpAny_binaryOp_repeat_ref (T := "list") (U := "int") (by decide) ⟨_, e, rfl⟩ (fun s' => typeIs_int s' k t) noFill_list_mul F.fills_int_mul F.slot_int_rmul repeat_list F.slot_int_index.lookup
    (call_meets F.slot_int_rmul (typeIs_int s k t) F.entry_int_rmul (F.args_int_rmul_2 _ _) (int___rmul___int_list k t l its.toArray n)
      ⟨e, rfl, ⟨_, e, rfl⟩, call_meets F.slot_list_mul ⟨_, e, rfl⟩ F.entry_list_mul (F.args_list_mul_2 _ _) (AutoListH.list___mul___list_int_3 l its.toArray n k t hfit hcap hlong) ⟨e, ?_⟩⟩)
  rw [hnew]
  exact ⟨.ref _, _, I.lnew (t' := s.toks) (r.rep k.toNat) (by rw [len_rep, Nat.mul_comm]; exact hz), rfl, q _ I.fresh⟩

end

section
variable {prog : Program} {w : World} {A : Around} {E : Value → Shared → Prop} {s : Shared}
set_option maxRecDepth 100000 in
end

section
variable {X : Cx}
end
end L2

namespace Att
open PySem PySem.W PySem.Calls PyProof.Rows

theorem ints_of_wellAll {P : Params} {h : Heap} : ∀ (ns : List Int) (vs : List Value), WellAll P h vs (ns.map WData.int) → IntsAre vs ns := by
  intro ns
  induction ns with
  | nil =>
    intro vs w
    rw [List.map_nil] at w
    cases w
    exact .nil
  | cons n ns ih =>
    intro vs w
    rw [List.map_cons] at w
    cases w with
    | cons a b =>
      cases a
      exact .cons _ _ (ih _ b)

theorem script_of {l : OpenLaw} {n : Nat} (hn : l.most = some n) {P : Params} {h : Heap} {args : List WData} {vals : List Value}
    (hpre : l.row.toRowW.claim.pre args = true) (hwl : WellAll P h vals args) :
    ∃ a vs ns, vals = [Value.ref a] ∧ args = [WData.list (ns.map WData.int)] ∧ h.get? a = some { cls := .type "list", data := .seq vs.toArray } ∧ IntsAre vs ns ∧ ns.length ≤ n := by
  have hsh : WShape.hasAll [] args [.list .int] = true := (pre_splitW hpre).1
  have hc : l.pre.holds [] { args := args } = true := (pre_splitW hpre).2
  obtain ⟨d, r, rfl, h1, h2⟩ := hasAllW_cons hsh
  obtain rfl := hasAllW_nil h2
  obtain ⟨xs, rfl, h3⟩ := hasW_list h1
  obtain ⟨ns, rfl⟩ := items_int h3
  have hlen : ns.length ≤ n := by
    unfold OpenLaw.pre at hc
    have h4 : (WTm.not (.lt (.lit (.int (n : Int))) (.len (.arg 0)))).holds [] { args := [.list (ns.map .int)] } = true := by
      have h4 := (holds_andW hc).1
      rw [hn] at h4
      exact h4
    have h5 := condW_of h4 (w_not (w_lt w_lit (w_len_list (w_arg rfl))))
    rw [List.length_map] at h5
    refine Nat.le_of_not_lt fun q => ?_
    have q' : (n : Int) < ((ns.length : Nat) : Int) := by omega
    first
      | (rw [decide_eq_true q'] at h5; exact absurd h5 (by decide))
      | (simp at h5; omega)
  cases hwl with
  | cons w1 w2 =>
    cases w2
    cases w1 with
    | list ho hall => exact ⟨_, _, ns, rfl, rfl, ho, ints_of_wellAll ns _ hall, hlen⟩

theorem post_true (l : OpenLaw) (args : List WData) : l.row.toRowW.claim.post args (.bool true) args = true :=
  postW_of (r := l.row.toRowW) (X := (true == true))
    (show WShape.has [] (.bool true) .bool = true by first | rfl | decide | simp [WShape.has, WShape.arms, WShape.armsAll])
    (show (WTm.eq .res (.lit (.bool true))).value [] { args := args, res := some (.bool true), after := args } = some (.bool (true == true)) from w_eq_bool (w_res rfl) w_lit) rfl

theorem attach_call {l : OpenLaw} {n : Nat} {q : Program} {loose : List Str} {XP : (Str → Option Value) → Heap → Prop} {YP : World → Heap → Prop} {d : DefRec}
    (hn : l.most = some n) (hdf : d.params.defaults = [])
    (call : ∀ (w : World) (s₀ s₁ : Shared) (mg mb : Str → Option Value) (fa : Addr) (o : Obj) (pm cd doc : Value) (a : Addr) (vs : List Value) (ns : List Int),
      Ground q loose [] XP w s₀ mg mb s₁.heap → YP w s₁.heap →
      s₁.heap.get? fa = some o → o.data = .func (docDef d.name d.params d.body d.scope pm cd doc) → s₁.heap.CodeRec cd d.name → mg d.name = some (.ref fa) →
      s₁.heap.get? a = some { cls := .type "list", data := .seq vs.toArray } → IntsAre vs ns → ns.length ≤ n → s₁.gens = #[] →
      codeAny (model l.prog w) callerA (.call (.ref fa) ⟨[.ref a], []⟩) (fun r s' => r = .ok (.ret (.bool true)) ∧ OldK s₁.heap s'.heap ∧ s'.os = s₁.os ∧ AllBare s'.gens) s₁) :
    WalkO q loose XP YP l.row.toRowW d [] (fun f vs => PySem.call f vs) := by
  intro w s₀ s₁ mg mb G Y fa o pm cd doc dV kV ho hd hcd hD hmg hg args vals as hpre hlay hrd hwl hlo
  obtain rfl : dV = .none := Dflts.none hD hdf
  obtain rfl : kV = .none := Dflts.noKw hD
  obtain ⟨a, vs, ns, rfl, rfl, hobj, hints, hlen⟩ := script_of hn hpre hwl
  refine enter_call (codeAny_mono (call w s₀ s₁ mg mb fa o pm cd doc a vs ns G Y ho (fd_plain hd) hcd hmg hobj hints hlen hg) fun r s' hq => ?_)
  obtain ⟨rfl, h2, h3, h4⟩ := hq
  exact ⟨.inl ⟨.bool true, .bool true, [], rfl, fun _ => rfl, .bool true, post_true l _, fun _ => ⟨List.Pairwise.nil, fun _ hm => (nomatch hm)⟩⟩, h2, h3, h4⟩

section
variable {prog : Program} {w : World} {A : Around} {E : Value → Shared → Prop} {s : Shared} {K : Frag}

end
end Att

namespace L2
open PySem PySem.Spec PyProof.Rows

theorem vals_ints : ∀ {vs : List Value} {ns : List Int}, IntsAre vs ns → Vals (ns.map V.int) vs
  | _, _, .nil => .nil
  | _, _, .cons n t h => .cons ⟨t, rfl⟩ (vals_ints h)

def Only (H : Hp) : Prop := ∀ b, H b = none ∨ ∃ o xs, H b = some (.frz o (.lst xs))

theorem law_call {P : Program} {w : World} {K : PySem.W.Frag} {mg mb : Str → Option Value} {CX : CXT} {k : Nat} {fa a : Addr} {fd : FuncData} {x : Str} {sp : Sp} {s₁ : Shared} {vs : List Value} {ns : List Int}
    (KX : K.In s₁.heap) (hns : s₁.heap.Ns mainGlobals mg) (hb : s₁.heap.Ns builtinsNs mb) (hbb : ∀ x : Str, x ≠ "__name__" → mb x = bootBuiltins x) (hlim : s₁.heap.NoLimit) (hg : s₁.gens = #[])
    (ha : s₁.heap.get? a = some { cls := .type "list", data := .seq vs.toArray }) (hi : IntsAre vs ns) (hl : ns.length ≤ sizeLine) (hr : Room k callerA)
    (F : ∀ base : Heap, K.In base → base.Ns mainGlobals mg → FnOk P w K mg base CX k fa fd [x] sp) (hbind : ∀ (s : Shared) (u : Value), BindsTo s fd ⟨[u], []⟩ [(x, u)])
    (hsp : ∀ H : Hp, Only H → SqL K H a (ns.map V.int) → sp [.ref a] H (fun v _ => v = .bl true) fun _ _ _ => False)
    (hCX : ∀ H e s', CX [] H s₁ (fun _ _ _ => False) e s' → False) :
    codeAny (model P w) callerA (.call (.ref fa) ⟨[.ref a], []⟩) (fun r s' => r = .ok (.ret (.bool true)) ∧ OldK s₁.heap s'.heap ∧ s'.os = s₁.os ∧ AllBare s'.gens) s₁ := by
  have rv := vals_ints hi
  have lenV := hi.length
  -- from an abstract heap in which nothing but the script may be tracked
  have core : ∀ H : Hp, Only H → SqL K H a (ns.map V.int) → HOk P w H s₁.heap → (∀ b, H b ≠ none → b = a) → (H a ≠ none → K.lookup a = none) →
      codeAny (model P w) callerA (.call (.ref fa) ⟨[.ref a], []⟩) (fun r s' => r = .ok (.ret (.bool true)) ∧ OldK s₁.heap s'.heap ∧ s'.os = s₁.os ∧ AllBare s'.gens) s₁ := by
    intro H hO hS hok hA hK
    have base_of : ∀ {b : Addr} {o : Obj}, s₁.heap.get? b = some o → H b = none → (hidT s₁.heap H).get? b = some o := fun e n => hidT_get e n
    have noA : ∀ {b : Addr} {o : Obj} {es : Array DictEntry} {ep : Nat}, s₁.heap.get? b = some o → o.data = .dict es ep → H b = none := fun {b o es ep} e d => by
      cases q : H b with
      | none => rfl
      | some u =>
        have e' : b = a := hA b (by rw [q]; simp)
        subst e'
        rw [ha] at e; cases e
        have d' : Data.seq vs.toArray _ = Data.dict es ep := d
        cases d'
    have nsK : ∀ {b : Addr} {m : Str → Option Value}, s₁.heap.Ns b m → (hidT s₁.heap H).Ns b m := fun {b m} ⟨o, es, ep, e, d, r⟩ => ⟨o, es, ep, base_of e (noA e d), d, r⟩
    have hKb : K.In (hidT s₁.heap H) := fun b o e => base_of (KX b o e) (by
      cases q : H b with
      | none => rfl
      | some u =>
        have e' : b = a := hA b (by rw [q]; simp)
        subst e'
        rw [hK (by rw [q]; simp)] at e; cases e)
    have hM : Mod K mg (hidT s₁.heap H) := ⟨hKb, nsK hns, ⟨mb, nsK hb, hbb⟩, let ⟨mc, h1, h2⟩ := hlim; ⟨mc, nsK h1, h2⟩⟩
    have e0 : Env0 P w K mg (hidT s₁.heap H) callerA [] s₁ H := ⟨rfl, hM, fun b o e => of_hidT e, Nat.le_of_eq (hidT_size _ _), trivial, fun b hb => absurd (show b ∈ ([] : List Addr) from hb) (by simp), hok, .of_eq hg⟩
    refine codeAny_mono ((F _ hKb (nsK hns)).run callerA [] s₁ H ⟨[.ref a], []⟩ [.ref a] [.ref a] _ _ hr e0 (hbind s₁ (.ref a)) (.cons rfl .nil) (hsp H hO hS)) fun r s' h => ?_
    cases r with
    | error e => exact (hCX H e s' h).elim
    | ok fl =>
      cases fl with
      | next => exact False.elim h
      | brk => exact False.elim h
      | cont => exact False.elim h
      | ret u =>
        obtain ⟨v, H', os, bare, un, hok', r', q⟩ := h
        have q' : v = .bl true := q
        subst q'
        obtain rfl : u = Value.bool true := r'
        refine ⟨rfl, OldK.of_keep fun b o e => ?_, os, bare⟩
        cases q : H b with
        | none => exact un.keep b o e q (by intro z; exact absurd (show b ∈ ([] : List Addr) from z) (by simp)) (by simp)
        | some u =>
          rcases hO b with z | ⟨ob, xs, z⟩
          · rw [q] at z; cases z
          · have z2 := un.frzs b ob _ z
            obtain ⟨e1, _⟩ := hok b _ z
            obtain ⟨e2, _⟩ := hok' b _ z2
            rw [e] at e1; cases e1
            exact e2
  cases hk : K.lookup a with
  | some o =>
    -- the script is one of the module's own objects
    have e := KX a o hk
    rw [ha] at e
    cases e
    refine core (fun _ => none) (fun _ => .inl rfl) (.inr ⟨_, vs.toArray, _, hk, rfl, rfl, rfl, by rw [List.size_toArray, lenV]; exact hl, by simpa using rv⟩) (fun b u z => by have z' : (none : Option HO) = some u := z; cases z') (fun b z => absurd rfl z) fun z => absurd rfl z
  | none =>
    refine core (fun b => if b = a then some (.frz { cls := .type "list", data := .seq vs.toArray } (.lst (ns.map V.int))) else none) (fun b => ?_) (.inl (.inr ⟨{ cls := .type "list", data := .seq vs.toArray }, if_pos rfl⟩)) (fun b u z => ?_) (fun b z => ?_) fun _ => hk
    · by_cases hb : b = a
      · exact .inr ⟨_, _, if_pos hb⟩
      · exact .inl (if_neg hb)
    · by_cases hb : b = a
      · have z' := (if_pos hb).symm.trans z
        cases z'
        subst hb
        exact ⟨ha, by rw [List.length_map]; exact hl, vs, _, rv, ha⟩
      · have z' := (if_neg hb).symm.trans z
        cases z'
    · by_cases hb : b = a
      · exact hb
      · exact absurd (if_neg hb) z
end L2

namespace L2
open PySem PySem.Spec PyProof.Rows

abbrev KOf {K : PySem.W.Frag} {h : Heap} (_ : K.In h) : PySem.W.Frag := K

theorem walk_of {l : PySem.W.OpenLaw} {n k : Nat} {q : Program} {loose : List Str} {XP : (Str → Option Value) → Heap → Prop} {YP : World → Heap → Prop} {d : DefRec} {K : Params → PySem.W.Frag} {CX : World → CXT} {sp : World → Sp} {x : Str}
    (hn : l.most = some n) (hn2 : n ≤ sizeLine) (hdf : d.params.defaults = []) (hr : Room k callerA)
    (hY : ∀ (w : World) (h : Heap), YP w h → (K w.params).In h)
    (F : ∀ (w : World) (mg : Str → Option Value) (fa : Addr) (h : Heap), (K w.params).In h → h.Ns mainGlobals mg → mg d.name = some (.ref fa) →
      ∃ fd : FuncData, (∀ (s : Shared) (u : Value), BindsTo s fd ⟨[u], []⟩ [(x, u)]) ∧
        ∀ base : Heap, (K w.params).In base → base.Ns mainGlobals mg → FnOk l.prog w (K w.params) mg base (CX w) k fa fd [x] (sp w))
    (hsp : ∀ (w : World) (H : Hp) (a : Addr) (ns : List Int), ns.length ≤ n → Only H → SqL (K w.params) H a (ns.map V.int) → sp w [.ref a] H (fun v _ => v = .bl true) fun _ _ _ => False)
    (hCX : ∀ (w : World) (H : Hp) (s : Shared) (e : Value) (s' : Shared), CX w [] H s (fun _ _ _ => False) e s' → False) :
    PySem.W.WalkO q loose XP YP l.row.toRowW d [] (fun f vs => PySem.call f vs) := by
  refine Att.attach_call hn hdf fun w s₀ s₁ mg mb fa o pm cd doc a vs ns G Y ho hd hcd hmg hobj hints hlen hg => ?_
  have KX := hY w _ Y
  obtain ⟨fd, hb, hF⟩ := F w mg fa _ KX G.T.g hmg
  exact law_call KX G.T.g G.T.b G.T.builtins G.T.nolimit hg hobj hints (Nat.le_trans hlen hn2) hr hF hb (fun H hO hS => hsp w H a ns hlen hO hS) fun H e s' => hCX w H s₁ e s'
end L2

/- THE LAST THEOREM (shape; LID, My.* are yours):
   My.Adr: a structure of the addresses that your layer names (classes, functions); My.Txt K t: a structure (Prop) of the equations over K;
   My.txt_mk : {K} {implicit addresses ..} (e1 : nsIn K mainGlobals "law" = some (some (.ref f))) (e2 : K.lookup f = some ⟨oc, od, .func (fnOf "law" "law" params body scope dV kV doc pm an cdv ct), sl⟩) (e3 : codeIn K cdv "law" = true) .. : ∃ t, My.Txt K t

set_option maxRecDepth 100000 in
set_option maxHeartbeats 0 in
theorem PySem.Challenge.cw_LID_holds : PySem.Challenge.rw_LID.Holds := by
  w_on; o_law; k_head; (case hw => w_witness2)
  k_fill
  refine L2.walk_of (l := PySem.Challenge.rw_LID) (n := 63) (k := 40) (x := "script") (CX := fun w => ..) (sp := fun _ => My.sp_law) rfl (by decide) rfl ⟨rfl, by decide, by decide⟩ (fun w h Y => PySem.W.kIn_of Y) ?F ?S ?C
  case F =>
    intro w mg fa h KX G hmg
    have T : ∃ t, My.Txt (L2.KOf KX) t := by
      dsimp only [L2.KOf]                          -- K must stand as «<heap const> w.params» for k_is
      refine' My.txt_mk ?e1 ?e2 ?e3 ..
      (case e1 => PySem.W.k_is)                    -- in the order: a name -> its address -> its object -> its parts
      (case e2 => PySem.W.k_is)
      ..
    obtain ⟨t, T⟩ := T
    have e0 := hmg.symm.trans (PySem.W.mg_of KX G T.law)
    cases e0                                       -- fa is the law's own address
    exact ⟨_, fun s u => .of_eq rfl, fun base kb nb => My.law_fn T kb nb⟩     -- if «.of_eq rfl» comes too early: refine' ⟨_, ?b, fun base kb nb => My.law_fn T kb nb⟩; exact fun s u => .of_eq rfl
  case S => exact fun w H a ns hl hO hS => ..
  case C => exact ..
(the tactic k_is has no namespace: write k_is) -/

namespace L2
open PySem PySem.Spec PyProof.Rows

def defArgs (s : Stmt) : Arguments := match s with
  | .FunctionDef _ a _ _ _ _ _ _ _ _ => a
  | _ => { posonlyargs := [], args := [], vararg := none, kwonlyargs := [], kw_defaults := [], kwarg := none, defaults := [] }
def defBody (s : Stmt) : List Stmt := match s with
  | .FunctionDef _ _ b _ _ _ _ _ _ _ => b
  | _ => []
def defScope (s : Stmt) : Scope := match s with
  | .FunctionDef _ _ _ _ _ _ sc _ _ _ => sc
  | _ => { kind := .function, names := [], isGenerator := false, isCoroutine := false }

abbrev CX0 : CXT := fun _ _ _ _ _ _ => False
abbrev E0 : XK := fun _ _ _ => False
theorem pass0 {X : Cx} : Passes CX0 X E0 := fun _ _ _ _ _ _ _ h => h.elim

structure Fun (K : PySem.W.Frag) (x qual : Str) (st : Stmt) (f : Addr) (fd : FuncData) : Prop where
  ex : ∃ (oc : Value) (od : Option Addr) (kV doc pm : Value) (an : Option Addr) (cdv ct : Value) (osl : Array (Option Value)),
    fd = PySem.W.fnOf x qual (defArgs st) (defBody st) (defScope st) .none kV doc pm an cdv ct ∧ K.lookup f = some ⟨oc, od, .func fd, osl⟩ ∧ PySem.W.codeIn K cdv qual = true
  kp : PySem.W.keepIn K (.ref f) = true
section
variable {P : Program} {w : World} {K : PySem.W.Frag} {mg : Str → Option Value} {base : Heap}
theorem Fun.ok {x qual : Str} {st : Stmt} {f : Addr} {fd : FuncData} {N ps : List Str} {k : Nat} {sp : Sp} (F : Fun K x qual st f fd) (S : FnScope N ps (defScope st)) (len : ∀ vs H Q E, sp vs H Q E → vs.length = ps.length)
    (hbody : ∀ (cdv : Value) (A : Around) (outer : List Env) (s : Shared) (H : Hp) (vs : List V) (Q : VK) (E : XK), Room k (A.deeper (envOfC qual (defScope st) s.heap.objs.size f cdv)) → sp vs H Q E →
      ∃ t, PSs (cxOf CX0 P w K mg base N qual (defScope st) f cdv A outer s H E).nox (defBody st) t ∧ t { nx := fun _ H' => Q .non H', rt := Q } (start N vs) H) : FnOk P w K mg base CX0 (k + 1) f fd ps sp := by
  obtain ⟨oc, od, kV, doc, pm, an, cdv, ct, osl, rfl, lk, hcd⟩ := F.ex
  refine fn_of lk hcd S len fun A outer s H vs Q E hr hsp => ?_
  obtain ⟨t, h, q⟩ := hbody cdv A outer s H vs Q E hr hsp
  exact ⟨t, h.nox, q⟩
theorem Fun.binds {x qual : Str} {st : Stmt} {f : Addr} {fd : FuncData} {ps : List Str} (F : Fun K x qual st f fd)
    (h : ∀ (kV doc pm : Value) (an : Option Addr) (cdv ct : Value) (us : List Value), us.length = ps.length → bindArgs (PySem.W.fnOf x qual (defArgs st) (defBody st) (defScope st) .none kV doc pm an cdv ct) ⟨us, []⟩ = pure (ps.zip us)) : Binds K fd ps [] := by
  obtain ⟨oc, od, kV, doc, pm, an, cdv, ct, osl, rfl, lk, hcd⟩ := F.ex
  exact .all (h kV doc pm an cdv ct)
theorem fun_mk {x qual : Str} {st : Stmt} {f : Addr} {oc : Value} {od an : Option Addr} {osl : Array (Option Value)} {kV doc pm cdv ct : Value} (l : K.lookup f = some ⟨oc, od, .func (PySem.W.fnOf x qual (defArgs st) (defBody st) (defScope st) .none kV doc pm an cdv ct), osl⟩)
    (c : PySem.W.codeIn K cdv qual = true) (k : PySem.W.keepIn K (.ref f) = true) : Fun K x qual st f (PySem.W.fnOf x qual (defArgs st) (defBody st) (defScope st) .none kV doc pm an cdv ct) := ⟨⟨oc, od, kV, doc, pm, an, cdv, ct, osl, rfl, l, c⟩, k⟩
end
section
variable {X : Cx}
end

theorem iteF {A B : Prop} (h : B) : if false = true then A else B := by
  rw [if_neg Bool.false_ne_true]
  exact h
theorem iteT {A B : Prop} (h : A) : if true = true then A else B := by
  rw [if_pos rfl]
  exact h
theorem ite2 {c A B : Prop} [Decidable c] (h1 : c → A) (h2 : ¬ c → B) : if c then A else B := by
  by_cases h : c
  · rw [if_pos h]
    exact h1 h
  · rw [if_neg h]
    exact h2 h
def Same (H H' : Hp) : Prop := ∀ b o, H b = some o → H' b = some o
theorem Same.refl (H : Hp) : Same H H := fun _ _ h => h
theorem Same.trans {H H1 H2 : Hp} (a : Same H H1) (b : Same H1 H2) : Same H H2 := fun c o h => b c o (a c o h)
theorem Same.free {H H' : Hp} (e : Same H H') {l : Addr} (h : H' l = Option.none) : H l = Option.none := by
  cases q : H l with
  | none => rfl
  | some o =>
    rw [e l o q] at h
    cases h
theorem Same.seq {K : PySem.W.Frag} {H H' : Hp} {a : Addr} {xs : List V} (e : Same H H') (h : SqL K H a xs) : SqL K H' a xs := by
  rcases h with (h | ⟨o, h⟩) | h
  · exact .inl (.inl (e _ _ h))
  · exact .inl (.inr ⟨o, e _ _ h⟩)
  · exact .inr h

end L2

section
set_option Elab.async false
set_option maxRecDepth 100000
namespace L2
open PySem
section
variable {prog : Program} {w : World} {A : Around} {R : Result → Shared → Prop} {s : Shared}
theorem compLoop_any {elt target iter : Expr} {ifs : List Expr} {scope : Scope} {pos : Pos} {it acc : Value} {env : Env} (I : Nat → Shared → Prop)
    (turn : ∀ n s, I n s → wpAny (model prog w) A (pyNext it) (fun r s₁ => match r with
      | none => R (.ok .next) s₁
      | some v => wpAny (model prog w) A (letOwnedTupleGo target it v) (fun _ s₁' => wpAny (model prog w) A (assign target env v) (fun _ s₂ =>
          wpAny (model prog w) A (forIn ifs true fun c r => if r = true then do let ok ← isTrue c env (eval c env); pure (ForInStep.yield ok) else pure (ForInStep.yield r)) (fun ok s₃ =>
            if ok = true then wpAny (model prog w) A (eval elt env) (fun x s₄ =>
              wpAny (model prog w) A (call (.builtin "list.append") [acc, x]) (fun _ s₅ => ∃ m, m < n ∧ I m s₅) (fun _ _ => False) s₄) (fun _ _ => False) s₃
            else ∃ m, m < n ∧ I m s₃) (fun _ _ => False) s₂) (fun _ _ => False) s₁') (fun _ _ => False) s₁) (fun _ _ => False) s)
    (n : Nat) (h : I n s) :
    codeAny (model prog w) A (.compLoop (.ListComp elt [⟨target, iter, ifs, 0⟩] scope pos) 0 it acc env) R s := by
  refine codeAny_loop rfl I (fun n s hI => ?_) n h
  show wpAny _ A ((compTurn (.ListComp elt [⟨target, iter, ifs, 0⟩] scope pos) 0 it acc env).onRaise (fun x => do noteFrame x env; theTreesLotGoes x)) _ _ s
  refine wpAny_noted ?_
  rw [compTurn_list]
  refine wpAny_bind (wpAny_standAt (wpAny_bind (wpAny_mono (turn n s hI) (fun r s₁ h₁ => ?_) fun _ _ h' => h'.elim)))
  cases r with
  | none => exact wpAny_pure h₁
  | some v =>
    refine wpAny_bind (wpAny_mono h₁ (fun _ s₁' h₁' => ?_) fun _ _ h' => h'.elim)
    refine wpAny_bind (wpAny_mono h₁' (fun _ s₂ h₂ => wpAny_bind (wpAny_mono h₂ (fun ok s₃ h₃ => ?_) fun _ _ h' => h'.elim)) fun _ _ h' => h'.elim)
    cases ok with
    | false => exact wpAny_pure ⟨rfl, h₃⟩
    | true =>
      exact wpAny_bind (wpAny_bind (wpAny_mono h₃ (fun x s₄ h₄ => wpAny_bind (wpAny_mono h₄ (fun _ s₅ h₅ => wpAny_pure (wpAny_pure ⟨rfl, h₅⟩)) fun _ _ h' => h'.elim)) fun _ _ h' => h'.elim))
end
theorem closure_from {env : Env} : ∀ (names : List (Str × NameKind)) (acc : List (Str × Addr)), (∀ y ∈ names, y.2 = .free → ∃ c, env.cells.lookup y.1 = some c) → (∀ x c, acc.lookup x = some c → env.cells.lookup x = some c) →
    ∃ cl : List (Str × Addr), (forIn names acc fun (x : Str × NameKind) (r : List (Str × Addr)) => (match x with | (name, kind) => if (kind == NameKind.free) = true then do let a ← cellOf env name; pure (ForInStep.yield ((name, a) :: r)) else pure (ForInStep.yield r) : Sem (ForInStep (List (Str × Addr))))) = pure cl ∧
      (∀ x c, cl.lookup x = some c → env.cells.lookup x = some c) ∧ (∀ y ∈ names, y.2 = .free → ∃ c, cl.lookup y.1 = some c) ∧ ∀ x c, acc.lookup x = some c → ∃ c', cl.lookup x = some c'
  | [], acc, _, h => ⟨acc, rfl, h, (fun y z => by cases z), fun _ c e => ⟨c, e⟩⟩
  | (name, kind) :: r, acc, hf, h => by
    by_cases hk : kind = .free
    · subst hk
      obtain ⟨c, hc⟩ := hf (name, .free) List.mem_cons_self rfl
      have h2 : ∀ x d, ((name, c) :: acc).lookup x = some d → env.cells.lookup x = some d := fun x d e => by
        rw [List.lookup_cons] at e
        cases hx : x == name with
        | true => rw [hx] at e; cases e; rw [eq_of_beq hx]; exact hc
        | false => rw [hx] at e; exact h x d e
      obtain ⟨cl, e, h3, h4, h5⟩ := closure_from r ((name, c) :: acc) (fun y hy => hf y (List.mem_cons_of_mem _ hy)) h2
      refine ⟨cl, ?_, h3, fun y hy hyf => ?_, fun x d hx => ?_⟩
      · rw [List.forIn_cons]
        simp only [beq_self_eq_true, if_true, cellOf, hc, pure_bind]
        exact e
      · rcases List.mem_cons.mp hy with rfl | hy
        · exact h5 name c (by simp [List.lookup_cons])
        · exact h4 y hy hyf
      · cases hxn : x == name with
        | true => exact h5 x c (by rw [List.lookup_cons, hxn])
        | false => exact h5 x d (by rw [List.lookup_cons, hxn]; exact hx)
    · obtain ⟨cl, e, h3, h4, h5⟩ := closure_from r acc (fun y hy => hf y (List.mem_cons_of_mem _ hy)) h
      have hb : (kind == NameKind.free) = false := by simpa using hk
      refine ⟨cl, ?_, h3, fun y hy hyf => ?_, h5⟩
      · rw [List.forIn_cons]
        simp only [hb, Bool.false_eq_true, if_false, pure_bind]
        exact e
      · rcases List.mem_cons.mp hy with rfl | hy
        · exact absurd hyf hk
        · exact h4 y hy hyf
theorem closure_ok {env : Env} {scope : Scope} (hf : ∀ y ∈ scope.names, y.2 = .free → ∃ c, env.cells.lookup y.1 = some c) :
    ∃ cl, closureFor scope env = pure cl ∧ (∀ x c, cl.lookup x = some c → env.cells.lookup x = some c) ∧ ∀ y ∈ scope.names, y.2 = .free → ∃ c, cl.lookup y.1 = some c := by
  obtain ⟨cl, e, h1, h2, _⟩ := closure_from (env := env) scope.names [] hf (fun x c e => by simp at e)
  refine ⟨cl, ?_, h1, h2⟩
  unfold closureFor
  exact (congrArg (· >>= pure) e).trans (pure_bind _ _)
end L2
end
section
set_option Elab.async false
set_option linter.all false
set_option maxRecDepth 100000
set_option maxHeartbeats 4000000
namespace L2
open PySem PySem.Spec PyProof.Rows

abbrev Cx.block (X : Cx) (scope : Scope) (cl : List (Str × Addr)) (C : Addr) (N : List Str) (s : Shared) (H : Hp) (fp : List Addr) : Cx :=
  { X with N := N, s₀ := s, H₀ := H, env := compEnvC scope cl C X.env, outer := X.stack, ex := fp, fn := fun _ => false, pn := [], xe := fun _ _ => False }
def compOk (osc : Scope) (oN : List Str) (sc : Scope) (N : List Str) (js : List Nat) : Bool :=
  sc.names.all (fun y => y.2 != .cell) && (sc.names.all (fun y => y.2 != .local || sc.names.lookup y.1 == some .local) && (decide (js.length ≤ N.length) &&
    (sc.names.all (fun y => y.2 != .free || (osc.names.lookup y.1 == some .cell || osc.names.lookup y.1 == some .free)) &&
      (List.range js.length).all (fun i => match N[N.length - js.length + i]?, oN[js.getD i 0]? with | some x, some y => x == y && sc.names.lookup x == some .free | _, _ => false))))
structure CompSc (osc : Scope) (oN : List Str) (sc : Scope) (N : List Str) (js : List Nat) : Prop where
  nocell : ∀ y ∈ sc.names, y.2 ≠ .cell
  names : ∀ y ∈ sc.names, y.2 = .local → sc.names.lookup y.1 = some .local
  len : js.length ≤ N.length
  tk : ∀ y ∈ sc.names, y.2 = .free → osc.names.lookup y.1 = some .cell ∨ osc.names.lookup y.1 = some .free
  fr : ∀ (i j : Nat), js[i]? = some j → ∃ x, N[N.length - js.length + i]? = some x ∧ oN[j]? = some x ∧ sc.names.lookup x = some .free
theorem compOk_sc {osc : Scope} {oN : List Str} {sc : Scope} {N : List Str} {js : List Nat} (h : compOk osc oN sc N js = true) : CompSc osc oN sc N js := by
  unfold compOk at h
  simp only [Bool.and_eq_true] at h
  obtain ⟨h1, h2, h3, h4, h5⟩ := h
  refine ⟨fun y hy => ?_, fun y hy hl => ?_, of_decide_eq_true h3, fun y hy hf => ?_, fun i j hj => ?_⟩
  · have := List.all_eq_true.mp h1 y hy
    simpa using this
  · have := List.all_eq_true.mp h2 y hy
    rw [hl] at this
    simpa using this
  · have := List.all_eq_true.mp h4 y hy
    rw [hf] at this
    simpa using this
  · have hi : i < js.length := (List.getElem?_eq_some_iff.mp hj).1
    have := List.all_eq_true.mp h5 i (List.mem_range.mpr hi)
    have e : js.getD i 0 = j := by rw [List.getD_eq_getElem?_getD, hj]; rfl
    rw [e] at this
    split at this
    · rename_i x y e1 e2
      simp only [Bool.and_eq_true, beq_iff_eq] at this
      obtain ⟨rfl, h⟩ := this
      exact ⟨x, e1, e2, h⟩
    · cases this
def blk (n : Nat) (js : List Nat) (σ : St) : St := List.replicate n none ++ js.map fun j => (σ[j]?).join
theorem blk_get {n : Nat} {js : List Nat} {σ : St} {i : Nat} {v : V} (h : (blk n js σ)[i]? = some (some v)) : ∃ k j, i = n + k ∧ js[k]? = some j ∧ σ[j]? = some (some v) := by
  unfold blk at h
  by_cases hi : i < n
  · rw [List.getElem?_append_left (by simpa using hi), List.getElem?_replicate] at h
    split at h <;> cases h
  · rw [List.getElem?_append_right (by simpa using hi), List.length_replicate, List.getElem?_map] at h
    cases e : js[i - n]? with
    | none => rw [e] at h; cases h
    | some j =>
      rw [e] at h
      refine ⟨i - n, j, by omega, e, ?_⟩
      have h' : (σ[j]?).join = some v := by simpa using h
      cases q : σ[j]? with
      | none => rw [q] at h'; cases h'
      | some o =>
        rw [q] at h'
        have : o = some v := h'
        rw [this]

theorem relabel_lookup {env : Env} : ∀ {names : List (Str × NameKind)} {x : Str} {k : NameKind},
    (names.map fun (n, k) => if (k == NameKind.free && env.scope.kind == .function && env.kindOf n == some .cell) then (n, NameKind.cell) else (n, k)).lookup x = some k → k = .cell ∨ k = .free → (∀ y ∈ names, y.2 ≠ .cell) → (x, NameKind.free) ∈ names
  | [], _, _, h, _, _ => by simp at h
  | (n, k1) :: r, x, k, h, hk, hc => by
    have ih := @relabel_lookup env r x k
    have hc' : ∀ y ∈ r, y.2 ≠ .cell := fun y hy => hc y (List.mem_cons_of_mem _ hy)
    have h1 : k1 ≠ .cell := hc (n, k1) List.mem_cons_self
    have h : List.lookup x ((if (k1 == NameKind.free && env.scope.kind == .function && env.kindOf n == some .cell) = true then (n, NameKind.cell) else (n, k1)) :: _) = some k := h
    by_cases c : (k1 == NameKind.free && env.scope.kind == .function && env.kindOf n == some .cell) = true
    · rw [if_pos c, List.lookup_cons] at h
      cases hx : x == n with
      | true =>
        have e : k1 = .free := by simp only [Bool.and_eq_true, beq_iff_eq] at c; exact c.1.1
        rw [eq_of_beq hx, e]
        exact List.mem_cons_self
      | false => rw [hx] at h; exact List.mem_cons_of_mem _ (ih h hk hc')
    · rw [if_neg c, List.lookup_cons] at h
      cases hx : x == n with
      | true =>
        rw [hx] at h
        have e : k1 = k := Option.some.inj h
        have e2 : k1 = .free := by
          rcases hk with z | z
          · exact absurd (e.trans z) h1
          · exact e.trans z
        rw [eq_of_beq hx, e2]
        exact List.mem_cons_self
      | false => rw [hx] at h; exact List.mem_cons_of_mem _ (ih h hk hc')
theorem relabel_free {env : Env} : ∀ {names : List (Str × NameKind)} {x : Str}, names.lookup x = some .free →
    (names.map fun (n, k) => if (k == NameKind.free && env.scope.kind == .function && env.kindOf n == some .cell) then (n, NameKind.cell) else (n, k)).lookup x = some .cell ∨
    (names.map fun (n, k) => if (k == NameKind.free && env.scope.kind == .function && env.kindOf n == some .cell) then (n, NameKind.cell) else (n, k)).lookup x = some .free
  | [], _, h => by simp at h
  | (n, k1) :: r, x, h => by
    have ih := @relabel_free env r x
    show List.lookup x ((if (k1 == NameKind.free && env.scope.kind == .function && env.kindOf n == some .cell) = true then (n, NameKind.cell) else (n, k1)) :: _) = _ ∨ List.lookup x ((if (k1 == NameKind.free && env.scope.kind == .function && env.kindOf n == some .cell) = true then (n, NameKind.cell) else (n, k1)) :: _) = _
    rw [List.lookup_cons] at h
    by_cases c : (k1 == NameKind.free && env.scope.kind == .function && env.kindOf n == some .cell) = true
    · rw [if_pos c, List.lookup_cons]
      cases hx : x == n with
      | true => exact .inl rfl
      | false => rw [hx] at h; exact ih h
    · rw [if_neg c, List.lookup_cons]
      cases hx : x == n with
      | true => rw [hx] at h; exact .inr h
      | false => rw [hx] at h; exact ih h

def PF (X : Cx) (ifs : List Expr) (t : TT) : Prop :=
  ∀ (pins : List (Addr × Obj)) (s : Shared) (σ : St) (H : Hp) (Q : Bool → Hp → Prop), Inv X pins σ H s → t σ H Q →
    wpAny (model X.prog X.w) X.A (forIn ifs true fun c r => if r = true then do let ok ← isTrue c X.env (eval c X.env); pure (ForInStep.yield ok) else pure (ForInStep.yield r)) (TP X pins σ Q) X.xe s
def tYes : TT := fun _ H Q => Q true H
theorem pf_nil {X : Cx} : PF X [] tYes := fun _ _ _ H _ I h => wpAny_tests_nil ⟨H, I, h⟩
theorem pf_one {X : Cx} {c : Expr} {t : TT} (h : PT X c t) : PF X [c] t := fun pins s σ H Q I hw => wpAny_tests_one (h pins s σ H Q I hw)

def tComp (n : Nat) (js : List Nat) (wi : TI) (g : TG) (tt : TT) (te : TE) : TE := fun σ H Q => wi σ H fun J H1 => ∀ D, H1 D = none → ∃ W : Nat → Nat → St → Hp → List V → Prop,
  (∃ m, W 0 m (blk n js σ) (upd H1 D (.lst [])) []) ∧ ∀ i m τ H2 ys, W i m τ H2 ys → H2 D = some (.lst ys) ∧
    ((J.stop i H2 ∧ Q (.ref D) H2) ∨ (J.go i H2 ∧ ys.length < sizeLine ∧ ∃ N : St → Hp → List V → Prop, (∀ τ' H' ys', N τ' H' ys' → ∃ m', m' < m ∧ W (i + 1) m' τ' H' ys') ∧ ∀ x H3, J.yld i H2 x H3 → g x τ H3 fun τ4 H4 => tt τ4 H4 fun b H5 =>
      if b = true then te τ4 H5 fun y H6 => H6 D = some (.lst ys) ∧ N τ4 (upd H6 D (.lst (ys ++ [y]))) (ys ++ [y])
      else N τ4 H5 ys))

section
variable {X : Cx}
theorem block_inv {pins : List (Addr × Obj)} {σ : St} {H : Hp} {s : Shared} {h₁ : Heap} {tk : Nat} {scope : Scope} {N : List Str} {js : List Nat} {cl : List (Str × Addr)} {fp : List Addr}
    (I : Inv X pins σ H s) (hk : scope.kind = .function) (hN : N.Nodup) (S : CompSc X.env.scope X.N scope N js) (hcl : ∀ x c, cl.lookup x = some c → X.env.cells.lookup x = some c) (hcl2 : ∀ y ∈ scope.names, y.2 = .free → ∃ c, cl.lookup y.1 = some c)
    (hf : ∀ b ∈ fp, b < s.heap.objs.size ∧ b ≠ X.env.locals ∧ b ∉ X.fs ∧ (b ∈ X.ex ∨ X.s₀.heap.objs.size ≤ b) ∧ (∀ x c, X.env.cells.lookup x = some c → c ≠ b))
    (hns : h₁.Ns s.heap.objs.size fun _ => none) (old : ∀ b o, s.heap.get? b = some o → h₁.get? b = some o) :
    Inv (X.block scope cl s.heap.objs.size N s H fp) [] (blk (N.length - js.length) js σ) H { s with heap := h₁, toks := tk } := by
  have look : ∀ x, ((relabel scope X.env).names.lookup x = some .cell ∨ (relabel scope X.env).names.lookup x = some .free) → ∃ c, cl.lookup x = some c := fun x hx => by
    have hm : (x, NameKind.free) ∈ scope.names := by
      rcases hx with z | z
      · exact relabel_lookup z (.inl rfl) S.nocell
      · exact relabel_lookup z (.inr rfl) S.nocell
    exact hcl2 _ hm rfl
  refine ⟨⟨I.ok.mod, hk, I.ok.glob, I.ok.blt, Nat.le_refl _, fun x y c h1 h2 => I.ok.inj x y c (hcl x c h1) (hcl y c h2), look, fun x c h => (by cases h), I.ok.hd, I.ok.frames, .inl rfl, fun b hb => ?_, I.bs, Nat.le_trans I.ok.bsz I.sz, fun b o e hb => ?_, fun b hb z => ?_, I.stack, I.stkFree⟩,
    rfl, I.bare, Un.kept old, ⟨_, hns, fun i x v h1 h2 h3 => ?_⟩, fun x c h => ?_, I.hok.fresh (Nat.le_refl _), fun x c h => I.freeC x c (hcl x c h), fun p hp => absurd (show p ∈ ([] : List (Addr × Obj)) from hp) (by simp), I.hok.kept old, ?_⟩
  · exact ⟨Nat.ne_of_lt (hf b hb).1, fun x c h => (hf b hb).2.2.2.2 x c (hcl x c h)⟩
  · rcases (hf b hb).2.2.2.1 with z | z
    · exact I.ok.noex b o e z
    · exact absurd (Nat.lt_of_lt_of_le (Heap.lt_size e) (Nat.le_trans I.ok.bsz z)) (Nat.lt_irrefl _)
  · rcases List.mem_cons.mp (I.stkSub b z) with q | q
    · exact (hf b hb).2.1 q
    · exact (hf b hb).2.2.1 q
  · obtain ⟨k, j, rfl, hj, hσ⟩ := blk_get h2
    obtain ⟨x', e1, e2, e3⟩ := S.fr k j hj
    rw [e1] at h1
    have ex : x' = x := Option.some.inj h1
    subst ex
    have ok := S.tk _ (PySem.mem_of_lookup e3) rfl
    obtain ⟨m, _, hl⟩ := I.loc
    obtain ⟨u, r, l⟩ := hl j x' v e2 hσ (.inr ok)
    refine ⟨u, r, ?_⟩
    rcases l with ⟨hk', _⟩ | ⟨_, c, hc, hcell⟩
    · have hk2 : X.env.scope.names.lookup x' = some .local := hk'
      rcases ok with z | z <;> (rw [hk2] at z; cases z)
    · obtain ⟨c', hc'⟩ := hcl2 _ (PySem.mem_of_lookup e3) rfl
      have : c' = c := Option.some.inj ((hcl _ _ hc').symm.trans hc)
      subst this
      obtain ⟨o, ho, hd⟩ := hcell
      exact .inr ⟨relabel_free e3, c', hc', ⟨o, old _ _ ho, hd⟩⟩
  · obtain ⟨v, o, ho, hd⟩ := I.cell x c (hcl x c h)
    exact ⟨v, o, old _ _ ho, hd⟩
  · show (blk (N.length - js.length) js σ).length = N.length
    unfold blk
    rw [List.length_append, List.length_replicate, List.length_map]
    have := S.len
    omega

theorem comp_block {pins : List (Addr × Obj)} {σ : St} {H : Hp} {s : Shared} {elt target iter : Expr} {ifs : List Expr} {scope : Scope} {pos : Pos} {N : List Str} {js : List Nat} {cl : List (Str × Addr)} {J : It} {fp : List Addr} {it : Addr} {tn : Nat → Heap → Prop}
    {g : TG} {tt : TT} {te : TE} {E : Value → Shared → Prop} {RR : Value → Addr → Result → Shared → Prop} {Q : VK}
    (hc : X.calm = true) (I : Inv X pins σ H s) (T : Turn X.prog X.w X.K target J fp it tn) (st : tn 0 s.heap) (hf : ∀ b ∈ fp, FpOk X pins H b)
    (hk : scope.kind = .function) (hN : N.Nodup) (S : CompSc X.env.scope X.N scope N js) (hcl : ∀ x c, cl.lookup x = some c → X.env.cells.lookup x = some c) (hcl2 : ∀ y ∈ scope.names, y.2 = .free → ∃ c, cl.lookup y.1 = some c)
    (hg : ∀ cl C s H fp, PG (X.block scope cl C N s H fp) target g) (ht : ∀ cl C s H fp, PF (X.block scope cl C N s H fp) ifs tt) (he : ∀ cl C s H fp, PE (X.block scope cl C N s H fp) elt te)
    (h : ∀ D, H D = none → ∃ W : Nat → Nat → St → Hp → List V → Prop, (∃ m, W 0 m (blk (N.length - js.length) js σ) (upd H D (.lst [])) []) ∧ ∀ i m τ H2 ys, W i m τ H2 ys → H2 D = some (.lst ys) ∧
      ((J.stop i H2 ∧ Q (.ref D) H2) ∨ (J.go i H2 ∧ ys.length < sizeLine ∧ ∃ N : St → Hp → List V → Prop, (∀ τ' H' ys', N τ' H' ys' → ∃ m', m' < m ∧ W (i + 1) m' τ' H' ys') ∧ ∀ x H3, J.yld i H2 x H3 → g x τ H3 fun τ4 H4 => tt τ4 H4 fun b H5 =>
        if b = true then te τ4 H5 fun y H6 => H6 D = some (.lst ys) ∧ N τ4 (upd H6 D (.lst (ys ++ [y]))) (ys ++ [y])
        else N τ4 H5 ys)))
    (hend : ∀ D C H' s', (∃ m, s'.heap.Ns C m) → FpOk X pins H' C → Inv X pins σ H' s' → Q (.ref D) H' → RR (.ref D) C (.ok .next) s') :
    wpAny (model X.prog X.w) X.A (newList []) (fun acc s₃ => wpAny (model X.prog X.w) X.A (newFunctionEnv scope X.env.globals cl [] X.env.qual none .none (some X.env)) (fun cenv s₄ =>
      codeAny (model X.prog X.w) X.A (.compStart (.ListComp elt [⟨target, iter, ifs, 0⟩] scope pos) 0 (.ref it) acc { cenv with scope := relabel scope X.env }) (RR acc cenv.locals) s₄) E s₃) E s := by
  obtain ⟨W, ⟨m0, w0⟩, turn⟩ := h s.heap.objs.size I.fresh
  refine wpAny_newObj_type (wpAny_newFunctionEnv S.nocell (by intro y hy; simp at hy) (fun h₁ hns₁ hsb₁ => ?_) hk)
  have I3 : Inv X pins σ (upd H s.heap.objs.size (.lst [])) { s with heap := s.heap.push { cls := .type "list", dict := none, data := .seq ([] : List Value).toArray } } := I.lnew (its := []) (ys := []) (t' := s.toks) .nil (Nat.zero_le _)
  have hF3 : ∀ b ∈ fp, b < s.heap.objs.size := fun b hb => by
    obtain ⟨o, e, _⟩ := T.obj 0 s.heap st b hb
    exact Heap.lt_size e
  have st3 : tn 0 (s.heap.push { cls := .type "list", dict := none, data := .seq ([] : List Value).toArray }) := T.keep 0 _ _ st fun b hb o e => Heap.get?_push_of_some _ e
  generalize hs3 : ({ s with heap := s.heap.push { cls := .type "list", dict := none, data := .seq ([] : List Value).toArray } } : Shared) = s3 at I3 hns₁ hsb₁ ⊢
  have e3 : s3.heap = s.heap.push { cls := .type "list", dict := none, data := .seq ([] : List Value).toArray } := by rw [← hs3]
  rw [← e3] at st3
  have z3 : s.heap.objs.size ≤ s3.heap.objs.size := by rw [e3, Heap.size_push]; exact Nat.le_succ _
  have old : ∀ b o, s3.heap.get? b = some o → h₁.get? b = some o := fun b o e => hsb₁.extBut b o (Nat.ne_of_lt (Heap.lt_size e)) (Heap.get?_push_of_some _ e)
  have hf3 : ∀ b ∈ fp, b < s3.heap.objs.size ∧ b ≠ X.env.locals ∧ b ∉ X.fs ∧ (b ∈ X.ex ∨ X.s₀.heap.objs.size ≤ b) ∧ (∀ x c, X.env.cells.lookup x = some c → c ≠ b) := fun b hb =>
    let ⟨_, q1, q2, q3, q4, _⟩ := hf b hb
    ⟨Nat.lt_of_lt_of_le (hF3 b hb) z3, q1, q2, q3, q4⟩
  have nD : ∀ b ∈ fp, upd H s.heap.objs.size (.lst []) b = none := fun b hb => by
    rw [upd_ne (Nat.ne_of_lt (hF3 b hb))]
    exact (hf b hb).1
  have I4 : Inv (X.block scope cl s3.heap.objs.size N s3 (upd H s.heap.objs.size (.lst [])) fp) [] (blk (N.length - js.length) js σ) (upd H s.heap.objs.size (.lst [])) { s3 with heap := h₁, toks := s3.toks + ([] : List (Str × Value)).length } :=
    block_inv I3 hk hN S hcl hcl2 hf3 hns₁ old
  have st4 : tn 0 h₁ := T.keep 0 _ _ st3 fun b hb o e => old b o e
  have hg' := hg cl s3.heap.objs.size s3 (upd H s.heap.objs.size (.lst [])) fp
  have ht' := ht cl s3.heap.objs.size s3 (upd H s.heap.objs.size (.lst [])) fp
  have he' := he cl s3.heap.objs.size s3 (upd H s.heap.objs.size (.lst [])) fp
  -- what stays true of the iterator's objects
  have stat : ∀ {H' : Hp}, (∀ b ∈ fp, H' b = none) → ∀ b ∈ fp, FpOk (X.block scope cl s3.heap.objs.size N s3 (upd H s.heap.objs.size (.lst [])) fp) [] H' b := fun hn b hb =>
    ⟨hn b hb, (I4.ok.exf b hb).1, I4.ok.exfs b hb, .inl hb, (I4.ok.exf b hb).2, fun p hp => absurd (show p ∈ ([] : List (Addr × Obj)) from hp) (by simp)⟩
  have loop : codeAny (model X.prog X.w) X.A (.compLoop (.ListComp elt [⟨target, iter, ifs, 0⟩] scope pos) 0 (.ref it) (.ref s.heap.objs.size) (compEnvC scope cl s3.heap.objs.size X.env)) (RR (.ref s.heap.objs.size) s3.heap.objs.size) { s3 with heap := h₁, toks := s3.toks + ([] : List (Str × Value)).length } := by
    refine compLoop_any (fun n s' => ∃ i τ H' ys, Inv (X.block scope cl s3.heap.objs.size N s3 (upd H s.heap.objs.size (.lst [])) fp) [] τ H' s' ∧ tn i s'.heap ∧ (∀ b ∈ fp, H' b = none) ∧ W i n τ H' ys) ?_ m0 ⟨0, _, _, [], I4, st4, nD, w0⟩
    rintro n s5 ⟨i, τ, H5, ys, I5, st5, fr5, w5⟩
    obtain ⟨hD, hw⟩ := turn i n τ H5 ys w5
    rcases hw with ⟨stop, qn⟩ | ⟨go, hz, M, hM, step⟩
    · refine thn (T.done (X.block scope cl s3.heap.objs.size N s3 (upd H s.heap.objs.size (.lst [])) fp) rfl rfl rfl hc i [] s5 τ H5 (fun _ _ => False) I5 (stat fr5) st5 stop) fun r s6 ⟨hr, I6⟩ => ?_
      subst hr
      refine hend _ _ H5 s6 (let ⟨m, hn, _⟩ := I6.loc; ⟨m, hn⟩) (I3.fpOk (Nat.le_refl _) I6.free) ?_ qn
      exact I3.call' (ch := fp) I6.os I6.base I6.hok I6.bare fun b hb => ⟨(hf b hb).2.2.2.1, (hf b hb).2.1, (hf b hb).2.2.2.2.1, (hf b hb).2.2.2.2.2⟩
    · refine thn (T.item (X.block scope cl s3.heap.objs.size N s3 (upd H s.heap.objs.size (.lst [])) fp) rfl rfl rfl hc i [] s5 τ H5 (fun _ _ => False) I5 (stat fr5) st5 go) fun r s6 ⟨u, hr, h6⟩ => ?_
      subst hr
      refine thn h6 fun _ s7 ⟨x, H7, I7, r7, y7, st7, fr7⟩ => ?_
      have I7' := I7.pinned (stat fr7) (T.obj _ _ st7)
      refine thn (hg' _ s7 τ H7 x u _ I7' r7 (step x H7 y7)) fun _ s8 ⟨τ8, H8, I8, q8⟩ => ?_
      refine thn (ht' _ s8 τ8 H8 _ I8 q8) fun b s9 ⟨H9, I9, q9⟩ => ?_
      have again : ∀ {τ' : St} {H' : Hp} {s' : Shared} {ys' : List V}, Inv (X.block scope cl s3.heap.objs.size N s3 (upd H s.heap.objs.size (.lst [])) fp) ([] ++ pinsAt fp s7.heap) τ' H' s' → M τ' H' ys' →
          ∃ m, m < n ∧ ∃ i τ H' ys, Inv (X.block scope cl s3.heap.objs.size N s3 (upd H s.heap.objs.size (.lst [])) fp) [] τ H' s' ∧ tn i s'.heap ∧ (∀ b ∈ fp, H' b = none) ∧ W i m τ H' ys := fun {τ' H' s' ys'} I' hm' => by
        obtain ⟨m', hm, w'⟩ := hM _ _ _ hm'
        refine ⟨m', hm, i + 1, τ', H', ys', I'.unpinned, T.keep _ _ _ st7 fun b hb o e => (I'.pin (b, o) (List.mem_append_right _ (List.mem_append_right _ (mem_pinsAt hb e)))).1, fun b hb => ?_, w'⟩
        obtain ⟨o, e, d⟩ := T.obj _ _ st7 b hb
        exact (I'.pin (b, o) (List.mem_append_right _ (List.mem_append_right _ (mem_pinsAt hb e)))).2.1
      cases b with
      | false => exact again I9 q9
      | true =>
        refine thn (he' _ s9 τ8 H9 _ I9 q9) fun y s10 ⟨v10, H10, I10, r10, hD10, q10⟩ => ?_
        refine thn (mt_append (X := X.block scope cl s3.heap.objs.size N s3 (upd H s.heap.objs.size (.lst [])) fp) _ s10 τ8 H10 (.ref s.heap.objs.size) [v10] (.ref s.heap.objs.size) [y] (fun _ H' => M τ8 H' (ys ++ [v10])) I10 rfl (.cons r10 .nil) ⟨_, ys, v10, rfl, rfl, hD10, hz, q10⟩) fun _ s11 ⟨_, H11, I11, _, q11⟩ => ?_
        exact again I11 q11
  exact codeAny_compStart_list loop (T.self X.A 0 _ _ _ st4 loop)

variable {elt target iter : Expr} {ifs : List Expr} {scope : Scope} {pos spos : Pos} {wi : TI} {g : TG} {tt : TT} {te : TE}
theorem pe_comp (N : List Str) (js : List Nat) (hok : compOk X.env.scope X.N scope N js = true) (hN : N.Nodup) (hc : X.calm = true) (hi : PI X target iter wi)
    (hg : ∀ cl C s H fp, PG (X.block scope cl C N s H fp) target g) (ht : ∀ cl C s H fp, PF (X.block scope cl C N s H fp) ifs tt) (he : ∀ cl C s H fp, PE (X.block scope cl C N s H fp) elt te)
    (hk : scope.kind = .function := by rfl) (hs : ∀ x, foldedSetIterable iter X.env x = pure x := by intro _; rfl) :
    PE X (.ListComp elt [⟨target, iter, ifs, 0⟩] scope pos) (tComp (N.length - js.length) js wi g tt te) := by
  intro pins s σ H Q I h
  have S := compOk_sc hok
  obtain ⟨cl, hclos, hcl, hcl2⟩ := closure_ok (env := X.env) (scope := scope) fun y hy hf => I.ok.has _ (S.tk y hy hf)
  rw [eval_ListComp]
  refine wpAny_comprehension_free (use := none) rfl hs hclos hk S.names (thn (hi pins s σ H _ I h) fun v s1 h1 => thn h1 fun itv s2 h2 => ?_)
  obtain ⟨it, fp, tn, J, H2, e, I2, T, st2, f2, hw⟩ := h2
  subst e
  refine comp_block (RR := fun acc C => compPost (model X.prog X.w) X.A X.xe none (EP X pins σ Q) acc C) (Q := Q) hc I2 T st2 f2 hk hN S hcl hcl2 hg ht he hw ?_
  rintro D C H' s' ⟨m, hn⟩ ⟨c0, c1, c2, c3, c4, c5⟩ I' q
  exact ⟨m, hn, fun h' hs' => ⟨.ref D, H', I'.turned (t' := s'.toks) (fun b o hb e => (hs'.2 b hb).trans e) c0 c1 c3 c4 c5, rfl, q⟩⟩
theorem ps_setComp {i : Nat} {y : Str} {py : Pos} (N : List Str) (js : List Nat) (hok : compOk X.env.scope X.N scope N js = true) (hN : N.Nodup) (hc : X.calm = true) (hXN : X.N.Nodup) (hyi : X.N[i]? = some y) (hy : Loc X.env.scope y) (hi : PI X target iter wi)
    (hg : ∀ cl C s H fp, PG (X.block scope cl C N s H fp) target g) (ht : ∀ cl C s H fp, PF (X.block scope cl C N s H fp) ifs tt) (he : ∀ cl C s H fp, PE (X.block scope cl C N s H fp) elt te)
    (hsw : swapsWith (.ListComp elt [⟨target, iter, ifs, 0⟩] scope pos) (some (.Name y py)) spos.line X.env = pure true := by rfl)
    (hk : scope.kind = .function := by rfl) (hs : ∀ x, foldedSetIterable iter X.env x = pure x := by intro _; rfl) (hf : X.fn y = true ∨ X.env.scope.names.lookup y = some .local := by first | exact .inl rfl | exact .inr rfl | assumption) :
    PS X (.Assign [.Name y py] (.ListComp elt [⟨target, iter, ifs, 0⟩] scope pos) spos) (tAsg (tComp (N.length - js.length) js wi g tt te) (gName i)) := by
  intro pins s σ H D I h
  have S := compOk_sc hok
  obtain ⟨cl, hclos, hcl, hcl2⟩ := closure_ok (env := X.env) (scope := scope) fun y hy hf => I.ok.has _ (S.tk y hy hf)
  rw [exec_Assign_Name_used _ _ _ _ hsw]
  refine wpAny_bind (wpAny_standAt (wpAny_bind ?_))
  show wpAny _ X.A (do let _ ← comprehension (.ListComp elt [⟨target, iter, ifs, 0⟩] scope pos) scope X.env _ (newList []) false (eval iter X.env) (some (assign (.Name y py) X.env))) _ _ s
  refine wpAny_bind (wpAny_mono (wpAny_comprehension_free (use := some (assign (.Name y py) X.env)) (Q := fun _ s' => SP X pins D .next s') rfl hs hclos hk S.names
    (thn (hi pins s σ H _ I h) fun v s1 h1 => thn h1 fun itv s2 h2 => ?_)) (fun _ s' hq => wpAny_pure (wpAny_pure hq)) fun _ _ e => e)
  obtain ⟨it, fp, tn, J, H2, e, I2, T, st2, f2, hw⟩ := h2
  subst e
  refine comp_block (RR := fun acc C => compPost (model X.prog X.w) X.A X.xe (some (assign (.Name y py) X.env)) (fun _ s' => SP X pins D .next s') acc C) (Q := fun v H' => D.nx (σ.set i (some v)) H') hc I2 T st2 f2 hk hN S hcl hcl2 hg ht he hw ?_
  rintro E C H' s' ⟨m, hn⟩ ⟨c0, c1, c2, c3, c4, c5⟩ I' q
  show wpAny _ X.A (assign (.Name y py) X.env (.ref E)) _ _ _
  obtain ⟨oC, es, ep, hoC, hdC, hrC⟩ := id hn
  have I2' : Inv X (pins ++ [(C, oC)]) σ H' s' := I'.pins_of fun p hp => (List.mem_append.mp hp).elim (fun z => I'.pin p (List.mem_append_right _ z)) fun z => by
    have e : p = (C, oC) := by simpa using z
    subst e
    exact ⟨hoC, c0, c1, c2, fun v z => by rw [hdC] at z; cases z⟩
  refine wpAny_assign_Name (store_ok I2' hXN hyi hy (v := .ref E) rfl (fun s'' I'' => ?_) hf)
  have hC2 := (I''.pin (C, oC) (List.mem_append_right _ (List.mem_append_right _ (by simp)))).1
  have I3 : Inv X pins (σ.set i (some (.ref E))) H' s'' := I''.unpinned
  exact ⟨m, ⟨oC, es, ep, hC2, hdC, hrC⟩, fun h' hs' => ⟨_, H', I3.turned (t' := s''.toks) (fun b o hb e => (hs'.2 b hb).trans e) c0 c1 c3 c4 c5, q⟩⟩
end

structure ItOk (J : It) (xs : List V) (ok : Hp → Prop) : Prop where
  stop : ∀ H, ok H → J.stop xs.length H
  go : ∀ i H, ok H → i < xs.length → J.go i H
  yld : ∀ i H x H', ok H → i < xs.length → J.yld i H x H' → H' = H ∧ xs[i]? = some x
theorem it_list (K : PySem.W.Frag) (a : Addr) (xs : List V) : ItOk (Itl K a) xs fun H => SqL K H a xs :=
  ⟨fun H h => ⟨xs, h, Nat.le_refl _⟩, fun i H h hi => ⟨xs, xs[i], h, by simp [hi]⟩, fun i H x H' h hi y => ⟨y.1, y.2 xs h⟩⟩
theorem it_range (lo : Int) (n : Nat) : ItOk (Itr lo n) ((List.range n).map fun i => V.int (lo + (i : Nat))) fun _ => True :=
  ⟨fun H _ => by show n ≤ _; simp, fun i H _ hi => (by show i < n; simpa using hi), fun i H x H' _ hi y => ⟨y.1, by
    have hi' : i < n := by simpa using hi
    obtain ⟨_, rfl⟩ := y
    simp [hi']⟩⟩
theorem comp_by {J : It} {D : Addr} {xs : List V} {ok : Hp → Prop} {g : TG} {tt : TT} {te : TE} {Q : Hp → Prop} {τ : St} {H : Hp} (IO : ItOk J xs ok) (Pv : Nat → St → Hp → List V → Prop) (hz : xs.length ≤ sizeLine) (h0 : Pv 0 τ H [])
    (hl : ∀ i τ H ys, i ≤ xs.length → Pv i τ H ys → ok H ∧ H D = some (.lst ys) ∧ ys.length ≤ i)
    (hs : ∀ i x τ H ys, i < xs.length → xs[i]? = some x → Pv i τ H ys → g x τ H fun τ4 H4 => tt τ4 H4 fun b H5 =>
      if b = true then te τ4 H5 fun y H6 => H6 D = some (.lst ys) ∧ Pv (i + 1) τ4 (upd H6 D (.lst (ys ++ [y]))) (ys ++ [y]) else Pv (i + 1) τ4 H5 ys)
    (hd : ∀ τ H ys, Pv xs.length τ H ys → Q H) :
    ∃ W : Nat → Nat → St → Hp → List V → Prop, (∃ m, W 0 m τ H []) ∧ ∀ i m τ H2 ys, W i m τ H2 ys → H2 D = some (.lst ys) ∧
      ((J.stop i H2 ∧ Q H2) ∨ (J.go i H2 ∧ ys.length < sizeLine ∧ ∃ N : St → Hp → List V → Prop, (∀ τ' H' ys', N τ' H' ys' → ∃ m', m' < m ∧ W (i + 1) m' τ' H' ys') ∧ ∀ x H3, J.yld i H2 x H3 → g x τ H3 fun τ4 H4 => tt τ4 H4 fun b H5 =>
        if b = true then te τ4 H5 fun y H6 => H6 D = some (.lst ys) ∧ N τ4 (upd H6 D (.lst (ys ++ [y]))) (ys ++ [y])
        else N τ4 H5 ys)) := by
  refine ⟨fun i m τ H ys => m = xs.length - i ∧ i ≤ xs.length ∧ Pv i τ H ys, ⟨xs.length, by simp, Nat.zero_le _, h0⟩, ?_⟩
  rintro i m τ H ys ⟨rfl, hi, p⟩
  obtain ⟨q, hD, hy⟩ := hl i τ H ys hi p
  refine ⟨hD, ?_⟩
  by_cases hlt : i < xs.length
  · refine .inr ⟨IO.go i H q hlt, by omega, Pv (i + 1), fun τ' H' ys' p' => ⟨xs.length - (i + 1), by omega, rfl, hlt, p'⟩, fun x H' y => ?_⟩
    obtain ⟨e, hx⟩ := IO.yld i H x H' q hlt y
    subst e
    exact hs i x τ _ ys hlt hx p
  · have e : i = xs.length := by omega
    subst e
    exact .inl ⟨IO.stop H q, hd τ H ys p⟩
theorem for_by {J : It} {xs : List V} {ok : Hp → Prop} {g : TG} {tb : TS} {D : Ends} {σ : St} {H : Hp} (IO : ItOk J xs ok) (Pv : Nat → St → Hp → Prop) (h0 : Pv 0 σ H) (hl : ∀ i σ H, i ≤ xs.length → Pv i σ H → ok H)
    (hs : ∀ i x σ H, i < xs.length → xs[i]? = some x → Pv i σ H → g x σ H fun σ2 H2 => tb { D with nx := Pv (i + 1), ct := Pv (i + 1), bk := D.nx } σ2 H2) (hd : ∀ σ H, Pv xs.length σ H → D.nx σ H) :
    ∃ W : Nat → Nat → St → Hp → Prop, (∃ m, W 0 m σ H) ∧ ∀ i m σ H, W i m σ H →
      (J.stop i H ∧ D.nx σ H) ∨ (J.go i H ∧ ∃ N : St → Hp → Prop, (∀ σ' H', N σ' H' → ∃ m', m' < m ∧ W (i + 1) m' σ' H') ∧ ∀ x H', J.yld i H x H' → g x σ H' fun σ2 H2 => tb { D with nx := N, ct := N, bk := D.nx } σ2 H2) := by
  refine ⟨fun i m σ H => m = xs.length - i ∧ i ≤ xs.length ∧ Pv i σ H, ⟨xs.length, by simp, Nat.zero_le _, h0⟩, ?_⟩
  rintro i m σ H ⟨rfl, hi, p⟩
  have q := hl i σ H hi p
  by_cases hlt : i < xs.length
  · refine .inr ⟨IO.go i H q hlt, Pv (i + 1), fun σ' H' p' => ⟨xs.length - (i + 1), by omega, rfl, hlt, p'⟩, fun x H' y => ?_⟩
    obtain ⟨e, hx⟩ := IO.yld i H x H' q hlt y
    subst e
    exact hs i x σ _ hlt hx p
  · have e : i = xs.length := by omega
    subst e
    exact .inl ⟨IO.stop H q, hd σ H p⟩
end L2
end
section
set_option Elab.async false
set_option linter.all false
set_option maxRecDepth 100000
set_option maxHeartbeats 4000000
namespace L2
open PySem PySem.Spec PyProof.Rows

section
variable {X : Cx}
def tyN (H : Hp) : V → Option String
  | .non => some "NoneType"
  | .bl _ => some "bool"
  | .int _ => some "int"
  | .str _ => some "str"
  | .ref a => match H a with
    | some (.lst _) => some "list"
    | some (.tup _) => some "tuple"
    | some (.dK _) => some "dict"
    | _ => none
  | _ => none
theorem call_isinst : CallR X (.builtin "isinstance") (fun xs H Q => ∃ x T Tx, xs = [x, .ty T] ∧ tyN H x = some Tx ∧ T ∈ ["int", "bool", "list", "tuple", "str"] ∧ Q (.bl (Tx == T || (Tx == "bool" && T == "int"))) H) := by
  intro pins s σ H xs us Q I r h
  obtain ⟨x, T, Tx, rfl, hT, hm, q⟩ := h
  obtain ⟨u, w', rfl, r1, r2⟩ := vals2 r
  obtain rfl : w' = .type T := r2
  have no : ∀ {b : Bool}, b = (Tx == T || (Tx == "bool" && T == "int")) → ∀ tk, EP X pins σ Q (.bool b) { s with toks := tk } := fun {b} hb tk => ⟨.bl b, H, I.tok _, rfl, by rw [hb]; exact q⟩
  have ye : ∀ {b : Bool}, b = (Tx == T || (Tx == "bool" && T == "int")) → EP X pins σ Q (.bool b) s := fun {b} hb => ⟨.bl b, H, I, rfl, by rw [hb]; exact q⟩
  simp only [List.mem_cons, List.not_mem_nil, or_false] at hm
  cases x with
  | int i =>
    obtain ⟨t, rfl⟩ := r1
    cases hT
    rcases hm with rfl | rfl | rfl | rfl | rfl
    · exact IsiPair.int_int (ye (by decide))
    · exact IsiPair.int_bool (no (by decide) _)
    · exact IsiPair.int_list (no (by decide) _)
    · exact IsiPair.int_tuple (no (by decide) _)
    · exact IsiPair.int_str (no (by decide) _)
  | str i =>
    obtain ⟨t, rfl⟩ := r1
    cases hT
    rcases hm with rfl | rfl | rfl | rfl | rfl
    · exact IsiPair.str_int (no (by decide) _)
    · exact IsiPair.str_bool (no (by decide) _)
    · exact IsiPair.str_list (no (by decide) _)
    · exact IsiPair.str_tuple (no (by decide) _)
    · exact IsiPair.str_str (ye (by decide))
  | bl i =>
    cases r1
    cases hT
    rcases hm with rfl | rfl | rfl | rfl | rfl
    · exact IsiPair.bool_int (ye (by decide))
    · exact IsiPair.bool_bool (ye (by decide))
    · exact IsiPair.bool_list (no (by decide) _)
    · exact IsiPair.bool_tuple (no (by decide) _)
    · exact IsiPair.bool_str (no (by decide) _)
  | ref a =>
    cases r1
    cases hH : H a with
    | none => simp [tyN, hH] at hT
    | some o =>
      cases o with
      | lst ys =>
        simp [tyN, hH] at hT
        subst hT
        obtain ⟨_, its, n, _, e⟩ := I.hok a _ hH
        have hx : ∃ o, s.heap.get? a = some o ∧ o.cls = .type "list" := ⟨_, e, rfl⟩
        rcases hm with rfl | rfl | rfl | rfl | rfl
        · exact call_isinstance (isinstance_false_list (by decide +kernel) F.isi_meta_int F.sub_list_int) ⟨hx, no (by decide) _⟩
        · exact call_isinstance (isinstance_false_list (by decide +kernel) F.isi_meta_bool F.sub_list_bool) ⟨hx, no (by decide) _⟩
        · exact call_isinstance (isinstance_true (Tx := "list") F.isi_meta_list F.sub_list_list) ⟨⟨_, e, rfl⟩, ye (by decide)⟩
        · exact call_isinstance (isinstance_false_list (by decide +kernel) F.isi_meta_tuple F.sub_list_tuple) ⟨hx, no (by decide) _⟩
        · exact call_isinstance (isinstance_false_list (by decide +kernel) F.isi_meta_str F.sub_list_str) ⟨hx, no (by decide) _⟩
      | tup ys =>
        simp [tyN, hH] at hT
        subst hT
        obtain ⟨_, its, _, o, e, hc, _⟩ := I.hok a _ hH
        have hx : ∃ o, s.heap.get? a = some o ∧ o.cls = .type "tuple" := ⟨_, e, hc⟩
        rcases hm with rfl | rfl | rfl | rfl | rfl
        · exact call_isinstance (isinstance_false_tuple (by decide +kernel) F.isi_meta_int F.sub_tuple_int) ⟨hx, no (by decide) _⟩
        · exact call_isinstance (isinstance_false_tuple (by decide +kernel) F.isi_meta_bool F.sub_tuple_bool) ⟨hx, no (by decide) _⟩
        · exact call_isinstance (isinstance_false_tuple (by decide +kernel) F.isi_meta_list F.sub_tuple_list) ⟨hx, no (by decide) _⟩
        · exact call_isinstance (isinstance_true (Tx := "tuple") F.isi_meta_tuple F.sub_tuple_tuple) ⟨⟨_, e, hc⟩, ye (by decide)⟩
        · exact call_isinstance (isinstance_false_tuple (by decide +kernel) F.isi_meta_str F.sub_tuple_str) ⟨hx, no (by decide) _⟩
      | dK ys =>
        simp [tyN, hH] at hT
        subst hT
        obtain ⟨_, _, vs, _, dd⟩ := I.hok a _ hH
        obtain ⟨o, es, ep, e, hc, _⟩ := dd
        have hx : ∃ o, s.heap.get? a = some o ∧ o.cls = .type "dict" := ⟨o, e, hc.1⟩
        rcases hm with rfl | rfl | rfl | rfl | rfl
        · exact call_isinstance (isinstance_false_dict (by decide +kernel) F.isi_meta_int F.sub_dict_int) ⟨hx, no (by decide) _⟩
        · exact call_isinstance (isinstance_false_dict (by decide +kernel) F.isi_meta_bool F.sub_dict_bool) ⟨hx, no (by decide) _⟩
        · exact call_isinstance (isinstance_false_dict (by decide +kernel) F.isi_meta_list F.sub_dict_list) ⟨hx, no (by decide) _⟩
        · exact call_isinstance (isinstance_false_dict (by decide +kernel) F.isi_meta_tuple F.sub_dict_tuple) ⟨hx, no (by decide) _⟩
        · exact call_isinstance (isinstance_false_dict (by decide +kernel) F.isi_meta_str F.sub_dict_str) ⟨hx, no (by decide) _⟩
      | _ => simp [tyN, hH] at hT
  | non =>
    cases r1
    cases hT
    rcases hm with rfl | rfl | rfl | rfl | rfl
    · exact IsiPair.NoneType_int (no (by decide) _)
    · exact IsiPair.NoneType_bool (no (by decide) _)
    · exact IsiPair.NoneType_list (no (by decide) _)
    · exact IsiPair.NoneType_tuple (no (by decide) _)
    · exact IsiPair.NoneType_str (no (by decide) _)
  | _ => cases hT

theorem vals_bools : ∀ {bs : List Bool} {us : List Value}, Vals (bs.map V.bl) us → us = bs.map Value.bool
  | [], us, r => by cases r; rfl
  | b :: bs, us, r => by
    cases r with
    | cons r1 r2 =>
      cases r1
      rw [vals_bools r2]; rfl
theorem all_range (bs : List Bool) : (List.range bs.length).all (fun i => bs.getD i true) = bs.all id := by
  rw [Bool.eq_iff_iff, List.all_eq_true, List.all_eq_true]
  constructor
  · intro h b hb
    obtain ⟨i, hi, rfl⟩ := List.mem_iff_getElem.mp hb
    have := h i (List.mem_range.mpr hi)
    rw [List.getD_eq_getElem?_getD, List.getElem?_eq_getElem hi] at this
    exact this
  · intro h i hi
    have hi := List.mem_range.mp hi
    rw [List.getD_eq_getElem?_getD, List.getElem?_eq_getElem hi]
    exact h _ (List.getElem_mem hi)
theorem call_all (hc : X.calm = true) : CallR X (.builtin "all") (fun xs H Q => ∃ (p : Addr) (bs : List Bool), xs = [.ref p] ∧ H p = some (.lst (bs.map V.bl)) ∧ Q (.bl (bs.all id)) H) := by
  intro pins s σ H xs us Q I r h
  obtain ⟨p, bs, rfl, hH, q⟩ := h
  obtain ⟨u, rfl, r1⟩ := vals1 r
  cases r1
  obtain ⟨z, its, n, rv, e⟩ := I.hok p _ hH
  have ei := vals_bools rv
  subst ei
  have hl : s.heap.IsList p (bs.map Value.bool).toArray := ⟨_, e, rfl, _, rfl⟩
  have hp : p < s.heap.objs.size := Heap.lt_size e
  refine call_all_walk (wpAny_pyIter_list hl ?_)
  refine ⟨s.heap.objs.size, _, [s.heap.objs.size], _, _, _, (fun i => bs.getD i true), rfl, Walks.list (A := X.A.in1) (I.ok.hd hc) s.heap.objs.size p (Nat.ne_of_lt hp) (bs.map Value.bool).toArray, ⟨⟨_, Heap.get?_push_size _ rfl, rfl, rfl⟩, hl.push _⟩, ?_, fun h' tk hk => ?_⟩
  · intro i v s' Q' E' hP hQ
    have hP : (bs.map Value.bool).toArray[i]? = some v := hP
    have hb : ∃ b, bs[i]? = some b ∧ v = .bool b := by
      rw [List.getElem?_toArray, List.getElem?_map] at hP
      cases e : bs[i]? with
      | none => rw [e] at hP; cases hP
      | some b => rw [e] at hP; exact ⟨b, rfl, (Option.some.inj hP).symm⟩
    obtain ⟨b, hb, rfl⟩ := hb
    have e : bs.getD i true = b := by rw [List.getD_eq_getElem?_getD, hb]; rfl
    dsimp only at hQ
    rw [e] at hQ
    exact wpAny_truthy_bool hQ
  · have hn : (bs.map Value.bool).toArray.size = bs.length := by simp
    rw [hn, all_range]
    exact ⟨.bl (bs.all id), H, I.kept fun b o e => hk b o (fun hm => by
      have : b = s.heap.objs.size := by simpa using hm
      exact absurd (this ▸ Heap.lt_size e) (Nat.lt_irrefl _)) (Heap.get?_push_of_some _ e), rfl, q⟩

theorem mt_bitlen : MtM X "int.bit_length" (fun x vs H Q => ∃ i, x = .int i ∧ vs = [] ∧ Q (.int (Builtin.Int.intBits i)) H) := by
  intro pins s σ H x vs v us Q I rx rv h
  obtain ⟨i, rfl, rfl, q⟩ := h
  obtain ⟨t, rfl⟩ := rx
  obtain rfl := rv.zero
  exact call_int_bit_length ⟨.int _, H, I.tok _, ⟨_, rfl⟩, q⟩
theorem mt_insert : MtM X "list.insert" (fun x vs H Q => ∃ l i y xs, x = .ref l ∧ vs = [.int i, y] ∧ H l = some (.lst xs) ∧ 0 ≤ i ∧ i < 2 ^ 62 ∧ xs.length < sizeLine ∧ Q .non (upd H l (.lst (xs.take i.toNat ++ y :: xs.drop i.toNat)))) := by
  intro pins s σ H x vs v us Q I rx rv h
  obtain ⟨l, i, y, xs, rfl, rfl, hH, h0, h62, hz, q⟩ := h
  cases rx
  obtain ⟨u, u2, rfl, ⟨t, rfl⟩, ru⟩ := rv.two
  obtain ⟨z, its, n, r, hl, e⟩ := I.lstM hH
  have hfit : ¬ (!Builtin.List.listFitsIndex i) = true := by
    unfold Builtin.List.listFitsIndex
    simp
    omega
  refine call_meets F.slot_list_insert ⟨_, e, rfl⟩ F.entry_list_insert (F.args_list_insert_3 _ _ _) (AutoSeq1.list_insert_list_int_val_1 l its.toArray n i t u2 hfit (by rw [List.size_toArray]; omega)) ⟨e, ?_⟩
  refine ⟨.non, _, I.lset (its' := its.take i.toNat ++ u2 :: its.drop i.toNat) (ys := xs.take i.toNat ++ y :: xs.drop i.toNat) hH e ?_ ((r.take _).append (.cons ru (r.drop _))) ?_, rfl, q⟩
  · have hn : ¬ i < 0 := by omega
    simp only [hn, if_false, List.size_toArray]
    by_cases hi : i.toNat ≤ its.length
    · rw [Nat.min_eq_left hi]
      apply Array.ext'
      simp [List.take_of_length_le]
    · have hi' : its.length ≤ i.toNat := by omega
      rw [Nat.min_eq_right hi', List.take_of_length_le hi', List.drop_of_length_le hi']
      apply Array.ext'
      simp
  · rw [List.length_append, List.length_cons, List.length_take, List.length_drop]
    omega
theorem sl_str : SlR X (fun x lo hi H Q => ∃ z, x = .str z ∧ z.length ≤ sizeLine ∧ Q (.str (Txt.slice z lo hi)) H) := by
  intro pins s σ H x v vl vu lo hi sl Q I rx hs pl pu h
  obtain ⟨z, rfl, hz, q⟩ := h
  obtain ⟨t, rfl⟩ := rx
  have fin : ∀ t' k, EP X pins σ Q (.str (Txt.slice z lo hi) t') { s with toks := k } := fun t' k => ⟨.str _, H, I.tok _, ⟨_, rfl⟩, q⟩
  refine ⟨"str", _, F.slot_str_getitem.lookup, typeIs_str _ _ _, ?_⟩
  cases pl with
  | none =>
    cases pu with
    | none => exact wpAny_getItem_str_slice (l := none) (u := none) (st := none) hs rfl (post_val_or_str ⟨Nat.le_trans (Txt.slice_le z _ _) hz, fin⟩)
    | int j uj => exact wpAny_getItem_str_slice (l := none) (u := some (j, uj)) (st := none) hs rfl (post_val_or_str ⟨Nat.le_trans (Txt.slice_le z _ _) hz, fin⟩)
  | int i ui =>
    cases pu with
    | none => exact wpAny_getItem_str_slice (l := some (i, ui)) (u := none) (st := none) hs rfl (post_val_or_str ⟨Nat.le_trans (Txt.slice_le z _ _) hz, fin⟩)
    | int j uj => exact wpAny_getItem_str_slice (l := some (i, ui)) (u := some (j, uj)) (st := none) hs rfl (post_val_or_str ⟨Nat.le_trans (Txt.slice_le z _ _) hz, fin⟩)
theorem call_int_bit : CallR X (.type "int") (fun xs H Q => ∃ b : Bool, xs = [.str (if b then ("1" : Str) else "0")] ∧ Q (.int (if b then 1 else 0)) H) := by
  intro pins s σ H xs us Q I r h
  obtain ⟨b, rfl, q⟩ := h
  obtain ⟨u, rfl, t, rfl⟩ := vals1 r
  cases b with
  | true => exact PySem.W.KIN.call_text (x := ("1" : Str)) (n := 1) (by decide +kernel) (by decide +kernel) ⟨.int 1, H, I.tok _, ⟨_, rfl⟩, q⟩
  | false => exact PySem.W.KIN.call_text (x := ("0" : Str)) (n := 0) (by decide +kernel) (by decide +kernel) ⟨.int 0, H, I.tok _, ⟨_, rfl⟩, q⟩
end
end L2
end
section
set_option Elab.async false
set_option linter.all false
set_option maxRecDepth 100000
set_option maxHeartbeats 4000000
namespace L2
open PySem PySem.Spec PyProof.Rows

mutual
inductive DV (H : Hp) : V → PyData → Prop
  | non : DV H .non .none
  | bl (b : Bool) : DV H (.bl b) (.bool b)
  | int (i : Int) : DV H (.int i) (.int i)
  | str (x : Str) : DV H (.str x) (.str x)
  | lst {a : Addr} {xs : List V} {ds : List PyData} : H a = some (.lst xs) → DVs H xs ds → DV H (.ref a) (.list ds)
  | tup {a : Addr} {xs : List V} {ds : List PyData} : H a = some (.tup xs) → DVs H xs ds → DV H (.ref a) (.tuple ds)
  | dic {a : Addr} : H a = some (.dK []) → DV H (.ref a) (.dict [])
inductive DVs (H : Hp) : List V → List PyData → Prop
  | nil : DVs H [] []
  | cons {x : V} {d : PyData} {xs : List V} {ds : List PyData} : DV H x d → DVs H xs ds → DVs H (x :: xs) (d :: ds)
end
mutual
theorem DV.mono {H H' : Hp} (k : Same H H') : ∀ {v : V} {d : PyData}, DV H v d → DV H' v d
  | _, _, .non => .non
  | _, _, .bl b => .bl b
  | _, _, .int i => .int i
  | _, _, .str x => .str x
  | _, _, .lst h r => .lst (k _ _ h) (DVs.mono k r)
  | _, _, .tup h r => .tup (k _ _ h) (DVs.mono k r)
  | _, _, .dic h => .dic (k _ _ h)
theorem DVs.mono {H H' : Hp} (k : Same H H') : ∀ {vs : List V} {ds : List PyData}, DVs H vs ds → DVs H' vs ds
  | _, _, .nil => .nil
  | _, _, .cons h r => .cons (DV.mono k h) (DVs.mono k r)
end
section
variable {X : Cx} {pins : List (Addr × Obj)} {σ : St} {H : Hp} {s : Shared}
mutual
theorem DV.reads (I : Inv X pins σ H s) : ∀ {v : V} {d : PyData} {u : Value}, DV H v d → d.canLay0 = true → RelV v u → ∃ as, Reads s.heap u d as
  | _, _, _, .non, _, r => by cases r; exact ⟨_, .none⟩
  | _, _, _, .bl b, _, r => by cases r; exact ⟨_, .bool b⟩
  | _, _, _, .int i, _, r => by obtain ⟨t, rfl⟩ := r; exact ⟨_, .int i t⟩
  | _, _, _, .str x, _, r => by obtain ⟨t, rfl⟩ := r; exact ⟨_, .str x t⟩
  | _, _, _, .lst h rr, c, r => by
    cases r
    obtain ⟨_, its, n, rv, e⟩ := I.hok _ _ h
    obtain ⟨as, q⟩ := DVs.reads I rr (by simpa [PyData.canLay0] using c) rv
    exact ⟨_, .list e rfl rfl (by simpa using q)⟩
  | _, _, _, .tup h rr, c, r => by
    cases r
    obtain ⟨_, its, rv, o, e, hc, n, hd⟩ := I.hok _ _ h
    obtain ⟨as, q⟩ := DVs.reads I rr (by simpa [PyData.canLay0] using c) rv
    exact ⟨_, .tuple e hc hd (by simpa using q)⟩
  | _, _, _, .dic h, c, r => by simp [PyData.canLay0] at c
theorem DVs.reads (I : Inv X pins σ H s) : ∀ {vs : List V} {ds : List PyData} {us : List Value}, DVs H vs ds → PyData.canLayAll0 ds = true → Vals vs us → ∃ as, ReadsAll s.heap us ds as
  | _, _, _, .nil, _, r => by cases r; exact ⟨_, .nil⟩
  | _, _, _, .cons h rr, c, r => by
    have c' := by simpa [PyData.canLayAll0] using c
    cases r with
    | cons r1 r2 =>
      obtain ⟨as, q⟩ := DV.reads I h c'.1 r1
      obtain ⟨bs, p⟩ := DVs.reads I rr c'.2 r2
      exact ⟨_, .cons q p⟩
end
end
section
variable {X : Cx}
theorem op_eqD (hu : X.A.units + 64 < cLine) : OpR X (compareOp .Eq) (fun x y H Q => ∃ d e, DV H x d ∧ DV H y e ∧ SeqAt.shaped d = true ∧ SeqAt.shaped e = true ∧ Q (.bl (PyData.eqv d e)) H) := by
  intro pins s σ H x y v u Q I rx ry h
  obtain ⟨d, e, hd, he, sd, se, q⟩ := h
  obtain ⟨as, ra⟩ := hd.reads I (SeqAt.canLay_of_shaped sd) rx
  obtain ⟨bs, rb⟩ := he.reads I (SeqAt.canLay_of_shaped se) ry
  exact eq_dataH ra rb sd se hu ⟨.bl _, H, I, rfl, q⟩
theorem op_neD (hu : X.A.units + 64 < cLine) : OpR X (compareOp .NotEq) (fun x y H Q => ∃ d e, DV H x d ∧ DV H y e ∧ SeqAt.shaped d = true ∧ SeqAt.shaped e = true ∧ Q (.bl (!PyData.eqv d e)) H) := by
  intro pins s σ H x y v u Q I rx ry h
  obtain ⟨d, e, hd, he, sd, se, q⟩ := h
  obtain ⟨as, ra⟩ := hd.reads I (SeqAt.canLay_of_shaped sd) rx
  obtain ⟨bs, rb⟩ := he.reads I (SeqAt.canLay_of_shaped se) ry
  exact ne_dataH ra rb sd se hu ⟨.bl _, H, I, rfl, q⟩
end
mutual
theorem eqv_refl : ∀ d : PyData, d.canLay0 = true → PyData.eqv d d = true
  | .none, _ => by simp [PyData.eqv]
  | .bool b, _ => by simp [PyData.eqv]
  | .int i, _ => by simp [PyData.eqv]
  | .str x, _ => by simp [PyData.eqv]
  | .list xs, h => by rw [PyData.eqv]; exact eqvAll_refl xs (by simpa [PyData.canLay0] using h)
  | .tuple xs, h => by rw [PyData.eqv]; exact eqvAll_refl xs (by simpa [PyData.canLay0] using h)
  | .dict xs, h => by simp [PyData.canLay0] at h
theorem eqvAll_refl : ∀ ds : List PyData, PyData.canLayAll0 ds = true → PyData.eqvAll ds ds = true
  | [], _ => by simp [PyData.eqvAll]
  | d :: ds, h => by
    have h' : d.canLay0 = true ∧ PyData.canLayAll0 ds = true := by simpa [PyData.canLayAll0] using h
    rw [PyData.eqvAll, eqv_refl d h'.1, eqvAll_refl ds h'.2]; rfl
end
def sg (b : Bool) : Nat := if b then 49 else 48
def bs (w : List Bool) : Str := ⟨(w.map sg).toArray⟩
theorem bs_if (b : Bool) : bs [b] = (if b then ("1" : Str) else "0") := by cases b <;> decide +kernel
end L2
end
section
set_option Elab.async false
set_option linter.all false
set_option maxRecDepth 100000
set_option maxHeartbeats 4000000
namespace L2
open PySem PySem.Spec PyProof.Rows

section
variable {X : Cx} {a b c e o : Expr} {es : List Expr} {pos : Pos}
theorem PE.of {t t' : TE} (h : PE X e t) (k : ∀ σ H Q, t' σ H Q → t σ H Q) : PE X e t' := fun pins s σ H Q I q => h pins s σ H Q I (k _ _ _ q)
theorem OpR.of {f : Value → Value → Sem Value} {r r' : R2} (h : OpR X f r) (k : ∀ x y H Q, r' x y H Q → r x y H Q) : OpR X f r' := fun pins s σ H x y v u Q I rx ry q => h pins s σ H x y v u Q I rx ry (k _ _ _ _ q)
def tV (i : Nat) : TE := fun σ H Q => match σ[i]? with
  | some (some v) => Q v H
  | _ => False
theorem vr (i : Nat) {x : Str} (hN : X.N[i]? = some x := by rfl) (hv : Vis X.env.scope x := by first | exact Or.inl rfl | exact Or.inr (Or.inl rfl) | exact Or.inr (Or.inr rfl)) (hd : (x == ("__debug__" : Str)) = false := by decide)
    (hcd : (x == ("__classdict__" : Str)) = false := by decide) : PE X (.Name x pos) (tV i) := (pe_var hN hv hd hcd).of fun σ H Q q => by
  unfold tV at q
  split at q
  · exact ⟨_, by assumption, q⟩
  · exact q.elim
def rN (C : Int → Int → Prop) (g : Int → Int → V) : R2 := fun x y H Q => match x, y with
  | .int i, .int j => C i j ∧ Q (g i j) H
  | _, _ => False
def rN0 (g : Int → Int → V) : R2 := fun x y H Q => match x, y with
  | .int i, .int j => Q (g i j) H
  | _, _ => False
theorem OpR.n {f : Value → Value → Sem Value} {C : Int → Int → Prop} {g : Int → Int → V} (h : OpR X f (rI C g)) : OpR X f (rN C g) := h.of fun x y H Q q => by
  unfold rN at q
  split at q
  · exact ⟨_, _, rfl, rfl, q⟩
  · exact q.elim
theorem OpR.n0 {f : Value → Value → Sem Value} {g : Int → Int → V} (h : OpR X f (rI0 g)) : OpR X f (rN0 g) := h.of fun x y H Q q => by
  unfold rN0 at q
  split at q
  · exact ⟨_, _, rfl, rfl, q⟩
  · exact q.elim
def rAddU : R2 := fun x y H Q => match x, y with
  | .int i, .int j => Q (.int (i + j)) H
  | .str i, .str j => i.length + j.length ≤ sizeLine ∧ Q (.str (i ++ j)) H
  | .ref p, .ref q => ∃ xs zs, H p = some (.lst xs) ∧ H q = some (.lst zs) ∧ xs.length + zs.length ≤ sizeLine ∧ ∀ n, H n = none → Q (.ref n) (upd H n (.lst (xs ++ zs)))
  | _, _ => False
theorem op_addU : OpR X (binaryOp .Add) rAddU := (op_add.or (op_add_str.or op_cat)).of fun x y H Q q => by
  unfold rAddU at q
  split at q
  · exact .inl ⟨_, _, rfl, rfl, q⟩
  · exact .inr (.inl ⟨_, _, rfl, rfl, q⟩)
  · obtain ⟨xs, zs, h1, h2, h3, h4⟩ := q
    exact .inr (.inr ⟨_, _, xs, zs, rfl, rfl, h1, h2, h3, h4⟩)
  · exact q.elim
def rMulU : R2 := fun x y H Q => match x, y with
  | .int i, .int j => CMul i j ∧ Q (.int (i * j)) H
  | .ref p, .int k => ∃ xs, H p = some (.lst xs) ∧ -(2 ^ 63) ≤ k ∧ k < 2 ^ 63 ∧ xs.length * k.toNat ≤ sizeLine ∧ ∀ n, H n = none → Q (.ref n) (upd H n (.lst (List.replicate k.toNat xs).flatten))
  | _, _ => False
theorem op_mulU : OpR X (binaryOp .Mult) rMulU := (op_mul.or op_rep).of fun x y H Q q => by
  unfold rMulU at q
  split at q
  · exact .inl ⟨_, _, rfl, rfl, q⟩
  · obtain ⟨xs, h1, h2, h3, h4, h5⟩ := q
    exact .inr ⟨_, _, xs, rfl, rfl, h1, h2, h3, h4, h5⟩
  · exact q.elim
def rEqU : R2 := fun x y H Q => match x, y with
  | .int i, .int j => Q (.bl (decide (i = j))) H
  | .str i, .str j => Q (.bl (decide (i = j))) H
  | .bl i, .bl j => Q (.bl (decide (i = j))) H
  | .ref p, .ref q => ∃ d e, DV H (.ref p) d ∧ DV H (.ref q) e ∧ SeqAt.shaped d = true ∧ SeqAt.shaped e = true ∧ Q (.bl (PyData.eqv d e)) H
  | _, _ => False
theorem vint_dec (i j : Int) : decide (V.int i = V.int j) = decide (i = j) := by simp
theorem vstr_dec (i j : Str) : decide (V.str i = V.str j) = decide (i = j) := by simp
theorem vbl_dec (i j : Bool) : decide (V.bl i = V.bl j) = decide (i = j) := by simp
theorem op_eqU (hu : X.A.units + 64 < cLine) : OpR X (compareOp .Eq) rEqU := (op_eq.or (op_eqD hu)).of fun x y H Q q => by
  unfold rEqU at q
  split at q
  · exact .inl ⟨rfl, by rw [vint_dec]; exact q⟩
  · exact .inl ⟨rfl, by rw [vstr_dec]; exact q⟩
  · exact .inl ⟨rfl, by rw [vbl_dec]; exact q⟩
  · exact .inr q
  · exact q.elim
def rNeU : R2 := fun x y H Q => rEqU x y H fun v H' => match v with
  | .bl k => Q (.bl (!k)) H'
  | _ => False
theorem op_neU (hu : X.A.units + 64 < cLine) : OpR X (compareOp .NotEq) rNeU := (op_ne.or (op_neD hu)).of fun x y H Q q => by
  unfold rNeU rEqU at q
  split at q
  · exact .inl ⟨rfl, by rw [vint_dec]; exact q⟩
  · exact .inl ⟨rfl, by rw [vstr_dec]; exact q⟩
  · exact .inl ⟨rfl, by rw [vbl_dec]; exact q⟩
  · exact .inr q
  · exact q.elim
def getV (H : Hp) (x : V) (i : Int) : Option V := match x with
  | .ref p => match H p with
    | some (.lst xs) => atI xs i
    | some (.tup xs) => atI xs i
    | some (.frz _ (.lst xs)) => atI xs i
    | _ => none
  | .str z => if z.length ≤ sizeLine then (atI z.cps.toList i).map fun c => V.str ⟨#[c]⟩ else none
  | _ => none
theorem getV_lst {H : Hp} {p : Addr} {xs : List V} {i : Int} (h : H p = some (.lst xs)) : getV H (.ref p) i = atI xs i := by simp [getV, h]
def rIxU : R2 := fun x y H Q => match y with
  | .int i => ∃ v, getV H x i = some v ∧ Q v H
  | _ => False
theorem ixU : IxR X rIxU := by
  intro value slice pins s σ H x y v u Q I rx ry q hs
  refine ix_seq value slice pins s σ H x y v u Q I rx ry ?_ hs
  unfold rIxU at q
  split at q
  · obtain ⟨z, hz, q⟩ := q
    unfold getV at hz
    split at hz
    · split at hz
      · rename_i xs hx
        exact .inl ⟨_, xs, _, z, rfl, rfl, SqL.of hx, hz, q⟩
      · rename_i xs hx
        exact .inr (.inl ⟨_, xs, _, z, rfl, rfl, SqT.of hx, hz, q⟩)
      · rename_i oo xs hx
        exact .inl ⟨_, xs, _, z, rfl, rfl, .inl (.inr ⟨_, hx⟩), hz, q⟩
      · cases hz
    · split at hz
      · rename_i hl
        obtain ⟨c, hc, rfl⟩ := Option.map_eq_some_iff.mp hz
        exact .inr (.inr ⟨_, _, c, rfl, rfl, hl, hc, q⟩)
      · cases hz
    · cases hz
  · exact q.elim
def rSlU : V → Option Int → Option Int → Hp → VK → Prop := fun x lo hi H Q => match x with
  | .ref p => ∃ xs, H p = some (.lst xs) ∧ ∀ n, H n = none → Q (.ref n) (upd H n (.lst (cutV xs lo hi)))
  | .str z => z.length ≤ sizeLine ∧ Q (.str (Txt.slice z lo hi)) H
  | _ => False
theorem slU : SlR X rSlU := by
  intro pins s σ H x v vl vu lo hi sl Q I rx hs pl pu q
  refine (sl_list.or sl_str) pins s σ H x v vl vu lo hi sl Q I rx hs pl pu ?_
  unfold rSlU at q
  split at q
  · obtain ⟨xs, h, q⟩ := q
    exact .inl ⟨_, xs, rfl, SqL.of h, q⟩
  · exact .inr ⟨_, rfl, q⟩
  · exact q.elim
def tPartU (t : TE) : TO := fun σ H Q => t σ H fun x H1 => match x with
  | .int i => Q (some i) H1
  | _ => False
theorem po_someU {te : TE} (h : PE X e te) : PO X (some e) (tPartU te) := by
  intro pins s σ H Q I hw
  rw [evalPart_some]
  refine thn (h pins s σ H _ I hw) fun u s1 ⟨x, H1, I1, r1, q1⟩ => ?_
  dsimp only at q1
  split at q1
  · obtain ⟨t, rfl⟩ := r1
    exact ⟨some _, H1, I1, .int _ t, q1⟩
  · exact q1.elim
def tBU (t : TE) : TT := fun σ H Q => t σ H fun x H1 => match x with
  | .bl c => Q c H1
  | _ => False
theorem bu_of {Q : Bool → Hp → Prop} {x : V} {H1 : Hp} (q : match x with | .bl c => Q c H1 | _ => False) : ∃ c, x = .bl c ∧ Q c H1 := by
  split at q
  · exact ⟨_, rfl, q⟩
  · exact q.elim
theorem pt_cmpU {op : CmpOp} {r : R2} {ta tb : TE} (ho : OpR X (compareOp op) r) (ha : PE X a ta) (hb : PE X b tb) (hm : behindInMarks op b = false := by first | exact nomark _ | rfl | (with_unfolding_all rfl)) : PT X (.Compare a [op] [b] pos) (tBU (tOp r ta tb)) := by
  intro pins s σ H Q I h
  refine wpAny_isTrue_Compare1 (thn (ha pins s σ H _ I h) fun v s1 ⟨x, H1, I1, r1, q1⟩ => thn (hb pins s1 σ H1 _ I1 q1) fun u s2 ⟨y, H2, I2, r2, q2⟩ =>
    thn (ho pins s2 σ H2 x y v u _ I2 r1 r2 q2) fun c s3 ⟨z, H3, I3, r3, q3⟩ => ?_) hm
  obtain ⟨k, e, q3⟩ := bu_of q3
  subst e
  cases r3
  exact wpAny_truthy_bool ⟨H3, I3, q3⟩
theorem pe_cmpU {op : CmpOp} {r : R2} {ta tb : TE} (ho : OpR X (compareOp op) r) (ha : PE X a ta) (hb : PE X b tb) (hm : behindInMarks op b = false := by first | exact nomark _ | rfl | (with_unfolding_all rfl)) : PE X (.Compare a [op] [b] pos) (tOp r ta tb) := pe_cmpR ho ha hb hm
def tAndU (ta tb : TE) : TE := fun σ H Q => ta σ H fun x H1 => match x with
  | .bl c => if c = true then tb σ H1 Q else Q (.bl false) H1
  | _ => False
def tNotU (ta : TE) : TE := fun σ H Q => ta σ H fun x H1 => match x with
  | .bl c => Q (.bl (!c)) H1
  | _ => False
def tChainU (r r' : R2) (ta tb tc : TE) : TE := fun σ H Q => ta σ H fun x H1 => tb σ H1 fun y H2 => r x y H2 fun z H3 => match z with
  | .bl k => if k = true then tc σ H3 fun w' H4 => r' y w' H4 Q else Q (.bl false) H3
  | _ => False
variable {ta tb tc : TE} {rest : List Expr}
theorem pe_andU (ha : PE X a ta) (hb : PE X (.BoolOp .And (b :: rest) pos) tb) : PE X (.BoolOp .And (a :: b :: rest) pos) (tAndU ta tb) := by
  intro pins s σ H Q I h
  refine BoolOp_and (thn (ha pins s σ H _ I h) fun v s1 ⟨x, H1, I1, r1, q1⟩ => ?_)
  dsimp only at q1
  split at q1
  · rename_i c
    cases r1
    refine wpAny_truthy_bool ?_
    cases c with
    | true => exact hb pins s1 σ H1 Q I1 q1
    | false => exact ⟨.bl false, H1, I1, rfl, q1⟩
  · exact q1.elim
theorem pe_notU (ha : PE X a ta) : PE X (.UnaryOp .Not a pos) (tNotU ta) := by
  intro pins s σ H Q I h
  refine UnaryOp_ (thn (ha pins s σ H _ I h) fun v s1 ⟨x, H1, I1, r1, q1⟩ => ?_)
  dsimp only at q1
  split at q1
  · cases r1
    exact not_of (wpAny_truthy_bool ⟨.bl _, H1, I1, rfl, q1⟩)
  · exact q1.elim
theorem pe_chainU {op op' : CmpOp} {r r' : R2} (ho : OpR X (compareOp op) r) (ho' : OpR X (compareOp op') r') (ha : PE X a ta) (hb : PE X b tb) (hc : PE X c tc)
    (hm : lastMarks [op, op'] [b, c] = false := by with_unfolding_all rfl) : PE X (.Compare a [op, op'] [b, c] pos) (tChainU r r' ta tb tc) := by
  intro pins s σ H Q I h
  refine Compare_chain (thn (ha pins s σ H _ I h) fun v s1 ⟨x, H1, I1, r1, q1⟩ => chain_link (thn (hb pins s1 σ H1 _ I1 q1) fun u s2 ⟨y, H2, I2, r2, q2⟩ =>
    thn (ho pins s2 σ H2 x y v u _ I2 r1 r2 q2) fun d s3 ⟨z, H3, I3, r3, q3⟩ => ?_)) hm
  dsimp only at q3
  split at q3
  · rename_i k
    cases r3
    refine wpAny_truthy_bool ?_
    cases k with
    | false => exact ite_ff ⟨.bl false, H3, I3, rfl, q3⟩
    | true => exact ite_tt (chain_last (thn (hc pins s3 σ H3 _ I3 q3) fun w' s4 ⟨z', H4, I4, r4, q4⟩ => ho' pins s4 σ H4 y z' u w' Q I4 r2 r4 q4))
  · exact q3.elim
theorem CallR.of {f : Value} {r r' : List V → Hp → VK → Prop} (h : CallR X f r) (k : ∀ xs H Q, r' xs H Q → r xs H Q) : CallR X f r' := fun pins s σ H xs us Q I rx q => h pins s σ H xs us Q I rx (k _ _ _ q)
theorem MtM.of {id : String} {r r' : V → List V → Hp → VK → Prop} (h : MtM X id r) (k : ∀ x xs H Q, r' x xs H Q → r x xs H Q) : MtM X id r' := fun pins s σ H x xs v us Q I rx rs q => h pins s σ H x xs v us Q I rx rs (k _ _ _ _ q)
def lenV (H : Hp) (x : V) : Option Nat := match x with
  | .str z => if z.length ≤ sizeLine then some z.length else none
  | .ref p => match H p with
    | some (.lst xs) => some xs.length
    | some (.tup xs) => some xs.length
    | some (.frz _ (.lst xs)) => some xs.length
    | _ => none
  | _ => none
def rLen : List V → Hp → VK → Prop := fun vs H Q => match vs with
  | [x] => ∃ k : Nat, lenV H x = some k ∧ Q (.int k) H
  | _ => False
theorem call_lenU : CallR X (.builtin "len") rLen := (call_len_seq.or call_len_str).of fun xs H Q q => by
  unfold rLen at q
  split at q
  · obtain ⟨k, hk, q⟩ := q
    unfold lenV at hk
    split at hk
    · split at hk
      · rename_i hl
        cases hk
        exact .inr ⟨_, rfl, hl, q⟩
      · cases hk
    · split at hk
      · cases hk; exact .inl ⟨_, _, rfl, .inl (SqL.of (by assumption)), q⟩
      · cases hk; exact .inl ⟨_, _, rfl, .inr (SqT.of (by assumption)), q⟩
      · cases hk; exact .inl ⟨_, _, rfl, .inl (.inl (.inr ⟨_, by assumption⟩)), q⟩
      · cases hk
    · cases hk
  · exact q.elim
def rListOf : List V → Hp → VK → Prop := fun vs H Q => match vs with
  | [.ref p] => ∃ xs, (H p = some (.lst xs) ∨ H p = some (.tup xs)) ∧ ∀ l, H l = none → Q (.ref l) (upd H l (.lst xs))
  | _ => False
theorem call_listU : CallR X (.type "list") rListOf := call_list_of.of fun xs H Q q => by
  unfold rListOf at q
  split at q
  · obtain ⟨ys, h, q⟩ := q
    exact ⟨_, ys, rfl, h.elim (fun z => .inl (SqL.of z)) (fun z => .inr (SqT.of z)), q⟩
  · exact q.elim
def rMax : List V → Hp → VK → Prop := fun vs H Q => match vs with
  | [.int i, .int j] => Q (.int (if j > i then j else i)) H
  | _ => False
theorem call_maxU (hc : X.calm = true) : CallR X (.builtin "max") rMax := (call_max2 hc).of fun xs H Q q => by
  unfold rMax at q
  split at q
  · exact ⟨_, _, rfl, q⟩
  · exact q.elim
def rMin : List V → Hp → VK → Prop := fun vs H Q => match vs with
  | [.int i, .int j] => Q (.int (if j < i then j else i)) H
  | _ => False
theorem call_minU (hc : X.calm = true) : CallR X (.builtin "min") rMin := (call_min2 hc).of fun xs H Q q => by
  unfold rMin at q
  split at q
  · exact ⟨_, _, rfl, q⟩
  · exact q.elim
def rIntOf : List V → Hp → VK → Prop := fun vs H Q => match vs with
  | [.int i] => Q (.int i) H
  | [.bl k] => Q (.int (if k then 1 else 0)) H
  | [.str z] => ∃ k : Bool, z = bs [k] ∧ Q (.int (if k then 1 else 0)) H
  | _ => False
theorem call_intU : CallR X (.type "int") rIntOf := (call_int1.or call_int_bit).of fun xs H Q q => by
  unfold rIntOf at q
  split at q
  · exact .inl (.inl ⟨_, rfl, q⟩)
  · exact .inl (.inr ⟨_, rfl, q⟩)
  · obtain ⟨k, h, q⟩ := q
    exact .inr ⟨k, by rw [h, bs_if], q⟩
  · exact q.elim
def rIsI : List V → Hp → VK → Prop := fun vs H Q => match vs with
  | [x, .ty T] => ∃ Tx, tyN H x = some Tx ∧ T ∈ ["int", "bool", "list", "tuple", "str"] ∧ Q (.bl (Tx == T || (Tx == "bool" && T == "int"))) H
  | _ => False
theorem call_isU : CallR X (.builtin "isinstance") rIsI := call_isinst.of fun xs H Q q => by
  unfold rIsI at q
  split at q
  · obtain ⟨Tx, h1, h2, q⟩ := q
    exact ⟨_, _, Tx, rfl, h1, h2, q⟩
  · exact q.elim
def rAll : List V → Hp → VK → Prop := fun vs H Q => match vs with
  | [.ref p] => ∃ bl : List Bool, H p = some (.lst (bl.map V.bl)) ∧ Q (.bl (bl.all id)) H
  | _ => False
theorem call_allU (hc : X.calm = true) : CallR X (.builtin "all") rAll := (call_all hc).of fun xs H Q q => by
  unfold rAll at q
  split at q
  · obtain ⟨bl, h, q⟩ := q
    exact ⟨_, bl, rfl, h, q⟩
  · exact q.elim

def rApp : V → List V → Hp → VK → Prop := fun x vs H Q => match x, vs with
  | .ref l, [y] => ∃ xs, H l = some (.lst xs) ∧ xs.length < sizeLine ∧ Q .non (upd H l (.lst (xs ++ [y])))
  | _, _ => False
theorem mt_appU : MtM X "list.append" rApp := mt_append.of fun x xs H Q q => by
  unfold rApp at q
  split at q
  · obtain ⟨ys, h1, h2, q⟩ := q
    exact ⟨_, ys, _, rfl, rfl, h1, h2, q⟩
  · exact q.elim
def rExt : V → List V → Hp → VK → Prop := fun x vs H Q => match x, vs with
  | .ref l, [.ref b] => ∃ xs zs, H l = some (.lst xs) ∧ H b = some (.lst zs) ∧ xs.length + zs.length ≤ sizeLine ∧ Q .non (upd H l (.lst (xs ++ zs)))
  | _, _ => False
theorem mt_extU : MtM X "list.extend" rExt := mt_extend.of fun x xs H Q q => by
  unfold rExt at q
  split at q
  · obtain ⟨ys, zs, h1, h2, h3, q⟩ := q
    exact ⟨_, _, ys, zs, rfl, rfl, h1, h2, h3, q⟩
  · exact q.elim
def rIns : V → List V → Hp → VK → Prop := fun x vs H Q => match x, vs with
  | .ref l, [.int i, y] => ∃ xs, H l = some (.lst xs) ∧ 0 ≤ i ∧ i < 2 ^ 62 ∧ xs.length < sizeLine ∧ Q .non (upd H l (.lst (xs.take i.toNat ++ y :: xs.drop i.toNat)))
  | _, _ => False
theorem mt_insU : MtM X "list.insert" rIns := mt_insert.of fun x xs H Q q => by
  unfold rIns at q
  split at q
  · obtain ⟨ys, h1, h2, h3, h4, q⟩ := q
    exact ⟨_, _, _, ys, rfl, rfl, h1, h2, h3, h4, q⟩
  · exact q.elim
def rBits : V → List V → Hp → VK → Prop := fun x vs H Q => match x, vs with
  | .int i, [] => Q (.int (Builtin.Int.intBits i)) H
  | _, _ => False
theorem mt_bitsU : MtM X "int.bit_length" rBits := mt_bitlen.of fun x xs H Q q => by
  unfold rBits at q
  split at q
  · exact ⟨_, rfl, rfl, q⟩
  · exact q.elim
def tyU (H : Hp) (T : String) : V → Prop
  | .str _ => T = "str"
  | .int _ => T = "int"
  | .ref p => ∃ xs, T = "list" ∧ H p = some (.lst xs)
  | _ => False
theorem tyU_of {K : PySem.W.Frag} {H : Hp} {T : String} {x : V} (h : tyU H T x) : tyV K T x H := by
  cases x with
  | str z => exact h
  | int z => exact h
  | ref p => obtain ⟨xs, h1, h2⟩ := h; exact .inl ⟨h1, xs, SqL.of h2⟩
  | _ => exact h.elim
end
theorem le_line {n : Nat} (h : n ≤ 1000) : n ≤ sizeLine := Nat.le_trans h (by decide)
theorem lt_line {n : Nat} (h : n ≤ 1000) : n < sizeLine := Nat.lt_of_le_of_lt h (by decide)
theorem Same.upd {H : Hp} {p : Addr} {o : HO} (h : H p = none) : Same H (upd H p o) := fun b u e => by rw [upd_ne (ne_of_none e h)]; exact e
theorem atI_int {α : Type} {xs : List α} {i : Int} {v : α} (h0 : 0 ≤ i) (h : xs[i.toNat]? = some v) : atI xs i = some v := by
  have e : i = (i.toNat : Int) := by omega
  rw [e]
  exact atI_nat h
theorem gl {H : Hp} {p : Addr} {xs : List V} {i : Int} {v : V} (h : H p = some (.lst xs)) (h0 : 0 ≤ i) (hv : xs[i.toNat]? = some v) : getV H (.ref p) i = some v := by rw [getV_lst h]; exact atI_int h0 hv
theorem lenL {H : Hp} {p : Addr} {xs : List V} (h : H p = some (.lst xs)) : lenV H (.ref p) = some xs.length := by simp [lenV, h]
end L2
end
section
namespace L2
open PySem
theorem small_some {a b c : Int} (ha : -(2 ^ 30) ≤ a) (ha' : a < 2 ^ 30) (hb : -(2 ^ 30) ≤ b) (hb' : b < 2 ^ 30) (hc : c ≠ 0) (hc1 : -(2 ^ 30) < c) (hc2 : c < 2 ^ 30) : Builtin.Range.small a b c = true := by
  have h2 : (0 : Int) ≤ Builtin.Range.rangeSize a b c ∧ Builtin.Range.rangeSize a b c ≤ 2 ^ 32 := by
    unfold Builtin.Range.rangeSize
    split
    · split
      · have h1 : 0 ≤ (b - a - 1) / c := Int.ediv_nonneg (by omega) (by omega)
        have h3 : (b - a - 1) / c ≤ b - a - 1 := Int.ediv_le_self _ (by omega)
        omega
      · omega
    · split
      · have h1 : 0 ≤ (a - b - 1) / (-c) := Int.ediv_nonneg (by omega) (by omega)
        have h3 : (a - b - 1) / (-c) ≤ a - b - 1 := Int.ediv_le_self _ (by omega)
        omega
      · omega
  unfold Builtin.Range.small
  simp only [Builtin.Range.rangeFitsLong, Bool.and_eq_true, Bool.or_eq_true, decide_eq_true_eq, beq_iff_eq]
  refine ⟨by omega, .inr ?_⟩
  split <;> (simp only [Bool.and_eq_true, decide_eq_true_eq]; omega)
end L2
end
section
set_option Elab.async false
set_option linter.all false
set_option maxRecDepth 100000
set_option maxHeartbeats 4000000
namespace L2
open PySem PySem.Spec PyProof.Rows

def FnX (K : PySem.W.Frag) (mg : Str → Option Value) (x : Str) (st : Stmt) (ps : List Str) : Prop := ∃ f fd, Fun K x x st f fd ∧ mg x = some (.ref f) ∧ Binds K fd ps []
def Can (P : Program) (w : World) (K : PySem.W.Frag) (mg : Str → Option Value) (base : Heap) (x : Str) (k : Nat) (ps : List Str) (sp : Sp) : Prop :=
  ∃ f fd, FnOk P w K mg base CX0 k f fd ps sp ∧ mg x = some (.ref f) ∧ PySem.W.keepIn K (.ref f) = true ∧ Binds K fd ps []
section
variable {P : Program} {w : World} {K : PySem.W.Frag} {mg : Str → Option Value} {base : Heap}
theorem can_fn {x : Str} {st : Stmt} {N ps : List Str} {k : Nat} {sp : Sp} (D : FnX K mg x st ps) (S : FnScope N ps (defScope st)) (len : ∀ vs H Q E, sp vs H Q E → vs.length = ps.length)
    (hbody : ∀ (f : Addr) (cdv : Value) (A : Around) (outer : List Env) (s : Shared) (H : Hp) (vs : List V) (Q : VK) (E : XK), Room k (A.deeper (envOfC x (defScope st) s.heap.objs.size f cdv)) → sp vs H Q E →
      ∃ t, PSs (cxOf CX0 P w K mg base N x (defScope st) f cdv A outer s H E).nox (defBody st) t ∧ t { nx := fun _ H' => Q .non H', rt := Q } (start N vs) H) : Can P w K mg base x (k + 1) ps sp := by
  obtain ⟨f, fd, F, hm, hb⟩ := D
  exact ⟨f, fd, F.ok S len fun cdv A outer s H vs Q E hr h => hbody f cdv A outer s H vs Q E hr h, hm, F.kp, hb⟩
end
section
variable {X : Cx} {x : Str} {p pos apos : Pos} {e o : Expr} {es : List Expr} {t : TA} {te to ti : TE} {k : Nat} {ps : List Str} {sp : Sp}
def tCan (sp : Sp) (t : TA) : TE := fun σ H Q => t σ H fun vs H1 => sp vs H1 Q E0
theorem PA.of {t t' : TA} (h : PA X es t) (k : ∀ σ H Q, t' σ H Q → t σ H Q) : PA X es t' := fun pos pins s σ H Q I q => h pos pins s σ H Q I (k _ _ _ q)
theorem pe_can (C : Can X.prog X.w X.K X.mg X.base x k ps sp) (hr : Room k X.A) (ha : PA X (e :: es) t) (hg : Gl X x := by rfl)
    (hdb : (x == ("__debug__" : Str)) = false := by decide) (he : starEach (e :: es) X.env = (false, eval e X.env) :: starEach es X.env := by rfl) (hpl : (backTo pos (starEach es X.env)).any (·.1) = false := by rfl) :
    PE X (.Call (.Name x p) (e :: es) [] pos) (tCan sp t) := by
  obtain ⟨f, fd, F, hm, hk, hb⟩ := C
  have h := pe_call (pos := pos) (p := p) F hr hg hm hk hb .nil pass0 ha hdb he hpl
  intro pins s σ H Q I q
  refine thn (h pins s σ H Q I ?_) fun _ _ z => z
  have ee : tCall sp [] E0 t = tCan sp t := by funext σ H Q; unfold tCall tCan; simp only [List.append_nil]
  rw [ee]
  exact q
theorem pe_len (hm : X.mg "len" = none) (ha : PA X (e :: es) t) (hg : Gl X "len" := by rfl) (he : starEach (e :: es) X.env = (false, eval e X.env) :: starEach es X.env := by rfl) (hpl : (backTo pos (starEach es X.env)).any (·.1) = false := by rfl) :
    PE X (.Call (.Name "len" p) (e :: es) [] pos) (tCB rLen t) := pe_callB call_lenU hg hm PySem.boot_len ha (he := he) (hpl := hpl)
theorem pe_isinst (hm : X.mg "isinstance" = none) (ha : PA X (e :: es) t) (hg : Gl X "isinstance" := by rfl) (he : starEach (e :: es) X.env = (false, eval e X.env) :: starEach es X.env := by rfl) (hpl : (backTo pos (starEach es X.env)).any (·.1) = false := by rfl) :
    PE X (.Call (.Name "isinstance" p) (e :: es) [] pos) (tCB rIsI t) := pe_callB call_isU hg hm PyProof.Rows.boot_isinstance ha (he := he) (hpl := hpl)
theorem pe_all (hc : X.calm = true) (hm : X.mg "all" = none) (ha : PA X (e :: es) t) (hg : Gl X "all" := by rfl) (he : starEach (e :: es) X.env = (false, eval e X.env) :: starEach es X.env := by rfl) (hpl : (backTo pos (starEach es X.env)).any (·.1) = false := by rfl) :
    PE X (.Call (.Name "all" p) (e :: es) [] pos) (tCB rAll t) := pe_callB (call_allU hc) hg hm PyProof.Rows.boot_all ha (he := he) (hpl := hpl)
theorem pe_max (hc : X.calm = true) (hm : X.mg "max" = none) (ha : PA X (e :: es) t) (hg : Gl X "max" := by rfl) (he : starEach (e :: es) X.env = (false, eval e X.env) :: starEach es X.env := by rfl) (hpl : (backTo pos (starEach es X.env)).any (·.1) = false := by rfl) :
    PE X (.Call (.Name "max" p) (e :: es) [] pos) (tCB rMax t) := pe_callB (call_maxU hc) hg hm PyProof.Rows.boot_max ha (he := he) (hpl := hpl)
theorem pe_min (hc : X.calm = true) (hm : X.mg "min" = none) (ha : PA X (e :: es) t) (hg : Gl X "min" := by rfl) (he : starEach (e :: es) X.env = (false, eval e X.env) :: starEach es X.env := by rfl) (hpl : (backTo pos (starEach es X.env)).any (·.1) = false := by rfl) :
    PE X (.Call (.Name "min" p) (e :: es) [] pos) (tCB rMin t) := pe_callB (call_minU hc) hg hm PyProof.Rows.boot_min ha (he := he) (hpl := hpl)
theorem pe_intf (hm : X.mg "int" = none) (ha : PA X (e :: es) t) (hg : Gl X "int" := by rfl) (he : starEach (e :: es) X.env = (false, eval e X.env) :: starEach es X.env := by rfl) (hpl : (backTo pos (starEach es X.env)).any (·.1) = false := by rfl) :
    PE X (.Call (.Name "int" p) (e :: es) [] pos) (tCB rIntOf t) := pe_callTy call_intU hg hm PyProof.Rows.boot_int ha (he := he) (hpl := hpl)
theorem pe_listf (hm : X.mg "list" = none) (ha : PA X (e :: es) t) (hg : Gl X "list" := by rfl) (he : starEach (e :: es) X.env = (false, eval e X.env) :: starEach es X.env := by rfl) (hpl : (backTo pos (starEach es X.env)).any (·.1) = false := by rfl) :
    PE X (.Call (.Name "list" p) (e :: es) [] pos) (tCB rListOf t) := pe_callTy call_listU hg hm PyProof.Rows.boot_list ha (he := he) (hpl := hpl)
theorem pe_ty {T : String} (hb : bootBuiltins x = some (.type T)) (hm : X.mg x = none) (hg : Gl X x := by rfl) (hn : x ≠ "__name__" := by decide) (hd : (x == ("__debug__" : Str)) = false := by decide) : PE X (.Name x pos) (tC (.ty T)) := pe_bltn hg hm hb rfl hn hd

def tMt (T : String) (r : V → List V → Hp → VK → Prop) (to : TE) (t : TA) : TE := fun σ H Q => to σ H fun x H1 => tyU H1 T x ∧ t σ H1 fun xs H2 => r x xs H2 Q
theorem pe_mt {T id : String} {name : Str} {cpos : Pos} {r : V → List V → Hp → VK → Prop} (pa : PlainAttrs T) (slot : Slot T name id) (hty : typeOf (.builtin id) = pure (.type "method_descriptor")) (hm : MtM X id r) (ho : PE X o to) (ha : PA X (e :: es) t)
    (hbase : attributeBase o name X.env (eval o X.env) = eval o X.env := by rfl)
    (hfew : ((backTo cpos (starEach (e :: es) X.env)).all (fun x => !x.1) && (backToKw cpos (keywordEach [] X.env)).all (fun x => x.1.isSome)
      && decide ((e :: es).length + ([] : List Keyword).length + (if ([] : List Keyword).isEmpty then 0 else 1) < 30)) = true := by rfl)
    (hline : (apos.endLine == cpos.line) = true := by rfl) (hs : starEach (e :: es) X.env = (false, eval e X.env) :: starEach es X.env := by rfl) (hplain : (backTo cpos (starEach es X.env)).any (·.1) = false := by rfl) :
    PE X (.Call (.Attribute o name apos) (e :: es) [] cpos) (tMt T r to t) := by
  intro pins s σ H Q I h
  refine wpAny_Call_method_late hbase hfew hline rfl (thn (ho pins s σ H _ I h) fun v s1 ⟨x, H1, I1, r1, ty, q1⟩ => ?_)
  obtain ⟨h1, h2⟩ := tyV_is I1 r1 (tyU_of ty)
  refine ⟨T, id, pa, slot, hty, h1, h2, ?_⟩
  have hA := ha cpos pins s1 σ H1 _ I1 q1
  rw [hs] at hA ⊢
  refine Calls.callWith_builtin (by show (false || (backTo cpos (starEach es X.env)).any (·.1)) = false; rw [hplain] <;> rfl) (Calls.evalArgs_plain ?_)
  exact thn hA fun us s2 ⟨vs, H2, I2, r2, q2⟩ => hm pins s2 σ H2 x vs v us Q I2 r1 r2 q2
theorem pe_mt0 {T id : String} {name : Str} {cpos : Pos} {r : V → List V → Hp → VK → Prop} (pa : PlainAttrs T) (slot : Slot T name id) (hty : typeOf (.builtin id) = pure (.type "method_descriptor")) (hm : MtM X id r) (ho : PE X o to)
    (hbase : attributeBase o name X.env (eval o X.env) = eval o X.env := by rfl) (hline : (apos.endLine == cpos.line) = true := by rfl) : PE X (.Call (.Attribute o name apos) [] [] cpos) (tMt T r to tNil) := by
  intro pins s σ H Q I h
  refine wpAny_Call_method0_late hbase hline (thn (ho pins s σ H _ I h) fun v s1 ⟨x, H1, I1, r1, ty, q1⟩ => ?_)
  obtain ⟨h1, h2⟩ := tyV_is I1 r1 (tyU_of ty)
  exact ⟨T, id, pa, slot, hty, h1, h2, Calls.callWith_builtin rfl (PySem.evalArgs_none (hm pins s1 σ H1 x [] v [] Q I1 r1 .nil q1))⟩

def rSetU : V → V → V → Hp → (Hp → Prop) → Prop := fun o i v H Q => match o, i with
  | .ref p, .int k => ∃ xs j, H p = some (.lst xs) ∧ ixN xs.length k = some j ∧ Q (upd H p (.lst (xs.set j v)))
  | _, _ => False
theorem setU : PSet X rSetU := by
  intro pins s σ H o i v ov iv u Q I ro ri rv q
  refine set_list pins s σ H o i v ov iv u Q I ro ri rv ?_
  unfold rSetU at q
  split at q
  · obtain ⟨xs, j, h1, h2, q⟩ := q
    exact ⟨_, xs, _, j, rfl, rfl, h1, h2, q⟩
  · exact q.elim
def gTupU (K : PySem.W.Frag) (n : Nat) (t : TGs) : TG := fun v σ H Q => match v with
  | .ref a => ∃ xs, H a = some (.tup xs) ∧ xs.length = n ∧ t xs σ H Q
  | _ => False
variable {tg : Expr}
def iLst (K : PySem.W.Frag) (tl : TE) : TI := fun σ H R => tl σ H fun x H1 => match x with
  | .ref a => (∃ xs, SqL K H1 a xs) ∧ R (Itl K a) H1
  | _ => False
theorem pi_lst {l : Expr} {tl : TE} (hl : PE X l tl) : PI X tg l (iLst X.K tl) := by
  intro pins s σ H R I h
  refine thn (hl pins s σ H _ I h) fun v s1 ⟨x, H1, I1, r1, q1⟩ => ?_
  dsimp only at q1
  split at q1
  · rename_i a
    obtain ⟨⟨xs, hq⟩, q⟩ := q1
    cases r1
    obtain ⟨its, rv, p, hz⟩ := I1.list hq
    refine wpAny_pyIter_list p.isList ?_
    refine ⟨s1.heap.objs.size, [s1.heap.objs.size], _, _, H1, rfl, I1.kept (t' := s1.toks) fun b o e => Heap.get?_push_of_some _ e, turn_list a _, ⟨_, Heap.get?_push_size _ rfl, rfl, rfl⟩, fun b hb => ?_, q⟩
    have e : b = s1.heap.objs.size := by simpa using hb
    subst e
    exact I1.fpOk (Nat.le_refl _) (I1.hok.fresh (Nat.le_refl _))
  · exact q1.elim
def iR1 (ta : TA) : TI := fun σ H R => ta σ H fun vs H1 => match vs with
  | [.int j] => -(2 ^ 62) ≤ j ∧ j < 2 ^ 62 ∧ R (Itr 0 j.toNat) H1
  | _ => False
theorem PI.of {iter : Expr} {w w' : TI} (h : PI X tg iter w) (k : ∀ σ H R, w' σ H R → w σ H R) : PI X tg iter w' := fun pins s σ H R I q => h pins s σ H R I (k _ _ _ q)
theorem pi_r1 {a : Expr} {ta : TA} (hm : X.mg "range" = none) (ha : PA X [a] ta) (hg : Gl X "range" := by rfl) (hs : starEach [a] X.env = [(false, eval a X.env)] := by rfl) : PI X tg (.Call (.Name "range" p) [a] [] pos) (iR1 ta) := by
  intro pins s σ H R I h
  refine Call_ (ld_blt I hg hm boot_range (PyProof.Rows.callWith_type1 (thn (ha pos pins s σ H _ I h) fun us s1 ⟨vs, H1, I1, r1, q1⟩ => ?_) hs rfl))
  dsimp only at q1
  split at q1
  · obtain ⟨q1, q2, q⟩ := q1
    obtain ⟨u, rfl, t, rfl⟩ := vals1 r1
    exact call_range_1 (range_it I1 (by omega) (by omega) q1 q2 (by simpa using q))
  · exact q1.elim
def iR2 (ta : TA) : TI := fun σ H R => ta σ H fun vs H1 => match vs with
  | [.int i, .int j] => (-(2 ^ 62) ≤ i ∧ i < 2 ^ 62 ∧ -(2 ^ 62) ≤ j ∧ j < 2 ^ 62) ∧ R (Itr i (j - i).toNat) H1
  | _ => False
theorem pi_r2 {a b : Expr} {ta : TA} (hm : X.mg "range" = none) (ha : PA X [a, b] ta) (hg : Gl X "range" := by rfl) (hs : starEach [a, b] X.env = [(false, eval a X.env), (false, eval b X.env)] := by rfl) (hs2 : starEach [b] X.env = [(false, eval b X.env)] := by rfl) :
    PI X tg (.Call (.Name "range" p) [a, b] [] pos) (iR2 ta) := by
  intro pins s σ H R I h
  refine Call_ (ld_blt I hg hm boot_range (PyProof.Rows.callWith_type1 (thn (ha pos pins s σ H _ I h) fun us s1 ⟨vs, H1, I1, r1, q1⟩ => ?_) (by rw [hs, hs2]) (by rw [hs2]; rfl)))
  dsimp only at q1
  split at q1
  · obtain ⟨⟨q1, q2, q3, q4⟩, q⟩ := q1
    obtain ⟨u, u2, rfl, ⟨t, rfl⟩, ⟨t', rfl⟩⟩ := vals2 r1
    exact call_range_2 (range_it I1 q1 q2 q3 q4 q)
  · exact q1.elim
def Itrs (lo st : Int) (n : Nat) : It := ⟨fun i _ => i < n, fun i H x H' => H' = H ∧ x = .int (lo + (i : Nat) * st), fun i _ => n ≤ i⟩
theorem it_rangeS (lo st : Int) (n : Nat) : ItOk (Itrs lo st n) ((List.range n).map fun i => V.int (lo + (i : Nat) * st)) fun _ => True :=
  ⟨fun H _ => by show n ≤ _; simp, fun i H _ hi => (by show i < n; simpa using hi), fun i H x H' _ hi y => ⟨y.1, by
    have hi' : i < n := by simpa using hi
    obtain ⟨_, rfl⟩ := y
    simp [hi']⟩⟩
theorem turn_rangeS {P : Program} {w : World} {K : PySem.W.Frag} {tg : Expr} (it : Addr) (lo st : Int) (n : Nat) : Turn P w K tg (Itrs lo st n) [it] it (fun i h => IsRangeIter h it (lo + (i : Nat) * st) ((n : Int) - (i : Nat)) st) where
  mem := by simp
  obj := fun i h st b hb => by
    have e : b = it := by simpa using hb
    subst e
    exact ⟨_, st, fun v z => by
      have z' : Data.fields _ = Data.cell v := z
      cases z'⟩
  keep := fun i h h' st k => k it (by simp) _ st
  item := by
    intro X hP hw hK hc i pins s σ H E I hf st' hg
    subst hP hw hK
    obtain ⟨f0, f1, f2, f3, f4, f5⟩ := hf it (by simp)
    have W := Walks.range (prog := X.prog) (w := X.w) (I.ok.hd hc) it lo st n
    refine W.item i s _ _ hg st' fun v h' tk hv st'' kk => ?_
    obtain ⟨t, rfl⟩ := hv
    have I1 : Inv X pins σ H { s with heap := h', toks := tk } := I.turned (fun b o hb e => kk b o (by simpa using hb) e) f0 f1 f3 f4 f5
    exact ⟨_, rfl, go_of (s := { s with heap := h', toks := tk }) (n := "range_iterator") st'' rfl rfl (by decide) ⟨.int (lo + (i : Nat) * st), H, I1, ⟨t, rfl⟩, ⟨rfl, rfl⟩, st'', fun b hb => (hf b hb).1⟩⟩
  done := by
    intro X hP hw hK hc i pins s σ H E I hf st' hg
    subst hP hw hK
    obtain ⟨f0, f1, f2, f3, f4, f5⟩ := hf it (by simp)
    exact wpAny_pyNext_range_end (I.ok.hd hc) st' (by have : n ≤ i := hg; omega) fun h' eb => ⟨rfl, I.turned (t' := s.toks) (fun b o hb e => eb b o hb e) f0 f1 f3 f4 f5⟩
  self := fun _ _ _ _ _ st h => wpAny_pyIter_rangeiter st h
def iR3 (ta : TA) : TI := fun σ H R => ta σ H fun vs H1 => match vs with
  | [.int i, .int j, .int c] => (-(2 ^ 30) ≤ i ∧ i < 2 ^ 30 ∧ -(2 ^ 30) ≤ j ∧ j < 2 ^ 30 ∧ c ≠ 0 ∧ -(2 ^ 30) < c ∧ c < 2 ^ 30) ∧ R (Itrs i c (Builtin.Range.rangeSize i j c).toNat) H1
  | _ => False
theorem rangeSize_nonneg (a b c : Int) : 0 ≤ Builtin.Range.rangeSize a b c := by
  unfold Builtin.Range.rangeSize
  split
  · split
    · have : 0 ≤ (b - a - 1) / c := Int.ediv_nonneg (by omega) (by omega)
      omega
    · omega
  · split
    · have : 0 ≤ (a - b - 1) / (-c) := Int.ediv_nonneg (by omega) (by omega)
      omega
    · omega
theorem pi_r3 {a b c : Expr} {ta : TA} (hm : X.mg "range" = none) (ha : PA X [a, b, c] ta) (hg : Gl X "range" := by rfl) (hs : starEach [a, b, c] X.env = [(false, eval a X.env), (false, eval b X.env), (false, eval c X.env)] := by rfl) (hs2 : starEach [b, c] X.env = [(false, eval b X.env), (false, eval c X.env)] := by rfl) :
    PI X tg (.Call (.Name "range" p) [a, b, c] [] pos) (iR3 ta) := by
  intro pins s σ H R I h
  refine Call_ (ld_blt I hg hm boot_range (PyProof.Rows.callWith_type1 (thn (ha pos pins s σ H _ I h) fun us s1 ⟨vs, H1, I1, r1, q1⟩ => ?_) (by rw [hs, hs2]) (by rw [hs2]; rfl)))
  dsimp only at q1
  split at q1
  · rename_i i j c'
    obtain ⟨⟨q1, q2, q3, q4, q5, q6, q7⟩, q⟩ := q1
    cases r1 with
    | cons ra r1 =>
      obtain ⟨u2, u3, e, ⟨t2, e2⟩, ⟨t3, e3⟩⟩ := vals2 r1
      obtain ⟨t1, e1⟩ := ra
      subst e1 e e2 e3
      refine call_range_3 q5 ?_ (.inl (PyProof.noPylong_small (by omega)))
      refine wpAny_pyIter_range (IsRange.new ..) (small_some q1 q2 q3 q4 q5 q6 q7) ?_
      have I2 := I1.kept (t' := s1.toks) (h' := s1.heap.push { cls := .type "range", data := .fields #[.int i t1, .int j t2, .int c' t3] }) fun b o e => Heap.get?_push_of_some _ e
      refine ⟨_, [_], _, _, H1, rfl, I2.kept (t' := s1.toks) fun b o e => Heap.get?_push_of_some _ e, turn_rangeS _ i c' (Builtin.Range.rangeSize i j c').toNat, ?_, fun b hb => ?_, q⟩
      · have e1 : i + ((0 : Nat) : Int) * c' = i := by simp
        have e2 : (((Builtin.Range.rangeSize i j c').toNat : Nat) : Int) - ((0 : Nat) : Int) = Builtin.Range.rangeSize i j c' := by have := rangeSize_nonneg i j c'; omega
        show IsRangeIter _ _ (i + ((0 : Nat) : Int) * c') ((((Builtin.Range.rangeSize i j c').toNat : Nat) : Int) - ((0 : Nat) : Int)) c'
        rw [e1, e2]
        exact Heap.get?_push_size _ rfl
      · have e : b = (s1.heap.push { cls := .type "range", data := .fields #[.int i t1, .int j t2, .int c' t3] }).objs.size := by simpa using hb
        subst e
        exact I2.fpOk (Nat.le_refl _) (I2.hok.fresh (Nat.le_refl _))
  · exact q1.elim
end
end L2
end
section
set_option Elab.async false
set_option linter.all false
set_option maxRecDepth 100000
set_option maxHeartbeats 4000000
namespace L2
open PySem PySem.Spec PyProof.Rows
def visB (sc : Scope) (x : Str) : Bool := (match sc.names.lookup x with
  | some .local => true
  | some .cell => true
  | some .free => true
  | _ => false) && (!(x == ("__debug__" : Str)) && !(x == ("__classdict__" : Str)))
theorem vis_of {sc : Scope} {x : Str} (h : visB sc x = true) : Vis sc x ∧ (x == ("__debug__" : Str)) = false ∧ (x == ("__classdict__" : Str)) = false := by
  unfold visB at h
  simp only [Bool.and_eq_true, Bool.not_eq_true'] at h
  obtain ⟨h1, h2, h3⟩ := h
  refine ⟨?_, h2, h3⟩
  split at h1
  · exact .inl (by assumption)
  · exact .inr (.inl (by assumption))
  · exact .inr (.inr (by assumption))
  · cases h1
def locB (sc : Scope) (x : Str) : Bool := match sc.names.lookup x with
  | some .local => true
  | some .cell => true
  | _ => false
theorem loc_of {sc : Scope} {x : Str} (h : locB sc x = true) : Loc sc x := by
  unfold locB at h
  split at h
  · exact .inl (by assumption)
  · exact .inr (by assumption)
  · cases h
section
variable {X : Cx} {x : Str} {pos : Pos}
theorem vk (i : Nat) (hN : X.N[i]? = some x := by rfl) (hv : visB X.env.scope x = true := by kernel_rfl) : PE X (.Name x pos) (tV i) :=
  vr i hN (vis_of hv).1 (vis_of hv).2.1 (vis_of hv).2.2
theorem gk (i : Nat) (hN : X.N.Nodup) (hi : X.N[i]? = some x := by rfl) (hx : locB X.env.scope x = true := by kernel_rfl) (hf : (X.fn x || X.env.scope.names.lookup x == some .local) = true := by kernel_rfl) : PG X (.Name x pos) (gName i) :=
  pg_name hN hi (loc_of hx) (by
    rw [Bool.or_eq_true] at hf
    exact hf.elim .inl fun z => .inr (eq_of_beq z))
theorem vn (x : Str) (i : Nat) (hN : X.N[i]? = some x := by with_unfolding_all rfl) (hv : visB X.env.scope x = true := by kernel_rfl) : PE X (.Name x pos) (tV i) := vk i hN hv
theorem gn (x : Str) (i : Nat) (hN : X.N.Nodup) (hi : X.N[i]? = some x := by with_unfolding_all rfl) (hx : locB X.env.scope x = true := by kernel_rfl) (hf : (X.fn x || X.env.scope.names.lookup x == some .local) = true := by kernel_rfl) : PG X (.Name x pos) (gName i) := gk i hN hi hx hf
def gB (X : Cx) (x : Str) : Bool := X.env.scope.names.lookup x == some .globalImplicit
theorem gl_of (h : gB X x = true) : Gl X x := eq_of_beq h
variable {p apos : Pos} {e o : Expr} {es : List Expr} {t : TA} {te to ti : TE} {k : Nat} {ps : List Str} {sp : Sp} {tg : Expr}
theorem fn_can (x : Str) {P' : Program} {w' : World} {K' : PySem.W.Frag} {mg' : Str → Option Value} {base' : Heap} (C : Can P' w' K' mg' base' x k ps sp) (hX : X.prog = P' ∧ X.w = w' ∧ X.K = K' ∧ X.mg = mg' ∧ X.base = base') (hr : Room k X.A) (ha : PA X (e :: es) t) (hg : gB X x = true := by kernel_rfl)
    (hdb : (x == ("__debug__" : Str)) = false := by kernel_rfl) (he : starEach (e :: es) X.env = (false, eval e X.env) :: starEach es X.env := by kernel_rfl) (hpl : (backTo pos (starEach es X.env)).any (·.1) = false := by kernel_rfl) :
    PE X (.Call (.Name x p) (e :: es) [] pos) (tCan sp t) := by
  obtain ⟨rfl, rfl, rfl, rfl, rfl⟩ := hX
  exact pe_can C hr ha (gl_of hg) hdb he hpl
theorem fn_len {mg' : Str → Option Value} (hm : mg' "len" = none) (hX : X.mg = mg') (ha : PA X (e :: es) t) (hg : gB X "len" = true := by kernel_rfl) (he : starEach (e :: es) X.env = (false, eval e X.env) :: starEach es X.env := by kernel_rfl) (hpl : (backTo pos (starEach es X.env)).any (·.1) = false := by kernel_rfl) :
    PE X (.Call (.Name "len" p) (e :: es) [] pos) (tCB rLen t) := pe_len (by rw [hX]; exact hm) ha (gl_of hg) he hpl
theorem fn_isinst {mg' : Str → Option Value} (hm : mg' "isinstance" = none) (hX : X.mg = mg') (ha : PA X (e :: es) t) (hg : gB X "isinstance" = true := by kernel_rfl) (he : starEach (e :: es) X.env = (false, eval e X.env) :: starEach es X.env := by kernel_rfl) (hpl : (backTo pos (starEach es X.env)).any (·.1) = false := by kernel_rfl) :
    PE X (.Call (.Name "isinstance" p) (e :: es) [] pos) (tCB rIsI t) := pe_isinst (by rw [hX]; exact hm) ha (gl_of hg) he hpl
theorem fn_all {mg' : Str → Option Value} (hm : mg' "all" = none) (hX : X.mg = mg') (ha : PA X (e :: es) t) (hc : X.calm = true := by kernel_rfl) (hg : gB X "all" = true := by kernel_rfl) (he : starEach (e :: es) X.env = (false, eval e X.env) :: starEach es X.env := by kernel_rfl) (hpl : (backTo pos (starEach es X.env)).any (·.1) = false := by kernel_rfl) :
    PE X (.Call (.Name "all" p) (e :: es) [] pos) (tCB rAll t) := pe_all hc (by rw [hX]; exact hm) ha (gl_of hg) he hpl
theorem fn_max {mg' : Str → Option Value} (hm : mg' "max" = none) (hX : X.mg = mg') (ha : PA X (e :: es) t) (hc : X.calm = true := by kernel_rfl) (hg : gB X "max" = true := by kernel_rfl) (he : starEach (e :: es) X.env = (false, eval e X.env) :: starEach es X.env := by kernel_rfl) (hpl : (backTo pos (starEach es X.env)).any (·.1) = false := by kernel_rfl) :
    PE X (.Call (.Name "max" p) (e :: es) [] pos) (tCB rMax t) := pe_max hc (by rw [hX]; exact hm) ha (gl_of hg) he hpl
theorem fn_min {mg' : Str → Option Value} (hm : mg' "min" = none) (hX : X.mg = mg') (ha : PA X (e :: es) t) (hc : X.calm = true := by kernel_rfl) (hg : gB X "min" = true := by kernel_rfl) (he : starEach (e :: es) X.env = (false, eval e X.env) :: starEach es X.env := by kernel_rfl) (hpl : (backTo pos (starEach es X.env)).any (·.1) = false := by kernel_rfl) :
    PE X (.Call (.Name "min" p) (e :: es) [] pos) (tCB rMin t) := pe_min hc (by rw [hX]; exact hm) ha (gl_of hg) he hpl
theorem fn_int {mg' : Str → Option Value} (hm : mg' "int" = none) (hX : X.mg = mg') (ha : PA X (e :: es) t) (hg : gB X "int" = true := by kernel_rfl) (he : starEach (e :: es) X.env = (false, eval e X.env) :: starEach es X.env := by kernel_rfl) (hpl : (backTo pos (starEach es X.env)).any (·.1) = false := by kernel_rfl) :
    PE X (.Call (.Name "int" p) (e :: es) [] pos) (tCB rIntOf t) := pe_intf (by rw [hX]; exact hm) ha (gl_of hg) he hpl
theorem fn_list {mg' : Str → Option Value} (hm : mg' "list" = none) (hX : X.mg = mg') (ha : PA X (e :: es) t) (hg : gB X "list" = true := by kernel_rfl) (he : starEach (e :: es) X.env = (false, eval e X.env) :: starEach es X.env := by kernel_rfl) (hpl : (backTo pos (starEach es X.env)).any (·.1) = false := by kernel_rfl) :
    PE X (.Call (.Name "list" p) (e :: es) [] pos) (tCB rListOf t) := pe_listf (by rw [hX]; exact hm) ha (gl_of hg) he hpl
theorem ty_int {mg' : Str → Option Value} (hm : mg' "int" = none) (hX : X.mg = mg') (hg : gB X "int" = true := by kernel_rfl) : PE X (.Name "int" pos) (tC (.ty "int")) := pe_ty PyProof.Rows.boot_int (by rw [hX]; exact hm) (gl_of hg)
theorem ty_bool {mg' : Str → Option Value} (hm : mg' "bool" = none) (hX : X.mg = mg') (hg : gB X "bool" = true := by kernel_rfl) : PE X (.Name "bool" pos) (tC (.ty "bool")) := pe_ty PyProof.Rows.boot_bool (by rw [hX]; exact hm) (gl_of hg)
theorem ty_list {mg' : Str → Option Value} (hm : mg' "list" = none) (hX : X.mg = mg') (hg : gB X "list" = true := by kernel_rfl) : PE X (.Name "list" pos) (tC (.ty "list")) := pe_ty PyProof.Rows.boot_list (by rw [hX]; exact hm) (gl_of hg)
theorem it_r1 {a : Expr} {ta : TA} {mg' : Str → Option Value} (hm : mg' "range" = none) (hX : X.mg = mg') (ha : PA X [a] ta) (hg : gB X "range" = true := by kernel_rfl) (hs : starEach [a] X.env = [(false, eval a X.env)] := by kernel_rfl) : PI X tg (.Call (.Name "range" p) [a] [] pos) (iR1 ta) := pi_r1 (by rw [hX]; exact hm) ha (gl_of hg) hs
theorem it_r2 {a b : Expr} {ta : TA} {mg' : Str → Option Value} (hm : mg' "range" = none) (hX : X.mg = mg') (ha : PA X [a, b] ta) (hg : gB X "range" = true := by kernel_rfl) (hs : starEach [a, b] X.env = [(false, eval a X.env), (false, eval b X.env)] := by kernel_rfl) (hs2 : starEach [b] X.env = [(false, eval b X.env)] := by kernel_rfl) :
    PI X tg (.Call (.Name "range" p) [a, b] [] pos) (iR2 ta) := pi_r2 (by rw [hX]; exact hm) ha (gl_of hg) hs hs2
theorem it_r3 {a b c : Expr} {ta : TA} {mg' : Str → Option Value} (hm : mg' "range" = none) (hX : X.mg = mg') (ha : PA X [a, b, c] ta) (hg : gB X "range" = true := by kernel_rfl) (hs : starEach [a, b, c] X.env = [(false, eval a X.env), (false, eval b X.env), (false, eval c X.env)] := by kernel_rfl) (hs2 : starEach [b, c] X.env = [(false, eval b X.env), (false, eval c X.env)] := by kernel_rfl) :
    PI X tg (.Call (.Name "range" p) [a, b, c] [] pos) (iR3 ta) := pi_r3 (by rw [hX]; exact hm) ha (gl_of hg) hs hs2
theorem ix_at {a b : Expr} {ta tb : TE} (ha : PE X a ta) (hb : PE X b tb) (hs : ∀ o i, subscripted b false o i = operate [o, i] (getItem o i) := by intro _ _; kernel_rfl) : PE X (.Subscript a b pos) (tOp rIxU ta tb) := pe_ix ixU ha hb hs
theorem a_cons {e : Expr} {es : List Expr} {te : TE} {t : TA} (ha : PE X e te) (hr : PA X es t) (hs : starEach (e :: es) X.env = (false, eval e X.env) :: starEach es X.env := by kernel_rfl) : PA X (e :: es) (tCons te t) := pa_cons ha hr hs
theorem t_cmp {op : CmpOp} {r : R2} {a b : Expr} {ta tb : TE} (ho : OpR X (compareOp op) r) (ha : PE X a ta) (hb : PE X b tb) (hm : behindInMarks op b = false := by kernel_rfl) : PT X (.Compare a [op] [b] pos) (tBU (tOp r ta tb)) := pt_cmpU ho ha hb hm
theorem e_cmp {op : CmpOp} {r : R2} {a b : Expr} {ta tb : TE} (ho : OpR X (compareOp op) r) (ha : PE X a ta) (hb : PE X b tb) (hm : behindInMarks op b = false := by kernel_rfl) : PE X (.Compare a [op] [b] pos) (tOp r ta tb) := pe_cmpU ho ha hb hm
theorem e_chain {op op' : CmpOp} {r r' : R2} {a b c : Expr} {ta tb tc : TE} (ho : OpR X (compareOp op) r) (ho' : OpR X (compareOp op') r') (ha : PE X a ta) (hb : PE X b tb) (hc : PE X c tc)
    (hm : lastMarks [op, op'] [b, c] = false := by kernel_rfl) : PE X (.Compare a [op, op'] [b, c] pos) (tChainU r r' ta tb tc) := pe_chainU ho ho' ha hb hc hm
theorem s_asg {tg e : Expr} {te : TE} {g : TG} (he : PE X e te) (hg : PG X tg g) (hs : swapsWithSole [tg] e pos.line X.env = pure false := by kernel_rfl) (hw : swappedStores [tg] e X.env = pure none := by kernel_rfl)
    (h1 : (assignEach [tg] X.env).map (·.2) = [assign tg X.env] := by kernel_rfl) : PS X (.Assign [tg] e pos) (tAsg te g) := ps_asg he hg hs hw h1
theorem s_expr {e : Expr} {te : TE} (he : PE X e te) (hs : swapsWith e none pos.line X.env = pure false := by kernel_rfl) : PS X (.Expr e pos) (tDrop te) := ps_expr he hs
theorem s_for {iter : Expr} {body : List Stmt} {wi : TI} {g : TG} {tb : TS} (hi : PI X tg iter wi) (hg : PG X tg g) (hb : PSs X body tb) (hp : PassesOwn (model X.prog X.w) X.A X.env X.xe := by exact PassesOwn.never) (hc : X.calm = true := by kernel_rfl)
    (hs : ∀ x, foldedSetIterable iter X.env x = pure x := by intro _; kernel_rfl) : PS X (.For tg iter body [] pos) (tFor wi g tb) := ps_for hp hc hi hg hb hs
theorem g_sub {o i : Expr} {to ti : TE} (ho : PE X o to) (hi : PE X i ti) (ha : ∀ v, assign (.Subscript o i pos) X.env v = (do
      let ov ← holding [v] (eval o X.env)
      let iv ← holding [v, ov] (eval i X.env)
      standAt pos
      holding [v, ov, iv] (setItem ov iv v)
      release [v, ov, iv] []) := by intro _; kernel_rfl) : PG X (.Subscript o i pos) (gSub to ti rSetU) := pg_sub ho hi setU ha
theorem m_append {cpos : Pos} (ho : PE X o to) (ha : PA X (e :: es) t)
    (hbase : attributeBase o "append" X.env (eval o X.env) = eval o X.env := by kernel_rfl)
    (hfew : ((backTo cpos (starEach (e :: es) X.env)).all (fun x => !x.1) && (backToKw cpos (keywordEach [] X.env)).all (fun x => x.1.isSome)
      && decide ((e :: es).length + ([] : List Keyword).length + (if ([] : List Keyword).isEmpty then 0 else 1) < 30)) = true := by kernel_rfl)
    (hline : (apos.endLine == cpos.line) = true := by kernel_rfl) (hs : starEach (e :: es) X.env = (false, eval e X.env) :: starEach es X.env := by kernel_rfl) (hplain : (backTo cpos (starEach es X.env)).any (·.1) = false := by kernel_rfl) :
    PE X (.Call (.Attribute o "append" apos) (e :: es) [] cpos) (tMt "list" rApp to t) := pe_mt PySem.F.plainAttrs_list PySem.F.slot_list_append PySem.F.type_list_append mt_appU ho ha hbase hfew hline hs hplain
theorem m_extend {cpos : Pos} (ho : PE X o to) (ha : PA X (e :: es) t)
    (hbase : attributeBase o "extend" X.env (eval o X.env) = eval o X.env := by kernel_rfl)
    (hfew : ((backTo cpos (starEach (e :: es) X.env)).all (fun x => !x.1) && (backToKw cpos (keywordEach [] X.env)).all (fun x => x.1.isSome)
      && decide ((e :: es).length + ([] : List Keyword).length + (if ([] : List Keyword).isEmpty then 0 else 1) < 30)) = true := by kernel_rfl)
    (hline : (apos.endLine == cpos.line) = true := by kernel_rfl) (hs : starEach (e :: es) X.env = (false, eval e X.env) :: starEach es X.env := by kernel_rfl) (hplain : (backTo cpos (starEach es X.env)).any (·.1) = false := by kernel_rfl) :
    PE X (.Call (.Attribute o "extend" apos) (e :: es) [] cpos) (tMt "list" rExt to t) := pe_mt PySem.F.plainAttrs_list PySem.F.slot_list_extend PySem.F.type_list_extend mt_extU ho ha hbase hfew hline hs hplain
theorem m_insert {cpos : Pos} (ho : PE X o to) (ha : PA X (e :: es) t)
    (hbase : attributeBase o "insert" X.env (eval o X.env) = eval o X.env := by kernel_rfl)
    (hfew : ((backTo cpos (starEach (e :: es) X.env)).all (fun x => !x.1) && (backToKw cpos (keywordEach [] X.env)).all (fun x => x.1.isSome)
      && decide ((e :: es).length + ([] : List Keyword).length + (if ([] : List Keyword).isEmpty then 0 else 1) < 30)) = true := by kernel_rfl)
    (hline : (apos.endLine == cpos.line) = true := by kernel_rfl) (hs : starEach (e :: es) X.env = (false, eval e X.env) :: starEach es X.env := by kernel_rfl) (hplain : (backTo cpos (starEach es X.env)).any (·.1) = false := by kernel_rfl) :
    PE X (.Call (.Attribute o "insert" apos) (e :: es) [] cpos) (tMt "list" rIns to t) := pe_mt PySem.F.plainAttrs_list PySem.F.slot_list_insert PySem.F.type_list_insert mt_insU ho ha hbase hfew hline hs hplain
theorem m_bits {cpos : Pos} (ho : PE X o to) (hbase : attributeBase o "bit_length" X.env (eval o X.env) = eval o X.env := by kernel_rfl) (hline : (apos.endLine == cpos.line) = true := by kernel_rfl) : PE X (.Call (.Attribute o "bit_length" apos) [] [] cpos) (tMt "int" rBits to tNil) := pe_mt0 PySem.F.plainAttrs_int PySem.F.slot_int_bit_length PySem.F.type_int_bit_length mt_bitsU ho hbase hline
theorem c_comp (N : List Str) (js : List Nat) {elt target iter : Expr} {ifs : List Expr} {scope : Scope} {wi : TI} {g : TG} {tt : TT} {te : TE} (hN : N.Nodup) (hi : PI X target iter wi)
    (hg : ∀ cl C s H fp, PG (X.block scope cl C N s H fp) target g) (ht : ∀ cl C s H fp, PF (X.block scope cl C N s H fp) ifs tt) (he : ∀ cl C s H fp, PE (X.block scope cl C N s H fp) elt te)
    (hok : compOk X.env.scope X.N scope N js = true := by kernel_rfl) (hc : X.calm = true := by kernel_rfl) (hk : scope.kind = .function := by kernel_rfl) (hs : ∀ x, foldedSetIterable iter X.env x = pure x := by intro _; kernel_rfl) :
    PE X (.ListComp elt [⟨target, iter, ifs, 0⟩] scope pos) (tComp (N.length - js.length) js wi g tt te) := pe_comp N js hok hN hc hi hg ht he hk hs
theorem s_comp (y : Str) (i : Nat) (N : List Str) (js : List Nat) {elt target iter : Expr} {ifs : List Expr} {scope : Scope} {wi : TI} {g : TG} {tt : TT} {te : TE} {py spos : Pos} (hN : N.Nodup) (hXN : X.N.Nodup) (hi : PI X target iter wi)
    (hg : ∀ cl C s H fp, PG (X.block scope cl C N s H fp) target g) (ht : ∀ cl C s H fp, PF (X.block scope cl C N s H fp) ifs tt) (he : ∀ cl C s H fp, PE (X.block scope cl C N s H fp) elt te)
    (hyi : X.N[i]? = some y := by with_unfolding_all rfl) (hy : locB X.env.scope y = true := by kernel_rfl)
    (hok : compOk X.env.scope X.N scope N js = true := by kernel_rfl) (hc : X.calm = true := by kernel_rfl) (hk : scope.kind = .function := by kernel_rfl) (hs : ∀ x, foldedSetIterable iter X.env x = pure x := by intro _; kernel_rfl)
    (hsw : swapsWith (.ListComp elt [⟨target, iter, ifs, 0⟩] scope pos) (some (.Name y py)) spos.line X.env = pure true := by kernel_rfl) (hf : (X.fn y || X.env.scope.names.lookup y == some .local) = true := by kernel_rfl) :
    PS X (.Assign [.Name y py] (.ListComp elt [⟨target, iter, ifs, 0⟩] scope pos) spos) (tAsg (tComp (N.length - js.length) js wi g tt te) (gName i)) :=
  ps_setComp N js hok hN hc hXN hyi (loc_of hy) hi hg ht he hsw hk hs (by
    rw [Bool.or_eq_true] at hf
    exact hf.elim .inl fun z => .inr (eq_of_beq z))
end
theorem iteP {c A B : Prop} [Decidable c] (hc : c) (h : A) : if c then A else B := by rw [if_pos hc]; exact h
theorem iteQ {c A B : Prop} [Decidable c] (hc : ¬ c) (h : B) : if c then A else B := by rw [if_neg hc]; exact h
end L2
end
section
set_option Elab.async false
set_option linter.all false
set_option maxRecDepth 100000
set_option maxHeartbeats 4000000
namespace L2
open PySem PySem.Spec PyProof.Rows
def Off (F : Addr → Prop) (H H' : Hp) : Prop := ∀ b o, H b = some o → ¬ F b → H' b = some o
structure Deck (F : Addr → Prop) (H : Hp) (a : Addr) : Prop where
  ex : ∃ (p : Addr) (qs : List Addr) (n : Int), H a = some (.lst [.ref p, .int n]) ∧ H p = some (.lst (qs.map V.ref)) ∧ 0 < qs.length ∧ qs.length ≤ 63 ∧ (∀ q ∈ qs, ∃ c f m, H q = some (.lst [.int c, .int f, .int m])) ∧ ∀ b, F b ↔ b = a ∨ b = p ∨ b ∈ qs
theorem Off.refl {F : Addr → Prop} {H : Hp} : Off F H H := fun _ _ e _ => e
theorem Off.trans {F : Addr → Prop} {H H1 H2 : Hp} (h : Off F H H1) (k : Off F H1 H2) : Off F H H2 := fun b o e n => k b o (h b o e n) n
theorem Same.off {F : Addr → Prop} {H H1 : Hp} (h : Same H H1) : Off F H H1 := fun b o e _ => h b o e
theorem Deck.same {F : Addr → Prop} {H H1 : Hp} {a : Addr} (h : Deck F H a) (k : Same H H1) : Deck F H1 a := by
  obtain ⟨p, qs, n, h1, h2, h3, h4, h5, h6⟩ := h.ex
  exact ⟨p, qs, n, k _ _ h1, k _ _ h2, h3, h4, fun q hq => let ⟨c, f, m, e⟩ := h5 q hq; ⟨c, f, m, k _ _ e⟩, h6⟩
theorem Deck.there {F : Addr → Prop} {H : Hp} {a b : Addr} (h : Deck F H a) (hb : F b) : ∃ o, H b = some o := by
  obtain ⟨p, qs, n, h1, h2, h3, h4, h5, h6⟩ := h.ex
  rcases (h6 b).mp hb with rfl | rfl | z
  · exact ⟨_, h1⟩
  · exact ⟨_, h2⟩
  · obtain ⟨c, f, m, e⟩ := h5 b z
    exact ⟨_, e⟩
theorem Deck.new {F : Addr → Prop} {H : Hp} {a b : Addr} (h : Deck F H a) (hb : H b = none) : ¬ F b := fun z => by
  obtain ⟨o, e⟩ := h.there z
  rw [hb] at e
  cases e
theorem lst_ne_refs {p : Addr} {n : Int} (qs : List Addr) : HO.lst (qs.map V.ref) ≠ HO.lst [.ref p, .int n] := by
  intro z
  injection z with z
  match qs, z with
  | [], z => cases z
  | [_], z => cases z
  | _ :: _ :: _, z => injection z with z1 z2; injection z2 with z2 z3; cases z2
theorem ints_ne_refs {c f m : Int} (qs : List Addr) : HO.lst [.int c, .int f, .int m] ≠ HO.lst (qs.map V.ref) := by
  intro z
  injection z with z
  match qs, z with
  | [], z => cases z
  | _ :: _, z => injection z with z1 z2; cases z1
theorem ints_ne_top {c f m n : Int} {p : Addr} : HO.lst [.int c, .int f, .int m] ≠ HO.lst [.ref p, .int n] := by
  intro z
  injection z with z
  injection z with z1 z2
  cases z1
theorem deck_step {F : Addr → Prop} {H : Hp} {a p q : Addr} {qs : List Addr} {n n' c' f' m' : Int} (ha : H a = some (.lst [.ref p, .int n])) (hp : H p = some (.lst (qs.map V.ref))) (h0 : 0 < qs.length) (h63 : qs.length ≤ 63)
    (hqs : ∀ q ∈ qs, ∃ c f m, H q = some (.lst [.int c, .int f, .int m])) (hF : ∀ b, F b ↔ b = a ∨ b = p ∨ b ∈ qs) (hq : q ∈ qs) :
    Deck F (upd (upd H a (.lst [.ref p, .int n'])) q (.lst [.int c', .int f', .int m'])) a ∧ Off F H (upd (upd H a (.lst [.ref p, .int n'])) q (.lst [.int c', .int f', .int m'])) := by
  have qa : ∀ x ∈ qs, x ≠ a := fun x hx => by
    obtain ⟨c, f, m, e⟩ := hqs x hx
    exact ne_of e ha ints_ne_top
  have qp : ∀ x ∈ qs, x ≠ p := fun x hx => by
    obtain ⟨c, f, m, e⟩ := hqs x hx
    exact ne_of e hp (ints_ne_refs qs)
  have pa : p ≠ a := ne_of hp ha (lst_ne_refs qs)
  refine ⟨⟨p, qs, n', ?_, ?_, h0, h63, fun x hx => ?_, hF⟩, fun b o e nb => ?_⟩
  · rw [upd_ne (qa q hq).symm, upd_same]
  · rw [upd_ne (qp q hq).symm, upd_ne pa]; exact hp
  · by_cases hxq : x = q
    · subst hxq
      exact ⟨c', f', m', upd_same⟩
    · rw [upd_ne hxq, upd_ne (qa x hx)]
      exact hqs x hx
  · have n1 : b ≠ q := fun z => nb ((hF b).mpr (.inr (.inr (z ▸ hq))))
    have n2 : b ≠ a := fun z => nb ((hF b).mpr (.inl z))
    rw [upd_ne n1, upd_ne n2]
    exact e
theorem tAnd_by {t u : TT} {σ : St} {H : Hp} {Q : Bool → Hp → Prop} {c1 c2 : Bool} (h1 : ∀ Q : Bool → Hp → Prop, Q c1 H → t σ H Q) (h2 : c1 = true → ∀ Q : Bool → Hp → Prop, Q c2 H → u σ H Q) (q : Q (c1 && c2) H) : tAnd t u σ H Q := by
  refine h1 _ ?_
  cases c1 with
  | true => exact iteT (h2 rfl _ (by simpa using q))
  | false => exact iteF (by simpa using q)
theorem tOr_by {t u : TT} {σ : St} {H : Hp} {Q : Bool → Hp → Prop} {c1 c2 : Bool} (h1 : ∀ Q : Bool → Hp → Prop, Q c1 H → t σ H Q) (h2 : c1 = false → ∀ Q : Bool → Hp → Prop, Q c2 H → u σ H Q) (q : Q (c1 || c2) H) : tOr t u σ H Q := by
  refine h1 _ ?_
  cases c1 with
  | true => exact iteT (by simpa using q)
  | false => exact iteF (h2 rfl _ (by simpa using q))
def spDraw : Sp := fun vs H Q _ => match vs with
  | [.ref a, .int many] => ∃ F, Deck F H a ∧ 0 < many ∧ many < 1073741824 ∧ ∀ r H', 0 ≤ r → r < many → Deck F H' a → Off F H H' → Q (.int r) H'
  | _ => False
end L2
namespace L2
open PySem PySem.Spec PyProof.Rows
section
variable {H : Hp}
theorem DV.int_inv {v : V} {i : Int} (h : DV H v (.int i)) : v = .int i := by cases h; rfl
theorem DVs.length : ∀ {xs : List V} {ds : List PyData}, DVs H xs ds → xs.length = ds.length
  | _, _, .nil => rfl
  | _, _, .cons _ r => by rw [List.length_cons, List.length_cons, DVs.length r]
theorem DVs.get : ∀ {xs : List V} {ds : List PyData} {i : Nat} {d : PyData}, DVs H xs ds → ds[i]? = some d → ∃ x, xs[i]? = some x ∧ DV H x d
  | _, _, _, _, .nil, h => by simp at h
  | _, _, 0, _, .cons h _, e => by
    simp at e
    subst e
    exact ⟨_, rfl, h⟩
  | _, _, i + 1, d, .cons _ r, e => by
    obtain ⟨x, h1, h2⟩ := DVs.get (i := i) (d := d) r (by simpa using e)
    exact ⟨x, by simpa using h1, h2⟩
theorem DVs.ints : ∀ (ns : List Int), DVs H (ns.map V.int) (ns.map PyData.int)
  | [] => .nil
  | n :: r => .cons (.int n) (DVs.ints r)
theorem DVs.strs : ∀ (ws : List Str), DVs H (ws.map V.str) (ws.map PyData.str)
  | [] => .nil
  | n :: r => .cons (.str n) (DVs.strs r)
end
end L2
end
section
namespace Om
abbrev Rows := List (List (List Bool × Nat))
def step (rows : Rows) (s l : Nat) : List Bool × Nat := (rows.getD s []).getD l ([], 0)
def letterOf (c : List Int) : Int := c.foldl (fun a b => 2 * a + b) 0
def bitsOf (k : Nat) (l : Int) : List Int := (List.range k).map fun i => l / 2 ^ (k - 1 - i) % 2
def Bit (b : Int) : Prop := b = 0 ∨ b = 1
theorem letter_ok {k : Nat} (hk : k = 1 ∨ k = 2 ∨ k = 3) {c : List Int} (hl : c.length = k) (hb : ∀ b ∈ c, Bit b) : 0 ≤ letterOf c ∧ letterOf c < 2 ^ k ∧ bitsOf k (letterOf c) = c := by
  rcases hk with rfl | rfl | rfl
  · match c, hl with
    | [a], _ =>
      rcases hb a (by simp) with rfl | rfl <;> decide
  · match c, hl with
    | [a, b], _ =>
      rcases hb a (by simp) with rfl | rfl <;> rcases hb b (by simp) with rfl | rfl <;> decide
  · match c, hl with
    | [a, b, d], _ =>
      rcases hb a (by simp) with rfl | rfl <;> rcases hb b (by simp) with rfl | rfl <;> rcases hb d (by simp) with rfl | rfl <;> decide
theorem cut (k : Nat) (hk : 0 < k) : ∀ (m : Nat) (b : List Int), b.length = m * k → ∃ cs : List (List Int), cs.length = m ∧ (∀ c ∈ cs, c.length = k) ∧ cs.flatten = b
  | 0, b, h => ⟨[], rfl, by simp, by simp at h; simp [h]⟩
  | m + 1, b, h => by
    have h1 : (b.take k).length = k := by rw [List.length_take, h, Nat.succ_mul]; omega
    have h2 : (b.drop k).length = m * k := by rw [List.length_drop, h, Nat.succ_mul]; omega
    obtain ⟨cs, e1, e2, e3⟩ := cut k hk m (b.drop k) h2
    refine ⟨b.take k :: cs, by rw [List.length_cons, e1], fun c hc => ?_, by rw [List.flatten_cons, e3, List.take_append_drop]⟩
    rcases List.mem_cons.mp hc with rfl | hc
    · exact h1
    · exact e2 c hc
theorem cut_get {k : Nat} : ∀ (cs : List (List Int)) (i : Nat), (∀ c ∈ cs, c.length = k) → (h : i < cs.length) → (cs.flatten.drop (i * k)).take k = cs[i]
  | [], i, _, h => by simp at h
  | c :: cs, 0, hc, h => by
    have : c.length = k := hc c List.mem_cons_self
    simp [List.flatten_cons, ← this]
  | c :: cs, i + 1, hc, h => by
    have e : c.length = k := hc c List.mem_cons_self
    have ih := cut_get cs i (fun x hx => hc x (List.mem_cons_of_mem _ hx)) (by simpa using h)
    rw [List.flatten_cons, List.drop_append, List.drop_of_length_le (by rw [e, Nat.succ_mul]; omega), List.nil_append, e]
    have : (i + 1) * k - k = i * k := by rw [Nat.succ_mul]; omega
    rw [this, ih]
    simp
theorem flat_len {k : Nat} : ∀ (cs : List (List Int)), (∀ c ∈ cs, c.length = k) → cs.flatten.length = cs.length * k
  | [], _ => by simp
  | c :: cs, h => by
    rw [List.flatten_cons, List.length_append, flat_len cs fun x hx => h x (List.mem_cons_of_mem _ hx), h c List.mem_cons_self, List.length_cons, Nat.succ_mul, Nat.add_comm]
theorem bits_letters {k : Nat} (hk : k = 1 ∨ k = 2 ∨ k = 3) : ∀ (cs : List (List Int)), (∀ c ∈ cs, c.length = k) → (∀ c ∈ cs, ∀ b ∈ c, Bit b) → ((cs.map letterOf).map (bitsOf k)).flatten = cs.flatten
  | [], _, _ => rfl
  | c :: cs, h1, h2 => by
    simp only [List.map_cons, List.flatten_cons]
    rw [(letter_ok hk (h1 c List.mem_cons_self) (h2 c List.mem_cons_self)).2.2, bits_letters hk cs (fun x hx => h1 x (List.mem_cons_of_mem _ hx)) fun x hx => h2 x (List.mem_cons_of_mem _ hx)]
end Om
end
section
set_option Elab.async false
set_option linter.all false
set_option maxRecDepth 100000
set_option maxHeartbeats 4000000
namespace L2
open PySem PySem.Spec PyProof.Rows
theorem bits_le {i : Int} {k : Nat} (h0 : 0 ≤ i) (h : i < 2 ^ k) : ((Builtin.Int.intBits i : Nat) : Int) ≤ (k : Int) := by
  unfold Builtin.Int.intBits
  by_cases hi : i = 0
  · subst hi; simp
  · have hb : (i == 0) = false := by simpa using hi
    rw [hb]
    simp only [Bool.false_eq_true, if_false]
    have hn : i.natAbs ≠ 0 := by omega
    have h2 : i.natAbs < 2 ^ k := by
      have e : ((i.natAbs : Nat) : Int) = i := by omega
      have : ((i.natAbs : Nat) : Int) < ((2 ^ k : Nat) : Int) := by rw [e]; simpa using h
      exact_mod_cast this
    have := (Nat.log2_lt hn).mpr h2
    omega
end L2
namespace L2
open PySem PySem.Spec PyProof.Rows
theorem comp_map1 {J : It} {D : Addr} {xs : List V} {ok : Hp → Prop} {te : TE} {Q : Hp → Prop} {v0 : Option V} {fr : St} {H : Hp} (IO : ItOk J xs ok) (f : V → V) (hz : xs.length ≤ sizeLine) (hok : ∀ o, ok (upd H D o))
    (hs : ∀ (i : Nat) (x : V) (ys : List V), xs[i]? = some x → ∀ C : VK, C (f x) (upd H D (.lst ys)) → te (some x :: fr) (upd H D (.lst ys)) C)
    (hd : Q (upd H D (.lst (xs.map f)))) :
    ∃ W : Nat → Nat → St → Hp → List V → Prop, (∃ m, W 0 m (v0 :: fr) (upd H D (.lst [])) []) ∧ ∀ i m τ H2 ys, W i m τ H2 ys → H2 D = some (.lst ys) ∧
      ((J.stop i H2 ∧ Q H2) ∨ (J.go i H2 ∧ ys.length < sizeLine ∧ ∃ N : St → Hp → List V → Prop, (∀ τ' H' ys', N τ' H' ys' → ∃ m', m' < m ∧ W (i + 1) m' τ' H' ys') ∧ ∀ x H3, J.yld i H2 x H3 → gName 0 x τ H3 fun τ4 H4 => tYes τ4 H4 fun b H5 =>
        if b = true then te τ4 H5 fun y H6 => H6 D = some (.lst ys) ∧ N τ4 (upd H6 D (.lst (ys ++ [y]))) (ys ++ [y])
        else N τ4 H5 ys)) := by
  refine comp_by IO (fun i τ H2 ys => (∃ v, τ = v :: fr) ∧ H2 = upd H D (.lst ys) ∧ ys = (xs.take i).map f ∧ i ≤ xs.length) hz ⟨⟨v0, rfl⟩, rfl, rfl, Nat.zero_le _⟩ ?_ ?_ ?_
  · rintro i τ H2 ys hi ⟨_, rfl, rfl, _⟩
    exact ⟨hok _, upd_same, by simp [List.length_take]; omega⟩
  · rintro i x τ H2 ys hi hx ⟨⟨v, rfl⟩, rfl, rfl, _⟩
    refine hs i x _ hx _ ⟨upd_same, ⟨_, rfl⟩, upd_upd, ?_, hi⟩
    rw [List.take_add_one, hx, List.map_append]
    rfl
  · rintro τ H2 ys ⟨_, rfl, rfl, _⟩
    rw [List.take_length]
    exact hd
theorem SqL.upd {K : PySem.W.Frag} {H : Hp} {a D : Addr} {xs : List V} {o : HO} (h : H a = some (.lst xs)) (hD : H D = none) : SqL K (upd H D o) a xs := SqL.of (Same.upd hD _ _ h)
theorem all_true {α : Type} (l : List α) : ((l.map fun _ => V.bl true)) = (l.map fun _ => true).map V.bl := by simp
theorem all_id (n : Nat) {l : List Bool} (h : ∀ b ∈ l, b = true) : l.all id = true := List.all_eq_true.mpr fun b hb => h b hb
end L2
end
section
set_option Elab.async false
set_option linter.all false
set_option maxRecDepth 100000
set_option maxHeartbeats 4000000
namespace L2
open PySem PySem.Spec PyProof.Rows
section
variable {prog : Program} {w : World} {A : Around} {E : Value → Shared → Prop}
end
section
variable {X : Cx} {pos : Pos}
end
section
variable {X : Cx}
def tTru (t : TE) : TT := fun σ H Q => t σ H fun x H1 => match x with
  | .bl c => Q c H1
  | .ref p => ∃ xs, H1 p = some (.lst xs) ∧ Q (!xs.isEmpty) H1
  | _ => False
theorem t_tru {e : Expr} {t : TE} (h : PE X e t) (he : ∀ whole, isTrue e X.env whole = (do let v ← whole; standAt e.pos; holding [v] (truthy v)) := by intro _; kernel_rfl) : PT X e (tTru t) := by
  intro pins s σ H Q I hw
  refine isTrue_plain (thn (h pins s σ H _ I hw) fun v s1 ⟨x, H1, I1, r1, q1⟩ => ?_) (he _)
  refine tru_ok pins s1 σ H1 x v Q I1 r1 ?_
  dsimp only at q1
  split at q1
  · exact ⟨_, rfl, q1⟩
  · obtain ⟨xs, h1, q⟩ := q1
    exact ⟨_, .inl ⟨xs, SqL.of h1, rfl⟩, q⟩
  · exact q1.elim
end
section
variable {X : Cx}
def rNeg : V → Hp → VK → Prop := fun x H Q => match x with
  | .int i => Q (.int (-i)) H
  | _ => False
theorem e_neg {a : Expr} {ta : TE} {pos : Pos} (ha : PE X a ta) : PE X (.UnaryOp .USub a pos) (tUn rNeg ta) := by
  refine pe_un (fun pins s σ H x v Q I rx q => ?_) ha
  unfold rNeg at q
  split at q
  · exact un_neg pins s σ H _ v Q I rx ⟨_, rfl, q⟩
  · exact q.elim
end
theorem cut_nat (xs : List V) (a b : Nat) (h : a ≤ b) (hb : b ≤ xs.length) : cutV xs (some (a : Int)) (some (b : Int)) = (xs.drop a).take (b - a) := by
  unfold cutV
  have e1 : min a xs.length = a := Nat.min_eq_left (by omega)
  have e2 : min b xs.length = b := Nat.min_eq_left hb
  rw [HT.sIx_nat, HT.sIx_nat, e1, e2]
section
variable {H : Hp}
end
end L2
namespace Om
end Om
end
section
set_option Elab.async false
set_option linter.all false
set_option maxRecDepth 100000
set_option maxHeartbeats 4000000
namespace L2
open PySem PySem.Spec PyProof.Rows
section
variable {X : Cx} {x : Str} {p pos : Pos} {e : Expr} {es : List Expr} {t : TA}
def rLenS (K : PySem.W.Frag) : List V → Hp → VK → Prop := fun vs H Q => match vs with
  | [.ref a] => ∃ ys, SqL K H a ys ∧ Q (.int (ys.length : Nat)) H
  | _ => False
theorem fn_lenS {mg' : Str → Option Value} (hm : mg' "len" = none) (hX : X.mg = mg') (ha : PA X (e :: es) t) (hg : gB X "len" = true := by kernel_rfl) (he : starEach (e :: es) X.env = (false, eval e X.env) :: starEach es X.env := by kernel_rfl) (hpl : (backTo pos (starEach es X.env)).any (·.1) = false := by kernel_rfl) :
    PE X (.Call (.Name "len" p) (e :: es) [] pos) (tCB (rLenS X.K) t) := pe_callB (call_len_seq.of fun xs H Q q => by
      unfold rLenS at q
      split at q
      · obtain ⟨ys, h, q⟩ := q
        exact ⟨_, ys, rfl, .inl h, q⟩
      · exact q.elim) (gl_of hg) (by rw [hX]; exact hm) PySem.boot_len ha (he := he) (hpl := hpl)
def rIxS' (K : PySem.W.Frag) : R2 := fun x y H Q => match x, y with
  | .ref a, .int i => ∃ ys v, SqL K H a ys ∧ atI ys i = some v ∧ Q v H
  | _, _ => False
theorem ix_atS {a b : Expr} {ta tb : TE} (ha : PE X a ta) (hb : PE X b tb) (hs : ∀ o i, subscripted b false o i = operate [o, i] (getItem o i) := by intro _ _; kernel_rfl) : PE X (.Subscript a b pos) (tOp (rIxS' X.K) ta tb) :=
  pe_ix (fun value slice pins s σ H x y v u Q I rx ry q hs => ix_list value slice pins s σ H x y v u Q I rx ry (by
    unfold rIxS' at q
    split at q
    · obtain ⟨ys, z, h1, h2, q⟩ := q
      exact ⟨_, ys, _, z, rfl, rfl, h1, h2, q⟩
    · exact q.elim) hs) ha hb hs
end
theorem SqL.same {K : PySem.W.Frag} {H H' : Hp} {a : Addr} {xs : List V} (h : SqL K H a xs) (s : Same H H') : SqL K H' a xs := s.seq h
theorem Off.upd_own {F : Addr → Prop} {H H' : Hp} {p : Addr} {o : HO} (h : Off F H H') (hp : H p = none) : Off F H (upd H' p o) := fun b u e n => by
  rw [upd_ne (ne_of_none e hp)]
  exact h b u e n
theorem Deck.own {F : Addr → Prop} {H : Hp} {a p : Addr} {o : HO} (h : Deck F H a) (hp : ¬ F p) : Deck F (upd H p o) a := by
  obtain ⟨q, qs, n, h1, h2, h3, h4, h5, h6⟩ := h.ex
  refine ⟨q, qs, n, ?_, ?_, h3, h4, fun x hx => ?_, h6⟩
  · rw [upd_ne (fun z => hp ((h6 p).mpr (.inl z.symm)))]; exact h1
  · rw [upd_ne (fun z => hp ((h6 p).mpr (.inr (.inl z.symm))))]; exact h2
  · obtain ⟨c, f, m, e⟩ := h5 x hx
    have np : x ≠ p := fun z => hp ((h6 p).mpr (.inr (.inr (by rw [← z]; exact hx))))
    exact ⟨c, f, m, by rw [upd_ne np]; exact e⟩
end L2
end
section
set_option Elab.async false
set_option linter.all false
set_option maxRecDepth 100000
set_option maxHeartbeats 4000000
namespace L2
open PySem PySem.Spec PyProof.Rows
theorem seq_by {t u : TS} {D : Ends} {σ : St} {H : Hp} (M : St → Hp → Prop) (fin : ∀ σ' H', M σ' H' → u D σ' H') (h : (∀ σ' H', M σ' H' → u D σ' H') → t { D with nx := u D } σ H) : tSeq t u D σ H := h fin
theorem lay_all : ∀ {ds : List PyData}, (∀ d ∈ ds, d.canLay0 = true) → PyData.canLayAll0 ds = true
  | [], _ => rfl
  | d :: ds, h => by rw [PyData.canLayAll0, h d List.mem_cons_self, lay_all fun x hx => h x (List.mem_cons_of_mem _ hx)]; rfl
theorem depth_all {k : Nat} : ∀ {ds : List PyData}, (∀ d ∈ ds, d.depth ≤ k) → PyData.depthAll ds ≤ k
  | [], _ => Nat.zero_le _
  | d :: ds, h => by
    rw [PyData.depthAll]
    exact Nat.max_le.mpr ⟨h d List.mem_cons_self, depth_all fun x hx => h x (List.mem_cons_of_mem _ hx)⟩
theorem shaped_list {k : Nat} {ds : List PyData} (h1 : ∀ d ∈ ds, d.canLay0 = true) (h2 : ∀ d ∈ ds, d.depth ≤ k) (hk : k < 64) : SeqAt.shaped (.list ds) = true := by
  unfold SeqAt.shaped
  rw [Bool.and_eq_true]
  refine ⟨by rw [PyData.canLay0]; exact lay_all h1, decide_eq_true ?_⟩
  have := depth_all h2
  rw [PyData.depth]
  omega
end L2
namespace L2
open PySem PySem.Spec PyProof.Rows
end L2
end
section
set_option Elab.async false
set_option linter.all false
set_option maxRecDepth 100000
set_option maxHeartbeats 4000000
namespace L2
open PySem PySem.Spec PyProof.Rows
structure Sub (F : Addr → Prop) (st : Addr) (G H : Hp) : Prop where
  s : Same G H
  n : G st = none
  f : ∀ b, F b → G b = none
theorem ne_F {F : Addr → Prop} {b p : Addr} (hb : F b) (hp : ¬ F p) : b ≠ p := fun z => hp (by rw [← z]; exact hb)
section
variable {F : Addr → Prop} {st p : Addr} {G H H' : Hp} {o : HO}
theorem Sub.off (h : Sub F st G H) (k : Off F H H') : Sub F st G H' := ⟨fun b u e => k b u (h.s b u e) (fun z => by rw [h.f b z] at e; cases e), h.n, h.f⟩
theorem Sub.more (h : Sub F st G H) (hp : H p = none) : Sub F st G (upd H p o) := ⟨h.s.trans (Same.upd hp), h.n, h.f⟩
theorem Sub.write (h : Sub F st G H) : Sub F st G (upd H st o) := ⟨fun b u e => by rw [upd_ne (ne_of_none e h.n)]; exact h.s b u e, h.n, h.f⟩
theorem Sub.new (h : Sub F st G H) (hp : H p = none) (hst : st ≠ p) (hF : ¬ F p) : Sub F st (upd G p o) (upd H p o) := by
  refine ⟨fun b u e => ?_, by rw [upd_ne hst]; exact h.n, fun b hb => by rw [upd_ne (ne_F hb hF)]; exact h.f b hb⟩
  by_cases hb : b = p
  · subst hb
    rw [upd_same] at e ⊢
    exact e
  · rw [upd_ne hb] at e ⊢
    exact h.s b u e
theorem Sub.free (h : Sub F st G H) (hp : H p = none) : G p = none := h.s.free hp
theorem Off.free (h : Off F H H') {a : Addr} (d : Deck F H' a) (hp : H' p = none) : H p = none := by
  cases e : H p with
  | none => rfl
  | some u =>
    by_cases hf : F p
    · obtain ⟨o', e'⟩ := d.there hf
      rw [hp] at e'; cases e'
    · rw [h _ _ e hf] at hp; cases hp
end
end L2
end
section
set_option Elab.async false
set_option linter.all false
set_option maxRecDepth 100000
set_option maxHeartbeats 4000000
namespace L2
open PySem PySem.Spec PyProof.Rows
end L2
namespace Om
section
variable {ord : List Nat} {rows : Rows} {k n : Nat}
end
end Om
end
section
set_option Elab.async false
set_option linter.all false
set_option maxRecDepth 100000
set_option maxHeartbeats 4000000
namespace L2
open PySem PySem.Spec PyProof.Rows
theorem ints_lay (ns : List Int) : PyData.canLay0 (.list (ns.map PyData.int)) = true := by
  rw [PyData.canLay0]
  refine lay_all fun d hd => ?_
  obtain ⟨n, _, rfl⟩ := List.mem_map.mp hd
  rfl
theorem ints_shaped (ns : List Int) : SeqAt.shaped (.list (ns.map PyData.int)) = true := by
  refine shaped_list (k := 0) (fun d hd => ?_) (fun d hd => ?_) (by decide)
  · obtain ⟨n, _, rfl⟩ := List.mem_map.mp hd; rfl
  · obtain ⟨n, _, rfl⟩ := List.mem_map.mp hd; exact Nat.le_refl _
theorem ints_DV {H : Hp} {p : Addr} {ns : List Int} (h : H p = some (.lst (ns.map V.int))) : DV H (.ref p) (.list (ns.map PyData.int)) := .lst h (DVs.ints ns)
theorem Deck.not_tup {F : Addr → Prop} {H : Hp} {a b : Addr} {xs : List V} (h : Deck F H a) (hb : H b = some (.tup xs)) : ¬ F b := fun z => by
  obtain ⟨p, qs, n, h1, h2, h3, h4, h5, h6⟩ := h.ex
  rcases (h6 b).mp z with rfl | rfl | z
  · rw [h1] at hb; cases hb
  · rw [h2] at hb; cases hb
  · obtain ⟨c, f, m, e⟩ := h5 b z
    rw [e] at hb; cases hb
end L2
end
section
set_option Elab.async false
set_option linter.all false
set_option maxRecDepth 100000
set_option maxHeartbeats 4000000
namespace L2
open PySem PySem.Spec PyProof.Rows
section
variable {X : Cx} {pins : List (Addr × Obj)} {σ : List (Option V)} {H : Hp} {s : Shared} {h' : Heap}
end
section
variable {X : Cx} {p pos tpos : Pos} {a b : Expr} {es : List Expr} {tk : Nat}
end
end L2
end
section
set_option Elab.async false
set_option linter.all false
set_option maxRecDepth 100000
set_option maxHeartbeats 4000000
namespace L2
open PySem PySem.Spec PyProof.Rows
section
variable {X : Cx} {a b c d e o : Expr} {es : List Expr} {pos apos : Pos} {ta tb tc td te to : TE}
def rIsNotU : R2 := fun x y H Q => match y with
  | .non => Q (.bl (!decide (x = .non))) H
  | _ => False
theorem op_isNotU : OpR X (compareOp .IsNot) rIsNotU := op_notN.of fun x y H Q q => by
  unfold rIsNotU at q
  split at q
  · exact ⟨rfl, q⟩
  · exact q.elim
end
section
variable {H H' G : Hp} {a p : Addr} {o : HO}
theorem Same.own (h : Same G H) (hG : G p = none) : Same G (L2.upd H p o) := fun b u e => by rw [upd_ne (ne_of_none e hG)]; exact h b u e
end
end L2
end
section
set_option Elab.async false
set_option linter.all false
set_option maxRecDepth 100000
set_option maxHeartbeats 4000000
namespace L2
open PySem PySem.Spec PyProof.Rows
section
variable {G H0 H H' : Hp} {a p : Addr} {o : HO}
end
end L2
end
section
set_option Elab.async false
set_option linter.all false
set_option maxRecDepth 100000
set_option maxHeartbeats 4000000
namespace L2
open PySem PySem.Spec PyProof.Rows
theorem DVs.take {H : Hp} : ∀ {xs : List V} {ds : List PyData} (n : Nat), DVs H xs ds → DVs H (xs.take n) (ds.take n)
  | _, _, 0, _ => .nil
  | _, _, _ + 1, .nil => .nil
  | _, _, n + 1, .cons h r => .cons h (DVs.take n r)
section
variable {G H0 H : Hp} {L p : Addr} {vs : List V} {o : HO}
end
end L2
end
section
set_option Elab.async false
set_option linter.all false
set_option maxRecDepth 100000
set_option maxHeartbeats 4000000
namespace L2
open PySem PySem.Spec PyProof.Rows
theorem DVs.imp {H H' : Hp} : ∀ {xs : List V} {ds : List PyData}, (∀ x d, d ∈ ds → DV H x d → DV H' x d) → DVs H xs ds → DVs H' xs ds
  | _, _, _, .nil => .nil
  | _, _, f, .cons h r => .cons (f _ _ List.mem_cons_self h) (DVs.imp (fun x d hd => f x d (List.mem_cons_of_mem _ hd)) r)
section
variable {H H' : Hp} {a l : Addr}
end
section
variable {G H H2 H3 : Hp} {a T U L p : Addr} {xs ys : List Int} {vs : List V} {ps : List (Nat × Nat)} {m : Nat} {o : HO}
end
end L2
end
section
set_option Elab.async false
set_option linter.all false
set_option maxRecDepth 100000
set_option maxHeartbeats 4000000
namespace Om
end Om
namespace L2
open PySem PySem.Spec PyProof.Rows
theorem bits_iff {i : Int} {k : Nat} (h0 : 0 ≤ i) : ((Builtin.Int.intBits i : Nat) : Int) ≤ (k : Int) ↔ i < 2 ^ k := by
  constructor
  · intro h
    unfold Builtin.Int.intBits at h
    by_cases hi : i = 0
    · subst hi
      have : (0 : Nat) < 2 ^ k := Nat.two_pow_pos k
      exact_mod_cast this
    · have hb : (i == 0) = false := by simpa using hi
      rw [hb] at h
      simp only [Bool.false_eq_true, if_false] at h
      have hn : i.natAbs ≠ 0 := by omega
      have h1 : Nat.log2 i.natAbs < k := by omega
      have h2 := (Nat.log2_lt hn).mp h1
      have e : ((i.natAbs : Nat) : Int) = i := by omega
      have : ((i.natAbs : Nat) : Int) < ((2 ^ k : Nat) : Int) := by exact_mod_cast h2
      rw [e] at this
      simpa using this
  · exact bits_le h0
end L2
end
section
set_option Elab.async false
set_option linter.all false
set_option maxRecDepth 100000
set_option maxHeartbeats 4000000
namespace L2
open PySem PySem.Spec PyProof.Rows
def intsD (xs : List Int) : PyData := .list (xs.map PyData.int)
theorem intsD_depth (xs : List Int) : (intsD xs).depth ≤ 1 := by
  rw [intsD, PyData.depth]
  have := depth_all (k := 0) (ds := xs.map PyData.int) (fun d hd => by
    obtain ⟨r, _, rfl⟩ := List.mem_map.mp hd
    exact Nat.le_refl _)
  omega
theorem ixN_in {n : Nat} {r : Int} (h0 : 0 ≤ r) (h1 : r < n) : ixN n r = some r.toNat := by unfold ixN; rw [if_pos h0, if_pos h1]
section
variable {G H0 H : Hp} {p : Addr}
end
section
variable {G H H' : Hp} {a T U p : Addr} {xs ys : List Int} {m : Nat} {o : HO}
end
end L2
end
section
set_option Elab.async false
set_option linter.all false
set_option maxRecDepth 100000
set_option maxHeartbeats 4000000
namespace L2
open PySem
def DefIn (K : PySem.W.Frag) (x : Str) (st : Stmt) : Prop := ∃ (f : Addr) (oc : Value) (od an : Option Addr) (osl : Array (Option Value)) (kV dc pm cd ct : Value), PySem.W.nsIn K mainGlobals x = some (some (.ref f)) ∧
  K.lookup f = some ⟨oc, od, .func (PySem.W.fnOf x x (defArgs st) (defBody st) (defScope st) .none kV dc pm an cd ct), osl⟩ ∧ PySem.W.codeIn K cd x = true ∧ PySem.W.keepIn K (.ref f) = true
theorem DefIn.mk {K : PySem.W.Frag} {x : Str} {st : Stmt} {f : Addr} {oc : Value} {od an : Option Addr} {osl : Array (Option Value)} {kV dc pm cd ct : Value} (a : PySem.W.nsIn K mainGlobals x = some (some (.ref f)))
    (l : K.lookup f = some ⟨oc, od, .func (PySem.W.fnOf x x (defArgs st) (defBody st) (defScope st) .none kV dc pm an cd ct), osl⟩) (c : PySem.W.codeIn K cd x = true) (k : PySem.W.keepIn K (.ref f) = true) : DefIn K x st := ⟨f, oc, od, an, osl, kV, dc, pm, cd, ct, a, l, c, k⟩
theorem DefIn.fnX {K : PySem.W.Frag} {h : Heap} {mg : Str → Option Value} {x : Str} {st : Stmt} {ps : List Str} (D : DefIn K x st) (X : K.In h) (G : h.Ns mainGlobals mg)
    (hb : ∀ (kV doc pm : Value) (an : Option Addr) (cdv ct : Value) (us : List Value), us.length = ps.length → bindArgs (PySem.W.fnOf x x (defArgs st) (defBody st) (defScope st) .none kV doc pm an cdv ct) ⟨us, []⟩ = pure (ps.zip us)) : FnX K mg x st ps := by
  obtain ⟨f, oc, od, an, osl, kV, dc, pm, cd, ct, h1, h2, h3, h4⟩ := D
  have F := fun_mk (st := st) h2 h3 h4
  exact ⟨f, _, F, PySem.W.mg_of X G h1, F.binds hb⟩
end L2
end
section
set_option Elab.async false
set_option linter.all false
set_option maxRecDepth 100000
set_option maxHeartbeats 4000000
namespace L2
open PySem PySem.Spec PyProof.Rows
section
variable {X : Cx} {p pos : Pos} {e : Expr} {es : List Expr} {t : TA}
theorem vals_intsA : ∀ {ns : List Int} {us : List Value}, Vals (ns.map V.int) us → IntsAre us ns
  | [], us, r => by cases r; exact .nil
  | n :: ns, us, r => by
    cases r with
    | cons r1 r2 =>
      obtain ⟨t, rfl⟩ := r1
      exact .cons n t (vals_intsA r2)
end
end L2
end
section
set_option Elab.async false
set_option linter.all false
set_option maxRecDepth 100000
set_option maxHeartbeats 4000000
namespace L2
open PySem PySem.Spec PyProof.Rows
end L2
end
section
set_option Elab.async false
set_option linter.all false
set_option maxRecDepth 100000
set_option maxHeartbeats 4000000
namespace Om
end Om
namespace L2
open PySem PySem.Spec PyProof.Rows
section
variable {F : Addr → Prop} {H0 H H' : Hp} {a p : Addr} {ob : HO}
end
theorem eqvAll_ints : ∀ xs ys : List Int, PyData.eqvAll (xs.map PyData.int) (ys.map PyData.int) = decide (xs = ys)
  | [], [] => by simp [PyData.eqvAll]
  | [], _ :: _ => by simp [PyData.eqvAll]
  | _ :: _, [] => by simp [PyData.eqvAll]
  | x :: xs, y :: ys => by
    rw [List.map_cons, List.map_cons, PyData.eqvAll, eqvAll_ints xs ys, PyData.eqv, Bool.eq_iff_iff, Bool.and_eq_true]
    simp
theorem eqv_ints (xs ys : List Int) : PyData.eqv (.list (xs.map PyData.int)) (.list (ys.map PyData.int)) = decide (xs = ys) := by rw [PyData.eqv, eqvAll_ints]
end L2
end
section
set_option Elab.async false
set_option linter.all false
set_option maxRecDepth 100000
set_option maxHeartbeats 4000000
namespace L2
open PySem PySem.Spec PyProof.Rows
end L2
end
section
set_option Elab.async false
set_option linter.all false
set_option maxRecDepth 100000
set_option maxHeartbeats 4000000
namespace Om
def par (ts : List Int) (f : Nat → Bool) (i : Nat) : Bool := ts.foldr (fun t acc => xor (decide (0 ≤ (i : Int) - t) && f ((i : Int) - t).toNat) acc) false
def put (x P : List Int) : List Int := (List.range x.length).map fun i => (x.getD i 0 + (if ((i : Nat) : Int) ∈ P then 1 else 0)) % 2
section
variable {most : Int} {ts bits : List Int}
end
end Om
end
section
set_option Elab.async false
set_option linter.all false
set_option maxRecDepth 100000
set_option maxHeartbeats 4000000
namespace Om
section
variable {most : Int} {ts bits : List Int}
end
end Om
namespace L2
open PySem PySem.Spec PyProof.Rows
end L2
end
section
set_option Elab.async false
namespace L2
open PySem PySem.Spec PyProof.Rows

section
variable {κ : Type} [DecidableEq κ]
def putK (kvs : List (κ × V)) (k : κ) (v : V) : List (κ × V) :=
  if (kvs.any fun kv => decide (kv.1 = k)) = true then kvs.map (fun kv => if kv.1 = k then (kv.1, v) else kv) else kvs ++ [(k, v)]
def dropK (kvs : List (κ × V)) (k : κ) : List (κ × V) := kvs.filter fun kv => decide (kv.1 ≠ k)

theorem length_putK (kvs : List (κ × V)) (k : κ) (v : V) : (putK kvs k v).length ≤ kvs.length + 1 := by
  unfold putK
  split
  · rw [List.length_map]; omega
  · rw [List.length_append, List.length_cons, List.length_nil]; omega
theorem RelO.getD {o : Option V} {u : Option Value} {d : V} {d' : Value} (r : RelO o u) (rd : RelV d d') : RelV (o.getD d) (u.getD d') := by
  cases o with
  | none => cases u with
    | none => exact rd
    | some _ => exact (show False from r).elim
  | some _ => cases u with
    | none => exact (show False from r).elim
    | some _ => exact r

theorem KV.any {kvs : List (κ × V)} {vs : List (κ × Value)} (r : KV kvs vs) (k : κ) : (kvs.any fun kv => decide (kv.1 = k)) = vs.any fun kv => decide (kv.1 = k) := by
  unfold KV at r
  induction r with
  | nil => rfl
  | cons h t ih => rw [List.any_cons, List.any_cons, ih, h.1]
theorem KV.repl {kvs : List (κ × V)} {vs : List (κ × Value)} (r : KV kvs vs) (k : κ) {y : V} {u : Value} (ry : RelV y u) :
    KV (kvs.map fun kv => if kv.1 = k then (kv.1, y) else kv) (vs.map fun kv => if kv.1 = k then (kv.1, u) else kv) := by
  unfold KV at r ⊢
  induction r with
  | nil => exact .nil
  | @cons p q ps qs h t ih =>
    rw [List.map_cons, List.map_cons]
    refine .cons ?_ ih
    obtain ⟨h1, h2⟩ := h
    by_cases e : p.1 = k
    · rw [if_pos e, if_pos (h1.symm.trans e)]; exact ⟨h1, ry⟩
    · rw [if_neg e, if_neg (fun z => e (h1.trans z))]; exact ⟨h1, h2⟩
theorem KV.put {kvs : List (κ × V)} {vs : List (κ × Value)} (r : KV kvs vs) (k : κ) {y : V} {u : Value} (ry : RelV y u) : KV (putK kvs k y) (stored vs k u) := by
  unfold putK stored
  rw [r.any k]
  by_cases e : (vs.any fun kv => decide (kv.1 = k)) = true
  · rw [if_pos e, if_pos e]; exact r.repl k ry
  · rw [if_neg e, if_neg e]; exact Paired.snoc r ⟨rfl, ry⟩
theorem KV.drop {kvs : List (κ × V)} {vs : List (κ × Value)} (r : KV kvs vs) (k : κ) : KV (dropK kvs k) (without vs k) := by
  unfold KV at r ⊢
  unfold dropK without
  induction r with
  | nil => exact .nil
  | @cons p q ps qs h t ih =>
    obtain ⟨h1, h2⟩ := h
    rw [List.filter_cons, List.filter_cons]
    by_cases e : p.1 = k
    · have a : ¬ decide (p.1 ≠ k) = true := by simp [e]
      have b : ¬ decide (q.1 ≠ k) = true := by simp [h1.symm.trans e]
      rw [if_neg a, if_neg b]; exact ih
    · have e' : ¬ q.1 = k := fun z => e (h1.trans z)
      have a : decide (p.1 ≠ k) = true := by simp [e]
      have b : decide (q.1 ≠ k) = true := by simp [e']
      rw [if_pos a, if_pos b]; exact .cons ⟨h1, h2⟩ ih
theorem KV.keys {kvs : List (κ × V)} {vs : List (κ × Value)} (r : KV kvs vs) : kvs.map (·.1) = vs.map (·.1) := by
  unfold KV at r
  induction r with
  | nil => rfl
  | cons h t ih => rw [List.map_cons, List.map_cons, ih, h.1]
theorem KV.length {kvs : List (κ × V)} {vs : List (κ × Value)} (r : KV kvs vs) : kvs.length = vs.length := Paired.length r
end


theorem kV_is {P : Program} {w : World} {k : Key} {u : Value} (r : RelV (kV k) u) : (mixKind P w).is k u = true := by
  cases k with
  | inl i => obtain ⟨t, e⟩ := (show ∃ t, u = Value.int i t from r); subst e; exact mixKind_int P w i t
  | inr x => obtain ⟨t, e⟩ := (show ∃ t, u = Value.str x t from r); subst e; exact mixKind_str P w x t
section
variable {P : Program} {w : World} {H : Hp} {h : Heap} {a : Addr}
theorem rd_of {u : HO} (ok : HOk P w H h) (e : Rd H a u) : ObjOk P w H h a u := e.ok ok
theorem dk_rd {kvs : List (Key × V)} (ok : HOk P w H h) (e : Rd H a (.dK kvs)) : kvs.length ≤ sizeLine ∧ (a == sysModules) = false ∧ ∃ vs, KV kvs vs ∧ h.DictOf (mixKind P w) a vs :=
  show ObjOk P w H h a (.dK kvs) from rd_of ok e
theorem dk_of {kvs : List (Key × V)} (ok : HOk P w H h) (e : H a = some (.dK kvs)) : kvs.length ≤ sizeLine ∧ (a == sysModules) = false ∧ ∃ vs, KV kvs vs ∧ h.DictOf (mixKind P w) a vs := dk_rd ok (.inl e)
end

section
variable {X : Cx} {pins : List (Addr × Obj)} {σ : St} {H : Hp} {s : Shared} {a : Addr} {y v : V} {u r : Value} {o : Option V} {A : Around} {E : Value → Shared → Prop}

theorem Inv.big (I : Inv X pins σ H s) : sysModules < s.heap.objs.size := by
  have h : mainGlobals < s.heap.objs.size := (I.mod.glob.keeps I.bk).lt
  exact Nat.lt_trans (by decide) h

theorem d_write {h' : Heap} {t' : Nat} {ob : HO} (I : Inv X pins σ H s) (mu : Mut (H a)) (hs : Heap.SameBut a s.heap h') (he : ∃ q, h'.get? a = some q) (new : ObjOk X.prog X.w (upd H a ob) h' a ob) :
    Inv X pins σ (upd H a ob) { s with heap := h', toks := t' } :=
  I.write (x := a) (e := a) mu (.inl rfl) (fun b q hb z => (hs.2 b hb).trans z) he new
theorem dk_new {P : Program} {w : World} {H' : Hp} {h' : Heap} {kvs : List (Key × V)} {vs : List (Key × Value)} (z : kvs.length ≤ sizeLine) (hd : (a == sysModules) = false) (rel : KV kvs vs) (dd : h'.DictOf (mixKind P w) a vs) :
    ObjOk P w H' h' a (.dK kvs) := ⟨z, hd, vs, rel, dd⟩
end

section
variable {X : Cx} {pins : List (Addr × Obj)} {σ : St} {H : Hp} {s : Shared} {a : Addr} {kvs : List (Key × V)} {k : Key} {u : Value} {A : Around} {E : Value → Shared → Prop}
end


section
variable {X : Cx} {o i e value : Expr} {pos pos' tpos : Pos} {td ty tv : TE}
end


theorem dk_empty {P : Program} {w : World} {H : Hp} (h : Heap) (hb : sysModules < h.objs.size) : ObjOk P w H (h.push { cls := .type "dict", data := .dict #[] }) h.objs.size (.dK []) :=
  ⟨Nat.zero_le _, beq_eq_false_iff_ne.mpr (Ne.symm (Nat.ne_of_lt hb)), [], .nil, Heap.DictOf.new h⟩
def tDNewK : TE := fun _ H Q => ∀ p, H p = none → Q (.ref p) (upd H p (.dK []))
section
variable {X : Cx} {pos : Pos}
theorem pe_dnewK : PE X (.Dict [] [] pos) tDNewK := fun pins s σ H Q I h =>
  wpAny_Dict_empty ⟨.ref s.heap.objs.size, _, I.laid (a := s.heap.objs.size) (o := .dK []) (t' := s.toks) (fun _ _ q => Heap.get?_push_of_some _ q) (Nat.le_refl _) (dk_empty s.heap I.big), rfl, h _ (I.hok.fresh (Nat.le_refl _))⟩
end

def tPairs : List (TE × TE) → St → Hp → (List (V × V) → Hp → Prop) → Prop
  | [], _, H, Q => Q [] H
  | (tk, tv) :: r, σ, H, Q => tk σ H fun x H1 => tv σ H1 fun y H2 => tPairs r σ H2 fun ps H3 => Q ((x, y) :: ps) H3
abbrev VV : List (V × V) → List (Value × Value) → Prop := Paired fun p q => RelV p.1 q.1 ∧ RelV p.2 q.2
def PPs (X : Cx) (pos : Pos) (keys : List (Option Expr)) (values : List Expr) (trs : List (TE × TE)) : Prop :=
  ∀ (pins : List (Addr × Obj)) (s : Shared) (σ : St) (H : Hp) (Q : List (V × V) → Hp → Prop), Inv X pins σ H s → tPairs trs σ H Q →
    wpAny (model X.prog X.w) X.A (evalPairs (pairTrees keys values X.env pos)) (fun vs s' => ∃ ps H', Inv X pins σ H' s' ∧ VV ps vs ∧ Q ps H') X.xe s
theorem pps_nil {X : Cx} {pos : Pos} : PPs X pos [] [] [] := fun pins s σ H Q I h => pairTrees_nil_walk ⟨[], H, I, .nil, h⟩
theorem pps_cons {X : Cx} {pos : Pos} {k v : Expr} {ks : List (Option Expr)} {vs : List Expr} {tk tv : TE} {trs : List (TE × TE)} (hk : PE X k tk) (hv : PE X v tv) (hr : PPs X pos ks vs trs) :
    PPs X pos (some k :: ks) (v :: vs) ((tk, tv) :: trs) := fun pins s σ H Q I h =>
  pairTrees_cons_walk (thn (hk pins s σ H _ I h) fun u s1 ⟨x, H1, I1, rx, q1⟩ => thn (hv pins s1 σ H1 _ I1 q1) fun w2 s2 ⟨y, H2, I2, ry, q2⟩ =>
    thn (hr pins s2 σ H2 _ I2 q2) fun ws s3 ⟨ps, H3, I3, rel, q3⟩ => ⟨(x, y) :: ps, H3, I3, .cons ⟨rx, ry⟩ rel, q3⟩)

def mergeK (kvs more : List (Key × V)) : List (Key × V) := more.foldl (fun acc kv => putK acc kv.1 kv.2) kvs
theorem KV.merge : ∀ {more : List (Key × V)} {rs : List (Key × Value)} {kvs : List (Key × V)} {vs : List (Key × Value)}, KV more rs → KV kvs vs → KV (mergeK kvs more) (merged vs rs) := by
  intro more rs kvs vs r
  unfold KV at r
  induction r generalizing kvs vs with
  | nil => intro q; exact q
  | @cons p q ps qs h t ih =>
    intro r0
    have e : KV (putK kvs p.1 p.2) (stored vs q.1 q.2) := by
      have := r0.put p.1 h.2
      rw [← h.1]; exact this
    exact ih e
theorem length_mergeK : ∀ (more kvs : List (Key × V)), (mergeK kvs more).length ≤ kvs.length + more.length
  | [], kvs => by show kvs.length ≤ kvs.length + 0; omega
  | p :: r, kvs => by
    have h1 := length_mergeK r (putK kvs p.1 p.2)
    have h2 := length_putK kvs p.1 p.2
    show (mergeK (putK kvs p.1 p.2) r).length ≤ _
    rw [List.length_cons]; omega
theorem carries_of {P : Program} {w : World} : ∀ {kvs : List (Key × V)} {ws : List (Value × Value)}, VV (kvs.map fun kv => (kV kv.1, kv.2)) ws → ∃ rs, Carries (mixKind P w) ws rs ∧ KV kvs rs
  | [], _, r => by rw [List.map_nil] at r; cases r; exact ⟨[], True.intro, .nil⟩
  | p :: kvs, _, r => by
    rw [List.map_cons] at r
    cases r with
    | @cons a b as bs h t =>
      obtain ⟨rs, c, q⟩ := carries_of (P := P) (w := w) t
      obtain ⟨b1, b2⟩ := b
      exact ⟨(p.1, b2) :: rs, ⟨kV_is h.1, rfl, c⟩, .cons ⟨rfl, h.2⟩ q⟩
def tDisp (trs : List (TE × TE)) : TE := fun σ H Q => ∀ p, H p = none → tPairs trs σ (upd H p (.dK [])) fun ps H2 => H2 p = some (.dK []) ∧ ∃ kvs : List (Key × V), ps = kvs.map (fun kv => (kV kv.1, kv.2)) ∧ kvs.length ≤ 15 ∧ Q (.ref p) (upd H2 p (.dK (mergeK [] kvs)))
theorem pe_disp {X : Cx} {pos : Pos} {keys : List (Option Expr)} {values : List Expr} {trs : List (TE × TE)} (h : PPs X pos keys values trs) (hall : keys.all (·.isSome) = true) (hl : keys.length = values.length) (h0 : keys ≠ [])
    (h15 : keys.length ≤ 15) : PE X (.Dict keys values pos) (tDisp trs) := by
  intro pins s σ H Q I q
  have hn := I.hok.fresh (Nat.le_refl s.heap.objs.size)
  have I1 := I.laid (a := s.heap.objs.size) (o := .dK []) (h' := s.heap.push { cls := .type "dict", data := .dict #[] }) (t' := s.toks) (fun _ _ q => Heap.get?_push_of_some _ q) (Nat.le_refl _) (dk_empty s.heap I.big)
  refine wpAny_Dict_walk (knd := mixKind X.prog X.w) hall hl h0 h15 (thn (h pins _ σ _ _ I1 (q _ hn)) fun ws s2 ⟨ps, H2, I2, rel, e, kvs, ep, lk, q2⟩ => ?_)
  subst ep
  obtain ⟨rs, c, rk⟩ := carries_of (P := X.prog) (w := X.w) rel
  obtain ⟨z, hd, vs0, r0, dd⟩ := dk_of I2.hok e
  cases r0
  refine ⟨rs, c, dd, fun h' dd' hs => ⟨.ref s.heap.objs.size, _, ?_, rfl, q2⟩⟩
  have hz : (mergeK [] kvs).length ≤ sizeLine := by
    have h1 := length_mergeK kvs []
    rw [List.length_nil] at h1
    rw [sizeLine_eq]; omega
  have he : ∃ q, h'.get? s.heap.objs.size = some q := let ⟨q, _, _, hq, _⟩ := dd'; ⟨q, hq⟩
  exact d_write I2 (by rw [e]; exact True.intro) hs he (dk_new hz hd (rk.merge .nil) dd')


section
variable {X : Cx} {pins : List (Addr × Obj)} {σ : St} {H : Hp} {s : Shared} {a : Addr} {y d : V} {u r : Value} {o : Option V} {A : Around} {E : Value → Shared → Prop}
end

section
variable {X : Cx} {o e f : Expr} {apos cpos : Pos} {td ty tx : TE}
end

section
variable {X : Cx} {pins : List (Addr × Obj)} {σ : St} {H : Hp} {s : Shared} {a : Addr} {kvs : List (Key × V)} {A : Around} {E : Value → Shared → Prop}
end


section
variable {X : Cx} {pins : List (Addr × Obj)} {σ : St} {H : Hp} {s : Shared} {a : Addr} {y : V} {u : Value} {A : Around} {E : Value → Shared → Prop}
end
end L2
end
section
set_option Elab.async false
set_option linter.all false
set_option maxRecDepth 100000
set_option maxHeartbeats 4000000
namespace L2
open PySem PySem.Spec PyProof.Rows
def tyD : PyData → String
  | .none => "NoneType"
  | .bool _ => "bool"
  | .int _ => "int"
  | .str _ => "str"
  | .list _ => "list"
  | .tuple _ => "tuple"
  | .dict _ => "dict"
theorem DV.ty {H : Hp} {v : V} {d : PyData} (h : DV H v d) : tyN H v = some (tyD d) := by
  cases h with
  | non => rfl
  | bl b => rfl
  | int i => rfl
  | str x => rfl
  | lst e _ => simp [tyN, e, tyD]
  | tup e _ => simp [tyN, e, tyD]
  | dic e => simp [tyN, e, tyD]
mutual
def smallD : PyData → Bool
  | .str z => decide (z.length ≤ 1000)
  | .list xs => decide (xs.length ≤ 1000) && smallAllD xs
  | .tuple xs => decide (xs.length ≤ 1000) && smallAllD xs
  | _ => true
def smallAllD : List PyData → Bool
  | [] => true
  | d :: ds => smallD d && smallAllD ds
end
def leafV : V → Prop
  | .non | .bl _ | .int _ | .str _ => True
  | _ => False
mutual
inductive Tw (H : Hp) : Nat → V → V → Prop
  | leaf {n : Nat} {x : V} : leafV x → Tw H n x x
  | dic {n : Nat} {a : Addr} : H a = some (.dK []) → Tw H n (.ref a) (.ref a)
  | lst {n : Nat} {a b : Addr} {xs ys : List V} : H a = some (.lst xs) → H b = some (.lst ys) → Tws H n xs ys → Tw H (n + 1) (.ref a) (.ref b)
  | tup {n : Nat} {a b : Addr} {xs ys : List V} : H a = some (.tup xs) → H b = some (.tup ys) → Tws H n xs ys → Tw H (n + 1) (.ref a) (.ref b)
inductive Tws (H : Hp) : Nat → List V → List V → Prop
  | nil {n : Nat} : Tws H n [] []
  | cons {n : Nat} {x y : V} {xs ys : List V} : Tw H n x y → Tws H n xs ys → Tws H n (x :: xs) (y :: ys)
end
mutual
theorem Tw.mono {H H' : Hp} (k : Same H H') : ∀ {n : Nat} {x y : V}, Tw H n x y → Tw H' n x y
  | _, _, _, .leaf h => .leaf h
  | _, _, _, .dic h => .dic (k _ _ h)
  | _, _, _, .lst h h' r => .lst (k _ _ h) (k _ _ h') (Tws.mono k r)
  | _, _, _, .tup h h' r => .tup (k _ _ h) (k _ _ h') (Tws.mono k r)
theorem Tws.mono {H H' : Hp} (k : Same H H') : ∀ {n : Nat} {xs ys : List V}, Tws H n xs ys → Tws H' n xs ys
  | _, _, _, .nil => .nil
  | _, _, _, .cons h r => .cons (Tw.mono k h) (Tws.mono k r)
end
theorem Tws.length {H : Hp} : ∀ {n : Nat} {xs ys : List V}, Tws H n xs ys → xs.length = ys.length
  | _, _, _, .nil => rfl
  | _, _, _, .cons _ r => by rw [List.length_cons, List.length_cons, r.length]
theorem Tws.get {H : Hp} : ∀ {n : Nat} {xs ys : List V} {j : Nat} {x y : V}, Tws H n xs ys → xs[j]? = some x → ys[j]? = some y → Tw H n x y
  | _, _, _, 0, _, _, .cons h _, e, e' => by simp at e e'; subst e; subst e'; exact h
  | _, _, _, j + 1, _, _, .cons _ r, e, e' => Tws.get r (by simpa using e) (by simpa using e')
section
variable {X : Cx} {pins : List (Addr × Obj)} {σ : St} {H : Hp} {s : Shared} {A : Around}
theorem leaf_eq {x : V} {u u' : Value} (h : leafV x) (r : RelV x u) (r' : RelV x u') : SeqAt.EqAt A s u u' true := by
  cases x with
  | non => cases r; cases r'; exact SeqAt.EqAt.same _
  | bl b => cases r; cases r'; exact SeqAt.EqAt.same _
  | int i => obtain ⟨t, rfl⟩ := r; obtain ⟨t', rfl⟩ := r'; have := SeqAt.EqAt.int_int (A := A) (s := s) i t i t'; rwa [beq_self_eq_true] at this
  | str z => obtain ⟨t, rfl⟩ := r; obtain ⟨t', rfl⟩ := r'; have := SeqAt.EqAt.str_str (A := A) (s := s) z t z t'; rwa [beq_self_eq_true] at this
  | _ => exact h.elim
theorem leaf_rc {x : V} {u u' : Value} (h : leafV x) (r : RelV x u) (r' : RelV x u') : SeqAt.RcAt A s u u' true := by
  cases x with
  | non => cases r; cases r'; exact SeqAt.RcAt.none_none
  | bl b => cases r; cases r'; have := SeqAt.RcAt.bool_bool (A := A) (s := s) b b; rwa [beq_self_eq_true] at this
  | int i => obtain ⟨t, rfl⟩ := r; obtain ⟨t', rfl⟩ := r'; have := SeqAt.RcAt.int_int (A := A) (s := s) i t i t'; rwa [beq_self_eq_true] at this
  | str z => obtain ⟨t, rfl⟩ := r; obtain ⟨t', rfl⟩ := r'; have := SeqAt.RcAt.str_str (A := A) (s := s) z t z t'; rwa [beq_self_eq_true] at this
  | _ => exact h.elim
theorem all_tt (n : Nat) : (List.range n).all (fun _ => true) = true := by rw [List.all_eq_true]; exact fun _ _ => rfl
theorem in1_units {A : Around} : A.in1.units = A.units + 1 := rfl
theorem rc_lists {a b : Addr} {xs ys : List V} (I : Inv X pins σ H s) (ha : H a = some (.lst xs)) (hb : H b = some (.lst ys)) (hl : xs.length = ys.length) (hu : A.units < cLine)
    (he : ∀ (j : Nat) (x y : V) (u u' : Value), xs[j]? = some x → ys[j]? = some y → RelV x u → RelV y u' → SeqAt.EqAt A.in1 s u u' true) : SeqAt.RcAt A s (.ref a) (.ref b) true := by
  obtain ⟨_, its, n, rv, e⟩ := I.hok _ _ ha
  obtain ⟨_, its', n', rv', e'⟩ := I.hok _ _ hb
  have hsz : its.toArray.size = its'.toArray.size := by have h1 := rv.length; have h2 := rv'.length; simp; omega
  have := SeqAt.RcAt.lists (A := A) (s := s) (e := fun _ => true) (l := a) (b := b) (items := its.toArray) (items2 := its'.toArray) ⟨_, e, rfl, _, rfl⟩ ⟨_, e', rfl, _, rfl⟩ hsz hu (fun j h1 h2 => by
    have j1 : j < xs.length := by have := rv.length; simp at h1; omega
    have j2 : j < ys.length := by omega
    obtain ⟨u, eu, ru⟩ := rv.get (i := j) (x := xs[j]) (List.getElem?_eq_getElem j1)
    obtain ⟨u', eu', ru'⟩ := rv'.get (i := j) (x := ys[j]) (List.getElem?_eq_getElem j2)
    have := he j _ _ u u' (List.getElem?_eq_getElem j1) (List.getElem?_eq_getElem j2) ru ru'
    have k1 : its.toArray[j] = u := by
      have : its[j]? = some its.toArray[j] := by simp at h1 ⊢
      rw [this] at eu; exact Option.some.inj eu
    have k2 : its'.toArray[j] = u' := by
      have : its'[j]? = some its'.toArray[j] := by simp at h2 ⊢
      rw [this] at eu'; exact Option.some.inj eu'
    rw [k1, k2]; exact this)
  rwa [all_tt] at this
theorem rc_tups {a b : Addr} {xs ys : List V} (I : Inv X pins σ H s) (ha : H a = some (.tup xs)) (hb : H b = some (.tup ys)) (hl : xs.length = ys.length) (hu : A.units < cLine)
    (he : ∀ (j : Nat) (x y : V) (u u' : Value), xs[j]? = some x → ys[j]? = some y → RelV x u → RelV y u' → SeqAt.EqAt A.in1 s u u' true) : SeqAt.RcAt A s (.ref a) (.ref b) true := by
  obtain ⟨_, its, rv, o, e, hc, n, hd⟩ := I.hok _ _ ha
  obtain ⟨_, its', rv', o', e', hc', n', hd'⟩ := I.hok _ _ hb
  have hsz : its.toArray.size = its'.toArray.size := by have h1 := rv.length; have h2 := rv'.length; simp; omega
  have := SeqAt.RcAt.tuples (A := A) (s := s) (e := fun _ => true) (l := a) (b := b) (items := its.toArray) (items2 := its'.toArray) ⟨_, e, hc, _, hd⟩ ⟨_, e', hc', _, hd'⟩ hu (fun j h1 h2 => by
    have j1 : j < xs.length := by have := rv.length; simp at h1; omega
    have j2 : j < ys.length := by omega
    obtain ⟨u, eu, ru⟩ := rv.get (i := j) (x := xs[j]) (List.getElem?_eq_getElem j1)
    obtain ⟨u', eu', ru'⟩ := rv'.get (i := j) (x := ys[j]) (List.getElem?_eq_getElem j2)
    have := he j _ _ u u' (List.getElem?_eq_getElem j1) (List.getElem?_eq_getElem j2) ru ru'
    have k1 : its.toArray[j] = u := by
      have : its[j]? = some its.toArray[j] := by simp at h1 ⊢
      rw [this] at eu; exact Option.some.inj eu
    have k2 : its'.toArray[j] = u' := by
      have : its'[j]? = some its'.toArray[j] := by simp at h2 ⊢
      rw [this] at eu'; exact Option.some.inj eu'
    rw [k1, k2]; exact this)
  rw [all_tt, hsz, beq_self_eq_true] at this
  exact this
theorem Tw.eqAt (I : Inv X pins σ H s) : ∀ (n : Nat) {A : Around} {x y : V} {u u' : Value}, A.units + n < cLine → Tw H n x y → RelV x u → RelV y u' → SeqAt.EqAt A s u u' true
  | _, A, _, _, _, _, _, .leaf h, r, r' => leaf_eq h r r'
  | _, A, _, _, _, _, _, .dic h, r, r' => by cases r; cases r'; exact SeqAt.EqAt.same _
  | n + 1, A, _, _, _, _, hu, .lst (a := a) (b := b) ha hb k, r, r' => by
    cases r; cases r'
    by_cases e : a = b
    · subst e; exact SeqAt.EqAt.same _
    · exact SeqAt.EqAt.of_refs e (rc_lists I ha hb k.length (by omega) fun j x y u u' e1 e2 r1 r2 => Tw.eqAt I n (by rw [in1_units]; omega) (k.get e1 e2) r1 r2)
  | n + 1, A, _, _, _, _, hu, .tup (a := a) (b := b) ha hb k, r, r' => by
    cases r; cases r'
    by_cases e : a = b
    · subst e; exact SeqAt.EqAt.same _
    · exact SeqAt.EqAt.of_refs e (rc_tups I ha hb k.length (by omega) fun j x y u u' e1 e2 r1 r2 => Tw.eqAt I n (by rw [in1_units]; omega) (k.get e1 e2) r1 r2)
end
section
variable {X : Cx}
def rEqT : R2 := fun x y H Q => ∃ n : Nat, n ≤ 50 ∧ Tw H n x y ∧ Q (.bl true) H
theorem op_eqT (hu : X.A.units + 64 < cLine) : OpR X (compareOp .Eq) rEqT := by
  intro pins s σ H x y v u Q I rx ry h
  obtain ⟨n, hn, tw, q⟩ := h
  have ep : EP X pins σ Q (.bool true) s := ⟨.bl true, H, I, rfl, q⟩
  cases tw with
  | leaf h => exact leaf_rc h rx ry _ _ _ _ ep
  | @dic n a h =>
    cases rx; cases ry
    obtain ⟨_, hs, vs, kv, dd⟩ := I.hok _ _ h
    have e : vs = [] := by cases kv; rfl
    subst e
    exact PySem.W.keq_eq (r := true) hs hs dd dd (by omega) (fun _ => .nil) ep
  | @lst n a b xs ys ha hb k =>
    cases rx; cases ry
    exact rc_lists I ha hb k.length (by omega) (fun j x y u u' e1 e2 r1 r2 => Tw.eqAt I n (by rw [in1_units]; omega) (k.get e1 e2) r1 r2) _ _ _ _ ep
  | @tup n a b xs ys ha hb k =>
    cases rx; cases ry
    exact rc_tups I ha hb k.length (by omega) (fun j x y u u' e1 e2 r1 r2 => Tw.eqAt I n (by rw [in1_units]; omega) (k.get e1 e2) r1 r2) _ _ _ _ ep
end
end L2
end
section
set_option Elab.async false
set_option linter.all false
set_option maxRecDepth 100000
set_option maxHeartbeats 4000000
namespace L2
open PySem PySem.Spec PyProof.Rows
namespace Om
def whole : PyData → Bool
  | .int _ => true
  | _ => false
def within (d : PyData) (a b : Int) : Bool := match d with
  | .int i => decide (a ≤ i) && decide (i ≤ b)
  | _ => false
def wordOk (d : PyData) (n : Int) : Bool := match d with
  | .str z => decide ((z.length : Int) = n) && decide (Txt.stripChars z ("01" : Str) = ("" : Str))
  | _ => false
def rowOk (d : PyData) (n count : Int) : Bool := match d with
  | .tuple [x, y] => wordOk x n && within y 0 (count - 1)
  | _ => false
end Om
def spWholeD : Sp := fun vs H Q _ => match vs with
  | [v] => ∃ d, DV H v d ∧ Q (.bl (Om.whole d)) H
  | _ => False
def spWithinD : Sp := fun vs H Q _ => match vs with
  | [v, .int a, .int b] => ∃ d, DV H v d ∧ Q (.bl (Om.within d a b)) H
  | _ => False
theorem iteN {c : Bool} {A B : Prop} (hc : c = false) (h : B) : if c = true then A else B := by rw [hc]; exact h
end L2
end
section
set_option Elab.async false
set_option linter.all false
set_option maxRecDepth 100000
set_option maxHeartbeats 4000000
namespace L2
open PySem PySem.Spec PyProof.Rows
section
variable {X : Cx} {p pos : Pos} {e : Expr} {es : List Expr} {t : TA}
end
end L2
end
section
set_option Elab.async false
set_option maxRecDepth 100000
namespace L2
open PySem PySem.Spec PyProof.Rows

section
variable {prog : Program} {w : World} {A : Around} {E : Value → Shared → Prop} {s : Shared}
end
end L2
end
section
set_option Elab.async false
set_option maxRecDepth 100000
namespace L2
open PySem PySem.Spec PyProof.Rows

section
variable {X : Cx} {pins : List (Addr × Obj)} {σ : St} {H : Hp} {s : Shared} {a : Addr} {u : HO} {o : Obj}
theorem Inv.obj (I : Inv X pins σ H s) (e : H a = some u) : ∃ o, s.heap.get? a = some o := by
  have l := (I.hok a u e).lt
  cases u with
  | lst xs => obtain ⟨_, _, _, _, q⟩ := I.hok a _ e; exact ⟨_, q⟩
  | dK kvs => obtain ⟨_, _, _, _, o, _, _, q, _⟩ := I.hok a _ e; exact ⟨_, q⟩
  | dT kvs => obtain ⟨_, _, _, _, o, _, _, q, _⟩ := I.hok a _ e; exact ⟨_, q⟩
  | tup xs => obtain ⟨_, _, _, o, q, _⟩ := I.hok a _ e; exact ⟨_, q⟩
  | set S n => obtain ⟨o, _, _, _, q, _⟩ := I.hok a _ e; exact ⟨_, q⟩
  | ins C dx fs => obtain ⟨_, _, _, q, _⟩ := I.hok a _ e; exact ⟨_, q⟩
  | own y => obtain ⟨_, q⟩ := I.hok a _ e; exact ⟨_, q⟩
  | xd fs => obtain ⟨_, ⟨_, _, _, q, _⟩, _⟩ := I.hok a _ e; exact ⟨_, q⟩
  | rng lo hi => obtain ⟨_, _, _, q⟩ := I.hok a _ e; exact ⟨_, q⟩
  | frz ob u => obtain ⟨q, _⟩ := I.hok a _ e; exact ⟨_, q⟩
  | tbl ps => exact ⟨_, I.hok a _ e⟩
  | met f y => exact ⟨_, I.hok a _ e⟩
  | ext φ => obtain ⟨_, q, _⟩ := I.hok a _ e; exact q
end
section
variable {X : Cx} {e : Expr} {te : TE} {pos : Pos}
end

section
variable {X : Cx} {tg : Expr}
end
end L2
end
section
set_option Elab.async false
set_option maxRecDepth 100000
namespace L2
open PySem PySem.Spec PyProof.Rows

section
variable {X : Cx} {pos : Pos}
end
section
variable {prog : Program} {w : World} {A : Around} {E : Value → Shared → Prop} {s : Shared}
end
section
variable {X : Cx} {pins : List (Addr × Obj)} {σ : St} {H : Hp} {s : Shared} {a : Addr} {A : Around} {E : Value → Shared → Prop}
end
section
variable {X : Cx} {pos : Pos}
end

section
variable {X : Cx} {o e : Expr} {es : List Expr} {to : TE} {t : TA} {apos : Pos}
end
end L2
end
section
set_option Elab.async false
set_option linter.all false
set_option maxRecDepth 100000
set_option maxHeartbeats 4000000
namespace L2
open PySem PySem.Spec PyProof.Rows
section
variable {X : Cx} {p pos : Pos} {a b e : Expr} {es : List Expr} {t : TA}
def rSum : List V → Hp → VK → Prop := fun vs H Q => match vs with
  | [.ref p] => ∃ ns : List Int, H p = some (.lst (ns.map V.int)) ∧ Q (.int ns.sum) H
  | _ => False
theorem call_sumU (hc : X.calm = true) : CallR X (.builtin "sum") rSum := by
  intro pins s σ H xs us Q I r h
  unfold rSum at h
  split at h
  · rename_i p
    obtain ⟨ns, hH, q⟩ := h
    obtain ⟨u, rfl, r1⟩ := vals1 r
    cases r1
    obtain ⟨z, its, n, rv, e⟩ := I.hok p _ hH
    have hI := vals_intsA rv
    obtain ⟨ps, hps⟩ := hI.allInts.items
    have hl : s.heap.IsList p (intItems ps) := hps ▸ ⟨_, e, rfl, _, rfl⟩
    have hn : ps.toList.map (·.1) = ns := by
      rw [← nums_intItems, ← hps]
      exact hI.numsOf
    refine sum_intListG (I.ok.hd hc) hl fun h' tk t' hk => ?_
    rw [preSum_eq, List.take_of_length_le (by simp), hn]
    exact ⟨.int ns.sum, H, I.kept hk, ⟨_, rfl⟩, q⟩
  · exact h.elim
theorem fn_sum {mg' : Str → Option Value} (hm : mg' "sum" = none) (hX : X.mg = mg') (ha : PA X (e :: es) t) (hc : X.calm = true := by kernel_rfl) (hg : gB X "sum" = true := by kernel_rfl) (he : starEach (e :: es) X.env = (false, eval e X.env) :: starEach es X.env := by kernel_rfl) (hpl : (backTo pos (starEach es X.env)).any (·.1) = false := by kernel_rfl) :
    PE X (.Call (.Name "sum" p) (e :: es) [] pos) (tCB rSum t) := pe_callB (call_sumU hc) (gl_of hg) (by rw [hX]; exact hm) PyProof.Rows.boot_sum ha (he := he) (hpl := hpl)
end
end L2
namespace Om
end Om
end
section
set_option Elab.async false
set_option maxRecDepth 100000
namespace Om
abbrev Stp := (Nat × Nat) × (Nat × Nat)
def St (rows : Rows) (x y : Nat) (s : Stp) : Prop :=
  s.1.1 < (rows.getD x []).length ∧ s.1.2 < (rows.getD y []).length ∧ (step rows x s.1.1).1 = (step rows y s.1.2).1 ∧ s.2 = ((step rows x s.1.1).2, (step rows y s.1.2).2)
inductive Pth (rows : Rows) : Nat → List Nat → List Bool → Nat → Prop
  | nil {s : Nat} : s < rows.length → Pth rows 0 [] [] s
  | snoc {m : Nat} {t : List Nat} {w : List Bool} {p i : Nat} : Pth rows m t w p → i < (rows.getD p []).length → Pth rows (m + 1) (t ++ [i]) (w ++ (step rows p i).1) (step rows p i).2
section
variable {k n : Nat} {rows : Rows}
def Clash (rows : Rows) (b m : Nat) (x y : Nat) : Prop := ∃ t t' w, Pth rows m t w x ∧ Pth rows m t' w y ∧ t.getD b 0 ≠ t'.getD b 0
end
end Om
end
section
set_option Elab.async false
set_option linter.all false
set_option maxRecDepth 100000
set_option maxHeartbeats 4000000
namespace L2
open PySem PySem.Spec PyProof.Rows
def kk (p : Nat × Nat) : List Key := [.inl ((p.1 : Nat) : Int), .inl ((p.2 : Nat) : Int)]
section
variable {ks : List (Nat × Nat)} {kvs : List (List Key × V)} {p : Nat × Nat} {v : V}
end
section
variable {G H0 H : Hp} {D p : Addr} {kvs : List (List Key × V)} {o : HO}
end
end L2
end
section
set_option Elab.async false
set_option linter.all false
set_option maxRecDepth 100000
set_option maxHeartbeats 4000000
namespace L2
open PySem PySem.Spec PyProof.Rows
section
variable {X : Cx} {a : Expr} {p pos : Pos} {ta : TA}
end
end L2
end
section
set_option Elab.async false
set_option linter.all false
set_option maxRecDepth 100000
namespace L2
open PySem PySem.Spec PyProof.Rows
structure Lt (H H' : Hp) : Prop where
  l : ∀ a xs, H a = some (.lst xs) → H' a = some (.lst xs)
  t : ∀ a xs, H a = some (.tup xs) → H' a = some (.tup xs)
  d : ∀ a, H a = some (.dK []) → H' a = some (.dK [])
mutual
theorem DV.lt {H H' : Hp} (k : Lt H H') : ∀ {v : V} {d : PyData}, DV H v d → DV H' v d
  | _, _, .non => .non
  | _, _, .bl b => .bl b
  | _, _, .int i => .int i
  | _, _, .str x => .str x
  | _, _, .lst h r => .lst (k.l _ _ h) (DVs.lt k r)
  | _, _, .tup h r => .tup (k.t _ _ h) (DVs.lt k r)
  | _, _, .dic h => .dic (k.d _ h)
theorem DVs.lt {H H' : Hp} (k : Lt H H') : ∀ {vs : List V} {ds : List PyData}, DVs H vs ds → DVs H' vs ds
  | _, _, .nil => .nil
  | _, _, .cons h r => .cons (DV.lt k h) (DVs.lt k r)
end
theorem Lt.but {H G : Hp} {D : Addr} {kvs : List (List Key × V)} (hD : H D = some (.dT kvs)) (h : ∀ x, x ≠ D → G x = H x) : Lt H G :=
  ⟨fun a xs e => by rw [h a (ne_of e hD (fun z => nomatch z))]; exact e, fun a xs e => by rw [h a (ne_of e hD (fun z => nomatch z))]; exact e, fun a e => by rw [h a (ne_of e hD (fun z => nomatch z))]; exact e⟩
end L2
end
section
set_option Elab.async false
set_option linter.all false
set_option maxRecDepth 100000
namespace Om
abbrev Rw := List Nat × List Bool × Nat
def ext (rows : Rows) (r : Rw) : List Rw := (List.range (rows.getD r.2.2 []).length).map fun l => (r.1 ++ [l], r.2.1 ++ (step rows r.2.2 l).1, (step rows r.2.2 l).2)
section
variable {k n : Nat} {rows : Rows}
end
end Om
namespace L2
open PySem PySem.Spec PyProof.Rows
end L2
end
section
set_option Elab.async false
set_option linter.all false
set_option maxRecDepth 100000
set_option maxHeartbeats 4000000
namespace L2
open PySem PySem.Spec PyProof.Rows
section
variable {prog : Program} {w : World} {A : Around} {E : Value → Shared → Prop} {s : Shared}
end
end L2
end
section
set_option Elab.async false
set_option linter.all false
set_option maxRecDepth 100000
set_option maxHeartbeats 4000000
namespace L2
open PySem PySem.Spec PyProof.Rows
section
variable {X : Cx} {p pos : Pos}
end
section
variable {prog : Program} {w : World} {A : Around} {E : Value → Shared → Prop} {s : Shared}
end
end L2
end
section
set_option Elab.async false
set_option linter.all false
set_option maxRecDepth 100000
set_option maxHeartbeats 4000000
namespace L2
open PySem PySem.Spec PyProof.Rows
section
variable {X : Cx} {p pos : Pos}
open Classical in
noncomputable def eqT (H : Hp) (k : List Key) (u : Value) : Bool := match u with
  | .ref c => decide (H c = some (.tup (k.map kV)))
  | _ => false
open Classical in
theorem any_eqT {H : Hp} {k : List Key} : ∀ {xs : List V} {us : List Value}, Vals xs us → (∀ v ∈ xs, ∃ (c : Addr) (k' : List Key), v = .ref c ∧ H c = some (.tup (k'.map kV))) → (us.any (eqT H k) = true ↔ ∃ c, V.ref c ∈ xs ∧ H c = some (.tup (k.map kV)))
  | _, _, .nil, _ => by simp
  | y :: xs, u :: us, .cons r t, f => by
    obtain ⟨c, k', rfl, hc⟩ := f y List.mem_cons_self
    cases r
    rw [List.any_cons, Bool.or_eq_true, any_eqT t (fun v hv => f v (List.mem_cons_of_mem _ hv))]
    have e0 : eqT H k (.ref c) = true ↔ H c = some (.tup (k.map kV)) := by unfold eqT; dsimp only; exact (by classical exact decide_eq_true_iff)
    rw [e0]
    constructor
    · rintro (h | ⟨d, h1, h2⟩)
      · exact ⟨c, List.mem_cons_self, h⟩
      · exact ⟨d, List.mem_cons_of_mem _ h1, h2⟩
    · rintro ⟨d, h1, h2⟩
      rcases List.mem_cons.mp h1 with e | h1
      · injection e with e; subst e; exact .inl h2
      · exact .inr ⟨d, h1, h2⟩
end
end L2
end
section
set_option Elab.async false
set_option linter.all false
set_option maxRecDepth 100000
set_option maxHeartbeats 4000000
namespace Om
def Win (rows : Rows) (b a : Nat) : Prop := ∀ x y, ¬ Clash rows b (b + 1 + a) x y
open Classical in
noncomputable def wf (rows : Rows) (p : Nat × Nat) : Bool := decide (Win rows p.1 p.2)
open Classical in
theorem wf_iff {rows : Rows} {p : Nat × Nat} : wf rows p = true ↔ Win rows p.1 p.2 := by unfold wf; exact decide_eq_true_iff
end Om
namespace L2
open PySem PySem.Spec PyProof.Rows
end L2
end
section
set_option Elab.async false
set_option linter.all false
set_option maxRecDepth 100000
set_option maxHeartbeats 4000000
namespace L2
open PySem PySem.Spec PyProof.Rows
section
variable {prog : Program} {w : World} {A : Around} {E : Value → Shared → Prop} {s : Shared}
end
section
variable {X : Cx} {p pos : Pos}
end
section
variable {G H0 H : Hp} {D q : Addr} {kvs : List (List Key × V)} {ks : List (Nat × Nat)} {c : Nat} {E : Nat × Nat → Om.Stp → Prop} {o : HO}
end
end L2
namespace Om
end Om
end
section
set_option Elab.async false
set_option linter.all false
set_option maxRecDepth 100000
set_option maxHeartbeats 4000000
namespace L2
open PySem PySem.Spec PyProof.Rows
section
variable {prog : Program} {w : World} {A : Around} {E : Value → Shared → Prop} {s : Shared}
end
section
variable {X : Cx} {p pos : Pos}
end
end L2
end
section
set_option Elab.async false
set_option linter.all false
set_option maxRecDepth 100000
set_option maxHeartbeats 4000000
namespace Om
abbrev Sn := Nat → Prop
def aft (rows : Rows) (S : Sn) (w : List Bool) : Sn := fun y => ∃ x i, S x ∧ i < (rows.getD x []).length ∧ step rows x i = (w, y)
def afts (rows : Rows) (S : Sn) (ws : List (List Bool)) : Sn := ws.foldl (aft rows) S
end Om
namespace L2
open PySem PySem.Spec PyProof.Rows
section
variable {ks : List Nat} {kvs : List (Key × V)} {x : Nat} {v : V}
end
end L2
end
section
set_option Elab.async false
set_option linter.all false
set_option maxRecDepth 100000
set_option maxHeartbeats 4000000
namespace Om
def allS (rows : Rows) : Sn := fun x => x < rows.length
def byL (rows : Rows) (S : Sn) (w : List Bool) (l : Nat) : Sn := fun y => ∃ x, S x ∧ l < (rows.getD x []).length ∧ step rows x l = (w, y)
def Goes (rows : Rows) (ws : List (List Bool)) (b l : Nat) : Prop := ∃ z, afts rows (byL rows (afts rows (allS rows) (ws.take b)) (ws.getD b []) l) (ws.drop (b + 1)) z
open Classical in
noncomputable def rd (rows : Rows) (k b : Nat) (ws : List (List Bool)) : Option Nat := (List.range (2 ^ k)).find? fun l => decide (Goes rows ws b l)
end Om
namespace L2
open PySem PySem.Spec PyProof.Rows
section
variable {H0 H : Hp} {L q : Addr} {ts : List Addr} {yss : Nat → List Nat}
end
end L2
namespace L2
open PySem PySem.Spec PyProof.Rows
section
variable {X : Cx}
end
end L2
namespace Om
end Om
namespace L2
open PySem PySem.Spec PyProof.Rows
theorem cutH (xs : List V) (b : Nat) (h : b ≤ xs.length) : cutV xs none (some (b : Int)) = xs.take b := by
  have := cut_nat xs 0 b (Nat.zero_le _) h
  rw [List.drop_zero, Nat.sub_zero] at this
  rw [← this]
  rfl
theorem cutT (xs : List V) (a : Nat) (h : a ≤ xs.length) : cutV xs (some (a : Int)) none = xs.drop a := by
  have := cut_nat xs a xs.length h (Nat.le_refl _)
  rw [List.take_of_length_le (by rw [List.length_drop]; exact Nat.le_refl _)] at this
  rw [← this]
  unfold cutV
  congr 2
  have e := HT.sIx_nat xs.length xs.length xs.length
  rw [e, Nat.min_self]
  rfl
end L2
end
section
set_option Elab.async false
set_option linter.all false
set_option maxRecDepth 100000
set_option maxHeartbeats 4000000
namespace Om
end Om
namespace L2
open PySem PySem.Spec PyProof.Rows
end L2
namespace L2
theorem if_negP {c A B : Prop} [Decidable c] (hc : ¬ c) (h : B) : if c then A else B := by rw [if_neg hc]; exact h
end L2
namespace L2
end L2
end
section
set_option Elab.async false
set_option linter.all false
set_option maxRecDepth 100000
set_option maxHeartbeats 4000000
namespace L2
open PySem PySem.Spec PyProof.Rows
section
variable {X : Cx} {p pos : Pos}
end
end L2
namespace Om
end Om
end
section
set_option Elab.async false
set_option linter.all false
set_option maxRecDepth 100000
set_option maxHeartbeats 4000000
namespace L2
open PySem PySem.Spec PyProof.Rows
end L2
namespace L2
open PySem PySem.Spec PyProof.Rows
end L2
namespace L2
open PySem PySem.Spec PyProof.Rows
end L2
end
section
set_option Elab.async false
set_option linter.all false
set_option maxRecDepth 100000
set_option maxHeartbeats 4000000
namespace L2
open PySem PySem.Spec PyProof.Rows
section
variable {X : Cx} {p pos : Pos}
end
end L2
end
section
set_option Elab.async false
set_option linter.all false
set_option maxRecDepth 100000
set_option maxHeartbeats 4000000
namespace L2
open PySem PySem.Spec PyProof.Rows PySem.W
def ExcO (a : Addr) (c : Value) : HO := .ext fun h => ∃ o, h.get? a = some o ∧ o.cls = c
theorem ExcO.mk {P : Program} {w : World} {H : Hp} {h : Heap} {a : Addr} {c : Value} {o : Obj} (e : h.get? a = some o) (hc : o.cls = c) : ObjOk P w H h a (ExcO a c) :=
  ⟨⟨o, e, hc⟩, ⟨o, e⟩, fun h1 h2 ⟨o1, e1, c1⟩ k => ⟨o1, k o1 e1, c1⟩⟩
def CX1 (P : Program) (w : World) : CXT := fun outer H s E e s' => ∃ (x : Addr) (c a0 : Value) (B : Heap) (H' : Hp), e = .ref x ∧ s'.os = s.os ∧ AllBare s'.gens ∧ Un (frs outer) [] H H' s.heap s'.heap ∧ HOk P w H' s'.heap ∧ Heap.FlyingW B outer x c a0 s'.heap ∧
  (∀ b o, s.heap.get? b = some o → H b = none → b ∉ frs outer → B.get? b = some o) ∧ (∀ b o, s.heap.get? b = some o → b ∉ frs outer → ∃ o', B.get? b = some o') ∧ (∀ b u, H' b = some u → ∀ o, s'.heap.get? b = some o → B.get? b = some o) ∧ E c none H'
theorem HOk.has {P : Program} {w : World} {H : Hp} {h : Heap} (x : HOk P w H h) {a : Addr} {u : HO} (e : H a = some u) : ∃ o, h.get? a = some o := by
  have lt := x.lt e
  cases q : h.get? a with
  | some o => exact ⟨o, rfl⟩
  | none =>
    exfalso
    have y := x a u e
    cases u with
    | lst xs => obtain ⟨_, _, _, _, z⟩ := y; rw [q] at z; cases z
    | tup xs => obtain ⟨_, _, _, ob, z, _⟩ := y; rw [q] at z; cases z
    | dK kvs => obtain ⟨_, _, _, _, o, _, _, z, _⟩ := y; rw [q] at z; cases z
    | dT kvs => obtain ⟨_, _, _, _, o, _, _, z, _⟩ := y; rw [q] at z; cases z
    | set S n => obtain ⟨o, _, _, _, z, _⟩ := y; rw [q] at z; cases z
    | ins C dx fs => obtain ⟨_, _, _, z, _⟩ := y; rw [q] at z; cases z
    | own y' => obtain ⟨_, z⟩ := y; rw [q] at z; cases z
    | xd fs => obtain ⟨_, ⟨_, _, _, z, _⟩, _⟩ := y; rw [q] at z; cases z
    | rng lo hi => obtain ⟨_, _, _, z⟩ := y; rw [q] at z; cases z
    | frz ob u => obtain ⟨z, _⟩ := y; rw [q] at z; cases z
    | tbl ps => have z : h.get? a = some _ := y; rw [q] at z; cases z
    | met f y' => have z : h.get? a = some _ := y; rw [q] at z; cases z
    | ext φ => obtain ⟨_, ⟨_, z⟩, _⟩ := y; rw [q] at z; cases z
section
variable {P : Program} {w : World} {K : PySem.W.Frag} {mg : Str → Option Value} {base : Heap} {N : List Str} {qual : Str} {scope : Scope} {f : Addr} {cd : Value} {A : Around} {outer : List Env} {s : Shared} {H : Hp} {E : XK}
theorem esc_of {pins : List (Addr × Obj)} {σ : St} {H1 : Hp} {s1 : Shared} {h2 : Heap} {x : Addr} {c : Value} {args : List Value} (I : Inv (cxOf (CX1 P w) P w K mg base N qual scope f cd A outer s H E) pins σ H1 s1)
    (hx : Heap.MadeExcOf s1.heap h2 x c args) (q : E c none H1) : (cxOf (CX1 P w) P w K mg base N qual scope f cd A outer s H E).xe (.ref x) { s1 with heap := h2 } := by
  have fr : s1.heap.FunFrames base (envOfC qual scope s.heap.objs.size f cd :: outer) := I.stack
  have free : ∀ b ∈ frs (envOfC qual scope s.heap.objs.size f cd :: outer), H1 b = none := I.stkFree
  have un : Un (frs outer) [] H H1 s.heap s1.heap := I.base
  have hok : HOk P w H1 s1.heap := I.hok
  have notL : ∀ b o, s.heap.get? b = some o → b ∉ frs outer → b ∉ frs (envOfC qual scope s.heap.objs.size f cd :: outer) := fun b o e n hm => by
    have hm' : b ∈ s.heap.objs.size :: frs outer := hm
    rcases List.mem_cons.mp hm' with z | z
    · exact absurd (Heap.lt_size e) (by rw [z]; exact Nat.lt_irrefl _)
    · exact n z
  refine wpAny_leaves_madeW (base := hideAll s1.heap (frs (envOfC qual scope s.heap.objs.size f cd :: outer))) (L := s.heap.objs.size) I.ok.frames rfl (fun b o z => of_hideAll _ z) (funFrames_hide fr fun env he b hb => List.mem_filterMap.mpr ⟨env, he, hb⟩) hx fun h3 t x1 x2 x3 x4 => ?_
  have stay : ∀ b o, s1.heap.get? b = some o → b ∉ frs (envOfC qual scope s.heap.objs.size f cd :: outer) → h3.get? b = some o := fun b o e n => x1.1 b o (hideAll_get _ e n)
  have up : s1.heap.UpToSlots h3 := (Heap.UpToSlots.of_keeps hx.keeps).trans x4
  have trk : ∀ b u, H1 b = some u → ∃ o, s1.heap.get? b = some o ∧ b ∉ frs (envOfC qual scope s.heap.objs.size f cd :: outer) := fun b u e => by
    obtain ⟨o, ho⟩ := hok.has e
    exact ⟨o, ho, fun hm => by rw [free b hm] at e; cases e⟩
  refine ⟨x, c, _, _, H1, rfl, I.os, I.bare, ⟨fun b o e n nf _ => ?_, fun b o e n hf _ => ?_, fun b o e n hb => un.free b o e n hb, fun b o e hb => ?_, un.tups, un.frzs, un.tbls⟩, fun b u e => ?_, x1, fun b o e n nf => ?_, fun b o e nf => ?_, fun b u e o ho => ?_, q⟩
  · exact stay b o (un.keep b o e n nf (by simp)) (notL b o e nf)
  · obtain ⟨sl, e1⟩ := un.slot b o e n hf (by simp)
    have hm : b ∈ frs (envOfC qual scope s.heap.objs.size f cd :: outer) := List.mem_cons_of_mem _ hf
    obtain ⟨_, o', ho', nd⟩ := fr.mem hm
    rw [e1] at ho'
    cases ho'
    obtain ⟨sl2, e2⟩ := up b _ e1 nd
    exact ⟨sl2, e2⟩
  · obtain ⟨o', e1⟩ := un.there b o e hb
    by_cases hm : b ∈ frs (envOfC qual scope s.heap.objs.size f cd :: outer)
    · obtain ⟨_, o2, ho2, nd⟩ := fr.mem hm
      obtain ⟨sl2, e2⟩ := up b _ ho2 nd
      exact ⟨_, e2⟩
    · exact ⟨o', stay b o' e1 hm⟩
  · refine (hok b u e).stay (fun b' u' hb' e' => ?_) (fun _ z => z) fun _ _ z => z
    have hn : b' ∉ frs (envOfC qual scope s.heap.objs.size f cd :: outer) := by
      rcases hb' with rfl | z
      · exact (trk _ _ e).choose_spec.2
      · exact (trk _ _ z).choose_spec.2
    exact stay b' u' e' hn
  · exact hideAll_get _ (un.keep b o e n nf (by simp)) (notL b o e nf)
  · obtain ⟨o', e1⟩ := un.there b o e (by simp)
    exact ⟨o', hideAll_get _ e1 (notL b o e nf)⟩
  · obtain ⟨o1, e1, hn⟩ := trk b u e
    have := stay b o1 e1 hn
    rw [ho] at this
    cases this
    exact hideAll_get _ e1 hn
end
end L2
end
section
set_option Elab.async false
set_option linter.all false
set_option maxRecDepth 100000
set_option maxHeartbeats 4000000
namespace L2
open PySem PySem.Spec PyProof.Rows PySem.W
abbrev veM : List Value := [.type "ValueError", .type "Exception", .type "BaseException", .type "object"]
def ExnOk (K : PySem.W.Frag) (C : Addr) : Prop := ∃ (nm q : Str) (N : Addr) (bs bm : List Value) (hdct : Bool) (sn : List Str) (sub : List Value) (ab : Bool) (col : Option Bool) (dd : Option Addr) (k0 k1 k2 k3 k5 : Option Value) (mN : Str → Option Value), mN "__init__" = none ∧
  ∀ h : Heap, K.In h → h.get? C = some (excClassObj nm q C N bs bm hdct sn sub ab col dd k0 k1 k2 k3 k5 "ValueError.__new__") ∧ h.Ns N mN ∧ OwnTail h veM bm
def tRaise (E : XK) (C : Addr) (t : TA) : TS := fun _ σ H => t σ H fun vs H1 => vs.length ≤ 1000 ∧ E (.ref C) none H1
section
variable {P : Program} {w : World} {K : PySem.W.Frag} {mg : Str → Option Value} {base : Heap} {N : List Str} {qual : Str} {scope : Scope} {f : Addr} {cd : Value} {A : Around} {outer : List Env} {s : Shared} {H : Hp} {E : XK}
theorem s_raiseC {x : Str} {C : Addr} {np cpos pos : Pos} {e : Expr} {es : List Expr} {t : TA} (hC : ExnOk K C) (hm : mg x = some (.ref C)) (ha : PA (cxOf (CX1 P w) P w K mg base N qual scope f cd A outer s H E) (e :: es) t)
    (hg : gB (cxOf (CX1 P w) P w K mg base N qual scope f cd A outer s H E) x = true := by kernel_rfl) (hdb : (x == ("__debug__" : Str)) = false := by kernel_rfl)
    (he : starEach (e :: es) (cxOf (CX1 P w) P w K mg base N qual scope f cd A outer s H E).env = (false, eval e (cxOf (CX1 P w) P w K mg base N qual scope f cd A outer s H E).env) :: starEach es (cxOf (CX1 P w) P w K mg base N qual scope f cd A outer s H E).env := by kernel_rfl)
    (hpl : (backTo cpos (starEach es (cxOf (CX1 P w) P w K mg base N qual scope f cd A outer s H E).env)).any (·.1) = false := by kernel_rfl) :
    PS (cxOf (CX1 P w) P w K mg base N qual scope f cd A outer s H E) (.Raise (some (.Call (.Name x np) (e :: es) [] cpos)) none pos) (tRaise E C t) := by
  obtain ⟨nm, q, Nn, bs, bm, hdct, sn, sub, ab, col, dd, k0, k1, k2, k3, k5, mN, hni, hK⟩ := hC
  generalize hXX : cxOf (CX1 P w) P w K mg base N qual scope f cd A outer s H E = X at *
  intro pins s1 σ H1 D I h
  have hbase : bm.contains (.type "BaseException") = true := (hK s1.heap (by have := I.kIn; rw [← hXX] at this; exact this)).2.2.hasType (by decide)
  have hpl2 : (backTo cpos (starEach (e :: es) X.env)).any (·.1) = false := by
    rw [he]
    show (false || (backTo cpos (starEach es X.env)).any (·.1)) = false
    rw [hpl]; rfl
  refine wpAny_Raise_call_subT (F := PySem.F.excBase_ValueError) (mN := mN) (nm := nm) (q := q) (C := C) (N := Nn) (bs := bs) (bm := bm) (hdct := hdct) (sn := sn) (sub := sub) (ab := ab) (col := col) (dd := dd) (k0 := k0) (k1 := k1) (k2 := k2) (k3 := k3) (k5 := k5) hbase (I.ok.hd (by rw [← hXX]; rfl)) hpl2 hni ?_
  refine ld_glob I (gl_of hg) (by rw [← hXX]; exact hm) ⟨rfl, ?_⟩ hdb
  have hx := ha cpos pins s1 σ H1 _ I h
  rw [he] at hx ⊢
  refine PySem.Calls.evalArgs_plain (thn hx fun us s2 z => ?_)
  obtain ⟨vs, H2, I2, r, q2⟩ := z
  have kin : K.In s2.heap := by have := I2.kIn; rw [← hXX] at this; exact this
  obtain ⟨c1, c2, c3⟩ := hK s2.heap kin
  refine ⟨rfl, ?_, c1, c2, c3, fun h' x' mx => ?_⟩
  · show us.length ≤ sizeLine
    rw [← r.length]; exact le_line q2.1
  · subst hXX
    exact esc_of I2 mx q2.2
def CanX (P : Program) (w : World) (K : PySem.W.Frag) (mg : Str → Option Value) (base : Heap) (x : Str) (k : Nat) (ps : List Str) (sp : Sp) : Prop :=
  ∃ f fd, FnOk P w K mg base (CX1 P w) k f fd ps sp ∧ mg x = some (.ref f) ∧ PySem.W.keepIn K (.ref f) = true ∧ Binds K fd ps []
theorem canX_fn {x : Str} {st : Stmt} {N ps : List Str} {k : Nat} {sp : Sp} (D : FnX K mg x st ps) (S : FnScope N ps (defScope st)) (len : ∀ vs H Q E, sp vs H Q E → vs.length = ps.length)
    (hbody : ∀ (f : Addr) (cdv : Value) (A : Around) (outer : List Env) (s : Shared) (H : Hp) (vs : List V) (Q : VK) (E : XK), Room k (A.deeper (envOfC x (defScope st) s.heap.objs.size f cdv)) → sp vs H Q E →
      ∃ t, PSs (cxOf (CX1 P w) P w K mg base N x (defScope st) f cdv A outer s H E) (defBody st) t ∧ t { nx := fun _ H' => Q .non H', rt := Q } (start N vs) H) : CanX P w K mg base x (k + 1) ps sp := by
  obtain ⟨f, fd, F, hm, hb⟩ := D
  obtain ⟨oc, od, kV, doc, pm, an, cdv, ct, osl, rfl, lk, hcd⟩ := F.ex
  exact ⟨f, _, fn_of lk hcd S len fun A outer s H vs Q E hr hsp => hbody f cdv A outer s H vs Q E hr hsp, hm, F.kp, hb⟩
end
def PB (X : Cx) (st : List Stmt) (t : XK → TS) : Prop :=
  ∀ (pins : List (Addr × Obj)) (s : Shared) (σ : St) (H : Hp) (D : Ends) (E : XK), Inv X pins σ H s → t E D σ H →
    wpAny (model X.prog X.w) X.A (execs st X.env) (SP X pins D) (fun e s' => ∃ H1 s1, Inv X pins σ H1 s1 ∧ CX1 X.prog X.w X.stack H1 s1 E e s') s
section
variable {X : Cx} {x : Str} {p pos epos : Pos} {e : Expr} {es : List Expr} {t : TA} {k : Nat} {ps : List Str} {sp : Sp}
def tCanX (sp : Sp) (t : TA) : XK → TS := fun E D σ H => t σ H fun vs H1 => sp vs H1 (fun _ H2 => D.nx σ H2) E
theorem pb_call (x : Str) {P' : Program} {w' : World} {K' : PySem.W.Frag} {mg' : Str → Option Value} {base' : Heap} (C : CanX P' w' K' mg' base' x k ps sp) (hX : X.prog = P' ∧ X.w = w' ∧ X.K = K' ∧ X.mg = mg' ∧ X.base = base') (hr : Room k X.A) (ha : PA X.nox (e :: es) t)
    (hg : gB X x = true := by kernel_rfl) (hdb : (x == ("__debug__" : Str)) = false := by kernel_rfl) (he : starEach (e :: es) X.env = (false, eval e X.env) :: starEach es X.env := by kernel_rfl) (hpl : (backTo pos (starEach es X.env)).any (·.1) = false := by kernel_rfl)
    (hs : swapsWith (.Call (.Name x p) (e :: es) [] pos) none epos.line X.env = pure false := by kernel_rfl) : PB X [.Expr (.Call (.Name x p) (e :: es) [] pos) epos] (tCanX sp t) := by
  obtain ⟨rfl, rfl, rfl, rfl, rfl⟩ := hX
  obtain ⟨f, fd, F, hm, hk, hb⟩ := C
  intro pins s σ H D E I h
  refine wpAny_execs_cons (wpAny_Expr_any ?_ I.quiet hs)
  refine wpAny_Call_Name_kw (ld_glob I (gl_of hg) hm ?_ hdb)
  refine PySem.W.callWith_K (h₀ := X.base) I.ok.mod.kin hk (wpAny_mono (ha pos pins s σ H _ (I.wish _) h) (fun us s1 z => ?_) fun _ _ z => z.elim) he hpl
  obtain ⟨vs, H1, I1, r, q⟩ := z
  have I1 := I1.unwish
  refine ⟨I1.kIn, ?_⟩
  have hl : us.length = ps.length := by rw [← r.length]; exact F.len _ _ _ _ q
  have hbs : BindsTo s1 fd ⟨us, []⟩ (ps.zip us) := by have := hb s1 us I1.kIn (by rw [List.append_nil]; exact hl); rw [List.append_nil] at this; exact this
  refine wpAny_call (codeAny_mono (F.run X.A X.stack s1 H1 ⟨us, []⟩ us vs _ E hr I1.env0 hbs r q) fun rr s' hq => ?_)
  cases rr with
  | error e => exact ⟨H1, s1, I1, hq⟩
  | ok fl =>
    cases fl with
    | ret u =>
      obtain ⟨v, H2, I2, _, q2⟩ := I1.after hq
      exact wpAny_execs_nil ⟨σ, H2, I2, q2⟩
    | next => exact False.elim hq
    | brk => exact False.elim hq
    | cont => exact False.elim hq
theorem pb_if {c : Expr} {a b : List Stmt} {tc : TT} {ta tb : XK → TS} (hc : PT X.nox c tc) (ha : PB X a ta) (hb : PB X b tb) : PB X [.If c a b pos] (fun E => tIfS tc (ta E) (tb E)) := by
  intro pins s σ H D E I h
  refine wpAny_execs_cons (wpAny_If (wpAny_mono (hc pins s σ H _ (I.wish _) h) (fun d s1 z => ?_) fun _ _ z => z.elim))
  obtain ⟨H1, I1, q1⟩ := z
  have I1 := I1.unwish
  have fin : ∀ fl s2, SP X pins D fl s2 → (match fl with | .next => wpAny (model X.prog X.w) X.A (execs [] X.env) (SP X pins D) (fun e s' => ∃ H1 s1, Inv X pins σ H1 s1 ∧ CX1 X.prog X.w X.stack H1 s1 E e s') s2 | f => SP X pins D f s2) := fun fl s2 z => by
    cases fl with
    | next => exact wpAny_execs_nil z
    | _ => exact z
  cases d with
  | true => exact wpAny_mono (ha pins s1 σ H1 D E I1 q1) fin fun _ _ z => z
  | false => exact wpAny_mono (hb pins s1 σ H1 D E I1 q1) fin fun _ _ z => z
end
end L2
end
section
set_option Elab.async false
set_option linter.all false
set_option maxRecDepth 100000
set_option maxHeartbeats 4000000
namespace L2
open PySem PySem.Spec PyProof.Rows PySem.W
abbrev Cx.held (X : Cx) (x : Addr) : Cx := { X with A := X.A.mark (some (.ref x)), calm := false, xe := fun _ _ => False }
section
variable {X : Cx} {pins : List (Addr × Obj)} {σ : St} {H H' : Hp} {s s' : Shared}
theorem Cx.Ok.held {x : Addr} (ok : X.Ok) : (X.held x).Ok :=
  ⟨ok.mod, ok.kind, ok.glob, ok.blt, ok.above, ok.inj, ok.has, ok.cab, fun z => Bool.noConfusion z, ok.frames, ok.stk, ok.exf, ok.bs, ok.bsz, ok.noex, ok.exfs, ok.funs, ok.frf⟩
theorem Inv.held {x : Addr} (I : Inv X pins σ H s) : Inv (X.held x) pins σ H s := ⟨I.ok.held, I.os, I.bare, I.base, I.loc, I.cell, I.free, I.freeC, I.pin, I.hok, I.len⟩
theorem Inv.unheld {x : Addr} (ok : X.Ok) (I : Inv (X.held x) pins σ H s) : Inv X pins σ H s := ⟨ok, I.os, I.bare, I.base, I.loc, I.cell, I.free, I.freeC, I.pin, I.hok, I.len⟩
theorem land {x : Addr} {c a0 : Value} {B h6 : Heap} (I : Inv X pins σ H s) (os : s'.os = s.os) (bare : AllBare s'.gens) (un : Un (frs X.stack) [] H H' s.heap s'.heap) (hok : HOk X.prog X.w H' s'.heap) (fl : Heap.FlyingW B X.stack x c a0 s'.heap)
    (k1 : ∀ b o, s.heap.get? b = some o → H b = none → b ∉ frs X.stack → B.get? b = some o) (k3 : ∀ b o, s.heap.get? b = some o → b ∉ frs X.stack → ∃ o', B.get? b = some o') (k2 : ∀ b u, H' b = some u → ∀ o, s'.heap.get? b = some o → B.get? b = some o)
    (st : B.StaysIn h6) (up : s'.heap.UpToSlots h6) {ox : Obj} (hx : h6.get? x = some ox) (hc : ox.cls = c) : Inv X pins σ (upd H' x (ExcO x c)) { s' with heap := h6 } := by
  obtain ⟨f1, f2, f3, f4⟩ := fl
  have xH : H' x = none := by
    cases q : H' x with
    | none => rfl
    | some u =>
      obtain ⟨o, ho⟩ := hok.has q
      rw [k2 x u q o ho] at f2
      cases f2
  have nofr : x ∉ frs X.stack := fun hm => by
    obtain ⟨_, o, ho, nd⟩ := f3.mem hm
    obtain ⟨oe, vs, T, oT, ts, he, _, hd, _⟩ := f4
    rw [he] at ho
    cases ho
    exact nd vs hd
  have old : ∀ b o, s.heap.get? b = some o → b ≠ x := fun b o e z => by
    by_cases hm : b ∈ frs X.stack
    · exact nofr (z ▸ hm)
    · obtain ⟨o', q⟩ := k3 b o e hm
      rw [z, f2] at q
      cases q
  have trk : ∀ b u, H b = some u → b ≠ x := fun b u e => by
    obtain ⟨o, ho⟩ := I.hok.has e
    exact old b o ho
  have un' : Un (frs X.stack) [] H (upd H' x (ExcO x c)) s.heap h6 := by
    refine ⟨fun b o e n nf _ => st b o (k1 b o e n nf), fun b o e n hf hb => ?_, fun b o e n hb => ?_, fun b o e hb => ?_, fun b xs e => ?_, fun b o u e => ?_, fun b ps e => ?_⟩
    · obtain ⟨sl, e1⟩ := un.slot b o e n hf hb
      obtain ⟨_, o', ho', nd⟩ := f3.mem hf
      rw [e1] at ho'
      cases ho'
      obtain ⟨sl2, e2⟩ := up b _ e1 nd
      exact ⟨sl2, e2⟩
    · rw [upd_ne (old b o e)]
      exact un.free b o e n hb
    · by_cases hm : b ∈ frs X.stack
      · obtain ⟨_, o2, ho2, nd⟩ := f3.mem hm
        obtain ⟨sl2, e2⟩ := up b _ ho2 nd
        exact ⟨_, e2⟩
      · obtain ⟨o', q⟩ := k3 b o e hm
        exact ⟨o', st b o' q⟩
    · rw [upd_ne (trk b _ e)]; exact un.tups b xs e
    · rw [upd_ne (trk b _ e)]; exact un.frzs b o u e
    · rw [upd_ne (trk b _ e)]; exact un.tbls b ps e
  have hok' : HOk X.prog X.w (upd H' x (ExcO x c)) h6 := fun b u e => by
    by_cases hb : b = x
    · subst hb
      rw [upd_same] at e
      cases e
      exact ExcO.mk hx hc
    · rw [upd_ne hb] at e
      refine (hok b u e).stay (fun b' u' hb' e' => ?_) (fun b' z => by rw [upd_ne (ne_of_none z xH)]; exact z) fun b' xs z => by rw [upd_ne (ne_of_none z xH)]; exact z
      rcases hb' with rfl | z
      · exact st b' u' (k2 b' u e u' e')
      · exact st b' u' (k2 b' _ z u' e')
  exact I.call' (s' := { s' with heap := h6 }) (ch := []) os un' hok' bare (fun b z => absurd z (by simp))
theorem name_goes {M : Model} {A : Around} {E : Value → Shared → Prop} {i : Nat} {x : Str} {pos : Pos} {Q : Unit → Shared → Prop} (I : Inv X pins σ H s) (hN : X.N.Nodup) (hi : X.N[i]? = some x) (hk : X.env.scope.names.lookup x = some .local)
    (h : ∀ s', Inv X pins (σ.set i none) H s' → Q () s') : wpAny M A (do bindName X.env x .none; unbindBehindTheSuite X.env x pos) Q E s := by
  obtain ⟨m, hn, hl⟩ := id I.loc
  have hcls : (X.env.scope.kind == .class || (X.env.scope.kind == .module && X.env.locals != X.env.globals)) = false := by rw [I.ok.kind]; rfl
  have cne := I.cne
  refine wpAny_nameGoes_keeps hk hn hcls fun h' v hn' hs => ?_
  obtain ⟨oL, _, _, hoL, _⟩ := id hn
  refine h _ ⟨I.ok, I.os, I.bare, ⟨fun b o e n hb hx => ?_, fun b o e n hb hx => ?_, I.base.free, fun b o e hx => ?_, I.base.tups, I.base.frzs, I.base.tbls⟩, ⟨_, hn', fun j y v' e1 e2 e3 => ?_⟩, fun y c e => ?_, I.free, I.freeC, fun p hp => ?_, fun b ob e => ?_, by simpa using I.len⟩
  · exact (hs.2 b (Nat.ne_of_lt (Nat.lt_of_lt_of_le (Heap.lt_size e) I.ok.above))).trans (I.base.keep b o e n hb hx)
  · obtain ⟨sl, e1⟩ := I.base.slot b o e n hb hx
    exact ⟨sl, (hs.2 b (Nat.ne_of_lt (Nat.lt_of_lt_of_le (Heap.lt_size e) I.ok.above))).trans e1⟩
  · obtain ⟨o', e1⟩ := I.base.there b o e hx
    exact ⟨o', (hs.2 b (Nat.ne_of_lt (Nat.lt_of_lt_of_le (Heap.lt_size e) I.ok.above))).trans e1⟩
  · by_cases hj : j = i
    · subst hj
      have hiσ : j < σ.length := by rw [I.len]; exact (List.getElem?_eq_some_iff.mp hi).1
      rw [List.getElem?_set_self hiσ] at e2
      cases e2
    · rw [List.getElem?_set_ne (Ne.symm hj)] at e2
      obtain ⟨u', r', q⟩ := hl j y v' e1 e2 e3
      refine ⟨u', r', ?_⟩
      rcases q with ⟨k, e⟩ | ⟨k, c, e, z⟩
      · refine .inl ⟨k, ?_⟩
        have : y ≠ x := fun e => hj (nodup_ix hN e1 (e ▸ hi))
        simp [this, e]
      · exact .inr ⟨k, c, e, z.sameBut hs (cne y c e)⟩
  · obtain ⟨w', z⟩ := I.cell y c e
    exact ⟨w', z.sameBut hs (cne y c e)⟩
  · obtain ⟨e, n, ne, nf, d⟩ := I.pin p hp
    exact ⟨(hs.2 p.1 ne).trans e, n, ne, nf, d⟩
  · refine (I.hok b ob e).stay (fun c w' hc q => (hs.2 c ?_).trans q) (fun _ q => q) fun _ _ q => q
    rintro rfl
    rcases hc with rfl | hc
    · rw [I.free] at e; cases e
    · rw [I.free] at hc; cases hc
end
section
variable {X : Cx} {np hpos pos : Pos} {body suite : List Stmt} {b₀ : Stmt} {tb : XK → TS} {ts : TS}
def tTry (K : PySem.W.Frag) (B : Addr) (i : Nat) (tb : XK → TS) (ts : TS) : TS := fun D σ H => tb (fun c _ H' => exmOne K c (.ref B) = some true ∧ ∀ x, H' x = none → ts { nx := fun σ2 H2 => D.nx (σ2.set i none) H2, rt := fun _ _ => False } (σ.set i (some (.ref x))) (upd H' x (ExcO x c))) D σ H
theorem s_try (x n : Str) (i : Nat) {B : Addr} {mg' : Str → Option Value} (hm : mg' x = some (.ref B)) (hX : X.mg = mg') (hN : X.N.Nodup) (hb : PB X body tb) (hs : ∀ a, PSs (X.held a) (b₀ :: suite) ts)
    (hst : X.stack = X.env :: X.outer ∧ X.env.frame = some X.env.locals := by exact ⟨rfl, rfl⟩) (hi : X.N[i]? = some n := by with_unfolding_all rfl) (hk : (X.env.scope.names.lookup n == some .local) = true := by kernel_rfl) (hg : gB X x = true := by kernel_rfl) (hdb : (x == ("__debug__" : Str)) = false := by kernel_rfl) :
    PS X (.Try body [.ExceptHandler (some (.Name x np)) (some n) (b₀ :: suite) hpos] [] [] pos) (tTry X.K B i tb ts) := by
  have hk : X.env.scope.names.lookup n = some .local := eq_of_beq hk
  intro pins s σ H D I h
  refine wpAny_Try_except (wpAny_mono (hb pins s σ H D _ I h) (fun fl s1 z => ?_) fun e s1 z => ?_)
  · cases fl with
    | next => exact wpAny_execs_nil z
    | _ => exact z
  · obtain ⟨H1, s1', I1, y, c, a0, Bs, H2, rfl, os, bare, un, hok, fl, k1, k3, k2, hx, q⟩ := z
    have frm : X.A.frames = some (X.env :: X.outer) := by rw [I1.ok.frames, hst.1]
    have fl' : Heap.FlyingW Bs (X.env :: X.outer) y c a0 s1.heap := by rw [← hst.1]; exact fl
    have xH : H2 y = none := by
      cases z : H2 y with
      | none => rfl
      | some u =>
        obtain ⟨o, ho⟩ := hok.has z
        have := fl.2.1
        rw [k2 y u z o ho] at this
        cases this
    refine wpAny_looks_onW frm hst.2 fl' fun h4 held4 up4 => ?_
    refine wpAny_landsW held4 fun h5 fl5 up5 => ?_
    obtain ⟨o5, hy5, hc5⟩ := fl5.there
    have I5 := land I1 os bare un hok fl k1 k3 k2 fl5.1 (up4.trans up5) hy5 hc5
    refine wpAny_handleBy_cons (codeAny_handlers_test (wpAny_noRaise (ld_glob (I5.held (x := y)) (gl_of (X := X.held y) hg) (by show X.mg x = _; rw [hX]; exact hm) ?_ hdb))) (by intro z; cases z)
    refine wpAny_noRaise ((exm_one (I5.kIn) (by have := (Looks.ld (part := none) hy5).andThen (f := fun o => pure o.cls) (M := model X.prog X.w) Looks.now; rw [hc5] at this; exact this) hx).here ?_)
    refine codeAny_handlers_suite_as ?_
    refine lands_againW fl5 fun h6 fl6 up6 => ?_
    obtain ⟨o6, hy6, hc6⟩ := fl6.there
    have I6 := land I1 os bare un hok fl k1 k3 k2 fl6.1 ((up4.trans up5).trans up6) hy6 hc6
    refine store_ok (X := X.held y) (v := .ref y) I6.held hN hi (.inl hk) rfl (fun s7 I7 => ?_) (.inr hk)
    refine wpAny_mono (hs y pins s7 _ _ _ I7 (q y xH)) (fun fl8 s8 z8 => ?_) fun _ _ z8 => z8.elim
    cases fl8 with
    | next =>
      obtain ⟨σ8, H8, I8, q8⟩ := z8
      exact name_goes (I8.unheld I1.ok) hN hi hk fun s9 I9 => ⟨_, H8, I9, q8⟩
    | brk => obtain ⟨_, _, _, q8⟩ := z8; exact q8.elim
    | cont => obtain ⟨_, _, _, q8⟩ := z8; exact q8.elim
    | ret u => obtain ⟨_, _, _, _, _, q8⟩ := z8; exact q8.elim
end
end L2
end
section
set_option Elab.async false
set_option linter.all false
set_option maxRecDepth 100000
set_option maxHeartbeats 4000000
namespace PySem.W
open PySem PySem.Spec PySem.Calls PyProof.Rows Builtin Builtin.ObjectAttr Builtin.Getset_descriptor
section
variable {prog : Program} {w : World} {A : Around} {E : Value → Shared → Prop} {s : Shared} {K : Frag} {x C : Addr}
structure ExCls (K : Frag) (C : Addr) : Prop where
  ga : findIn K (.ref C) "__getattribute__" = some (some (.builtin "BaseException.__getattribute__"))
  gh : findIn K (.ref C) "__getattr__" = some none
  be : mroIn K C (.type "BaseException") = some true
  cls : (clsIn K C).isSome = true
  at_ : findIn K (.ref C) "__class__" = some (some (.builtin "object.__class__"))
  sp : specialIn K (.builtin "object.__class__") "__get__" = some (some (.builtin "getset_descriptor.__get__"))
  tk : takesIn K (.builtin "object.__class__") = some true
  ob : mroIn K C (.type "object") = some true
theorem exc_find {M : Model} {h : Heap} (Z : ExCls K C) (X : K.In h) : Looks M h (find (.ref x) (.ref C) "__class__") (.bind (.builtin "getset_descriptor.__get__") (.builtin "object.__class__")) :=
  (looks_findIn X Z.at_).andThen (Looks.andThen (looks_specialIn X Z.sp) (Looks.andThen (a := some (Value.builtin "getset_descriptor.__get__", Value.builtin "object.__class__")) ((looks_takesIn X Z.tk).andThen .now) (Looks.tag .now)))
theorem exc_attr {Q : Option Value → Shared → Prop} (Z : ExCls K C) (X : K.In s.heap) (T : ∀ M, Looks M s.heap (typeOf (.ref x)) (.ref C)) (q : Q (some (.ref C)) { s with toks := s.toks + 1 }) : wpAny (model prog w) A (getAttr? (.ref x) "__class__") Q E s := by
  obtain ⟨hh, gg, dd, tt, oo⟩ := s
  have t0 := T (model prog w)
  have t1 := looks_findIn (M := model prog w) X Z.ga
  have t2 := exc_find (M := model prog w) (x := x) Z X
  have t3 := looks_findIn (M := model prog w) X Z.gh
  have t4 := looks_mroIn (M := model prog w) X Z.ob
  have t5 := looks_mroIn (M := model prog w) X Z.be
  have hx2 : (onTheHeap (Value.ref C) && Value.builtin "BaseException.__getattribute__" == Value.builtin "object.__getattribute__") = false := by
    have : (Value.builtin "BaseException.__getattribute__" == Value.builtin "object.__getattribute__") = false := by decide +kernel
    rw [this, Bool.and_false]
  have hk : builtinKind "BaseException.__getattribute__" = some .slot := by decide +kernel
  have hsplit : splitId "BaseException.__getattribute__" = some ("BaseException", "__getattribute__") := by decide +kernel
  unfold getAttr? getAttrBy? getAttrBy
  refine wpAny_bind (wpAny_mkText (wpAny_bind (wpAny_attempt (wpAny_holding (wpAny_bind (t0.at (wpAny_bind (t1.at ?_))))))))
  show wpAny _ _ (if (onTheHeap (Value.ref C) && Value.builtin "BaseException.__getattribute__" == Value.builtin "object.__getattribute__") = true then _ else getAttrByItsOwn _ _ _ _ _ _) _ _ _
  rw [hx2, if_neg (by decide)]
  unfold getAttrByItsOwn
  refine wpAny_bind ?_
  show wpAny _ _ (typeLookup (.ref C) "__getattr__") _ _ _
  refine t3.at (wpAny_bind (wpAny_attempt (wpAny_holding ?_)))
  show wpAny _ _ (boundAndCalled _ _ _) _ _ _
  unfold boundAndCalled
  rw [F.excAttr_ValueError.ga.bind (.ref x)]
  refine wpAny_bind (wpAny_pure ?_)
  show wpAny _ _ (call (.builtin "BaseException.__getattribute__") [.ref x, _]) _ _ _
  refine wpAny_call (codeAny_call_builtin F.excAttr_ValueError.ga.plain F.entry_bexc_ga ?_)
  have ha := F.args_bexc_ga (.ref x) (.str "__class__" tt)
  simp only [checkBuiltinCall, hk, hsplit]
  unfold isInstance
  repeat ((fail_if_success with_reducible refine wpAny_call ?_); lk)
  refine wpAny_call ?_
  refine codeAny_call_builtin KF.slot_gs.plain KF.entry_gs (KF.slot_gs.check _ _ _ _ _ _ _ _ KF.type_class (KF.args_gs _ _ _) ?_)
  unfold Builtin.«getset_descriptor.__get__» descrGet
  rw [dga_obj]
  refine wpAny_bind (wpAny_pure ?_)
  unfold descrGetter descrCheckInstance descrNameAndClass isInstance
  simp only [KF.owner_class]
  repeat lk
  refine ⟨Code.quiet_builtin _ (by decide +kernel), codeAny_builtin KF.entry_class ?_⟩
  unfold Builtin.«object.__class__» shownTypeOf
  repeat lk
  exact q
theorem kitx_exc (Z : ExCls K C) : KitX K (.ref x) (.ref C) (fun h => ∃ o, h.get? x = some o ∧ o.cls = .ref C) where
  ty := fun M h _ p => by
    obtain ⟨o, e, c⟩ := p
    exact c ▸ (Looks.ld e).andThen .now
  it := fun _ _ X _ => by
    obtain ⟨cd, hc⟩ := Option.isSome_iff_exists.mp Z.cls
    unfold clsIn at hc
    split at hc
    · rename_i ho
      intro A' Q' E' s' k q
      unfold isType loadHead
      exact wpAny_bind (wpAny_loadPart (k _ _ (X _ _ ho)) (wpAny_pure q))
    · cases hc
  ne := fun h tp dd its n sl X htp => by
    refine Bool.eq_false_iff.mpr fun q => ?_
    obtain rfl : C = tp := Value.ref.inj (beq_iff_eq.mp q)
    obtain ⟨cd, hc⟩ := Option.isSome_iff_exists.mp Z.cls
    unfold clsIn at hc
    split at hc
    · rename_i ho
      have z := (X _ _ ho).symm.trans htp
      cases z
    · cases hc
  ca := fun X p k => exc_attr Z X (fun M => by obtain ⟨o, e, c⟩ := p; exact c ▸ (Looks.ld e).andThen .now) k
end
end PySem.W
namespace L2
open PySem PySem.Spec PyProof.Rows PySem.W
section
variable {X : Cx} {p pos : Pos} {e : Expr} {es : List Expr} {t : TA}
def rIsX (K : PySem.W.Frag) : List V → Hp → VK → Prop := fun vs H Q => match vs with
  | [.ref x, .ref D] => ∃ C b, ExCls K C ∧ H x = some (ExcO x (.ref C)) ∧ kitOne K (.ref C) (.ref D) = some b ∧ Q (.bl b) H
  | [.ref x, .ty T] => ∃ C b, ExCls K C ∧ H x = some (ExcO x (.ref C)) ∧ kitOne K (.ref C) (.type T) = some b ∧ Q (.bl b) H
  | _ => False
theorem call_isX : CallR X (.builtin "isinstance") (rIsX X.K) := by
  intro pins s σ H vs us Q I r h
  unfold rIsX at h
  split at h
  · rename_i x D
    obtain ⟨C, b, Z, hx, k, q⟩ := h
    obtain ⟨u, w', rfl, r1, r2⟩ := vals2 r
    cases r1
    cases r2
    exact kia_one (kitx_exc Z) I.kIn (I.hok x _ hx).1 k (by intro z; cases z) fun tk => ⟨.bl b, H, I.tok _, rfl, q⟩
  · rename_i x T
    obtain ⟨C, b, Z, hx, k, q⟩ := h
    obtain ⟨u, w', rfl, r1, r2⟩ := vals2 r
    cases r1
    obtain rfl : w' = .type T := r2
    exact kia_one (kitx_exc Z) I.kIn (I.hok x _ hx).1 k (by intro z; cases z) fun tk => ⟨.bl b, H, I.tok _, rfl, q⟩
  · exact h.elim
theorem fn_isX {mg' : Str → Option Value} (hm : mg' "isinstance" = none) (hX : X.mg = mg') (ha : PA X (e :: es) t) (hg : gB X "isinstance" = true := by kernel_rfl) (he : starEach (e :: es) X.env = (false, eval e X.env) :: starEach es X.env := by kernel_rfl) (hpl : (backTo pos (starEach es X.env)).any (·.1) = false := by kernel_rfl) :
    PE X (.Call (.Name "isinstance" p) (e :: es) [] pos) (tCB (rIsX X.K) t) := pe_callB call_isX (gl_of hg) (by rw [hX]; exact hm) PyProof.Rows.boot_isinstance ha (he := he) (hpl := hpl)
theorem e_clsX (x : Str) {a : Addr} {mg' : Str → Option Value} (hm : mg' x = some (.ref a)) (hX : X.mg = mg') (hg : gB X x = true := by kernel_rfl) (hd : (x == ("__debug__" : Str)) = false := by kernel_rfl) : PE X (.Name x pos) (tC (.ref a)) :=
  pe_glob (gl_of hg) (by rw [hX]; exact hm) rfl hd
theorem e_tyVE {mg' : Str → Option Value} (hm : mg' "ValueError" = none) (hX : X.mg = mg') (hg : gB X "ValueError" = true := by kernel_rfl) : PE X (.Name "ValueError" pos) (tC (.ty "ValueError")) :=
  pe_bltn (gl_of hg) (by rw [hX]; exact hm) (u := .type "ValueError") (by first | rfl | kernel_rfl | exact PyProof.Rows.Boot.«ValueError») rfl
end
end L2
end
section
set_option Elab.async false
set_option linter.all false
set_option maxRecDepth 100000
set_option maxHeartbeats 4000000
namespace L2
open PySem PySem.Spec PyProof.Rows
section
variable {X : Cx}
def rEqW : R2 := fun x y H Q => rEqT x y H Q ∨ ∃ p, x = .ref p ∧ y = .ref p ∧ H p = some (.dK [(Sum.inl 0, .int 1)]) ∧ Q (.bl true) H
theorem op_eqW (hu : X.A.units + 64 < cLine) : OpR X (compareOp .Eq) rEqW := by
  intro pins s σ H x y v u Q I rx ry h
  rcases h with h | ⟨p, rfl, rfl, hp, q⟩
  · exact op_eqT hu pins s σ H x y v u Q I rx ry h
  · cases rx
    cases ry
    obtain ⟨_, hs, vs, kv, dd⟩ := I.hok _ _ hp
    have ep : EP X pins σ Q (.bool true) s := ⟨.bl true, H, I, rfl, q⟩
    cases kv with
    | cons r1 r2 =>
      cases r2
      refine PySem.W.keq_eq (r := true && true) hs hs dd dd (by omega) (fun _ => .hit ?_ (SeqAt.EqAt.same _) .nil) ep
      simp [valueAt]
end
end L2
end
section
set_option Elab.async false
set_option linter.all false
set_option maxRecDepth 100000
set_option maxHeartbeats 4000000
namespace K03
open PySem L2
def top (i : Nat) : Stmt := PySem.Challenge.pw_ownbeat_k03_bits_and_letters.main.body.getD i (.Pass ⟨0, 0, 0, 0⟩)
end K03
end
section
set_option maxRecDepth 100000
open PySem L2
local macro_rules | `(tactic| walk_at "T.n") => `(tactic| fail "no names")
local macro_rules | `(tactic| walk_at "T.a") => `(tactic| first | (with_reducible exact pa_nil) | ((with_reducible refine' a_cons ?a1 ?a2); (case a1 => walk_at "T.e"); (case a2 => walk_at "T.a")))
local macro_rules | `(tactic| walk_at "T.o") => `(tactic| first | (with_reducible exact po_none) | ((with_reducible refine' po_someU ?a1); (case a1 => walk_at "T.e")))
local macro_rules | `(tactic| walk_at "T.cmp") => `(tactic| first | (with_reducible exact op_inL) | (with_reducible exact op_notInL) | (with_reducible exact op_isNotU) | (with_reducible exact op_lt.n0) | (with_reducible exact op_le.n0) | (with_reducible exact op_gt.n0) | (with_reducible exact op_ge.n0) | ((with_reducible refine' op_eqU ?a1); (case a1 => exact Room.units (by assumption))) | ((with_reducible refine' op_neU ?a1); (case a1 => exact Room.units (by assumption))))
local macro_rules | `(tactic| walk_at "T.op") => `(tactic| first | (with_reducible exact op_addU) | (with_reducible exact op_sub.n0) | (with_reducible exact op_mulU) | (with_reducible exact op_mod.n) | (with_reducible exact op_fdiv.n) | (with_reducible exact op_pow.n) | (with_reducible exact op_shl.n) | (with_reducible exact op_shr.n) | (with_reducible exact op_and.n0) | (with_reducible exact op_xor.n0) | (with_reducible exact op_or.n0))
local macro_rules | `(tactic| walk_at "T.ty") => `(tactic| first | ((with_reducible refine' ty_int ?a1 ?a9); (case a1 => with_reducible assumption); (case a9 => rfl)) | ((with_reducible refine' ty_bool ?a1 ?a9); (case a1 => with_reducible assumption); (case a9 => rfl)) | ((with_reducible refine' ty_list ?a1 ?a9); (case a1 => with_reducible assumption); (case a9 => rfl)) )
local macro_rules | `(tactic| walk_at "T.f") => `(tactic| ((with_reducible refine' fn_can _ ?a0 ?a9 ?a1 ?a2); (case a0 => with_reducible assumption); (case a9 => exact ⟨rfl, rfl, rfl, rfl, rfl⟩); (case a1 => exact Room.mono (by assumption) (by first | decide | exact Nat.le_refl _)); (case a2 => walk_at "T.a")))
local macro_rules | `(tactic| walk_at "T.b") => `(tactic| first | walk_at "T.f" | ((with_reducible refine' fn_len ?a0 ?a9 ?a1); (case a0 => with_reducible assumption); (case a9 => rfl); (case a1 => walk_at "T.a")) | ((with_reducible refine' fn_isinst ?a0 ?a9 ?a1); (case a0 => with_reducible assumption); (case a9 => rfl); (case a1 => walk_at "T.a")) | ((with_reducible refine' fn_all ?a0 ?a9 ?a1); (case a0 => with_reducible assumption); (case a9 => rfl); (case a1 => walk_at "T.a")) | ((with_reducible refine' fn_max ?a0 ?a9 ?a1); (case a0 => with_reducible assumption); (case a9 => rfl); (case a1 => walk_at "T.a")) | ((with_reducible refine' fn_min ?a0 ?a9 ?a1); (case a0 => with_reducible assumption); (case a9 => rfl); (case a1 => walk_at "T.a")) | ((with_reducible refine' fn_int ?a0 ?a9 ?a1); (case a0 => with_reducible assumption); (case a9 => rfl); (case a1 => walk_at "T.a")) | ((with_reducible refine' fn_list ?a0 ?a9 ?a1); (case a0 => with_reducible assumption); (case a9 => rfl); (case a1 => walk_at "T.a")) | ((with_reducible refine' fn_sum ?a0 ?a9 ?a1); (case a0 => with_reducible assumption); (case a9 => rfl); (case a1 => walk_at "T.a")) )
local macro_rules | `(tactic| walk_at "T.m") => `(tactic| first | ((with_reducible refine' m_append ?a1 ?a2); (case a1 => walk_at "T.e"); (case a2 => walk_at "T.a")) | ((with_reducible refine' m_extend ?a1 ?a2); (case a1 => walk_at "T.e"); (case a2 => walk_at "T.a")) | ((with_reducible refine' m_insert ?a1 ?a2); (case a1 => walk_at "T.e"); (case a2 => walk_at "T.a")) | ((with_reducible refine' m_bits ?a1); (case a1 => walk_at "T.e")))
local macro_rules | `(tactic| walk_at "T.c") => `(tactic| fail "no comprehension's names")
local macro_rules | `(tactic| walk_at "T.e") => `(tactic| first | (with_reducible exact pe_int) | (with_reducible exact pe_str) | (with_reducible exact pe_bl) | (with_reducible exact pe_non) | walk_at "T.n" | walk_at "T.ty" | ((with_reducible refine' pe_op ?a1 ?a2 ?a3); (case a1 => walk_at "T.op"); (case a2 => walk_at "T.e"); (case a3 => walk_at "T.e")) | ((with_reducible refine' e_cmp ?a1 ?a2 ?a3); (case a1 => walk_at "T.cmp"); (case a2 => walk_at "T.e"); (case a3 => walk_at "T.e")) | ((with_reducible refine' e_chain ?a1 ?a2 ?a3 ?a4 ?a5); (case a1 => walk_at "T.cmp"); (case a2 => walk_at "T.cmp"); (case a3 => walk_at "T.e"); (case a4 => walk_at "T.e"); (case a5 => walk_at "T.e")) | ((with_reducible refine' pe_slice slU ?a1 ?a2 ?a3); (case a1 => walk_at "T.e"); (case a2 => walk_at "T.o"); (case a3 => walk_at "T.o")) | ((with_reducible refine' ix_at ?a1 ?a2); (case a1 => walk_at "T.e"); (case a2 => walk_at "T.e")) | ((with_reducible refine' pe_tup ?a1); (case a1 => walk_at "T.a")) | ((with_reducible refine' pe_lst ?a1); (case a1 => walk_at "T.a")) | ((with_reducible refine' pe_andU ?a1 ?a2); (case a1 => walk_at "T.e"); (case a2 => walk_at "T.e")) | ((with_reducible refine' pe_one ?a1); (case a1 => walk_at "T.e")) | ((with_reducible refine' pe_notU ?a1); (case a1 => walk_at "T.e")) | ((with_reducible refine' e_neg ?a1); (case a1 => walk_at "T.e")) | walk_at "T.b" | walk_at "T.m" | ((with_reducible refine' e_fmt ?a1); (case a1 => walk_at "T.e")) | ((with_reducible refine' e_fstr ?a1); (case a1 => walk_at "T.j")) | walk_at "T.c")
local macro_rules | `(tactic| walk_at "T.j") => `(tactic| first | (with_reducible exact pj_nil) )
local macro_rules | `(tactic| walk_at "T.t") => `(tactic| first | ((with_reducible refine' t_cmp ?a1 ?a2 ?a3); (case a1 => walk_at "T.cmp"); (case a2 => walk_at "T.e"); (case a3 => walk_at "T.e")) | ((with_reducible refine' pt_not ?a1); (case a1 => walk_at "T.t")) | ((with_reducible refine' PW.pt ?a1); (case a1 => walk_at "T.w")) | ((with_reducible refine' t_tru ?a1); (case a1 => walk_at "T.e")))
local macro_rules | `(tactic| walk_at "T.w") => `(tactic| first | ((with_reducible refine' pw_and ?a1 ?a2); (case a1 => walk_at "T.t"); (case a2 => walk_at "T.w")) | ((with_reducible refine' pw_or ?a1 ?a2); (case a1 => walk_at "T.t"); (case a2 => walk_at "T.w")) | ((with_reducible refine' pw_and1 ?a1); (case a1 => walk_at "T.t")) | ((with_reducible refine' pw_or1 ?a1); (case a1 => walk_at "T.t")))
local macro_rules | `(tactic| walk_at "T.i") => `(tactic| first | ((with_reducible refine' it_r1 ?a0 ?a9 ?a1); (case a0 => with_reducible assumption); (case a9 => rfl); (case a1 => walk_at "T.a")) | ((with_reducible refine' it_r2 ?a0 ?a9 ?a1); (case a0 => with_reducible assumption); (case a9 => rfl); (case a1 => walk_at "T.a")) | ((with_reducible refine' it_r3 ?a0 ?a9 ?a1); (case a0 => with_reducible assumption); (case a9 => rfl); (case a1 => walk_at "T.a")) | ((with_reducible refine' pi_lst ?a1); (case a1 => walk_at "T.e")))
local macro_rules | `(tactic| walk_at "T.gn") => `(tactic| fail "no names")
local macro_rules | `(tactic| walk_at "T.g") => `(tactic| first | walk_at "T.gn" | ((with_reducible refine' g_sub ?a1 ?a2); (case a1 => walk_at "T.e"); (case a2 => walk_at "T.e")) )
local macro_rules | `(tactic| walk_at "T.gs") => `(tactic| first | (with_reducible exact pgs_nil) )
local macro_rules | `(tactic| walk_at "T.sc") => `(tactic| fail "no comprehension's names")
local macro_rules | `(tactic| walk_at "T.st") => `(tactic| first | ((with_reducible refine' ps_ret ?a1); (case a1 => walk_at "T.e")) | walk_at "T.sc" | ((with_reducible refine' s_asg ?a1 ?a2); (case a1 => walk_at "T.e"); (case a2 => walk_at "T.g")) | ((with_reducible refine' s_expr ?a1); (case a1 => walk_at "T.e")) | ((with_reducible refine' ps_if ?a1 ?a2 ?a3); (case a1 => walk_at "T.t"); (case a2 => walk_at "T.s"); (case a3 => walk_at "T.s")) | ((with_reducible refine' s_for ?a1 ?a2 ?a3); (case a1 => walk_at "T.i"); (case a2 => walk_at "T.g"); (case a3 => walk_at "T.s")) | (with_reducible exact s_raise))
local macro_rules | `(tactic| walk_at "T.s") => `(tactic| first | (with_reducible exact pss_nil) | ((with_reducible refine' pss_one ?a1); (case a1 => walk_at "T.st")) | ((with_reducible refine' pss_cons ?a1 ?a2); (case a1 => walk_at "T.st"); (case a2 => walk_at "T.s")))
local macro_rules | `(tactic| walk_at "T.pf") => `(tactic| first | (with_reducible exact pf_nil) | ((with_reducible refine' pf_one ?a1); (case a1 => walk_at "T.t")))
local macro_rules | `(tactic| walk_at "T.top1") => `(tactic| ((refine' pss_one ?a1); (case a1 => walk_at "T.st")))
local macro_rules | `(tactic| walk_at "T.top") => `(tactic| ((refine' pss_cons ?a1 ?a2); (case a1 => walk_at "T.st"); (case a2 => walk_at "T.s")))
section
set_option Elab.async false
set_option linter.all false
set_option maxRecDepth 100000
set_option maxHeartbeats 4000000
namespace K03
open PySem L2
abbrev sDraw : Stmt := top 21
section
variable {P : Program} {w : World} {K : PySem.W.Frag} {mg : Str → Option Value} {base : Heap}
theorem scDraw : FnScope ["deck", "many", "pool", "found", "number"] ["deck", "many"] (defScope sDraw) := ⟨rfl, rfl, rfl, by decide +kernel, rfl, by decide +kernel, by decide +kernel⟩
local macro_rules | `(tactic| walk_at "T.n") => `(tactic| with_reducible first | exact vn "deck" 0 | exact vn "many" 1 | exact vn "pool" 2 | exact vn "found" 3 | exact vn "number" 4)
local macro_rules | `(tactic| walk_at "T.gn") => `(tactic| with_reducible first | exact gn "pool" 2 (by with_unfolding_all assumption) | exact gn "found" 3 (by with_unfolding_all assumption) | exact gn "number" 4 (by with_unfolding_all assumption))
theorem ok_draw (D : FnX K mg "_law_draw" sDraw ["deck", "many"]) (hlen : mg "len" = none) : Can P w K mg base "_law_draw" 1 ["deck", "many"] spDraw := by
  refine can_fn (k := 0) D scDraw (fun vs H Q E h => ?_) (fun f cdv A outer s H vs Q E hr h => ?_)
  · unfold spDraw at h
    split at h
    · rfl
    · exact h.elim
  · unfold spDraw at h
    split at h
    · rename_i a many
      obtain ⟨F, hD, h0, h1, k⟩ := h
      obtain ⟨p, qs, n, ha, hp, hq0, hq63, hqs, hF⟩ := hD.ex
      have nd := scDraw.nd
      refine ⟨_, (by walk_at "T.top"), ?_⟩
      -- pool = deck[0][deck[1] % len(deck[0])]
      have hl : ((qs.map V.ref).length : Int) = (qs.length : Int) := by simp
      have hm0 : 0 ≤ n % ((qs.map V.ref).length : Int) := Int.emod_nonneg _ (by omega)
      have hm1 : n % ((qs.map V.ref).length : Int) < ((qs.map V.ref).length : Int) := Int.emod_lt_of_pos _ (by omega)
      have hi : (n % ((qs.map V.ref).length : Int)).toNat < qs.length := by omega
      obtain ⟨q, hq⟩ : ∃ q, qs[(n % ((qs.map V.ref).length : Int)).toNat]? = some q := ⟨_, List.getElem?_eq_getElem hi⟩
      have hqm : q ∈ qs := List.mem_of_getElem? hq
      obtain ⟨c, fl, m, hqv⟩ := hqs q hqm
      refine ⟨.ref p, gl ha (by decide) rfl, .int n, gl ha (by decide) rfl, .ref p, gl ha (by decide) rfl, _, lenL hp, (by omega : (0 : Int) < ((qs.map V.ref).length : Int)), .ref q, gl hp hm0 (by rw [List.getElem?_map, hq]; rfl), ?_⟩
      -- deck[1] = deck[1] + 1
      refine ⟨.int n, gl ha (by decide) rfl, _, 1, ha, rfl, ?_⟩
      have qa : q ≠ a := ne_of hqv ha ints_ne_top
      have h1q : ∀ o, upd H a o q = some (.lst [.int c, .int fl, .int m]) := fun o => by rw [upd_ne qa]; exact hqv
      -- if pool[1] == 1 and pool[0] > 0
      dsimp only [tSeq, tIfS]
      refine tAnd_by (c1 := decide (fl = 1)) (c2 := decide (0 < c)) (fun Q q => ⟨.int fl, gl (h1q _) (by decide) rfl, q⟩) (fun _ Q q => ⟨.int c, gl (h1q _) (by decide) rfl, q⟩) ?_
      refine ite2 (fun h2 => ?_) (fun h2 => ?_)
      · refine ⟨.int c, gl (h1q _) (by decide) rfl, h0, ?_⟩
        refine ⟨.int c, gl (h1q _) (by decide) rfl, ⟨h0, h1⟩, _, 0, h1q _, rfl, ?_⟩
        obtain ⟨d1, d2⟩ := deck_step (n' := n + 1) (c' := c / many) (f' := fl) (m' := m) ha hp hq0 hq63 hqs hF hqm
        exact k _ _ (Int.emod_nonneg _ (by omega)) (Int.emod_lt_of_pos _ h0) d1 d2
      · refine ⟨.int m, gl (h1q _) (by decide) rfl, _, 2, h1q _, rfl, ?_⟩
        have h2q : ∀ H' : Hp, upd H' q (.lst ([V.int c, V.int fl, V.int m].set 2 (V.int (m + 1)))) q = some (.lst [.int c, .int fl, .int (m + 1)]) := fun H' => upd_same
        refine ⟨.int c, gl (h2q _) (by decide) rfl, (by decide : (0 : Int) < 99999999977), .int (m + 1), gl (h2q _) (by decide) rfl, .inl ⟨by decide, by decide⟩, (by decide : (0 : Int) < 99999999947), ?_⟩
        have b1 := Int.emod_nonneg (c % 99999999977 + 700001 * (m + 1)) (show (99999999947 : Int) ≠ 0 by decide)
        have b2 := Int.emod_lt_of_pos (c % 99999999977 + 700001 * (m + 1)) (show (0 : Int) < 99999999947 by decide)
        generalize (c % 99999999977 + 700001 * (m + 1)) % 99999999947 = x1 at b1 b2 ⊢
        refine ⟨.inl ⟨by omega, by omega⟩, (by decide : (0 : Int) < 99999999821), ?_⟩
        have b3 := Int.emod_nonneg (x1 * x1) (show (99999999821 : Int) ≠ 0 by decide)
        have b4 := Int.emod_lt_of_pos (x1 * x1) (show (0 : Int) < 99999999821 by decide)
        generalize (x1 * x1) % 99999999821 = x2 at b3 b4 ⊢
        refine ⟨.inl ⟨by omega, by omega⟩, (by decide : (0 : Int) < 9999999967), ?_⟩
        refine ⟨⟨by decide, by decide⟩, h0, ?_⟩
        obtain ⟨d1, d2⟩ := deck_step (n' := n + 1) (c' := c) (f' := fl) (m' := m + 1) ha hp hq0 hq63 hqs hF hqm
        exact k _ _ (Int.emod_nonneg _ (by omega)) (Int.emod_lt_of_pos _ h0) d1 d2
    · exact h.elim
end

end K03
end
section
set_option Elab.async false
set_option linter.all false
set_option maxRecDepth 100000
set_option maxHeartbeats 4000000
namespace K03
open PySem L2
section
variable {P : Program} {w : World} {K : PySem.W.Frag} {mg : Str → Option Value} {base : Heap}
abbrev sDeck : Stmt := top 20
def spDeck (K : PySem.W.Frag) : Sp := fun vs H Q _ => match vs with
  | [.ref a] => ∃ ns : List Int, SqL K H a (ns.map V.int) ∧ ns.length ≤ 63 ∧ ∀ d F H', Same H H' → Deck F H' d → (∀ b, F b → H b = none) → Q (.ref d) H'
  | _ => False
theorem scDeck : FnScope ["script", "pools", "k", "cell"] ["script"] (defScope sDeck) := ⟨rfl, rfl, rfl, by decide +kernel, rfl, by decide +kernel, by decide +kernel⟩
local macro_rules | `(tactic| walk_at "T.n") => `(tactic| with_reducible first | exact vn "script" 0 | exact vn "pools" 1 | exact vn "k" 2 | exact vn "cell" 3)
local macro_rules | `(tactic| walk_at "T.gn") => `(tactic| with_reducible first | exact gn "pools" 1 (by with_unfolding_all assumption) | exact gn "k" 2 (by with_unfolding_all assumption) | exact gn "cell" 3 (by with_unfolding_all assumption))
local macro_rules | `(tactic| walk_at "T.b") => `(tactic| ((with_reducible refine' fn_lenS ?a0 ?a9 ?a1); (case a0 => with_reducible assumption); (case a9 => rfl); (case a1 => walk_at "T.a")))
local macro_rules | `(tactic| walk_at "T.ty") => `(tactic| ((with_reducible refine' ix_atS ?a1 ?a2); (case a1 => walk_at "T.e"); (case a2 => walk_at "T.e")))
theorem ok_deck (D : FnX K mg "_law_deck" sDeck ["script"]) (g1 : mg "len" = none) (g2 : mg "max" = none) (g3 : mg "min" = none) (g4 : mg "range" = none) (g5 : mg "int" = none) : Can P w K mg base "_law_deck" 1 ["script"] (spDeck K) := by
  refine can_fn (k := 0) D scDeck (fun vs H Q E h => ?_) (fun f cdv A outer s H vs Q E hr h => ?_)
  all_goals
    unfold spDeck at h
    split at h
  · rfl
  · exact h.elim
  · rename_i a
    obtain ⟨ns, hS, hl, q⟩ := h
    have nd := scDeck.nd
    refine ⟨_, (by walk_at "T.top"), ?_⟩
    refine ⟨Nat.zero_le _, fun pl hpl => ?_⟩
    have S1 : SqL K (upd H pl (.lst [])) a (ns.map V.int) := hS.same (Same.upd hpl)
    refine ⟨_, S1, ?_⟩
    have hl' : (((ns.map V.int).length : Nat) : Int) = (ns.length : Int) := by simp
    refine ⟨?_, ?_, for_by (it_range 0 _) (fun i σ H2 => ∃ v2 v3 qs, σ = [some (.ref a), some (.ref pl), v2, v3] ∧ Same H H2 ∧ H2 pl = some (.lst (qs.map V.ref)) ∧ qs.length = i ∧ (∀ q ∈ qs, H q = none ∧ ∃ c f m, H2 q = some (.lst [.int c, .int f, .int m])))
      ⟨none, none, [], rfl, Same.upd hpl, upd_same, rfl, by simp⟩ (fun _ _ _ _ _ => trivial) ?_ ?_⟩
    · split <;> split <;> omega
    · split <;> split <;> omega
    · rintro i x σ H2 hi hx ⟨v2, v3, qs, rfl, s2, h2, hqi, hq⟩
      have hi' : i ≤ 62 := by
        rw [List.length_map, List.length_range] at hi
        split at hi <;> split at hi <;> omega
      have ex : x = .int (0 + (i : Nat)) := by
        rw [List.length_map, List.length_range] at hi
        rw [List.getElem?_map, List.getElem?_range hi] at hx
        exact (Option.some.inj hx).symm
      subst ex
      refine ⟨_, s2.seq hS, ite2 (fun h1 => ?_) (fun h1 => ?_)⟩
      · have h1' : i < ns.length := by
          have : (0 : Int) + (i : Nat) < (((ns.map V.int).length : Nat) : Int) := of_decide_eq_true h1
          rw [hl'] at this
          omega
        refine ⟨_, .int ns[i], s2.seq hS, atI_int (by omega) (by rw [List.getElem?_map, show ((0 : Int) + (i : Nat)).toNat = i by omega, List.getElem?_eq_getElem h1']; rfl), ?_⟩
        refine ⟨⟨_, rfl, h2⟩, ⟨by decide, by decide, by decide⟩, .inl ⟨by decide, by decide⟩, le_line (Nat.le_of_ble_eq_true rfl), fun p hp => ?_⟩
        have dl : pl ≠ p := ne_of_none h2 hp
        have hp0 : H p = none := s2.free hp
        refine ⟨_, (upd_ne dl).trans h2, by rw [List.length_map]; exact lt_line (by omega), some _, some _, qs ++ [p], rfl, fun y o e => ?_, by rw [upd_same, List.map_append]; rfl, by simp [hqi], fun y hy => ?_⟩
        · rw [upd_ne (ne_of_none e hpl)]
          exact Same.upd hp _ _ (s2 _ _ e)
        · rcases List.mem_append.mp hy with hy | hy
          · obtain ⟨e0, c, f', m, e⟩ := hq y hy
            have ny : y ≠ pl := ne_of e h2 (ints_ne_refs qs)
            exact ⟨e0, c, f', m, by rw [upd_ne ny]; exact Same.upd hp _ _ e⟩
          · have : y = p := by simpa using hy
            subst this
            exact ⟨hp0, _, _, _, by rw [upd_ne dl.symm, upd_same]⟩
      · refine ⟨⟨_, rfl, h2⟩, ⟨by decide, by decide, by decide⟩, .inl ⟨by decide, by decide⟩, le_line (Nat.le_of_ble_eq_true rfl), fun p hp => ?_⟩
        have dl : pl ≠ p := ne_of_none h2 hp
        have hp0 : H p = none := s2.free hp
        refine ⟨_, (upd_ne dl).trans h2, by rw [List.length_map]; exact lt_line (by omega), some _, some _, qs ++ [p], rfl, fun y o e => ?_, by rw [upd_same, List.map_append]; rfl, by simp [hqi], fun y hy => ?_⟩
        · rw [upd_ne (ne_of_none e hpl)]
          exact Same.upd hp _ _ (s2 _ _ e)
        · rcases List.mem_append.mp hy with hy | hy
          · obtain ⟨e0, c, f', m, e⟩ := hq y hy
            have ny : y ≠ pl := ne_of e h2 (ints_ne_refs qs)
            exact ⟨e0, c, f', m, by rw [upd_ne ny]; exact Same.upd hp _ _ e⟩
          · have : y = p := by simpa using hy
            subst this
            exact ⟨hp0, _, _, _, by rw [upd_ne dl.symm, upd_same]⟩
    · rintro σ H2 ⟨v2, v3, qs, rfl, s2, h2, hqi, hq⟩
      rw [List.length_map, List.length_range] at hqi
      have hn : 0 < qs.length ∧ qs.length ≤ 63 := by
        rw [hqi]
        split <;> split <;> omega
      refine ⟨le_line (Nat.le_of_ble_eq_true rfl), fun d hd => ?_⟩
      have hd0 : H d = none := s2.free hd
      refine q d (fun b => b = d ∨ b = pl ∨ b ∈ qs) _ (s2.trans (Same.upd hd)) ⟨pl, qs, 0, upd_same, Same.upd hd _ _ h2, hn.1, hn.2, fun y hy => ?_, fun b => Iff.rfl⟩ fun b hb => ?_
      · obtain ⟨_, c, f', m, e⟩ := hq y hy
        exact ⟨c, f', m, Same.upd hd _ _ e⟩
      · rcases hb with rfl | rfl | hb
        · exact hd0
        · exact hpl
        · exact (hq b hb).1
  · exact h.elim
end

end K03
end
section
set_option Elab.async false
set_option linter.all false
set_option maxRecDepth 100000
set_option maxHeartbeats 4000000
namespace K03
open PySem L2
section
variable {P : Program} {w : World} {K : PySem.W.Frag} {mg : Str → Option Value} {base : Heap}
abbrev sWhole : Stmt := top 11
theorem scWhole : FnScope ["thing"] ["thing"] (defScope sWhole) := ⟨rfl, rfl, rfl, by decide +kernel, rfl, by decide +kernel, by decide +kernel⟩
local macro_rules | `(tactic| walk_at "T.n") => `(tactic| with_reducible first | exact vn "thing" 0)
theorem ok_whole (D : FnX K mg "is_whole" sWhole ["thing"]) (g1 : mg "isinstance" = none) (g2 : mg "int" = none) (g3 : mg "bool" = none) : Can P w K mg base "is_whole" 1 ["thing"] spWholeD := by
  refine can_fn (k := 0) D scWhole (fun vs H Q E h => ?_) (fun f cdv A outer s H vs Q E hr h => ?_)
  all_goals
    unfold spWholeD at h
    split at h
  · rfl
  · exact h.elim
  · rename_i v
    obtain ⟨d, hd, q⟩ := h
    have nd := scWhole.nd
    refine ⟨_, (by walk_at "T.top1"), ?_⟩
    refine ⟨tyD d, hd.ty, by decide, ?_⟩
    cases d with
    | int i => exact iteP rfl ⟨"int", hd.ty, by decide, q⟩
    | bool b => exact iteP rfl ⟨"bool", hd.ty, by decide, q⟩
    | _ => exact iteN rfl q
  · exact h.elim
end

end K03
end
section
set_option Elab.async false
set_option linter.all false
set_option maxRecDepth 100000
set_option maxHeartbeats 4000000
namespace K03
open PySem L2
section
variable {P : Program} {w : World} {K : PySem.W.Frag} {mg : Str → Option Value} {base : Heap}
abbrev sWithin : Stmt := top 15
theorem scWithin : FnScope ["thing", "least", "greatest"] ["thing", "least", "greatest"] (defScope sWithin) := ⟨rfl, rfl, rfl, by decide +kernel, rfl, by decide +kernel, by decide +kernel⟩
local macro_rules | `(tactic| walk_at "T.n") => `(tactic| with_reducible first | exact vn "thing" 0 | exact vn "least" 1 | exact vn "greatest" 2)
theorem ok_within (D : FnX K mg "is_within" sWithin ["thing", "least", "greatest"]) (c1 : Can P w K mg base "is_whole" 1 ["thing"] spWholeD) : Can P w K mg base "is_within" 2 ["thing", "least", "greatest"] spWithinD := by
  refine can_fn (k := 1) D scWithin (fun vs H Q E h => ?_) (fun f cdv A outer s H vs Q E hr h => ?_)
  all_goals
    unfold spWithinD at h
    split at h
  · rfl
  · exact h.elim
  · rename_i v a b
    obtain ⟨d, hd, q⟩ := h
    have nd := scWithin.nd
    refine ⟨_, (by walk_at "T.top1"), ?_⟩
    refine ⟨d, hd, ?_⟩
    cases d with
    | int i =>
      have e := hd.int_inv
      subst e
      refine iteP rfl ?_
      dsimp only [Om.within] at q
      refine ite2 (fun h1 => ?_) (fun h1 => ?_)
      · rw [h1, Bool.true_and] at q
        exact q
      · rw [Bool.eq_false_iff.mpr h1, Bool.false_and] at q
        exact q
    | _ => exact iteN rfl q
  · exact h.elim
end

end K03
end
section
set_option Elab.async false
set_option linter.all false
set_option maxRecDepth 100000
set_option maxHeartbeats 4000000
namespace K03
open PySem L2
section
variable {P : Program} {w : World} {K : PySem.W.Frag} {mg : Str → Option Value} {base : Heap}
abbrev sLetter : Stmt := top 12
def ltV (j : Nat) : V → Bool
  | .int i => decide (0 ≤ i) && decide (i < 2 ^ j)
  | _ => false
theorem bits_iff {i : Int} {k : Nat} (h0 : 0 ≤ i) : decide (((Builtin.Int.intBits i : Nat) : Int) ≤ (k : Int)) = decide (i < 2 ^ k) := by
  rw [decide_eq_decide]
  refine ⟨fun h => ?_, fun h => bits_le h0 h⟩
  unfold Builtin.Int.intBits at h
  by_cases hi : i = 0
  · subst hi; exact Int.pow_pos (by decide)
  · have hb : (i == 0) = false := by simpa using hi
    rw [hb] at h
    simp only [Bool.false_eq_true, if_false] at h
    have hn : i.natAbs ≠ 0 := by omega
    have h2 : i.natAbs < 2 ^ k := (Nat.log2_lt hn).mp (by omega)
    have e : ((i.natAbs : Nat) : Int) = i := by omega
    have : ((i.natAbs : Nat) : Int) < ((2 ^ k : Nat) : Int) := by exact_mod_cast h2
    rw [e] at this
    simpa using this
def spLetterD : Sp := fun vs H Q _ => match vs with
  | [.int k, v] => ∃ (j : Nat) (d : PyData), k = (j : Int) ∧ DV H v d ∧ Q (.bl (ltV j v)) H
  | _ => False
theorem scLetter : FnScope ["k", "thing"] ["k", "thing"] (defScope sLetter) := ⟨rfl, rfl, rfl, by decide +kernel, rfl, by decide +kernel, by decide +kernel⟩
local macro_rules | `(tactic| walk_at "T.n") => `(tactic| with_reducible first | exact vn "k" 0 | exact vn "thing" 1)
theorem ok_letter (D : FnX K mg "is_letter" sLetter ["k", "thing"]) (c1 : Can P w K mg base "is_whole" 1 ["thing"] spWholeD) : Can P w K mg base "is_letter" 2 ["k", "thing"] spLetterD := by
  refine can_fn (k := 1) D scLetter (fun vs H Q E h => ?_) (fun f cdv A outer s H vs Q E hr h => ?_)
  all_goals
    unfold spLetterD at h
    split at h
  · rfl
  · exact h.elim
  · rename_i k v
    obtain ⟨j, d, rfl, hd, q⟩ := h
    have nd := scLetter.nd
    refine ⟨_, (by walk_at "T.top1"), ?_⟩
    refine ⟨d, hd, ?_⟩
    cases hd with
    | int i =>
      refine iteP rfl ?_
      refine ite2 (fun h1 => ?_) (fun h1 => ?_)
      · have h0 : 0 ≤ i := of_decide_eq_true h1
        refine ⟨rfl, ?_⟩
        show Q (.bl (decide (((Builtin.Int.intBits i : Nat) : Int) ≤ (j : Int)))) H
        rw [bits_iff h0]
        have e : ltV j (.int i) = decide (i < 2 ^ j) := by show (decide (0 ≤ i) && decide (i < 2 ^ j)) = _; rw [decide_eq_true h0, Bool.true_and]
        rw [e] at q
        exact q
      · have e : ltV j (.int i) = false := by show (decide (0 ≤ i) && decide (i < 2 ^ j)) = _; rw [decide_eq_false (fun z => h1 (decide_eq_true z)), Bool.false_and]
        rw [e] at q
        exact q
    | _ => exact iteN rfl q
  · exact h.elim
abbrev sLetterL : Stmt := top 13
def spLetterL : Sp := fun vs H Q _ => match vs with
  | [.int k, v] => ∃ j : Nat, k = (j : Int) ∧ ((∃ T, tyN H v = some T ∧ (T == "list") = false ∧ Q (.bl false) H) ∨ ∃ l xs ds, v = .ref l ∧ H l = some (.lst xs) ∧ DVs H xs ds ∧ xs.length ≤ 1000 ∧ ∀ H', Same H H' → Q (.bl (xs.all (ltV j))) H')
  | _ => False
theorem scLetterL : FnScope ["k", "thing"] ["k", "thing"] (defScope sLetterL) := ⟨rfl, rfl, rfl, by decide +kernel, rfl, by decide +kernel, by decide +kernel⟩
local macro_rules | `(tactic| walk_at "T.n") => `(tactic| with_reducible first | exact vn "k" 0 | exact vn "thing" 1)
local macro_rules | `(tactic| walk_at "T.n") => `(tactic| with_reducible first | exact vn "one" 0 | exact vn "k" 1)
local macro_rules | `(tactic| walk_at "T.gn") => `(tactic| with_reducible first | exact gn "one" 0 (by with_unfolding_all assumption))
local macro_rules | `(tactic| walk_at "T.c") => `(tactic| (have ndc : (["one", "k"] : List Str).Nodup := (by decide +kernel)); ((with_reducible refine' c_comp ["one", "k"] [0] ?b1 ?b2 (fun cl C s H fp => ?b3) (fun cl C s H fp => ?b4) (fun cl C s H fp => ?b5)); (case b1 => exact ndc); (case b2 => walk_at "T.i"); (case b3 => walk_at "T.g"); (case b4 => walk_at "T.pf"); (case b5 => walk_at "T.e")))
theorem ok_letterL (D : FnX K mg "is_letter_list" sLetterL ["k", "thing"]) (g1 : mg "isinstance" = none) (g2 : mg "list" = none) (g3 : mg "all" = none) (c1 : Can P w K mg base "is_letter" 2 ["k", "thing"] spLetterD) : Can P w K mg base "is_letter_list" 3 ["k", "thing"] spLetterL := by
  refine can_fn (k := 2) D scLetterL (fun vs H Q E h => ?_) (fun f cdv A outer s H vs Q E hr h => ?_)
  all_goals
    unfold spLetterL at h
    split at h
  · rfl
  · exact h.elim
  · rename_i k v
    obtain ⟨j, rfl, h⟩ := h
    have nd := scLetterL.nd
    refine ⟨_, (by walk_at "T.top1"), ?_⟩
    rcases h with ⟨T, hT, nT, q⟩ | ⟨l, xs, ds, rfl, hl, dv, hz, q⟩
    · refine ⟨T, hT, by decide, ?_⟩
      have e : (T == "list" || (T == "bool" && ("list" : String) == "int")) = false := by rw [nT, Bool.false_or]; simp
      rw [e]
      exact iteF q
    · refine ⟨"list", (by simp [tyN, hl]), by decide, ?_⟩
      refine iteP (by decide) ?_
      refine ⟨⟨_, SqL.of hl⟩, fun D hD => ?_⟩
      refine comp_map1 (it_list _ l xs) (fun x => .bl (ltV j x)) (le_line hz) (fun o => SqL.upd hl hD) (fun i x ys hx C c => ?_) ?_
      · have hi := (List.getElem?_eq_some_iff.mp hx).1
        obtain ⟨d, hd⟩ : ∃ d, ds[i]? = some d := ⟨ds[i]'(by rw [← dv.length]; exact hi), List.getElem?_eq_getElem _⟩
        obtain ⟨x', hx', dx⟩ := dv.get hd
        rw [hx] at hx'
        cases hx'
        exact ⟨j, d, rfl, dx.mono (Same.upd hD), c⟩
      · refine ⟨xs.map (ltV j), by rw [upd_same, List.map_map]; rfl, ?_⟩
        have e : (xs.map (ltV j)).all id = xs.all (ltV j) := by rw [List.all_map]; rfl
        rw [e]
        exact q _ (Same.upd hD)
  · exact h.elim
end

end K03
end
section
set_option Elab.async false
set_option linter.all false
set_option maxRecDepth 100000
set_option maxHeartbeats 4000000
namespace K03
open PySem L2
section
variable {P : Program} {w : World} {K : PySem.W.Frag} {mg : Str → Option Value} {base : Heap}
abbrev sLetterOf : Stmt := top 17
def spLetterOf : Sp := fun vs H Q _ => match vs with
  | [.ref b] => ∃ c : List Int, H b = some (.lst (c.map V.int)) ∧ Q (.int (Om.letterOf c)) H
  | _ => False
theorem scLetterOf : FnScope ["bits", "letter", "bit"] ["bits"] (defScope sLetterOf) := ⟨rfl, rfl, rfl, by decide +kernel, rfl, by decide +kernel, by decide +kernel⟩
local macro_rules | `(tactic| walk_at "T.n") => `(tactic| with_reducible first | exact vn "bits" 0 | exact vn "letter" 1 | exact vn "bit" 2)
local macro_rules | `(tactic| walk_at "T.gn") => `(tactic| with_reducible first | exact gn "letter" 1 (by with_unfolding_all assumption) | exact gn "bit" 2 (by with_unfolding_all assumption))
theorem ok_letterOf (D : FnX K mg "letter_of" sLetterOf ["bits"]) : Can P w K mg base "letter_of" 1 ["bits"] spLetterOf := by
  refine can_fn (k := 0) D scLetterOf (fun vs H Q E h => ?_) (fun f cdv A outer s H vs Q E hr h => ?_)
  all_goals
    unfold spLetterOf at h
    split at h
  · rfl
  · exact h.elim
  · rename_i b
    obtain ⟨c, hb, q⟩ := h
    have nd := scLetterOf.nd
    refine ⟨_, (by walk_at "T.top"), ?_⟩
    refine ⟨⟨_, SqL.of hb⟩, for_by (it_list _ b (c.map V.int)) (fun i σ H2 => H2 = H ∧ ∃ v, σ = [some (.ref b), some (.int (Om.letterOf (c.take i))), v]) ⟨rfl, none, rfl⟩ (fun i σ H2 _ ⟨e, _⟩ => SqL.of (e.symm ▸ hb)) ?_ ?_⟩
    · rintro i x σ H2 hi hx ⟨rfl, v, rfl⟩
      rw [List.getElem?_map] at hx
      obtain ⟨n, hn, rfl⟩ := Option.map_eq_some_iff.mp hx
      refine ⟨.inl ⟨by decide, by decide⟩, ⟨rfl, some (.int n), ?_⟩⟩
      have e : Om.letterOf (c.take (i + 1)) = 2 * Om.letterOf (c.take i) + n := by
        unfold Om.letterOf
        rw [List.take_add_one, hn]
        simp
      rw [e]
      rfl
    · rintro σ H2 ⟨rfl, v, rfl⟩
      rw [List.length_map, List.take_length]
      exact q
  · exact h.elim
end

end K03
end
section
set_option Elab.async false
set_option linter.all false
set_option maxRecDepth 100000
set_option maxHeartbeats 4000000
namespace K03
open PySem L2
section
variable {P : Program} {w : World} {K : PySem.W.Frag} {mg : Str → Option Value} {base : Heap}
abbrev sLetters : Stmt := top 16
def spLetters (C : Addr) : Sp := fun vs H Q E => match vs with
  | [.int k, v] => ∃ j : Nat, k = (j : Int) ∧ (j = 1 ∨ j = 2 ∨ j = 3) ∧
      ((∃ (b : Addr) (cs : List (List Int)), v = .ref b ∧ H b = some (.lst (cs.flatten.map V.int)) ∧ (∀ c ∈ cs, c.length = j) ∧ (∀ c ∈ cs, ∀ b ∈ c, Om.Bit b) ∧ cs.length ≤ 100 ∧
        ∀ p H', Same H H' → H p = none → H' p = some (.lst ((cs.map Om.letterOf).map V.int)) → Q (.ref p) H') ∨
       (∃ T, tyN H v = some T ∧ (T == "list") = false ∧ E (.ref C) none H) ∨
       ∃ l xs ds, v = .ref l ∧ H l = some (.lst xs) ∧ DVs H xs ds ∧ xs.length ≤ 1000 ∧ (xs.all (ltV 1) = true → xs.length % j ≠ 0) ∧ ∀ H', Same H H' → E (.ref C) none H')
  | _ => False
theorem scLetters : FnScope ["k", "bits"] ["k", "bits"] (defScope sLetters) := ⟨rfl, rfl, rfl, by decide +kernel, rfl, by decide +kernel, by decide +kernel⟩
local macro_rules | `(tactic| walk_at "T.n") => `(tactic| with_reducible first | exact vn "k" 0 | exact vn "bits" 1)
local macro_rules | `(tactic| walk_at "T.n") => `(tactic| with_reducible first | exact vn "bit" 0)
local macro_rules | `(tactic| walk_at "T.gn") => `(tactic| with_reducible first | exact gn "bit" 0 (by with_unfolding_all assumption))
local macro_rules | `(tactic| walk_at "T.c") => `(tactic| (have ndc : (["bit"] : List Str).Nodup := (by decide +kernel)); ((with_reducible refine' c_comp ["bit"] [] ?b1 ?b2 (fun cl C s H fp => ?b3) (fun cl C s H fp => ?b4) (fun cl C s H fp => ?b5)); (case b1 => exact ndc); (case b2 => walk_at "T.i"); (case b3 => walk_at "T.g"); (case b4 => walk_at "T.pf"); (case b5 => walk_at "T.e")))
local macro_rules | `(tactic| walk_at "T.n") => `(tactic| with_reducible first | exact vn "place" 0 | exact vn "bits" 1 | exact vn "k" 2)
local macro_rules | `(tactic| walk_at "T.gn") => `(tactic| with_reducible first | exact gn "place" 0 (by with_unfolding_all assumption))
local macro_rules | `(tactic| walk_at "T.c") => `(tactic| (have ndc : (["place", "bits", "k"] : List Str).Nodup := (by decide +kernel)); ((with_reducible refine' c_comp ["place", "bits", "k"] [1, 0] ?b1 ?b2 (fun cl C s H fp => ?b3) (fun cl C s H fp => ?b4) (fun cl C s H fp => ?b5)); (case b1 => exact ndc); (case b2 => walk_at "T.i"); (case b3 => walk_at "T.g"); (case b4 => walk_at "T.pf"); (case b5 => walk_at "T.e")))
theorem within_lt {H : Hp} {v : V} {d : PyData} (h : DV H v d) : Om.within d 0 1 = ltV 1 v := by
  cases h with
  | int i =>
    show (decide ((0 : Int) ≤ i) && decide (i ≤ 1)) = (decide ((0 : Int) ≤ i) && decide (i < 2 ^ 1))
    have : decide (i ≤ 1) = decide (i < 2 ^ 1) := decide_eq_decide.mpr (by omega)
    rw [this]
  | _ => rfl
theorem ok_letters (D : FnX K mg "letters" sLetters ["k", "bits"]) {C : Addr} (hE : ExnOk K C) (hm : mg "NoLetter" = some (.ref C)) (g1 : mg "isinstance" = none) (g2 : mg "list" = none) (g3 : mg "all" = none) (g4 : mg "len" = none) (g5 : mg "range" = none)
    (c1 : Can P w K mg base "is_within" 2 ["thing", "least", "greatest"] spWithinD) (c2 : Can P w K mg base "letter_of" 1 ["bits"] spLetterOf) : CanX P w K mg base "letters" 3 ["k", "bits"] (spLetters C) := by
  refine canX_fn (k := 2) D scLetters (fun vs H Q E h => ?_) (fun f cdv A outer s H vs Q E hr h => ?_)
  all_goals
    unfold spLetters at h
    split at h
  · rfl
  · exact h.elim
  · rename_i k v
    obtain ⟨j, rfl, hj, h⟩ := h
    have nd := scLetters.nd
    have j3 : 1 ≤ j ∧ j ≤ 3 := Or.elim hj (fun e => by rw [e]; decide) fun z => Or.elim z (fun e => by rw [e]; decide) fun e => by rw [e]; decide
    refine' ⟨_, pss_cons (ps_if (PT.nox ?p1) (pss_one (s_raiseC hE hm ?p2)) pss_nil) (pss_cons (ps_if (PT.nox ?p3) (PSs.nox ?p4) pss_nil) (pss_cons (ps_if (PT.nox ?p5) (pss_one (s_raiseC hE hm ?p6)) pss_nil) (PSs.nox ?p7))), ?p8⟩
    case p1 => walk_at "T.t"
    case p2 => walk_at "T.a"
    case p3 => walk_at "T.t"
    case p4 => walk_at "T.s"
    case p5 => walk_at "T.t"
    case p6 => walk_at "T.a"
    case p7 => walk_at "T.s"
    rcases h with ⟨b, cs, rfl, hb, hc, hbit, hlen, q⟩ | ⟨T, hT, nT, q⟩ | ⟨b, xs, ds, rfl, hb, dv, hz, bad, q⟩
    rotate_left
    · refine ⟨T, hT, by decide, ?_⟩
      have e : (T == "list" || (T == "bool" && ("list" : String) == "int")) = false := by rw [nT, Bool.false_or]; simp
      rw [e]
      exact iteP rfl ⟨by decide, q⟩
    · refine ⟨"list", (by simp [tyN, hb]), by decide, ?_⟩
      refine iteQ (by decide) ?_
      refine ⟨⟨_, SqL.of hb⟩, fun D1 hD1 => ?_⟩
      refine comp_map1 (it_list _ b xs) (fun x => .bl (ltV 1 x)) (le_line (by omega)) (fun o => SqL.upd hb hD1) (fun i x ys hx C c => ?_) ?_
      · have hi := (List.getElem?_eq_some_iff.mp hx).1
        obtain ⟨d, hd⟩ : ∃ d, ds[i]? = some d := ⟨ds[i]'(by rw [← dv.length]; exact hi), List.getElem?_eq_getElem _⟩
        obtain ⟨x', hx', dx⟩ := dv.get hd
        rw [hx] at hx'
        cases hx'
        refine ⟨d, dx.mono (Same.upd hD1), ?_⟩
        rw [within_lt dx]
        exact c
      refine ⟨xs.map (ltV 1), by rw [upd_same, List.map_map]; rfl, ?_⟩
      have e : (xs.map (ltV 1)).all id = xs.all (ltV 1) := by rw [List.all_map]; rfl
      rw [e]
      have s1 : Same H (upd H D1 (HO.lst (xs.map fun x => V.bl (ltV 1 x)))) := Same.upd hD1
      generalize upd H D1 (HO.lst (xs.map fun x => V.bl (ltV 1 x))) = H1 at s1 ⊢
      refine ite2 (fun h1 => ⟨by decide, q _ s1⟩) (fun h1 => ?_)
      have ha : xs.all (ltV 1) = true := by simpa using h1
      have bad := bad ha
      refine ⟨_, s1 _ _ hb, ite2 (fun h2 => ?_) (fun h2 => ?_)⟩
      · have : xs = [] := by simpa using h2
        rw [this] at bad
        exact absurd (Nat.zero_mod _) bad
      · dsimp only [tSeq, tIfS, tNext]
        refine tOr_by (c1 := false) (c2 := true) (fun Q q => ?_) (fun _ Q q => ⟨_, lenL (s1 _ _ hb), (by omega : (0 : Int) < (j : Int)), ?_⟩) ?_
        · show Q (decide ((j : Int) < 1)) H1
          rw [decide_eq_false (by omega)]
          exact q
        · show Q (!decide ((((xs.length : Nat) : Int) % (j : Int)) = 0)) H1
          rw [decide_eq_false (by intro z; exact bad (by exact_mod_cast z))]
          exact q
        exact iteP rfl ⟨by decide, q _ s1⟩
    have fl : cs.flatten.length = cs.length * j := Om.flat_len cs hc
    have fl3 : cs.flatten.length ≤ 300 := by
      rw [fl]
      calc cs.length * j ≤ 100 * 3 := Nat.mul_le_mul hlen j3.2
        _ ≤ 300 := by decide
    refine ⟨"list", (by simp [tyN, hb]), by decide, ?_⟩
    refine iteQ (by decide) ?_
    refine ⟨⟨_, SqL.of hb⟩, fun D1 hD1 => ?_⟩
    refine comp_map1 (it_list _ b (cs.flatten.map V.int)) (fun _ => .bl true) (by rw [List.length_map]; exact le_line (by omega)) (fun o => SqL.upd hb hD1) (fun i x ys hx C c => ?_) ?_
    · rw [List.getElem?_map] at hx
      obtain ⟨n, hn, rfl⟩ := Option.map_eq_some_iff.mp hx
      obtain ⟨c', hc', hn'⟩ := List.mem_flatten.mp (List.mem_of_getElem? hn)
      have e : (decide ((0 : Int) ≤ n) && decide (n ≤ 1)) = true := by rcases hbit c' hc' n hn' with rfl | rfl <;> decide
      refine ⟨.int n, .int n, ?_⟩
      show C (.bl (decide ((0 : Int) ≤ n) && decide (n ≤ 1))) _
      rw [e]
      exact c
    refine ⟨(cs.flatten.map V.int).map fun _ => true, by rw [upd_same]; exact congrArg (fun l => some (HO.lst l)) (all_true _), ?_⟩
    rw [all_id 0 (by simp)]
    have s1 : Same H (upd H D1 (HO.lst ((cs.flatten.map V.int).map fun _ => V.bl true))) := Same.upd hD1
    generalize upd H D1 (HO.lst ((cs.flatten.map V.int).map fun _ => V.bl true)) = H1 at s1 ⊢
    refine ⟨_, s1 _ _ hb, ite2 (fun h1 => ?_) (fun h1 => ?_)⟩
    · have e : cs.flatten = [] := by simpa using h1
      have e0 : cs = [] := by
        cases cs with
        | nil => rfl
        | cons c r =>
          have := hc c List.mem_cons_self
          rw [List.flatten_cons, List.append_eq_nil_iff] at e
          rw [e.1] at this
          simp at this
          omega
      subst e0
      exact ⟨Nat.zero_le _, fun p hp => q p _ (s1.trans (Same.upd hp)) (s1.free hp) upd_same⟩
    · have hm : 1 ≤ cs.length := by
        cases cs with
        | nil => simp at h1
        | cons c r => simp
      have hmod : ((((cs.flatten.map V.int).length : Nat) : Int) % (j : Int)) = 0 := by
        rw [List.length_map, fl]
        push_cast
        exact Int.mul_emod_left _ _
      dsimp only [tSeq, tIfS, tNext]
      refine tOr_by (c1 := false) (c2 := false) (fun Q q => ?_) (fun _ Q q => ⟨_, lenL (s1 _ _ hb), (by omega : (0 : Int) < (j : Int)), ?_⟩) ?_
      · show Q (decide ((j : Int) < 1)) H1
        rw [decide_eq_false (by omega)]
        exact q
      · show Q (!decide (((((cs.flatten.map V.int).length : Nat) : Int) % (j : Int)) = 0)) H1
        rw [decide_eq_true hmod]
        exact q
      refine iteF ?_
      have rs : (Builtin.Range.rangeSize 0 (((cs.flatten.map V.int).length : Nat) : Int) (j : Int)).toNat = cs.length := by
        unfold Builtin.Range.rangeSize
        have hL : (0 : Int) < (((cs.flatten.map V.int).length : Nat) : Int) := by rw [List.length_map, fl]; have : 0 < cs.length * j := Nat.mul_pos hm j3.1; omega
        rw [if_pos (by omega), if_pos hL, List.length_map, fl]
        push_cast
        rcases hj with rfl | rfl | rfl <;> omega
      have hLb : (((cs.flatten.map V.int).length : Nat) : Int) ≤ 300 := by rw [List.length_map]; omega
      refine ⟨_, lenL (s1 _ _ hb), ⟨by omega, by omega, by omega, by omega, by omega, by omega, by omega⟩, fun D2 hD2 => ?_⟩
      rw [rs]
      have nD2 : H D2 = none := s1.free hD2
      refine comp_by (it_rangeS 0 (j : Int) cs.length) (fun i τ H2 ys => (∃ v, τ = [v, some (.ref b), some (.int j)]) ∧ Same H H2 ∧ H2 D2 = some (.lst ys) ∧ ys = ((cs.take i).map Om.letterOf).map V.int ∧ i ≤ cs.length) (by simp; exact le_line (by omega)) ⟨⟨none, rfl⟩, s1.trans (Same.upd hD2), upd_same, rfl, Nat.zero_le _⟩ ?_ ?_ ?_
      · rintro i τ H2 ys hi ⟨_, _, h2, rfl, _⟩
        refine ⟨trivial, h2, by simp [List.length_take]; omega⟩
      · rintro i x τ H2 ys hi hx ⟨⟨v, rfl⟩, s2, h2, rfl, hi2⟩
        have hi' : i < cs.length := by simpa using hi
        have ex : x = .int (0 + (i : Nat) * (j : Int)) := by
          rw [List.getElem?_map, List.getElem?_range hi'] at hx
          exact (Option.some.inj hx).symm
        subst ex
        refine ⟨_, s2 _ _ hb, fun p hp => ?_⟩
        have hc1 : cutV (cs.flatten.map V.int) (some (0 + (i : Nat) * (j : Int))) (some (0 + (i : Nat) * (j : Int) + (j : Int))) = (cs[i]).map V.int := by
          have e1 : (0 + (i : Nat) * (j : Int)) = ((i * j : Nat) : Int) := by push_cast; omega
          have e2 : (0 + (i : Nat) * (j : Int) + (j : Int)) = ((i * j + j : Nat) : Int) := by push_cast; omega
          have e3 : i * j + j ≤ (cs.flatten.map V.int).length := by
            rw [List.length_map, fl]
            calc i * j + j = (i + 1) * j := by rw [Nat.succ_mul]
              _ ≤ cs.length * j := Nat.mul_le_mul_right _ hi'
          rw [e2, e1, cut_nat _ _ _ (by omega) e3, ← List.map_drop, ← List.map_take, show i * j + j - i * j = j by omega, Om.cut_get cs i hc hi']
        refine ⟨cs[i], by rw [upd_same, hc1], ?_⟩
        have pD : D2 ≠ p := ne_of_none h2 hp
        have ti : cs.take (i + 1) = cs.take i ++ [cs[i]] := by rw [List.take_add_one, List.getElem?_eq_getElem hi']; rfl
        refine ⟨by rw [upd_ne pD]; exact h2, ⟨_, rfl⟩, fun x o e => ?_, upd_same, ?_, hi'⟩
        · rw [upd_ne (ne_of_none e nD2)]
          exact Same.upd hp _ _ (s2 _ _ e)
        · rw [ti, List.map_append, List.map_append]
          rfl
      · rintro τ H2 ys ⟨_, s2, h2, rfl, _⟩
        rw [List.length_map, List.length_range, List.take_length] at h2
        exact q _ _ s2 nD2 h2
  · exact h.elim
end

end K03
end
section
set_option Elab.async false
set_option linter.all false
set_option maxRecDepth 100000
set_option maxHeartbeats 4000000
namespace K03
open PySem L2
section
variable {P : Program} {w : World} {K : PySem.W.Frag} {mg : Str → Option Value} {base : Heap}
abbrev sBitsOf : Stmt := top 18
def spBitsOf (C : Addr) : Sp := fun vs H Q E => match vs with
  | [.int k, v] => ∃ j : Nat, k = (j : Int) ∧ 1 ≤ j ∧ j ≤ 3 ∧
      ((∃ (t : Addr) (ls : List Int), v = .ref t ∧ H t = some (.lst (ls.map V.int)) ∧ (∀ l ∈ ls, 0 ≤ l ∧ l < 2 ^ j) ∧ ls.length ≤ 100 ∧ ∀ p H', Same H H' → H p = none → H' p = some (.lst (((ls.map (Om.bitsOf j)).flatten).map V.int)) → Q (.ref p) H') ∨
       (∃ T, tyN H v = some T ∧ (T == "list") = false ∧ E (.ref C) none H) ∨
       ∃ l xs ds, v = .ref l ∧ H l = some (.lst xs) ∧ DVs H xs ds ∧ xs.length ≤ 1000 ∧ xs.all (ltV j) = false ∧ ∀ H', Same H H' → E (.ref C) none H')
  | _ => False
theorem scBitsOf : FnScope ["k", "text", "bits", "letter"] ["k", "text"] (defScope sBitsOf) := ⟨rfl, rfl, rfl, by decide +kernel, rfl, by decide +kernel, by decide +kernel⟩
local macro_rules | `(tactic| walk_at "T.n") => `(tactic| with_reducible first | exact vn "k" 0 | exact vn "text" 1 | exact vn "bits" 2 | exact vn "letter" 3)
local macro_rules | `(tactic| walk_at "T.gn") => `(tactic| with_reducible first | exact gn "bits" 2 (by with_unfolding_all assumption) | exact gn "letter" 3 (by with_unfolding_all assumption))
local macro_rules | `(tactic| walk_at "T.n") => `(tactic| with_reducible first | exact vn "place" 0 | exact vn "letter" 1)
local macro_rules | `(tactic| walk_at "T.gn") => `(tactic| with_reducible first | exact gn "place" 0 (by with_unfolding_all assumption))
local macro_rules | `(tactic| walk_at "T.c") => `(tactic| (have ndc : (["place", "letter"] : List Str).Nodup := (by decide +kernel)); ((with_reducible refine' c_comp ["place", "letter"] [3] ?b1 ?b2 (fun cl C s H fp => ?b3) (fun cl C s H fp => ?b4) (fun cl C s H fp => ?b5)); (case b1 => exact ndc); (case b2 => walk_at "T.i"); (case b3 => walk_at "T.g"); (case b4 => walk_at "T.pf"); (case b5 => walk_at "T.e")))
theorem ok_bitsOf (D : FnX K mg "bits_of" sBitsOf ["k", "text"]) {C : Addr} (hE : ExnOk K C) (hm : mg "NoLetter" = some (.ref C)) (g5 : mg "range" = none) (c1 : Can P w K mg base "is_letter_list" 3 ["k", "thing"] spLetterL) : CanX P w K mg base "bits_of" 4 ["k", "text"] (spBitsOf C) := by
  refine canX_fn (k := 3) D scBitsOf (fun vs H Q E h => ?_) (fun f cdv A outer s H vs Q E hr h => ?_)
  all_goals
    unfold spBitsOf at h
    split at h
  · rfl
  · exact h.elim
  · rename_i k v
    obtain ⟨j, rfl, j1, j3, h⟩ := h
    have nd := scBitsOf.nd
    refine ⟨_, pss_cons (ps_if (PT.nox (by walk_at "T.t")) (pss_one (s_raiseC hE hm (by walk_at "T.a"))) pss_nil) (PSs.nox (by walk_at "T.s")), ?_⟩
    rcases h with ⟨t, ls, rfl, ht, hls, hlen, q⟩ | ⟨T, hT, nT, q⟩ | ⟨l, xs, ds, rfl, hl, dv, hz, bad, q⟩
    rotate_left
    · refine ⟨j, rfl, .inl ⟨T, hT, nT, ?_⟩⟩
      exact iteP rfl ⟨by decide, q⟩
    · refine ⟨j, rfl, .inr ⟨l, xs, ds, rfl, hl, dv, hz, fun H1 s1 => ?_⟩⟩
      rw [bad]
      exact iteP rfl ⟨by decide, q _ s1⟩
    refine ⟨j, rfl, .inr ⟨t, _, _, rfl, ht, DVs.ints _, by rw [List.length_map]; omega, fun H1 s1 => ?_⟩⟩
    have al : (ls.map V.int).all (ltV j) = true := by
      rw [List.all_eq_true]
      intro x hx
      obtain ⟨i, hi, rfl⟩ := List.mem_map.mp hx
      obtain ⟨h0, h1⟩ := hls i hi
      show (decide (0 ≤ i) && decide (i < 2 ^ j)) = true
      rw [decide_eq_true h0, decide_eq_true h1]; rfl
    rw [al]
    refine iteF ?_
    refine ⟨Nat.zero_le _, fun bl hbl => ?_⟩
    have blen : ∀ i, (((ls.take i).map (Om.bitsOf j)).flatten).length ≤ 300 := fun i => by
      have h1 : (((ls.take i).map (Om.bitsOf j)).flatten).length = ((ls.take i).map (Om.bitsOf j)).length * j := Om.flat_len _ fun c hc => by
        obtain ⟨l, _, rfl⟩ := List.mem_map.mp hc
        unfold Om.bitsOf
        simp
      rw [h1, List.length_map, List.length_take]
      calc min i ls.length * j ≤ 100 * 3 := Nat.mul_le_mul (by omega) j3
        _ ≤ 300 := by decide
    have nbl : H bl = none := s1.free hbl
    refine ⟨⟨_, SqL.of (Same.upd hbl _ _ (s1 _ _ ht))⟩, for_by (it_list _ t (ls.map V.int)) (fun i σ H2 => (∃ v, σ = [some (.int j), some (.ref t), some (.ref bl), v]) ∧ Same H H2 ∧ H2 bl = some (.lst ((((ls.take i).map (Om.bitsOf j)).flatten).map V.int)))
      ⟨⟨none, rfl⟩, s1.trans (Same.upd hbl), upd_same⟩ (fun i σ H2 _ ⟨_, e, _⟩ => SqL.of (e _ _ ht)) ?_ ?_⟩
    · rintro i x σ H2 hi hx ⟨⟨v, rfl⟩, s2, hb2⟩
      rw [List.getElem?_map] at hx
      obtain ⟨l, hl, rfl⟩ := Option.map_eq_some_iff.mp hx
      obtain ⟨l0, l1⟩ := hls l (List.mem_of_getElem? hl)
      refine ⟨⟨_, rfl, hb2⟩, ?_⟩
      have rs : Builtin.Range.rangeSize ((j : Int) - 1) (-1) (-1) = (j : Int) := by
        unfold Builtin.Range.rangeSize
        rw [if_neg (by decide), if_pos (by omega)]
        simp
      refine ⟨⟨by omega, by omega, by omega, by omega, by decide, by decide, by decide⟩, fun D2 hD2 => ?_⟩
      rw [rs]
      refine comp_map1 (it_rangeS ((j : Int) - 1) (-1) (j : Int).toNat) (fun x => match x with | .int p => .int (l / 2 ^ p.toNat % 2) | _ => x) (by simp; exact le_line (by omega)) (fun o => trivial) (fun i' x' ys hx' C c => ?_) ?_
      · rw [List.getElem?_map] at hx'
        obtain ⟨m, hm, rfl⟩ := Option.map_eq_some_iff.mp hx'
        have hm' : m < j := by
          have := List.mem_of_getElem? hm
          simpa using this
        refine ⟨(by omega : (0 : Int) ≤ (j : Int) - 1 + (m : Int) * (-1)), ?_⟩
        show C (.int (Builtin.bitAnd _ 1)) _
        rw [PyProof.Rows.bitAnd_m1]
        exact c
      · have hb3 : ∀ o, upd H2 D2 o bl = H2 bl := fun o => upd_ne (ne_of_none hb2 hD2)
        have ti : ls.take (i + 1) = ls.take i ++ [l] := by rw [List.take_add_one, hl]; rfl
        have eb : ((List.range (j : Int).toNat).map fun i : Nat => V.int ((j : Int) - 1 + (i : Nat) * (-1))).map (fun x => match x with | V.int p => V.int (l / 2 ^ p.toNat % 2) | _ => x) = (Om.bitsOf j l).map V.int := by
          unfold Om.bitsOf
          rw [List.map_map, List.map_map, Int.toNat_natCast]
          apply List.map_congr_left
          intro m hm
          have hm' : m < j := by simpa using hm
          have e : ((j : Int) - 1 + (m : Int) * (-1)).toNat = j - 1 - m := by omega
          show V.int (l / 2 ^ ((j : Int) - 1 + (m : Int) * (-1)).toNat % 2) = V.int (l / 2 ^ (j - 1 - m) % 2)
          rw [e]
        refine ⟨_, _, (hb3 _).trans hb2, upd_same, ?_, ?_⟩
        · have h1 := blen i
          rw [List.length_map, List.length_map, List.length_map, List.length_range]
          exact le_line (by omega)
        · refine ⟨⟨some (.int l), rfl⟩, fun x o e => ?_, ?_⟩
          · rw [upd_ne (ne_of_none e nbl)]
            exact Same.upd hD2 _ _ (s2 _ _ e)
          · rw [upd_same, eb, ti, List.map_append, List.flatten_append, List.map_append]
            simp
    · rintro σ H2 ⟨⟨v, rfl⟩, s2, hb2⟩
      rw [List.length_map, List.take_length] at hb2
      exact q bl H2 s2 nbl hb2
  · exact h.elim
end

end K03
end
section
set_option Elab.async false
set_option linter.all false
set_option maxRecDepth 100000
set_option maxHeartbeats 4000000
namespace K03
open PySem L2
section
variable {P : Program} {w : World} {K : PySem.W.Frag} {mg : Str → Option Value} {base : Heap}
theorem three_at {H : Hp} {p : Addr} {j m : Nat} (hj : j = 1 ∨ j = 2 ∨ j = 3) (hm : m < j) (h : H p = some (.lst [.int 4, .int 2, .int 1])) : getV H (.ref p) (3 - (j : Int) + (m : Int)) = some (.int (2 ^ (j - 1 - m))) := by
  rcases hj with rfl | rfl | rfl
  · obtain rfl : m = 0 := by omega
    exact gl h (by decide) rfl
  · have : m = 0 ∨ m = 1 := by omega
    rcases this with rfl | rfl
    · exact gl h (by decide) rfl
    · exact gl h (by decide) rfl
  · have : m = 0 ∨ m = 1 ∨ m = 2 := by omega
    rcases this with rfl | rfl | rfl
    · exact gl h (by decide) rfl
    · exact gl h (by decide) rfl
    · exact gl h (by decide) rfl
theorem told_sum {j : Nat} (hj : j = 1 ∨ j = 2 ∨ j = 3) {c : List Int} (hc : c.length = j) : ((List.range j).map fun m => c.getD m 0 * 2 ^ (j - 1 - m)).sum = Om.letterOf c := by
  rcases hj with rfl | rfl | rfl
  · obtain ⟨a, rfl⟩ := List.length_eq_one_iff.mp hc
    simp [List.range_succ, Om.letterOf]
  · match c, hc with
    | [a, b], _ =>
      simp [List.range_succ, Om.letterOf]
      omega
  · match c, hc with
    | [a, b, d], _ =>
      simp [List.range_succ, Om.letterOf]
      omega
abbrev sTold : Stmt := top 23
def spTold : Sp := fun vs H Q _ => match vs with
  | [.int k, .ref b] => ∃ (j : Nat) (cs : List (List Int)), k = (j : Int) ∧ (j = 1 ∨ j = 2 ∨ j = 3) ∧ H b = some (.lst (cs.flatten.map V.int)) ∧ (∀ c ∈ cs, c.length = j) ∧ (∀ c ∈ cs, ∀ b ∈ c, Om.Bit b) ∧ cs.length ≤ 100 ∧
      ∀ p H', Same H H' → H p = none → H' p = some (.lst ((cs.map Om.letterOf).map V.int)) → Q (.ref p) H'
  | _ => False
theorem scTold : FnScope ["k", "bits", "found", "at"] ["k", "bits"] (defScope sTold) := ⟨rfl, rfl, rfl, by decide +kernel, rfl, by decide +kernel, by decide +kernel⟩
local macro_rules | `(tactic| walk_at "T.n") => `(tactic| with_reducible first | exact vn "k" 0 | exact vn "bits" 1 | exact vn "found" 2 | exact vn "at" 3)
local macro_rules | `(tactic| walk_at "T.gn") => `(tactic| with_reducible first | exact gn "found" 2 (by with_unfolding_all assumption) | exact gn "at" 3 (by with_unfolding_all assumption))
local macro_rules | `(tactic| walk_at "T.n") => `(tactic| with_reducible first | exact vn "j" 0 | exact vn "bits" 1 | exact vn "at" 2 | exact vn "k" 3)
local macro_rules | `(tactic| walk_at "T.gn") => `(tactic| with_reducible first | exact gn "j" 0 (by with_unfolding_all assumption))
local macro_rules | `(tactic| walk_at "T.c") => `(tactic| (have ndc : (["j", "bits", "at", "k"] : List Str).Nodup := (by decide +kernel)); ((with_reducible refine' c_comp ["j", "bits", "at", "k"] [1, 3, 0] ?b1 ?b2 (fun cl C s H fp => ?b3) (fun cl C s H fp => ?b4) (fun cl C s H fp => ?b5)); (case b1 => exact ndc); (case b2 => walk_at "T.i"); (case b3 => walk_at "T.g"); (case b4 => walk_at "T.pf"); (case b5 => walk_at "T.e")))
local macro_rules | `(tactic| walk_at "T.n") => `(tactic| with_reducible first | exact vn "k" 0 | exact vn "bits" 1 | exact vn "found" 2 | exact vn "at" 3)
local macro_rules | `(tactic| walk_at "T.gn") => `(tactic| with_reducible first | exact gn "found" 2 (by with_unfolding_all assumption) | exact gn "at" 3 (by with_unfolding_all assumption))
local macro_rules | `(tactic| walk_at "T.n") => `(tactic| with_reducible first | exact vn "k" 0 | exact vn "bits" 1 | exact vn "found" 2 | exact vn "at" 3 | exact vn "j" 0 | exact vn "bits" 1 | exact vn "at" 2 | exact vn "k" 3)
local macro_rules | `(tactic| walk_at "T.gn") => `(tactic| with_reducible first | exact gn "found" 2 (by with_unfolding_all assumption) | exact gn "at" 3 (by with_unfolding_all assumption) | exact gn "j" 0 (by with_unfolding_all assumption))
local macro_rules | `(tactic| walk_at "T.b") => `(tactic| ((with_reducible refine' fn_sum ?a0 ?a9 ?a1); (case a0 => with_reducible assumption); (case a9 => rfl); (case a1 => walk_at "T.a")))
theorem ok_told (D : FnX K mg "_law_told" sTold ["k", "bits"]) (g1 : mg "len" = none) (g2 : mg "range" = none) (g3 : mg "sum" = none) : Can P w K mg base "_law_told" 1 ["k", "bits"] spTold := by
  refine can_fn (k := 0) D scTold (fun vs H Q E h => ?_) (fun f cdv A outer s H vs Q E hr h => ?_)
  all_goals
    unfold spTold at h
    split at h
  · rfl
  · exact h.elim
  · rename_i k b
    obtain ⟨j, cs, rfl, hj, hb, hc, hbit, hlen, q⟩ := h
    have nd := scTold.nd
    have j3 : 1 ≤ j ∧ j ≤ 3 := Or.elim hj (fun e => by rw [e]; decide) fun z => Or.elim z (fun e => by rw [e]; decide) fun e => by rw [e]; decide
    have fl : cs.flatten.length = cs.length * j := Om.flat_len cs hc
    refine ⟨_, (by walk_at "T.top"), ?_⟩
    refine ⟨Nat.zero_le _, fun fl' hfl => ?_⟩
    have sf : ∀ o, Same H (upd H fl' o) := fun o => Same.upd hfl
    have dj : (((cs.flatten.map V.int).length : Nat) : Int) / (j : Int) = ((cs.length : Nat) : Int) := by
      rw [List.length_map, fl]
      push_cast
      exact Int.mul_ediv_cancel _ (by omega)
    refine ⟨_, lenL (sf _ _ _ hb), ⟨by omega, by omega⟩, ?_⟩
    refine ⟨by rw [dj]; omega, by rw [dj]; omega, for_by (it_range 0 _) (fun i σ H2 => (∃ v, σ = [some (.int (j : Nat)), some (.ref b), some (.ref fl'), v]) ∧ Same H H2 ∧ H2 fl' = some (.lst (((cs.take i).map Om.letterOf).map V.int))) ⟨⟨none, rfl⟩, sf (.lst []), (upd_same : upd H fl' (.lst []) fl' = some (.lst []))⟩ (fun _ _ _ _ _ => trivial) ?_ ?_⟩
    · rintro i x σ H2 hi hx ⟨⟨v, rfl⟩, s2, h2⟩
      rw [List.length_map, List.length_range, dj, Int.toNat_natCast] at hi
      have ex : x = .int (i : Nat) := by
        rw [List.getElem?_map, List.getElem?_range (by rw [dj, Int.toNat_natCast]; exact hi)] at hx
        have := (Option.some.inj hx).symm
        rw [this]; simp
      subst ex
      have hci := hc cs[i] (List.getElem_mem hi)
      refine ⟨⟨_, rfl, h2⟩, ?_⟩
      refine ⟨by omega, by omega, fun D1 hD1 => ?_⟩
      refine comp_by (it_range 0 _) (fun m τ H3 ys => (∃ v, τ = [v, some (.ref b), some (.int (i : Nat)), some (.int (j : Nat))]) ∧ Same H2 H3 ∧ H3 D1 = some (.lst ys) ∧ ys = ((List.range m).map fun m => cs[i].getD m 0 * 2 ^ (j - 1 - m)).map V.int) (by simp; exact le_line (by omega)) ⟨⟨none, rfl⟩, Same.upd hD1, upd_same, rfl⟩ ?_ ?_ ?_
      · rintro m τ H3 ys hm ⟨_, s3, h3, rfl⟩
        exact ⟨trivial, h3, by simp⟩
      · rintro m x τ H3 ys hm hx ⟨⟨v, rfl⟩, s3, h3, rfl⟩
        rw [List.length_map, List.length_range, Int.toNat_natCast] at hm
        have ex : x = .int (m : Nat) := by
          rw [List.getElem?_map, List.getElem?_range (by rw [Int.toNat_natCast]; exact hm)] at hx
          have := (Option.some.inj hx).symm
          rw [this]; simp
        subst ex
        have ea : ((i : Nat) : Int) * (j : Int) + (m : Int) = ((i * j + m : Nat) : Int) := by push_cast; rfl
        have hg : (cs.flatten.map V.int)[i * j + m]? = some (.int (cs[i].getD m 0)) := by
          have e := Om.cut_get cs i hc hi
          have e2 : cs.flatten[i * j + m]? = cs[i][m]? := by
            rw [← e, List.getElem?_take, if_pos hm, List.getElem?_drop]
          rw [List.getElem?_map, e2, List.getElem?_eq_getElem (by omega), List.getD_eq_getElem?_getD, List.getElem?_eq_getElem (by omega)]
          rfl
        refine ⟨.inr ⟨by omega, by omega⟩, ?_⟩
        have ge : getV H3 (.ref b) (((i : Nat) : Int) * (j : Int) + (m : Int)) = some (.int (cs[i].getD m 0)) := by
          rw [ea]
          exact gl (s3 _ _ (s2 _ _ hb)) (by omega) (by rw [Int.toNat_natCast]; exact hg)
        refine ⟨_, ge, ?_⟩
        refine ⟨le_line (Nat.le_of_ble_eq_true rfl), fun L hL => ?_⟩
        refine ⟨_, three_at hj hm upd_same, ?_⟩
        have nD : D1 ≠ L := ne_of_none h3 hL
        have p2 : (2 : Int) ^ (j - 1 - m) ≤ 4 := by
          have : j - 1 - m = 0 ∨ j - 1 - m = 1 ∨ j - 1 - m = 2 := by omega
          rcases this with e | e | e <;> rw [e] <;> decide
        have p0 : (0 : Int) < 2 ^ (j - 1 - m) := Int.pow_pos (by decide)
        refine ⟨.inr ⟨by omega, by omega⟩, by rw [upd_ne nD]; exact h3, ⟨_, rfl⟩, (s3.trans (Same.upd hL)).own hD1, upd_same, ?_⟩
        rw [List.range_succ, List.map_append, List.map_append]
        rfl
      · rintro τ H3 ys ⟨_, s3, h3, rfl⟩
        rw [List.length_map, List.length_range, Int.toNat_natCast] at h3
        refine ⟨_, h3, ?_⟩
        rw [told_sum hj hci]
        have h23 := s3 _ _ h2
        have ti : cs.take (i + 1) = cs.take i ++ [cs[i]] := by rw [List.take_add_one, List.getElem?_eq_getElem hi]; rfl
        refine ⟨_, h23, ?_, ⟨_, rfl⟩, (s2.trans s3).own hfl, ?_⟩
        · rw [List.length_map, List.length_map, List.length_take]; exact lt_line (by omega)
        · rw [upd_same, ti, List.map_append, List.map_append]
          rfl
    · rintro σ H2 ⟨⟨v, rfl⟩, s2, h2⟩
      rw [List.length_map, List.length_range, dj, Int.toNat_natCast, List.take_length] at h2
      exact q _ _ s2 hfl h2
  · exact h.elim
end

end K03
end
section
set_option Elab.async false
set_option linter.all false
set_option maxRecDepth 100000
set_option maxHeartbeats 4000000
namespace K03
open PySem L2
section
variable {P : Program} {w : World} {K : PySem.W.Frag} {mg : Str → Option Value} {base : Heap}
abbrev sSame3 : Stmt := top 24
def spSame3 : Sp := fun vs H Q _ => match vs with
  | [.ref f, .ref d] => ∃ ns : List Int, H f = some (.lst (ns.map V.int)) ∧ H d = some (.lst (ns.map V.int)) ∧ ns.length ≤ 1000 ∧ ∀ H', Same H H' → Q (.bl true) H'
  | _ => False
theorem scSame3 : FnScope ["found", "due"] ["found", "due"] (defScope sSame3) := ⟨rfl, rfl, rfl, by decide +kernel, rfl, by decide +kernel, by decide +kernel⟩
local macro_rules | `(tactic| walk_at "T.n") => `(tactic| with_reducible first | exact vn "one" 0)
local macro_rules | `(tactic| walk_at "T.gn") => `(tactic| with_reducible first | exact gn "one" 0 (by with_unfolding_all assumption))
local macro_rules | `(tactic| walk_at "T.c") => `(tactic| (have ndc : (["one"] : List Str).Nodup := (by decide +kernel)); ((with_reducible refine' c_comp ["one"] [] ?b1 ?b2 (fun cl C s H fp => ?b3) (fun cl C s H fp => ?b4) (fun cl C s H fp => ?b5)); (case b1 => exact ndc); (case b2 => walk_at "T.i"); (case b3 => walk_at "T.g"); (case b4 => walk_at "T.pf"); (case b5 => walk_at "T.e")))
local macro_rules | `(tactic| walk_at "T.n") => `(tactic| with_reducible first | exact vn "found" 0 | exact vn "due" 1)
local macro_rules | `(tactic| walk_at "T.n") => `(tactic| with_reducible first | exact vn "found" 0 | exact vn "due" 1 | exact vn "one" 0)
local macro_rules | `(tactic| walk_at "T.gn") => `(tactic| with_reducible exact gn "one" 0 (by with_unfolding_all assumption))
theorem ok_same3 (D : FnX K mg "_law_same" sSame3 ["found", "due"]) (g1 : mg "isinstance" = none) (g2 : mg "list" = none) (g3 : mg "int" = none) (g4 : mg "bool" = none) : Can P w K mg base "_law_same" 1 ["found", "due"] spSame3 := by
  refine can_fn (k := 0) D scSame3 (fun vs H Q E h => ?_) (fun f cdv A outer s H vs Q E hr h => ?_)
  all_goals
    unfold spSame3 at h
    split at h
  · rfl
  · exact h.elim
  · rename_i fo du
    obtain ⟨ns, hf, hd, hl, q⟩ := h
    have nd := scSame3.nd
    refine ⟨_, (by walk_at "T.top"), ?_⟩
    refine ⟨"list", (by simp [tyN, hf]), by decide, ?_⟩
    refine if_negP (by decide) ?_
    refine ⟨_, _, ints_DV hf, ints_DV hd, ints_shaped _, ints_shaped _, ?_⟩
    rw [eqv_ints]
    refine if_negP (by simp) ?_
    refine ⟨⟨_, SqL.of hf⟩, fun C hC => ?_⟩
    refine comp_by (it_list _ fo (ns.map V.int)) (fun i τ H2 ys => (∃ v, τ = [v]) ∧ Same H H2 ∧ H2 C = some (.lst ys) ∧ ys = []) (by rw [List.length_map]; exact le_line (by omega)) ⟨⟨none, rfl⟩, Same.upd hC, upd_same, rfl⟩ ?_ ?_ ?_
    · rintro i τ H2 ys hi ⟨_, s2, h2, rfl⟩
      exact ⟨SqL.of (s2 _ _ hf), h2, Nat.zero_le _⟩
    · rintro i z τ H2 ys hi hz ⟨⟨v, rfl⟩, s2, h2, rfl⟩
      rw [List.getElem?_map] at hz
      obtain ⟨n, hn, rfl⟩ := Option.map_eq_some_iff.mp hz
      refine ⟨"int", rfl, by decide, ?_⟩
      refine if_negP (by decide) ?_
      refine ⟨"int", rfl, by decide, ?_⟩
      refine if_negP (by decide) ?_
      exact ⟨⟨_, rfl⟩, s2, h2, rfl⟩
    · rintro τ H2 ys ⟨_, s2, h2, rfl⟩
      refine ⟨Nat.zero_le _, fun e he => ?_⟩
      refine ⟨_, _, ints_DV (ns := []) (Same.upd he _ _ h2), ints_DV (ns := []) upd_same, ints_shaped _, ints_shaped _, ?_⟩
      rw [eqv_ints]
      exact q _ (s2.trans (Same.upd he))
  · exact h.elim
end

end K03
end
section
set_option Elab.async false
set_option linter.all false
set_option maxRecDepth 100000
set_option maxHeartbeats 4000000
namespace K03
open PySem L2
section
variable {P : Program} {w : World} {K : PySem.W.Frag} {mg : Str → Option Value} {base : Heap}
def Cl (K : PySem.W.Frag) (mg : Str → Option Value) (C : Addr) (x : Str) (b : Bool) : Prop := ∃ D, mg x = some (.ref D) ∧ PySem.W.kitOne K (.ref C) (.ref D) = some b
abbrev sKinds : Stmt := top 22
def spKinds (C : Addr) : Sp := fun vs H Q _ => match vs with
  | [.ref x, .int d] => d = 0 ∧ H x = some (ExcO x (.ref C)) ∧ ∀ H', Same H H' → Q (.bl true) H'
  | _ => False
theorem scKinds : FnScope ["caught", "due", "kinds"] ["caught", "due"] (defScope sKinds) := ⟨rfl, rfl, rfl, by decide +kernel, rfl, by decide +kernel, by decide +kernel⟩
local macro_rules | `(tactic| walk_at "T.n") => `(tactic| with_reducible first | exact vn "k" 0 | exact vn "due" 1)
local macro_rules | `(tactic| walk_at "T.gn") => `(tactic| with_reducible first | exact gn "k" 0 (by with_unfolding_all assumption))
local macro_rules | `(tactic| walk_at "T.c") => `(tactic| (have ndc : (["k", "due"] : List Str).Nodup := (by decide +kernel)); ((with_reducible refine' c_comp ["k", "due"] [1] ?b1 ?b2 (fun cl C s H fp => ?b3) (fun cl C s H fp => ?b4) (fun cl C s H fp => ?b5)); (case b1 => exact ndc); (case b2 => walk_at "T.i"); (case b3 => walk_at "T.g"); (case b4 => walk_at "T.pf"); (case b5 => walk_at "T.e")))
local macro_rules | `(tactic| walk_at "T.n") => `(tactic| with_reducible first | exact vn "caught" 0 | exact vn "due" 1 | exact vn "kinds" 2)
local macro_rules | `(tactic| walk_at "T.gn") => `(tactic| with_reducible first | exact gn "kinds" 2 (by with_unfolding_all assumption))
local macro_rules | `(tactic| walk_at "T.b") => `(tactic| ((with_reducible refine' fn_isX ?a0 ?a9 ?a1); (case a0 => with_reducible assumption); (case a9 => rfl); (case a1 => walk_at "T.a")))
local macro_rules | `(tactic| walk_at "T.e") => `(tactic| first | ((with_reducible refine' e_clsX "NoLetter" ?a0 ?a9); (case a0 => with_reducible assumption); (case a9 => rfl)) | ((with_reducible refine' e_clsX "NoCode" ?a0 ?a9); (case a0 => with_reducible assumption); (case a9 => rfl)) | ((with_reducible refine' e_clsX "NoWindow" ?a0 ?a9); (case a0 => with_reducible assumption); (case a9 => rfl)) | ((with_reducible refine' e_clsX "NoMark" ?a0 ?a9); (case a0 => with_reducible assumption); (case a9 => rfl)) | ((with_reducible refine' e_clsX "NoText" ?a0 ?a9); (case a0 => with_reducible assumption); (case a9 => rfl)) | ((with_reducible refine' e_clsX "NoName" ?a0 ?a9); (case a0 => with_reducible assumption); (case a9 => rfl)) | ((with_reducible refine' e_clsX "NoRow" ?a0 ?a9); (case a0 => with_reducible assumption); (case a9 => rfl)) | ((with_reducible refine' e_clsX "NoWire" ?a0 ?a9); (case a0 => with_reducible assumption); (case a9 => rfl)) | ((with_reducible refine' e_tyVE ?a0 ?a9); (case a0 => with_reducible assumption); (case a9 => rfl)))
theorem ok_kinds (D : FnX K mg "_law_kinds" sKinds ["caught", "due"]) (g1 : mg "isinstance" = none) (g2 : mg "range" = none) (g3 : mg "ValueError" = none) {C : Addr} (Z : PySem.W.ExCls K C) (k1 : Cl K mg C "NoLetter" true) (k2 : Cl K mg C "NoCode" false) (k3 : Cl K mg C "NoWindow" false) (k4 : Cl K mg C "NoMark" false)
    (k5 : Cl K mg C "NoText" false) (k6 : Cl K mg C "NoName" false) (k7 : Cl K mg C "NoRow" false) (k8 : Cl K mg C "NoWire" false) (k9 : PySem.W.kitOne K (.ref C) (.type "ValueError") = some true) : Can P w K mg base "_law_kinds" 1 ["caught", "due"] (spKinds C) := by
  obtain ⟨D1, m1, e1⟩ := k1
  obtain ⟨D2, m2, e2⟩ := k2
  obtain ⟨D3, m3, e3⟩ := k3
  obtain ⟨D4, m4, e4⟩ := k4
  obtain ⟨D5, m5, e5⟩ := k5
  obtain ⟨D6, m6, e6⟩ := k6
  obtain ⟨D7, m7, e7⟩ := k7
  obtain ⟨D8, m8, e8⟩ := k8
  refine can_fn (k := 0) D scKinds (fun vs H Q E h => ?_) (fun f cdv A outer s H vs Q E hr h => ?_)
  all_goals
    unfold spKinds at h
    split at h
  · rfl
  · exact h.elim
  · rename_i x d
    obtain ⟨rfl, hx, q⟩ := h
    have nd := scKinds.nd
    refine ⟨_, (by walk_at "T.top"), ?_⟩
    refine ⟨C, true, Z, hx, e1, C, false, Z, hx, e2, C, false, Z, hx, e3, ?_⟩
    refine ⟨le_line (Nat.le_of_ble_eq_true rfl), fun A1 n1 => ?_⟩
    have s1 := Same.upd (o := .lst [.bl true, .bl false, .bl false]) n1
    have hx1 := s1 _ _ hx
    have h1 : upd H A1 (.lst [.bl true, .bl false, .bl false]) A1 = some (.lst [.bl true, .bl false, .bl false]) := upd_same
    generalize upd H A1 (.lst [.bl true, .bl false, .bl false]) = H1 at *
    refine ⟨C, false, Z, hx1, e4, C, false, Z, hx1, e5, C, false, Z, hx1, e6, ?_⟩
    refine ⟨le_line (Nat.le_of_ble_eq_true rfl), fun A2 n2 => ?_⟩
    have s2 := s1.trans (Same.upd (o := .lst [.bl false, .bl false, .bl false]) n2)
    refine ⟨_, _, Same.upd n2 _ _ h1, upd_same, le_line (Nat.le_of_ble_eq_true rfl), fun A3 n3 => ?_⟩
    have s3 := s2.trans (Same.upd (o := .lst ([.bl true, .bl false, .bl false] ++ [.bl false, .bl false, .bl false])) n3)
    have h3 : upd (upd H1 A2 (.lst [.bl false, .bl false, .bl false])) A3 (.lst ([.bl true, .bl false, .bl false] ++ [.bl false, .bl false, .bl false])) A3 = some (.lst ([.bl true, .bl false, .bl false] ++ [.bl false, .bl false, .bl false])) := upd_same
    generalize upd (upd H1 A2 (.lst [.bl false, .bl false, .bl false])) A3 (.lst ([.bl true, .bl false, .bl false] ++ [.bl false, .bl false, .bl false])) = H3 at *
    have hx3 := s3 _ _ hx
    refine ⟨C, false, Z, hx3, e7, C, false, Z, hx3, e8, C, true, Z, hx3, k9, ?_⟩
    refine ⟨le_line (Nat.le_of_ble_eq_true rfl), fun A4 n4 => ?_⟩
    have s4 := s3.trans (Same.upd (o := .lst [.bl false, .bl false, .bl (!true)]) n4)
    refine ⟨_, _, Same.upd n4 _ _ h3, upd_same, le_line (Nat.le_of_ble_eq_true rfl), fun A5 n5 => ?_⟩
    have s5 := s4.trans (Same.upd (o := .lst (([.bl true, .bl false, .bl false] ++ [.bl false, .bl false, .bl false]) ++ [.bl false, .bl false, .bl (!true)])) n5)
    have h5 : upd (upd H3 A4 (.lst [.bl false, .bl false, .bl (!true)])) A5 (.lst (([.bl true, .bl false, .bl false] ++ [.bl false, .bl false, .bl false]) ++ [.bl false, .bl false, .bl (!true)])) A5 = some (.lst (([.bl true, .bl false, .bl false] ++ [.bl false, .bl false, .bl false]) ++ [.bl false, .bl false, .bl (!true)])) := upd_same
    generalize upd (upd H3 A4 (.lst [.bl false, .bl false, .bl (!true)])) A5 (.lst (([.bl true, .bl false, .bl false] ++ [.bl false, .bl false, .bl false]) ++ [.bl false, .bl false, .bl (!true)])) = H5 at *
    dsimp only [gName, tRet, tAndU, tOp, tV, tC, rIsNotU]
    refine iteP (c := (!decide (V.ref x = V.non)) = true) (by simp) ?_
    refine ⟨by decide, by decide, fun A6 n6 => ?_⟩
    have s6 : ∀ o, Same H (upd H5 A6 o) := fun o => s5.trans (Same.upd n6)
    refine comp_map1 (it_range 0 9) (fun v => match v with | .int i => .bl (decide (i = 0)) | _ => .non) (by simp; exact le_line (by omega)) (fun _ => trivial) (fun i y ys hy B c => ?_) ?_
    · rw [List.getElem?_map] at hy
      obtain ⟨j, hj, rfl⟩ := Option.map_eq_some_iff.mp hy
      exact c
    · have b1 : DVs (upd H5 A6 (.lst [.bl true, .bl false, .bl false, .bl false, .bl false, .bl false, .bl false, .bl false, .bl false])) [.bl true, .bl false, .bl false, .bl false, .bl false, .bl false, .bl false, .bl false, .bl false] [.bool true, .bool false, .bool false, .bool false, .bool false, .bool false, .bool false, .bool false, .bool false] :=
        .cons (.bl _) (.cons (.bl _) (.cons (.bl _) (.cons (.bl _) (.cons (.bl _) (.cons (.bl _) (.cons (.bl _) (.cons (.bl _) (.cons (.bl _) .nil))))))))
      refine ⟨_, _, .lst (Same.upd n6 _ _ h5) b1, .lst upd_same b1, by decide +kernel, by decide +kernel, ?_⟩
      exact q _ (s6 _)
  · exact h.elim
end

end K03
end
section
set_option Elab.async false
set_option linter.all false
set_option maxRecDepth 100000
set_option maxHeartbeats 4000000
namespace K03
open PySem L2
section
variable {P : Program} {w : World} {K : PySem.W.Frag} {mg : Str → Option Value} {base : Heap}
theorem tyN_mono {H H' : Hp} (s : Same H H') {v : V} {T : String} (h : tyN H v = some T) : tyN H' v = some T := by
  cases v with
  | ref a =>
    cases e : H a with
    | none => simp [tyN, e] at h
    | some o =>
      have e' := s _ _ e
      simp only [tyN, e] at h
      simp only [tyN, e']
      exact h
  | _ => exact h
def Dic1 (H : Hp) (x : V) : Prop := ∃ p, x = .ref p ∧ H p = some (.dK [(Sum.inl 0, .int 1)])
def Sm (H : Hp) : Nat → V → V → Prop
  | 0, _, _ => False
  | n + 1, x, y => (x = y ∧ (∃ T, tyN H x = some T ∧ (T == "list") = false) ∧ (Tw H 3 x x ∨ Dic1 H x)) ∨ ∃ a b xs, x = .ref a ∧ y = .ref b ∧ H a = some (.lst xs) ∧ H b = some (.lst xs) ∧ xs.length ≤ 1000 ∧ ∀ e ∈ xs, Sm H n e e
theorem Sm.mono {H H' : Hp} (s : Same H H') : ∀ {n : Nat} {x y : V}, Sm H n x y → Sm H' n x y
  | 0, _, _, h => h.elim
  | n + 1, x, y, h => by
    rcases h with ⟨e, ⟨T, h1, h2⟩, h3⟩ | ⟨a, b, xs, e1, e2, h1, h2, h3, h4⟩
    · refine .inl ⟨e, ⟨T, tyN_mono s h1, h2⟩, ?_⟩
      rcases h3 with h3 | ⟨p, e, h3⟩
      · exact .inl (h3.mono s)
      · exact .inr ⟨p, e, s _ _ h3⟩
    · exact .inr ⟨a, b, xs, e1, e2, s _ _ h1, s _ _ h2, h3, fun z hz => Sm.mono s (h4 z hz)⟩
abbrev sAlike : Stmt := top 25
def spSame (n : Nat) : Sp := fun vs H Q _ => match vs with
  | [x, y] => Sm H n x y ∧ ∀ H', Same H H' → Q (.bl true) H'
  | _ => False
theorem scAlike : FnScope ["one", "other"] ["one", "other"] (defScope sAlike) := ⟨rfl, rfl, rfl, by decide +kernel, rfl, by decide +kernel, by decide +kernel⟩
local macro_rules | `(tactic| walk_at "T.n") => `(tactic| with_reducible first | exact vn "k" 0 | exact vn "one" 1 | exact vn "other" 2)
local macro_rules | `(tactic| walk_at "T.gn") => `(tactic| with_reducible first | exact gn "k" 0 (by with_unfolding_all assumption))
local macro_rules | `(tactic| walk_at "T.c") => `(tactic| (have ndc : (["k", "one", "other"] : List Str).Nodup := (by decide +kernel)); ((with_reducible refine' c_comp ["k", "one", "other"] [0, 1] ?b1 ?b2 (fun cl C s H fp => ?b3) (fun cl C s H fp => ?b4) (fun cl C s H fp => ?b5)); (case b1 => exact ndc); (case b2 => walk_at "T.i"); (case b3 => walk_at "T.g"); (case b4 => walk_at "T.pf"); (case b5 => walk_at "T.e")))
local macro_rules | `(tactic| walk_at "T.n") => `(tactic| with_reducible first | exact vn "one" 0 | exact vn "other" 1)
local macro_rules | `(tactic| walk_at "T.n") => `(tactic| with_reducible first | exact vn "one" 0 | exact vn "other" 1 | exact vn "k" 0 | exact vn "one" 1 | exact vn "other" 2)
local macro_rules | `(tactic| walk_at "T.cmp") => `(tactic| ((with_reducible refine' op_eqW ?a0); (case a0 => exact Room.units (by assumption))))
theorem ok_same0 (D : FnX K mg "_law_alike" sAlike ["one", "other"]) : Can P w K mg base "_law_alike" 0 ["one", "other"] (spSame 0) := by
  have no : ∀ vs H Q E, spSame 0 vs H Q E → False := fun vs H Q E h => by
    unfold spSame at h
    split at h
    · exact h.1
    · exact h
  obtain ⟨f, fd, F, hm, hb⟩ := D
  exact ⟨f, fd, ⟨fun vs H Q E h => (no _ _ _ _ h).elim, fun A outer s H args us vs Q E hr he hb' hv h => (no _ _ _ _ h).elim⟩, hm, F.kp, hb⟩
theorem ok_sameS (n : Nat) (D : FnX K mg "_law_alike" sAlike ["one", "other"]) (g1 : mg "isinstance" = none) (g2 : mg "list" = none) (g3 : mg "len" = none) (g4 : mg "range" = none) (g5 : mg "bool" = none)
    (c1 : Can P w K mg base "_law_alike" n ["one", "other"] (spSame n)) : Can P w K mg base "_law_alike" (n + 1) ["one", "other"] (spSame (n + 1)) := by
  refine can_fn (k := n) D scAlike (fun vs H Q E h => ?_) (fun f cdv A outer s H vs Q E hr h => ?_)
  all_goals
    unfold spSame at h
    split at h
  · rfl
  · exact h.elim
  · rename_i x y
    obtain ⟨h, q⟩ := h
    have nd := scAlike.nd
    refine ⟨_, (by walk_at "T.top"), ?_⟩
    rcases h with ⟨rfl, ⟨T, hT, nT⟩, h3⟩ | ⟨a, b, xs, rfl, rfl, ha, hb, hz, hx⟩
    · refine ⟨T, hT, by decide, ?_⟩
      have e : (T == "list" || (T == "bool" && ("list" : String) == "int")) = false := by rw [nT, Bool.false_or]; simp
      rw [e]
      refine iteF (iteF ?_)
      have fin : (if true = true then rIsI [x, .ty "bool"] H fun b1 H1 => rIsI [x, .ty "bool"] H1 fun b2 H2 => rEqW b1 b2 H2 Q else Q (.bl true) H) := by
        refine iteT ⟨T, hT, by decide, ?_⟩
        exact ⟨T, hT, by decide, .inl ⟨1, by decide, .leaf trivial, q _ (Same.refl _)⟩⟩
      rcases h3 with h3 | ⟨p, rfl, h3⟩
      · exact .inl ⟨3, by decide, h3, fin⟩
      · exact .inr ⟨p, rfl, rfl, h3, fin⟩
    · refine ⟨"list", (by simp [tyN, ha]), by decide, ?_⟩
      refine iteP (by decide) ?_
      refine ⟨"list", (by simp [tyN, hb]), by decide, ?_⟩
      refine iteP (by decide) ?_
      refine ⟨_, lenL ha, _, lenL hb, .inl ⟨1, by decide, .leaf trivial, ?_⟩⟩
      refine iteP rfl ?_
      refine ⟨_, lenL ha, by omega, by omega, fun C hC => ?_⟩
      have sC : ∀ o, Same H (upd H C o) := fun o => Same.upd hC
      refine comp_by (it_range 0 _) (fun i τ H2 ys => (∃ v, τ = [v, some (.ref a), some (.ref b)]) ∧ Same H H2 ∧ H2 C = some (.lst ys) ∧ ys = []) (by simp; exact le_line (by omega)) ⟨⟨none, rfl⟩, sC _, upd_same, rfl⟩ ?_ ?_ ?_
      · rintro i τ H2 ys hi ⟨_, s2, h2, rfl⟩
        exact ⟨trivial, h2, Nat.zero_le _⟩
      · rintro i z τ H2 ys hi hz' ⟨⟨v, rfl⟩, s2, h2, rfl⟩
        have hi' : i < xs.length := by simpa using hi
        have ez : z = .int (i : Nat) := by
          rw [List.getElem?_map, List.getElem?_range (by simpa using hi)] at hz'
          have := (Option.some.inj hz').symm
          rw [this]; simp
        subst ez
        refine ⟨_, gl (s2 _ _ ha) (by omega) (by rw [Int.toNat_natCast]; exact List.getElem?_eq_getElem hi'), _, gl (s2 _ _ hb) (by omega) (by rw [Int.toNat_natCast]; exact List.getElem?_eq_getElem hi'), ?_⟩
        refine ⟨Sm.mono s2 (hx _ (List.getElem_mem hi')), fun H3 s3 => ?_⟩
        refine if_negP (c := (!true) = true) (by decide) ?_
        exact ⟨⟨_, rfl⟩, s2.trans s3, s3 _ _ h2, rfl⟩
      · rintro τ H2 ys ⟨_, s2, h2, rfl⟩
        refine ⟨Nat.zero_le _, fun e he => ?_⟩
        exact .inl ⟨2, by decide, .lst (Same.upd he _ _ h2) upd_same .nil, q _ (s2.trans (Same.upd he))⟩
  · exact h.elim
end

end K03
end
section
set_option Elab.async false
set_option linter.all false
set_option maxRecDepth 100000
set_option maxHeartbeats 4000000
namespace K03
open PySem L2
section
variable {P : Program} {w : World} {K : PySem.W.Frag} {mg : Str → Option Value} {base : Heap}
def NoB (H : Hp) (way : Int) (j : Nat) (v : V) : Prop := ((∃ T, tyN H v = some T ∧ (T == "list") = false) ∧ (Tw H 3 v v ∨ Dic1 H v)) ∨ ∃ l xs ds, v = .ref l ∧ H l = some (.lst xs) ∧ DVs H xs ds ∧ xs.length ≤ 1000 ∧ (way = 0 → xs.all (ltV 1) = true → xs.length % j ≠ 0) ∧ (way = 1 → xs.all (ltV j) = false) ∧ ∀ e ∈ xs, Sm H 2 e e
abbrev sRef : Stmt := top 26
def spRef3 : Sp := fun vs H Q _ => match vs with
  | [.int way, .int k, v] => ∃ j : Nat, k = (j : Int) ∧ (j = 1 ∨ j = 2 ∨ j = 3) ∧ (way = 0 ∨ way = 1) ∧ NoB H way j v ∧ ∀ H', Same H H' → Q (.bl true) H'
  | _ => False
theorem scRef : FnScope ["way", "k", "row", "caught", "handed", "e"] ["way", "k", "row"] (defScope sRef) := ⟨rfl, rfl, rfl, by decide +kernel, rfl, by decide +kernel, by decide +kernel⟩
local macro_rules | `(tactic| walk_at "T.n") => `(tactic| with_reducible first | exact vn "way" 0 | exact vn "k" 1 | exact vn "row" 2 | exact vn "caught" 3 | exact vn "handed" 4 | exact vn "e" 5)
local macro_rules | `(tactic| walk_at "T.gn") => `(tactic| with_reducible first | exact gn "caught" 3 (by with_unfolding_all assumption) | exact gn "handed" 4 (by with_unfolding_all assumption) | exact gn "e" 5 (by with_unfolding_all assumption))
local macro_rules | `(tactic| walk_at "T.pb1") => `(tactic| ((with_reducible refine' pb_call "letters" ?c0 ?c9 ?c1 ?c2); (case c0 => with_reducible assumption); (case c9 => exact ⟨rfl, rfl, rfl, rfl, rfl⟩); (case c1 => exact Room.mono (by assumption) (by decide)); (case c2 => walk_at "T.a")))
local macro_rules | `(tactic| walk_at "T.pb2") => `(tactic| ((with_reducible refine' pb_call "bits_of" ?c0 ?c9 ?c1 ?c2); (case c0 => with_reducible assumption); (case c9 => exact ⟨rfl, rfl, rfl, rfl, rfl⟩); (case c1 => exact Room.mono (by assumption) (by decide)); (case c2 => walk_at "T.a")))
local macro_rules | `(tactic| walk_at "T.pb") => `(tactic| ((with_reducible refine' pb_if ?d1 ?d2 ?d3); (case d1 => walk_at "T.t"); (case d2 => walk_at "T.pb1"); (case d3 => walk_at "T.pb2")))
local macro_rules | `(tactic| walk_at "T.st") => `(tactic| ((with_reducible refine' s_try "BeatError" "e" 5 ?b0 ?b9 ?b1 ?b2 (fun a => ?b3)); (case b0 => with_reducible assumption); (case b9 => rfl); (case b1 => with_unfolding_all assumption); (case b2 => walk_at "T.pb"); (case b3 => walk_at "T.s")))
theorem ok_ref (D : FnX K mg "_law_refused" sRef ["way", "k", "row"]) (g1 : mg "isinstance" = none) (g2 : mg "list" = none) {C B : Addr} (hB : mg "BeatError" = some (.ref B)) (hx : PySem.W.exmOne K (.ref C) (.ref B) = some true)
    (c1 : CanX P w K mg base "letters" 3 ["k", "bits"] (spLetters C)) (c4 : CanX P w K mg base "bits_of" 4 ["k", "text"] (spBitsOf C)) (c2 : Can P w K mg base "_law_kinds" 1 ["caught", "due"] (spKinds C)) (c3 : Can P w K mg base "_law_alike" 3 ["one", "other"] (spSame 3)) : Can P w K mg base "_law_refused" 5 ["way", "k", "row"] spRef3 := by
  refine can_fn (k := 4) D scRef (fun vs H Q E h => ?_) (fun f cdv A outer s H vs Q E hr h => ?_)
  all_goals
    unfold spRef3 at h
    split at h
  · rfl
  · exact h.elim
  · rename_i way k v
    obtain ⟨j, rfl, hj, hw, h, q⟩ := h
    have nd := scRef.nd
    have j3 : 1 ≤ j ∧ j ≤ 3 := Or.elim hj (fun e => by rw [e]; decide) fun z => Or.elim z (fun e => by rw [e]; decide) fun e => by rw [e]; decide
    refine ⟨_, (by walk_at "T.top"), ?_⟩
    rcases h with ⟨⟨T, hT, nT⟩, h3⟩ | ⟨l, xs, ds, rfl, hl, dv, hz, bad0, bad1, h3⟩
    · refine ⟨T, hT, by decide, ?_⟩
      have e : (T == "list" || (T == "bool" && ("list" : String) == "int")) = false := by rw [nT, Bool.false_or]; simp
      rw [e]
      refine iteF ?_
      rcases hw with rfl | rfl
      · exact ⟨j, rfl, hj, .inr (.inl ⟨T, hT, nT, hx, fun x nx => ⟨rfl, upd_same, fun H3 s3 => iteP rfl (have s4 := (Same.upd nx).trans s3; ⟨Sm.mono s4 (.inl ⟨rfl, ⟨T, hT, nT⟩, h3⟩), fun H4 s5 => q _ (s4.trans s5)⟩)⟩⟩)⟩
      · exact ⟨j, rfl, j3.1, j3.2, .inr (.inl ⟨T, hT, nT, hx, fun x nx => ⟨rfl, upd_same, fun H3 s3 => iteP rfl (have s4 := (Same.upd nx).trans s3; ⟨Sm.mono s4 (.inl ⟨rfl, ⟨T, hT, nT⟩, h3⟩), fun H4 s5 => q _ (s4.trans s5)⟩)⟩⟩)⟩
    · refine ⟨"list", (by simp [tyN, hl]), by decide, ?_⟩
      refine iteP (by decide) ?_
      refine ⟨xs, .inl hl, fun l2 n2 => ?_⟩
      have s2 := Same.upd (o := .lst xs) n2
      rcases hw with rfl | rfl
      · exact ⟨j, rfl, hj, .inr (.inr ⟨l2, xs, ds, rfl, upd_same, dv.mono s2, hz, bad0 rfl, fun H2 s3 => ⟨hx, fun x nx => ⟨rfl, upd_same, fun H3 s4 => iteP rfl (have s5 := (s3.trans (Same.upd nx)).trans s4; ⟨Sm.mono s5 (.inr ⟨l2, l, xs, rfl, rfl, upd_same, s2 _ _ hl, hz, fun e he => Sm.mono s2 (h3 e he)⟩), fun H4 s6 => q _ ((s2.trans s5).trans s6)⟩)⟩⟩⟩)⟩
      · exact ⟨j, rfl, j3.1, j3.2, .inr (.inr ⟨l2, xs, ds, rfl, upd_same, dv.mono s2, hz, bad1 rfl, fun H2 s3 => ⟨hx, fun x nx => ⟨rfl, upd_same, fun H3 s4 => iteP rfl (have s5 := (s3.trans (Same.upd nx)).trans s4; ⟨Sm.mono s5 (.inr ⟨l2, l, xs, rfl, rfl, upd_same, s2 _ _ hl, hz, fun e he => Sm.mono s2 (h3 e he)⟩), fun H4 s6 => q _ ((s2.trans s5).trans s6)⟩)⟩⟩⟩)⟩
  · exact h.elim
end

end K03
end
section
set_option Elab.async false
set_option linter.all false
set_option maxRecDepth 100000
set_option maxHeartbeats 4000000
namespace K03
open PySem L2
section
variable {X : Cx} {x : Str} {p pos : Pos} {e : Expr} {es : List Expr} {t : TA} {k : Nat} {ps : List Str} {sp : Sp}
theorem fn_canX (x : Str) {P' : Program} {w' : World} {K' : PySem.W.Frag} {mg' : Str → Option Value} {base' : Heap} (C : CanX P' w' K' mg' base' x k ps sp) (hX : X.prog = P' ∧ X.w = w' ∧ X.K = K' ∧ X.mg = mg' ∧ X.base = base') (hr : Room k X.A) (ha : PA X (e :: es) t) (hg : gB X x = true := by kernel_rfl)
    (hdb : (x == ("__debug__" : Str)) = false := by kernel_rfl) (he : starEach (e :: es) X.env = (false, eval e X.env) :: starEach es X.env := by kernel_rfl) (hpl : (backTo pos (starEach es X.env)).any (·.1) = false := by kernel_rfl) :
    PE X (.Call (.Name x p) (e :: es) [] pos) (tCan sp t) := by
  obtain ⟨rfl, rfl, rfl, rfl, rfl⟩ := hX
  obtain ⟨f, fd, F, hm, hk, hb⟩ := C
  have h := pe_call (pos := pos) (p := p) (E := E0) F hr (gl_of hg) hm hk hb .nil (fun pins σ H s e s' I z => by obtain ⟨_, _, _, _, _, _, _, _, _, _, _, _, _, _, z⟩ := z; exact z.elim) ha hdb he hpl
  intro pins s σ H Q I q
  refine thn (h pins s σ H Q I ?_) fun _ _ z => z
  have ee : tCall sp [] E0 t = tCan sp t := by funext σ H Q; unfold tCall tCan; simp only [List.append_nil]
  rw [ee]
  exact q
end
def tDic1 : TE := fun _ H Q => ∀ d, H d = none → Q (.ref d) (upd H d (.dK [(Sum.inl 0, .int 1)]))
theorem e_dic1 {X : Cx} {j1 j2 : Nat} {pos p1 p2 : Pos} : PE X (.Dict [some (.Constant (.int 0) j1 p1)] [.Constant (.int 1) j2 p2] pos) tDic1 := by
  have h := pe_disp (X := X) (pos := pos) (pps_cons (pos := pos) (pe_int (X := X) (j := j1) (pos := p1) (i := 0)) (pe_int (X := X) (j := j2) (pos := p2) (i := 1)) pps_nil) rfl rfl (by simp) (by simp)
  intro pins s σ H Q I q
  refine h pins s σ H Q I fun p hp => ?_
  refine ⟨upd_same, [(Sum.inl 0, .int 1)], rfl, by simp, ?_⟩
  rw [upd_upd]
  exact q p hp
theorem DVs_all {H : Hp} : ∀ {xs : List V}, (∀ x ∈ xs, ∃ d, DV H x d) → ∃ ds, DVs H xs ds
  | [], _ => ⟨[], .nil⟩
  | x :: xs, h => by
    obtain ⟨d, hd⟩ := h x List.mem_cons_self
    obtain ⟨ds, hds⟩ := DVs_all fun y hy => h y (List.mem_cons_of_mem _ hy)
    exact ⟨d :: ds, .cons hd hds⟩
theorem Sm_leaf {H : Hp} {n : Nat} {x : V} {T : String} (h : leafV x) (t : tyN H x = some T) (nT : (T == "list") = false) : Sm H (n + 1) x x := .inl ⟨rfl, ⟨T, t, nT⟩, .inl (.leaf h)⟩

end K03
end
section
set_option Elab.async false
set_option linter.all false
set_option maxRecDepth 100000
set_option maxHeartbeats 4000000
namespace K03
open PySem L2
section
variable {P : Program} {w : World} {K : PySem.W.Frag} {mg : Str → Option Value} {base : Heap}
theorem two_lay (xs ys : List Int) : ∀ d ∈ ([.list (xs.map PyData.int), .list (ys.map PyData.int)] : List PyData), d.canLay0 = true := fun d hd => by
  rcases List.mem_cons.mp hd with rfl | hd
  · exact ints_lay xs
  · rw [List.mem_singleton.mp hd]; exact ints_lay ys
theorem two_eqv (xs ys : List Int) : PyData.eqv (.list [.list (xs.map PyData.int), .list (ys.map PyData.int)]) (.list [.list (xs.map PyData.int), .list (ys.map PyData.int)]) = true := SeqAt.eqv_refl _ (by rw [PyData.canLay0]; exact lay_all (two_lay xs ys))
theorem two_shaped (xs ys : List Int) : SeqAt.shaped (.list [.list (xs.map PyData.int), .list (ys.map PyData.int)]) = true := shaped_list (k := 1) (two_lay xs ys) (fun d hd => by
  rcases List.mem_cons.mp hd with rfl | hd
  · exact intsD_depth xs
  · rw [List.mem_singleton.mp hd]; exact intsD_depth ys) (by decide)
abbrev sRight : Stmt := top 27
def spRight3 : Sp := fun vs H Q _ => match vs with
  | [.int k, .ref b] => ∃ (j : Nat) (cs : List (List Int)), k = (j : Int) ∧ (j = 1 ∨ j = 2 ∨ j = 3) ∧ H b = some (.lst (cs.flatten.map V.int)) ∧ (∀ c ∈ cs, c.length = j) ∧ (∀ c ∈ cs, ∀ b ∈ c, Om.Bit b) ∧ cs.length ≤ 100 ∧ ∀ H', Same H H' → Q (.bl true) H'
  | _ => False
theorem scRight : FnScope ["k", "bits", "due", "handed", "found", "text", "back", "held"] ["k", "bits"] (defScope sRight) := ⟨rfl, rfl, rfl, by decide +kernel, rfl, by decide +kernel, by decide +kernel⟩
local macro_rules | `(tactic| walk_at "T.n") => `(tactic| with_reducible first | exact vn "k" 0 | exact vn "bits" 1 | exact vn "due" 2 | exact vn "handed" 3 | exact vn "found" 4 | exact vn "text" 5 | exact vn "back" 6 | exact vn "held" 7)
local macro_rules | `(tactic| walk_at "T.gn") => `(tactic| with_reducible first | exact gn "due" 2 (by with_unfolding_all assumption) | exact gn "handed" 3 (by with_unfolding_all assumption) | exact gn "found" 4 (by with_unfolding_all assumption) | exact gn "text" 5 (by with_unfolding_all assumption) | exact gn "back" 6 (by with_unfolding_all assumption) | exact gn "held" 7 (by with_unfolding_all assumption))
local macro_rules | `(tactic| walk_at "T.c") => `(tactic| first | ((with_reducible refine' fn_canX "letters" ?a0 ?a9 ?a1 ?a2); (case a0 => with_reducible assumption); (case a9 => exact ⟨rfl, rfl, rfl, rfl, rfl⟩); (case a1 => exact Room.mono (by assumption) (by decide)); (case a2 => walk_at "T.a")) | ((with_reducible refine' fn_canX "bits_of" ?a0 ?a9 ?a1 ?a2); (case a0 => with_reducible assumption); (case a9 => exact ⟨rfl, rfl, rfl, rfl, rfl⟩); (case a1 => exact Room.mono (by assumption) (by decide)); (case a2 => walk_at "T.a")))
theorem ok_right (D : FnX K mg "_law_right" sRight ["k", "bits"]) (g1 : mg "list" = none) {C : Addr} (c1 : Can P w K mg base "_law_told" 1 ["k", "bits"] spTold) (c2 : Can P w K mg base "_law_same" 1 ["found", "due"] spSame3)
    (c3 : CanX P w K mg base "letters" 3 ["k", "bits"] (spLetters C)) (c4 : CanX P w K mg base "bits_of" 4 ["k", "text"] (spBitsOf C)) : Can P w K mg base "_law_right" 5 ["k", "bits"] spRight3 := by
  refine can_fn (k := 4) D scRight (fun vs H Q E h => ?_) (fun f cdv A outer s H vs Q E hr h => ?_)
  all_goals
    unfold spRight3 at h
    split at h
  · rfl
  · exact h.elim
  · rename_i k b
    obtain ⟨j, cs, rfl, hj, hb, hc, hbit, hlen, q⟩ := h
    have nd := scRight.nd
    have j3 : 1 ≤ j ∧ j ≤ 3 := Or.elim hj (fun e => by rw [e]; decide) fun z => Or.elim z (fun e => by rw [e]; decide) fun e => by rw [e]; decide
    have fl : cs.flatten.length = cs.length * j := Om.flat_len cs hc
    have fl3 : cs.flatten.length ≤ 300 := by
      rw [fl]
      calc cs.length * j ≤ 100 * 3 := Nat.mul_le_mul hlen j3.2
        _ ≤ 300 := by decide
    have bl := Om.bits_letters hj cs hc hbit
    have lo : ∀ l ∈ cs.map Om.letterOf, 0 ≤ l ∧ l < 2 ^ j := fun l hl => by
      obtain ⟨c, hc', rfl⟩ := List.mem_map.mp hl
      have := Om.letter_ok hj (hc c hc') (hbit c hc')
      exact ⟨this.1, this.2.1⟩
    have Ll : (cs.map Om.letterOf).length ≤ 100 := by rw [List.length_map]; exact hlen
    refine ⟨_, (by walk_at "T.top"), ?_⟩
    -- due, handed, found
    refine ⟨j, cs, rfl, hj, hb, hc, hbit, hlen, fun du H1 s1 ndu hdu => ?_⟩
    refine ⟨_, .inl (s1 _ _ hb), fun hd nhd => ?_⟩
    have s2 := s1.trans (Same.upd (o := .lst (cs.flatten.map V.int)) nhd)
    have hd2 : upd H1 hd (.lst (cs.flatten.map V.int)) hd = some (.lst (cs.flatten.map V.int)) := upd_same
    have du2 := Same.upd (o := .lst (cs.flatten.map V.int)) nhd _ _ hdu
    have nhd0 : H hd = none := s1.free nhd
    generalize upd H1 hd (.lst (cs.flatten.map V.int)) = H2 at *
    refine ⟨j, rfl, hj, .inl ⟨hd, cs, rfl, hd2, hc, hbit, hlen, fun fd H3 s3 nfd hfd => ?_⟩⟩
    have hd3 := s3 _ _ hd2
    have du3 := s3 _ _ du2
    have nfd0 : H fd = none := s2.free nfd
    have s3' := s2.trans s3
    refine ⟨_, hfd, du3, by omega, fun H4 s4 => ?_⟩
    refine if_negP (by decide) ?_
    have hd4 := s4 _ _ hd3
    have du4 := s4 _ _ du3
    have fd4 := s4 _ _ hfd
    have s4' := s3'.trans s4
    have b4 := s4' _ _ hb
    refine ⟨_, _, ints_DV hd4, ints_DV b4, ints_shaped _, ints_shaped _, ?_⟩
    rw [eqv_ints]
    refine if_negP (by simp) ?_
    -- found.append(0)
    have n1 : hd ≠ fd := ne_of_none hd2 nfd
    have n2 : du ≠ fd := ne_of_none du2 nfd
    have n3 : b ≠ fd := ne_of_none hb nfd0
    refine ⟨⟨_, rfl, fd4⟩, _, fd4, by rw [List.length_map]; exact lt_line (by omega), ?_⟩
    have s5 : Same H (upd H4 fd (.lst ((cs.map Om.letterOf).map V.int ++ [.int 0]))) := s4'.own nfd0
    have hd5 : upd H4 fd (.lst ((cs.map Om.letterOf).map V.int ++ [.int 0])) hd = some (.lst (cs.flatten.map V.int)) := by rw [upd_ne n1]; exact hd4
    have du5 : upd H4 fd (.lst ((cs.map Om.letterOf).map V.int ++ [.int 0])) du = some (.lst ((cs.map Om.letterOf).map V.int)) := by rw [upd_ne n2]; exact du4
    generalize upd H4 fd (.lst ((cs.map Om.letterOf).map V.int ++ [.int 0])) = H5 at *
    refine ⟨_, _, ints_DV hd5, ints_DV (s5 _ _ hb), ints_shaped _, ints_shaped _, ?_⟩
    rw [eqv_ints]
    refine if_negP (by simp) ?_
    refine ⟨j, rfl, hj, .inl ⟨hd, cs, rfl, hd5, hc, hbit, hlen, fun f2 H6 s6 nf2 hf2 => ?_⟩⟩
    have hd6 := s6 _ _ hd5
    have du6 := s6 _ _ du5
    have s6' := s5.trans s6
    refine ⟨_, _, ints_DV hf2, ints_DV du6, ints_shaped _, ints_shaped _, ?_⟩
    rw [eqv_ints]
    refine if_negP (by simp) ?_
    -- text, back
    refine ⟨_, .inl du6, fun tx ntx => ?_⟩
    have ntx0 : H tx = none := s6'.free ntx
    have s7 := s6'.trans (Same.upd (o := .lst ((cs.map Om.letterOf).map V.int)) ntx)
    have tx7 : upd H6 tx (.lst ((cs.map Om.letterOf).map V.int)) tx = some (.lst ((cs.map Om.letterOf).map V.int)) := upd_same
    have hd7 := Same.upd (o := .lst ((cs.map Om.letterOf).map V.int)) ntx _ _ hd6
    have du7 := Same.upd (o := .lst ((cs.map Om.letterOf).map V.int)) ntx _ _ du6
    have n4 : hd ≠ tx := ne_of_none hd6 ntx
    have n5 : du ≠ tx := ne_of_none du6 ntx
    generalize upd H6 tx (.lst ((cs.map Om.letterOf).map V.int)) = H7 at *
    refine ⟨j, rfl, j3.1, j3.2, .inl ⟨tx, cs.map Om.letterOf, rfl, tx7, lo, Ll, fun bk H8 s8 nbk hbk => ?_⟩⟩
    rw [bl] at hbk
    have tx8 := s8 _ _ tx7
    have hd8 := s8 _ _ hd7
    have du8 := s8 _ _ du7
    have s8' := s7.trans s8
    have nbk0 : H bk = none := s7.free nbk
    have n6 : tx ≠ bk := ne_of_none tx7 nbk
    have n7 : hd ≠ bk := ne_of_none hd7 nbk
    have n8 : du ≠ bk := ne_of_none du7 nbk
    refine ⟨_, hbk, s8' _ _ hb, by omega, fun H9 s9 => ?_⟩
    refine if_negP (by decide) ?_
    have tx9 := s9 _ _ tx8
    have hd9 := s9 _ _ hd8
    have du9 := s9 _ _ du8
    have bk9 := s9 _ _ hbk
    have s9' := s8'.trans s9
    refine ⟨_, _, ints_DV tx9, ints_DV du9, ints_shaped _, ints_shaped _, ?_⟩
    rw [eqv_ints]
    refine if_negP (by simp) ?_
    -- back.insert(0, 1)
    refine ⟨⟨_, rfl, bk9⟩, _, bk9, by decide, by decide, by rw [List.length_map]; exact lt_line (by omega), ?_⟩
    have s10 := s9'.own (o := .lst ((cs.flatten.map V.int).take (0 : Int).toNat ++ .int 1 :: (cs.flatten.map V.int).drop (0 : Int).toNat)) nbk0
    have tx10 : upd H9 bk (.lst ((cs.flatten.map V.int).take (0 : Int).toNat ++ .int 1 :: (cs.flatten.map V.int).drop (0 : Int).toNat)) tx = some (.lst ((cs.map Om.letterOf).map V.int)) := by rw [upd_ne n6]; exact tx9
    have hd10 : upd H9 bk (.lst ((cs.flatten.map V.int).take (0 : Int).toNat ++ .int 1 :: (cs.flatten.map V.int).drop (0 : Int).toNat)) hd = some (.lst (cs.flatten.map V.int)) := by rw [upd_ne n7]; exact hd9
    have du10 : upd H9 bk (.lst ((cs.flatten.map V.int).take (0 : Int).toNat ++ .int 1 :: (cs.flatten.map V.int).drop (0 : Int).toNat)) du = some (.lst ((cs.map Om.letterOf).map V.int)) := by rw [upd_ne n8]; exact du9
    generalize upd H9 bk (.lst ((cs.flatten.map V.int).take (0 : Int).toNat ++ .int 1 :: (cs.flatten.map V.int).drop (0 : Int).toNat)) = H10 at *
    refine ⟨_, _, ints_DV tx10, ints_DV du10, ints_shaped _, ints_shaped _, ?_⟩
    rw [eqv_ints]
    refine if_negP (by simp) ?_
    refine ⟨j, rfl, j3.1, j3.2, .inl ⟨tx, cs.map Om.letterOf, rfl, tx10, lo, Ll, fun b2 H11 s11 nb2 hb2 => ?_⟩⟩
    rw [bl] at hb2
    have s11' := s10.trans s11
    refine ⟨_, _, ints_DV hb2, ints_DV (s11' _ _ hb), ints_shaped _, ints_shaped _, ?_⟩
    rw [eqv_ints]
    refine if_negP (by simp) ?_
    -- held
    have tx11 := s11 _ _ tx10
    have hd11 := s11 _ _ hd10
    have du11 := s11 _ _ du10
    refine ⟨j, rfl, hj, .inl ⟨hd, cs, rfl, hd11, hc, hbit, hlen, fun q1 H12 s12 nq1 hq1 => ?_⟩⟩
    refine ⟨j, rfl, j3.1, j3.2, .inl ⟨tx, cs.map Om.letterOf, rfl, s12 _ _ tx11, lo, Ll, fun q2 H13 s13 nq2 hq2 => ?_⟩⟩
    rw [bl] at hq2
    refine ⟨le_line (Nat.le_of_ble_eq_true rfl), fun hl nhl => ?_⟩
    have s14 := Same.upd (o := .lst [.ref q1, .ref q2]) nhl
    have hl14 : upd H13 hl (.lst [.ref q1, .ref q2]) hl = some (.lst [.ref q1, .ref q2]) := upd_same
    have q1_ := s14 _ _ (s13 _ _ hq1)
    have q2_ := s14 _ _ hq2
    have hd14 := s14 _ _ (s13 _ _ (s12 _ _ hd11))
    have tx14 := s14 _ _ (s13 _ _ (s12 _ _ tx11))
    have du14 := s14 _ _ (s13 _ _ (s12 _ _ du11))
    have m1 : q1 ≠ hd := (ne_of_none hd11 nq1).symm
    have m2 : q1 ≠ tx := (ne_of_none tx11 nq1).symm
    have m3 : q2 ≠ hd := (ne_of_none (s12 _ _ hd11) nq2).symm
    have m4 : q2 ≠ tx := (ne_of_none (s12 _ _ tx11) nq2).symm
    have m5 : hl ≠ hd := (ne_of_none (s13 _ _ (s12 _ _ hd11)) nhl).symm
    have m6 : hl ≠ tx := (ne_of_none (s13 _ _ (s12 _ _ tx11)) nhl).symm
    have m7 : du ≠ hd := ne_of_none hdu nhd
    have S14 := ((s11'.trans s12).trans s13).trans s14
    generalize upd H13 hl (.lst [.ref q1, .ref q2]) = H14 at *
    refine ⟨⟨_, rfl, hd14⟩, _, hd14, by decide, by decide, by rw [List.length_map]; exact lt_line (by omega), ?_⟩
    have S15 := S14.own (o := .lst ((cs.flatten.map V.int).take (0 : Int).toNat ++ .int 1 :: (cs.flatten.map V.int).drop (0 : Int).toNat)) nhd0
    generalize hoH : HO.lst ((cs.flatten.map V.int).take (0 : Int).toNat ++ .int 1 :: (cs.flatten.map V.int).drop (0 : Int).toNat) = oH at *
    have tx15 : upd H14 hd oH tx = some (.lst ((cs.map Om.letterOf).map V.int)) := by rw [upd_ne n4.symm]; exact tx14
    have du15 : upd H14 hd oH du = some (.lst ((cs.map Om.letterOf).map V.int)) := by rw [upd_ne m7]; exact du14
    have hl15 : upd H14 hd oH hl = some (.lst [.ref q1, .ref q2]) := by rw [upd_ne m5]; exact hl14
    have q1e : upd H14 hd oH q1 = some (.lst ((cs.map Om.letterOf).map V.int)) := by rw [upd_ne m1]; exact q1_
    have q2e : upd H14 hd oH q2 = some (.lst (cs.flatten.map V.int)) := by rw [upd_ne m3]; exact q2_
    generalize upd H14 hd oH = H15 at *
    refine ⟨⟨_, rfl, tx15⟩, _, tx15, by rw [List.length_map]; exact lt_line (by omega), ?_⟩
    have S16 := S15.own (o := .lst ((cs.map Om.letterOf).map V.int ++ [.int 0])) ntx0
    generalize HO.lst ((cs.map Om.letterOf).map V.int ++ [.int 0]) = oT at *
    have du16 : upd H15 tx oT du = some (.lst ((cs.map Om.letterOf).map V.int)) := by rw [upd_ne n5]; exact du15
    have hl16 : upd H15 tx oT hl = some (.lst [.ref q1, .ref q2]) := by rw [upd_ne m6]; exact hl15
    have q1f : upd H15 tx oT q1 = some (.lst ((cs.map Om.letterOf).map V.int)) := by rw [upd_ne m2]; exact q1e
    have q2f : upd H15 tx oT q2 = some (.lst (cs.flatten.map V.int)) := by rw [upd_ne m4]; exact q2e
    generalize upd H15 tx oT = H16 at *
    refine ⟨le_line (Nat.le_of_ble_eq_true rfl), fun e he => ?_⟩
    have s17 := Same.upd (o := .lst [.ref du, .ref b]) he
    refine ⟨_, _, .lst (s17 _ _ hl16) (.cons (ints_DV (s17 _ _ q1f)) (.cons (ints_DV (s17 _ _ q2f)) .nil)), .lst upd_same (.cons (ints_DV (s17 _ _ du16)) (.cons (ints_DV (s17 _ _ (S16 _ _ hb))) .nil)), two_shaped _ _, two_shaped _ _, ?_⟩
    rw [two_eqv]
    exact q _ (S16.trans s17)
  · exact h.elim
end

end K03
end
section
set_option Elab.async false
set_option linter.all false
set_option maxRecDepth 100000
set_option maxHeartbeats 4000000
namespace L2
open PySem PySem.Spec PyProof.Rows
section
variable {X : Cx} {p pos p2 : Pos} {a b e st : Expr} {es : List Expr} {t : TA} {te : TE} {ts : TO}
end
section
variable {H H' : Hp} {n : Nat} {v : V} {a : Addr} {xs : List V}
end
noncomputable def wo (F : Addr → Prop) (H : Hp) : Hp := fun b => @ite _ (F b) (Classical.propDecidable _) none (H b)
section
variable {F : Addr → Prop} {H H' : Hp} {b : Addr} {o : HO}
theorem wo_at (h : H b = some o) (n : ¬ F b) : wo F H b = some o := by
  unfold wo
  rw [if_neg n]; exact h
theorem wo_same (F : Addr → Prop) (H : Hp) : Same (wo F H) H := fun b o e => by
  unfold wo at e
  by_cases h : F b
  · rw [if_pos h] at e; cases e
  · rw [if_neg h] at e; exact e
theorem wo_inv (h : wo F H b = some o) : ¬ F b ∧ H b = some o := by
  unfold wo at h
  by_cases c : F b
  · rw [if_pos c] at h; cases h
  · rw [if_neg c] at h; exact ⟨c, h⟩
theorem Off.wo (h : Off F H H') : Same (wo F H) (wo F H') := fun b o e => let ⟨n, e⟩ := wo_inv e; wo_at (h b o e n) n
theorem Same.wo (h : Same H H') : Same (wo F H) (wo F H') := fun b o e => let ⟨n, e⟩ := wo_inv e; wo_at (h b o e) n
theorem getV_pick {p : Addr} {xs : List V} {r : Int} (h : H p = some (.lst xs)) (r0 : 0 ≤ r) (r1 : r < xs.length) : ∃ v, getV H (.ref p) r = some v ∧ v ∈ xs := by
  have hi : r.toNat < xs.length := by omega
  exact ⟨xs[r.toNat], gl h r0 (List.getElem?_eq_getElem hi), List.getElem_mem hi⟩
end
end L2
end
section
set_option Elab.async false
set_option linter.all false
set_option maxRecDepth 100000
set_option maxHeartbeats 4000000
namespace L2
open PySem PySem.Spec PyProof.Rows
def tEmp : TE := fun _ H Q => ∀ d, H d = none → Q (.ref d) (upd H d (.dK []))
theorem e_dict {X : Cx} {pos : Pos} : PE X (.Dict [] [] pos) tEmp := pe_dnewK
end L2
end
section
set_option Elab.async false
set_option linter.all false
set_option maxRecDepth 100000
set_option maxHeartbeats 4000000
namespace L2
open PySem PySem.Spec PyProof.Rows

section
variable {X : Cx} {p pos : Pos} {e : Expr} {es : List Expr} {t : TA}
end
end L2
end
section
set_option Elab.async false
set_option linter.all false
set_option maxRecDepth 100000
set_option maxHeartbeats 4000000
namespace L2
open PySem PySem.Spec PyProof.Rows
def SameT (P : Addr) (H H' : Hp) : Prop := ∀ b o, b ≠ P → H b = some o → H' b = some o
theorem SameT.refl (P : Addr) (H : Hp) : SameT P H H := fun _ _ _ h => h
theorem SameT.trans {P : Addr} {H H1 H2 : Hp} (a : SameT P H H1) (b : SameT P H1 H2) : SameT P H H2 := fun c o n h => b c o n (a c o n h)
theorem Same.t {P : Addr} {H H' : Hp} (a : Same H H') : SameT P H H' := fun c o _ h => a c o h
section
variable {X : Cx} {pins : List (Addr × Obj)} {σ : St} {H : Hp} {s : Shared}
theorem Mod.keeps {K : PySem.W.Frag} {mg : Str → Option Value} {base base' : Heap} (M : Mod K mg base) (k : ∀ b o, base.get? b = some o → base'.get? b = some o) : Mod K mg base' :=
  ⟨M.kin.keeps k, M.glob.keeps k, let ⟨mb, a, b⟩ := M.blt; ⟨mb, a.keeps k, b⟩, M.nolimit.keeps k⟩
end

section
variable {X : Cx} {p pos lp : Pos} {a : Expr} {ta : TE}
end
end L2
end
section
set_option Elab.async false
set_option linter.all false
set_option maxRecDepth 100000
set_option maxHeartbeats 4000000
namespace Om
section
variable {α : Type} [DecidableEq α]
end
end Om
namespace L2
open PySem PySem.Spec PyProof.Rows
section
variable {prog : Program} {w : World} {A : Around} {I : Addr} {fp wr : List Addr} {G : Array GenState → Array GenState → Prop} {n : Nat} {P : Nat → Value → Prop} {St : Nat → Shared → Prop} {κ : Type} [DecidableEq κ] {knd : KeyKind prog w κ}
end
section
variable {X : Cx} {p pos : Pos} {e : Expr} {es : List Expr} {t : TA}
end
end L2
end
section
set_option Elab.async false
set_option linter.all false
set_option maxRecDepth 100000
set_option maxHeartbeats 4000000
namespace Om
section
variable {ts : List Int} {g : Nat} {f : Nat → Bool}
end
end Om
end
section
set_option Elab.async false
set_option linter.all false
set_option maxRecDepth 100000
set_option maxHeartbeats 4000000
namespace L2
open PySem PySem.Spec PyProof.Rows
section
variable {X : Cx} {p pos : Pos} {a b e : Expr} {es : List Expr} {t : TA}
end
end L2
namespace Om
end Om
end
section
set_option Elab.async false
set_option linter.all false
set_option maxRecDepth 100000
set_option maxHeartbeats 4000000
namespace Om
end Om
namespace L2
open PySem PySem.Spec PyProof.Rows
section
variable {H0 H H1 : Hp} {D Q : Addr} {kvs : List (Key × V)} {qs : List Nat} {c : Nat}
end
end L2
end
section
set_option Elab.async false
set_option linter.all false
set_option maxRecDepth 100000
set_option maxHeartbeats 4000000
namespace Om
end Om
namespace L2
open PySem PySem.Spec PyProof.Rows
def wo1 (P : Addr) (H : Hp) : Hp := fun b => if b = P then none else H b
theorem wo1.at {P b : Addr} {H : Hp} {o : HO} (h : H b = some o) (n : b ≠ P) : wo1 P H b = some o := by unfold wo1; rw [if_neg n]; exact h
theorem wo1.same {P : Addr} {H H' : Hp} (s : SameT P H H') : Same (wo1 P H) H' := fun b o e => by
  unfold wo1 at e
  split at e
  · cases e
  · rename_i n
    exact s b o n e
mutual
theorem DV.wo1 {H : Hp} {P : Addr} {ps : Array Value} (hP : H P = some (.tbl ps)) : ∀ {v : V} {d : PyData}, DV H v d → DV (wo1 P H) v d
  | _, _, .non => .non
  | _, _, .bl b => .bl b
  | _, _, .int i => .int i
  | _, _, .str x => .str x
  | _, _, .lst h r => .lst (wo1.at h (ne_of h hP (fun z => nomatch z))) (DVs.wo1 hP r)
  | _, _, .tup h r => .tup (wo1.at h (ne_of h hP (fun z => nomatch z))) (DVs.wo1 hP r)
  | _, _, .dic h => .dic (wo1.at h (ne_of h hP (fun z => nomatch z)))
theorem DVs.wo1 {H : Hp} {P : Addr} {ps : Array Value} (hP : H P = some (.tbl ps)) : ∀ {vs : List V} {ds : List PyData}, DVs H vs ds → DVs (wo1 P H) vs ds
  | _, _, .nil => .nil
  | _, _, .cons h r => .cons (DV.wo1 hP h) (DVs.wo1 hP r)
end
theorem SameT.free {P : Addr} {H H' : Hp} {l : Addr} (s : SameT P H H') (h : H' l = none) (n : l ≠ P) : H l = none := by
  cases q : H l with
  | none => rfl
  | some o => rw [s l o n q] at h; cases h
end L2
end
section
set_option Elab.async false
set_option linter.all false
set_option maxRecDepth 100000
set_option maxHeartbeats 4000000
namespace Om
end Om
namespace L2
open PySem PySem.Spec PyProof.Rows
section
variable {H0 H H' : Hp} {a b : Addr} {qs : List Addr} {k n : Nat} {rows : Om.Rows}
end
end L2
end
section
set_option Elab.async false
set_option linter.all false
set_option maxRecDepth 100000
set_option maxHeartbeats 4000000
namespace Om
end Om
namespace L2
open PySem PySem.Spec PyProof.Rows
theorem ixN_nat {n i : Nat} (h : i < n) : ixN n ((i : Nat) : Int) = some i := by rw [ixN_in (by omega) (by omega), Int.toNat_natCast]
section
variable {F : Addr → Prop} {H0 H H' G : Hp} {d P : Addr} {pos : Pos} {qual : Str}
theorem Deck.lst (h : Deck F H d) {b : Addr} (z : F b) : ∃ xs, H b = some (.lst xs) := by
  obtain ⟨p, qs, n, h1, h2, h3, h4, h5, h6⟩ := h.ex
  rcases (h6 b).mp z with rfl | rfl | z
  · exact ⟨_, h1⟩
  · exact ⟨_, h2⟩
  · obtain ⟨c, f, m, e⟩ := h5 b z
    exact ⟨_, e⟩
end
end L2
end
section
set_option Elab.async false
set_option linter.all false
set_option maxRecDepth 100000
set_option maxHeartbeats 4000000
namespace K03
open PySem L2
section
variable {P : Program} {w : World} {K : PySem.W.Frag} {mg : Str → Option Value} {base : Heap}
theorem three_get {H : Hp} {p : Addr} {k : Nat} (k1 : 1 ≤ k) (k3 : k ≤ 3) (h : H p = some (.lst [.int 2, .int 4, .int 8])) : getV H (.ref p) ((k : Int) - 1) = some (.int ((2 ^ k : Nat) : Int)) := by
  have : k = 1 ∨ k = 2 ∨ k = 3 := by omega
  rcases this with rfl | rfl | rfl
  · exact gl h (by decide) rfl
  · exact gl h (by decide) rfl
  · exact gl h (by decide) rfl
theorem odd3_ok {H : Hp} {k : Nat} {p q r : Addr} {z t0 : V} (hp : H p = some (.tup [t0])) (ht0 : t0 = .int 0 ∨ t0 = .int 1) (hq : H q = some (.lst [])) (hr' : H r = some (.dK [])) (hz : ∃ x : Str, z = .str x) (k3 : k ≤ 3) {v : V} (h : v ∈ ([.int ((2 ^ k : Nat) : Int), .int (-1), .bl true, .bl false, .non, z, .ref p, .int (10 ^ 25), .ref q, .ref r] : List V)) :
    (∃ d, DV H v d) ∧ Sm H 2 v v ∧ ltV k v = false := by
  have p8 : (2 : Int) ^ k ≤ 8 := by
    have : k = 0 ∨ k = 1 ∨ k = 2 ∨ k = 3 := by omega
    rcases this with rfl | rfl | rfl | rfl <;> decide
  obtain ⟨x, rfl⟩ := hz
  simp only [List.mem_cons, List.not_mem_nil, or_false] at h
  rcases h with rfl | rfl | rfl | rfl | rfl | rfl | rfl | rfl | rfl | rfl
  · refine ⟨⟨_, .int _⟩, Sm_leaf (T := "int") trivial rfl (by decide), ?_⟩
    show (decide (0 ≤ ((2 ^ k : Nat) : Int)) && decide (((2 ^ k : Nat) : Int) < 2 ^ k)) = false
    rw [decide_eq_false (p := ((2 ^ k : Nat) : Int) < 2 ^ k) (by push_cast; exact Int.lt_irrefl _), Bool.and_false]
  · refine ⟨⟨_, .int _⟩, Sm_leaf (T := "int") trivial rfl (by decide), ?_⟩
    show (decide ((0 : Int) ≤ -1) && decide ((-1 : Int) < 2 ^ k)) = false
    rw [decide_eq_false (p := (0 : Int) ≤ -1) (by decide), Bool.false_and]
  · exact ⟨⟨_, .bl _⟩, Sm_leaf (T := "bool") trivial rfl (by decide), rfl⟩
  · exact ⟨⟨_, .bl _⟩, Sm_leaf (T := "bool") trivial rfl (by decide), rfl⟩
  · exact ⟨⟨_, .non⟩, Sm_leaf (T := "NoneType") trivial rfl (by decide), rfl⟩
  · exact ⟨⟨_, .str _⟩, Sm_leaf (T := "str") trivial rfl (by decide), rfl⟩
  · rcases ht0 with rfl | rfl
    · exact ⟨⟨_, .tup hp (.cons (.int _) .nil)⟩, .inl ⟨rfl, ⟨"tuple", by simp [tyN, hp], by decide⟩, .inl (.tup hp hp (.cons (.leaf trivial) .nil))⟩, rfl⟩
    · exact ⟨⟨_, .tup hp (.cons (.int _) .nil)⟩, .inl ⟨rfl, ⟨"tuple", by simp [tyN, hp], by decide⟩, .inl (.tup hp hp (.cons (.leaf trivial) .nil))⟩, rfl⟩
  · refine ⟨⟨_, .int _⟩, Sm_leaf (T := "int") trivial rfl (by decide), ?_⟩
    show (decide ((0 : Int) ≤ 10 ^ 25) && decide ((10 : Int) ^ 25 < 2 ^ k)) = false
    rw [decide_eq_false (p := (10 : Int) ^ 25 < 2 ^ k) (by have : (8 : Int) ≤ 10 ^ 25 := by decide
                                                           omega), Bool.and_false]
  · exact ⟨⟨_, .lst hq .nil⟩, .inr ⟨q, q, [], rfl, rfl, hq, hq, by simp, fun e he => nomatch he⟩, rfl⟩
  · exact ⟨⟨_, .dic hr'⟩, .inl ⟨rfl, ⟨"dict", by simp [tyN, hr'], by decide⟩, .inl (.dic hr')⟩, rfl⟩
theorem noB_odd {H : Hp} {way : Int} {j k : Nat} {l : Addr} {xs : List V} {ov : V} (hl : H l = some (.lst xs)) (mem : ∀ e ∈ xs, (∃ i : Int, e = .int i) ∨ e = ov) (hov : ov ∈ xs) (hz : xs.length ≤ 1000) (od : ∃ d, DV H ov d) (osm : Sm H 2 ov ov) (olt : ltV k ov = false) (hk : (way = 0 → k = 1) ∧ (way = 1 → k = j)) : NoB H way j (.ref l) := by
  obtain ⟨ds, hds⟩ := DVs_all (H := H) (xs := xs) fun e he => by
    rcases mem e he with ⟨i, rfl⟩ | rfl
    · exact ⟨_, .int i⟩
    · exact od
  have bad : xs.all (ltV k) = false := by
    rw [Bool.eq_false_iff]
    intro z
    have := List.all_eq_true.mp z ov hov
    rw [olt] at this
    cases this
  refine .inr ⟨l, xs, ds, rfl, hl, hds, hz, fun w0 z => ?_, fun w1 => ?_, fun e he => ?_⟩
  · rw [hk.1 w0] at bad; rw [bad] at z; cases z
  · rw [← hk.2 w1]; exact bad
  · rcases mem e he with ⟨i, rfl⟩ | rfl
    · exact Sm_leaf (T := "int") trivial rfl (by decide)
    · exact osm
abbrev sLaw : Stmt := top 28
def spLaw (K : PySem.W.Frag) : Sp := fun vs H Q _ => match vs with
  | [.ref a] => ∃ ns : List Int, SqL K H a (ns.map V.int) ∧ ns.length ≤ 63 ∧ ∀ H', Q (.bl true) H'
  | _ => False
theorem scLaw : FnScope ["script", "deck", "k", "turn", "many", "bits", "beyond", "odd", "row", "text", "at", "thing"] ["script"] (defScope sLaw) := ⟨rfl, rfl, rfl, by decide +kernel, rfl, by decide +kernel, by decide +kernel⟩
local macro_rules | `(tactic| walk_at "T.n") => `(tactic| with_reducible first | exact vn "j" 0 | exact vn "deck" 1)
local macro_rules | `(tactic| walk_at "T.gn") => `(tactic| with_reducible first | exact gn "j" 0 (by with_unfolding_all assumption))
local macro_rules | `(tactic| walk_at "T.sc") => `(tactic| (have ndc : (["j", "deck"] : List Str).Nodup := (by decide +kernel)); ((with_reducible refine' s_comp "bits" 5 ["j", "deck"] [1] ?b1 ?b0 ?b2 (fun cl C s H fp => ?b3) (fun cl C s H fp => ?b4) (fun cl C s H fp => ?b5)); (case b1 => exact ndc); (case b0 => assumption); (case b2 => walk_at "T.i"); (case b3 => walk_at "T.g"); (case b4 => walk_at "T.pf"); (case b5 => walk_at "T.e")))
local macro_rules | `(tactic| walk_at "T.n") => `(tactic| with_reducible first | exact vn "j" 0 | exact vn "deck" 1)
local macro_rules | `(tactic| walk_at "T.gn") => `(tactic| with_reducible first | exact gn "j" 0 (by with_unfolding_all assumption))
local macro_rules | `(tactic| walk_at "T.c") => `(tactic| (have ndc : (["j", "deck"] : List Str).Nodup := (by decide +kernel)); ((with_reducible refine' c_comp ["j", "deck"] [1] ?b1 ?b2 (fun cl C s H fp => ?b3) (fun cl C s H fp => ?b4) (fun cl C s H fp => ?b5)); (case b1 => exact ndc); (case b2 => walk_at "T.i"); (case b3 => walk_at "T.g"); (case b4 => walk_at "T.pf"); (case b5 => walk_at "T.e")))
local macro_rules | `(tactic| walk_at "T.c") => `(tactic| first | (with_reducible exact e_dict) | (with_reducible exact e_dic1))
local macro_rules | `(tactic| walk_at "T.n") => `(tactic| with_reducible first | exact vn "script" 0 | exact vn "deck" 1 | exact vn "k" 2 | exact vn "many" 4 | exact vn "bits" 5 | exact vn "beyond" 6 | exact vn "odd" 7 | exact vn "row" 8 | exact vn "text" 9 | exact vn "at" 10 | exact vn "thing" 11)
local macro_rules | `(tactic| walk_at "T.gn") => `(tactic| with_reducible first | exact gn "deck" 1 (by with_unfolding_all assumption) | exact gn "k" 2 (by with_unfolding_all assumption) | exact gn "turn" 3 (by with_unfolding_all assumption) | exact gn "many" 4 (by with_unfolding_all assumption) | exact gn "bits" 5 (by with_unfolding_all assumption) | exact gn "beyond" 6 (by with_unfolding_all assumption) | exact gn "odd" 7 (by with_unfolding_all assumption) | exact gn "row" 8 (by with_unfolding_all assumption) | exact gn "text" 9 (by with_unfolding_all assumption) | exact gn "at" 10 (by with_unfolding_all assumption) | exact gn "thing" 11 (by with_unfolding_all assumption))
local macro_rules | `(tactic| walk_at "T.n") => `(tactic| with_reducible first | exact vn "script" 0 | exact vn "deck" 1 | exact vn "k" 2 | exact vn "many" 4 | exact vn "bits" 5 | exact vn "beyond" 6 | exact vn "odd" 7 | exact vn "row" 8 | exact vn "text" 9 | exact vn "at" 10 | exact vn "thing" 11)
local macro_rules | `(tactic| walk_at "T.gn") => `(tactic| with_reducible first | exact gn "deck" 1 (by with_unfolding_all assumption) | exact gn "k" 2 (by with_unfolding_all assumption) | exact gn "turn" 3 (by with_unfolding_all assumption) | exact gn "many" 4 (by with_unfolding_all assumption) | exact gn "bits" 5 (by with_unfolding_all assumption) | exact gn "beyond" 6 (by with_unfolding_all assumption) | exact gn "odd" 7 (by with_unfolding_all assumption) | exact gn "row" 8 (by with_unfolding_all assumption) | exact gn "text" 9 (by with_unfolding_all assumption) | exact gn "at" 10 (by with_unfolding_all assumption) | exact gn "thing" 11 (by with_unfolding_all assumption) | exact gn "j" 0 (by with_unfolding_all assumption))
theorem ok_law {f : Addr} {fd : FuncData} (D : Fun K "law" "law" sLaw f fd) (g1 : mg "range" = none) (g2 : mg "len" = none)
    (c1 : Can P w K mg base "_law_deck" 1 ["script"] (spDeck K)) (c2 : Can P w K mg base "_law_draw" 1 ["deck", "many"] spDraw) (c3 : Can P w K mg base "_law_right" 5 ["k", "bits"] spRight3) (c4 : Can P w K mg base "_law_refused" 5 ["way", "k", "row"] spRef3) (c5 : Can P w K mg base "_law_told" 1 ["k", "bits"] spTold) : FnOk P w K mg base CX0 6 f fd ["script"] (spLaw K) := by
  refine D.ok (k := 5) scLaw (fun vs H Q E h => ?_) (fun cdv A outer s H vs Q E hr h => ?_)
  all_goals
    unfold spLaw at h
    split at h
  · rfl
  · exact h.elim
  · rename_i sc
    obtain ⟨ns, hS, h63, q⟩ := h
    have nd := scLaw.nd
    refine ⟨_, (by walk_at "T.top"), ?_⟩
    refine ⟨ns, hS, h63, fun d F H1 s1 dk fF => ?_⟩
    refine ⟨by decide, for_by (it_range 1 _) (fun i σ H2 => ∃ (v2 v3 v4 v5 v6 v7 v8 v9 v10 v11 : Option V), σ = [some (.ref sc), some (.ref d), v2, v3, v4, v5, v6, v7, v8, v9, v10, v11] ∧ Deck F H2 d) ⟨none, none, none, none, none, none, none, none, none, none, rfl, dk⟩ (fun _ _ _ _ _ => trivial) ?_ ?_⟩
    · rintro i x σ H2 hi hx ⟨v2, v3, v4, v5, v6, v7, v8, v9, v10, v11, rfl, dk⟩
      obtain ⟨j, rfl, hj⟩ : ∃ j : Nat, x = .int (j : Nat) ∧ (j = 1 ∨ j = 2 ∨ j = 3) := by
        rw [List.getElem?_map] at hx
        obtain ⟨m, hm, rfl⟩ := Option.map_eq_some_iff.mp hx
        have hm' := List.mem_of_getElem? hm
        rw [List.mem_range] at hm'
        refine ⟨m + 1, by push_cast; rw [Int.add_comm], ?_⟩
        have : m < 3 := hm'
        omega
      have j3 : 1 ≤ j ∧ j ≤ 3 := Or.elim hj (fun e => by rw [e]; decide) fun z => Or.elim z (fun e => by rw [e]; decide) fun e => by rw [e]; decide
      refine ⟨by decide, by decide, for_by (it_range 0 _) (fun i σ H3 => ∃ (v3 v4 v5 v6 v7 v8 v9 v10 : Option V), σ = [some (.ref sc), some (.ref d), some (.int (j : Nat)), v3, v4, v5, v6, v7, v8, v9, v10, v11] ∧ Deck F H3 d) ⟨_, _, _, _, _, _, _, _, rfl, dk⟩ (fun _ _ _ _ _ => trivial) ?_ ?_⟩
      · rintro i y σ H3 hi hy ⟨v3, v4, v5, v6, v7, v8, v9, v10, rfl, d3⟩
        -- many
        refine ⟨F, d3, by decide, by decide, fun m1 H4 m10 m11 d4 o4 => ?_⟩
        refine ⟨F, d4, by decide, by decide, fun m2 H5 m20 m21 d5 o5 => ?_⟩
        refine ⟨le_line (Nat.le_of_ble_eq_true rfl), fun L1 hL1 => ?_⟩
        have nL1 : ¬ F L1 := d5.new hL1
        refine ⟨F, d5.same (Same.upd hL1), by decide, by decide, fun m3 H6 m30 m31 d6 o6 => ?_⟩
        obtain ⟨mv, e1, e2⟩ := getV_pick (o6 _ _ upd_same nL1) m30 m31
        refine ⟨mv, e1, ?_⟩
        obtain ⟨m, rfl, m20'⟩ : ∃ m : Nat, mv = .int (m : Nat) ∧ m ≤ 20 := by
          simp only [List.mem_cons, List.not_mem_nil, or_false] at e2
          rcases e2 with rfl | rfl
          · exact ⟨m1.toNat, by rw [Int.toNat_of_nonneg m10], by omega⟩
          · exact ⟨m2.toNat, by rw [Int.toNat_of_nonneg m20], by omega⟩
        clear e1 e2
        -- bits
        have jm : ((j : Nat) : Int) * ((m : Nat) : Int) = ((m * j : Nat) : Int) := by push_cast; rw [Int.mul_comm]
        have jm60 : m * j ≤ 60 := Nat.mul_le_mul m20' j3.2
        refine ⟨.inl ⟨by omega, by omega⟩, ?_⟩
        refine ⟨by rw [jm]; omega, by rw [jm]; omega, fun b hb => ?_⟩
        have nb : ¬ F b := d6.new hb
        refine comp_by (it_range 0 _) (fun i τ H7 ys => (∃ v, τ = [v, some (.ref d)]) ∧ Deck F H7 d ∧ Off F H6 H7 ∧ H7 b = some (.lst ys) ∧ ∃ bs : List Int, bs.length = i ∧ ys = bs.map V.int ∧ ∀ x ∈ bs, Om.Bit x) (by rw [List.length_map, List.length_range, jm, Int.toNat_natCast]; exact le_line (by omega)) ⟨⟨none, rfl⟩, d6.same (Same.upd hb), (Same.upd hb).off, upd_same, [], rfl, rfl, by simp⟩ ?_ ?_ ?_
        · rintro i τ H7 ys hi ⟨_, _, _, h7, bs, hl, rfl, _⟩
          exact ⟨trivial, h7, by simp [hl]⟩
        · rintro i x τ H7 ys hi hx ⟨⟨v, rfl⟩, d7, o7, h7, bs, hl, rfl, hbs⟩
          refine ⟨F, d7, by decide, by decide, fun r H8 r0 r1 d8 o8 => ?_⟩
          refine ⟨o8 _ _ h7 nb, ⟨_, rfl⟩, d8.own nb, (o7.trans o8).upd_own hb, upd_same, bs ++ [r], by simp [hl], by simp, fun x hx => ?_⟩
          rcases List.mem_append.mp hx with hx | hx
          · exact hbs x hx
          · rw [List.mem_singleton.mp hx]; unfold Om.Bit; omega
        · rintro τ H7 ys ⟨_, d7, o7, h7, bs, hl, rfl, hbs⟩
          rw [List.length_map, List.length_range, jm, Int.toNat_natCast] at hl
          obtain ⟨cs, cl, hc, rfl⟩ := Om.cut j j3.1 m bs hl
          have hbit : ∀ c ∈ cs, ∀ b ∈ c, Om.Bit b := fun c hc' x hx => hbs x (List.mem_flatten.mpr ⟨c, hc', hx⟩)
          have wb := wo_at (F := F) h7 nb
          have fw : ∀ {H : Hp} {p : Addr} {o : HO}, wo F H p = some o → H p = some o := fun e => wo_same F _ _ _ e
          clear o4 o5 o6 o7 h7 d4 d5 d6
          have fl : cs.flatten.length = m * j := by rw [Om.flat_len cs hc, cl]
          have fl60 : cs.flatten.length ≤ 60 := by omega
          refine ⟨j, cs, rfl, hj, fw wb, hc, hbit, by omega, fun H8 s8 => ?_⟩
          refine if_negP (by decide) ?_
          have d8 := d7.same s8
          have wb8 := s8.wo (F := F) _ _ wb
          clear s8 d7 wb
          -- beyond
          refine ⟨le_line (Nat.le_of_ble_eq_true rfl), fun L hL => ?_⟩
          have s9 := Same.upd (o := .lst [.int 0]) hL
          refine ⟨_, _, s9 _ _ (fw wb8), upd_same, by rw [List.length_map]; exact le_line (by simp [-List.length_flatten]; omega), fun by' nby => ?_⟩
          have s10 := s9.trans (Same.upd (o := .lst (cs.flatten.map V.int ++ [.int 0])) nby)
          have d10 := d8.same s10
          have wb10 := s10.wo (F := F) _ _ wb8
          have wy10 := wo_at (F := F) (upd_same (H := upd H8 L (.lst [.int 0])) (a := by') (o := .lst (cs.flatten.map V.int ++ [.int 0]))) ((d8.same s9).new nby)
          generalize upd (upd H8 L (.lst [.int 0])) by' (.lst (cs.flatten.map V.int ++ [.int 0])) = H10 at *
          dsimp only [gName]
          have mod : ∀ r : Nat, (r = 1 ∨ (j = 3 ∧ r = 2)) → 1 < j → (m * j + r) % j ≠ 0 := fun r hr h1 => by
            rw [Nat.add_comm, Nat.add_mul_mod_self_right]
            rcases hr with rfl | ⟨rfl, rfl⟩
            · rw [Nat.mod_eq_of_lt h1]; decide
            · decide
          refine seq_by (fun σ H11 => ∃ (by' : Addr) (zs : List Int), σ = [some (.ref sc), some (.ref d), some (.int (j : Nat)), some y, some (.int (m : Nat)), some (.ref b), some (.ref by'), v7, v8, v9, v10, v11] ∧ Deck F H11 d ∧ wo F H11 b = some (.lst (cs.flatten.map V.int)) ∧ wo F H11 by' = some (.lst (zs.map V.int)) ∧ zs.length ≤ 100 ∧ (1 < j → zs.length % j ≠ 0)) ?_ (fun fin => ?_)
          · rintro σ H11 ⟨by', zs, rfl, d11, wb11, wy11, z100, zm⟩
            refine seq_by (fun σ H12 => σ = [some (.ref sc), some (.ref d), some (.int (j : Nat)), some y, some (.int (m : Nat)), some (.ref b), some (.ref by'), v7, v8, v9, v10, v11] ∧ Deck F H12 d ∧ wo F H12 b = some (.lst (cs.flatten.map V.int))) ?_ (fun fin => ?_)
            · rintro σ H12 ⟨rfl, d12, wb12⟩
              clear d11 wb11 wy11 zm z100
              -- odd
              refine ⟨le_line (Nat.le_of_ble_eq_true rfl), fun p4 hp4 => ?_⟩
              have d13 := d12.same (Same.upd (o := .tup [.int 1]) hp4)
              have wb13 := (Same.upd (o := .tup [.int 1]) hp4).wo (F := F) _ _ wb12
              have wp13 := wo_at (F := F) (upd_same (H := H12) (a := p4) (o := .tup [.int 1])) (d12.new hp4)
              generalize upd H12 p4 (.tup [.int 1]) = H13 at *
              refine ⟨⟨by decide, by decide, by decide⟩, ?_⟩
              refine ⟨Nat.zero_le _, fun q4 hq4 => ?_⟩
              have d14 := d13.same (Same.upd (o := .lst []) hq4)
              have wb14 := (Same.upd (o := .lst []) hq4).wo (F := F) _ _ wb13
              have wp14 := (Same.upd (o := .lst []) hq4).wo (F := F) _ _ wp13
              have wq14 := wo_at (F := F) (upd_same (H := H13) (a := q4) (o := .lst [])) (d13.new hq4)
              generalize upd H13 q4 (.lst []) = H14 at *
              intro r4 hr4
              have d15 := d14.same (Same.upd (o := .dK []) hr4)
              have wb15 := (Same.upd (o := .dK []) hr4).wo (F := F) _ _ wb14
              have wp15 := (Same.upd (o := .dK []) hr4).wo (F := F) _ _ wp14
              have wq15 := (Same.upd (o := .dK []) hr4).wo (F := F) _ _ wq14
              have wr15 := wo_at (F := F) (upd_same (H := H14) (a := r4) (o := .dK [])) (d14.new hr4)
              generalize upd H14 r4 (.dK []) = H15 at *
              refine ⟨le_line (Nat.le_of_ble_eq_true rfl), fun L3 hL3 => ?_⟩
              have s16 := Same.upd (o := .lst [.int 2, .int (-1), .bl true, .bl false, .non, .str "1", .ref p4, .int (10 ^ 25), .ref q4, .ref r4]) hL3
              have nL3 : ¬ F L3 := d15.new hL3
              refine ⟨F, d15.same s16, by decide, by decide, fun z4 H17 z40 z41 d17 o17 => ?_⟩
              have wb17 := o17.wo _ _ (s16.wo (F := F) _ _ wb15)
              have wp17 := o17.wo _ _ (s16.wo (F := F) _ _ wp15)
              have wq17 := o17.wo _ _ (s16.wo (F := F) _ _ wq15)
              have wr17 := o17.wo _ _ (s16.wo (F := F) _ _ wr15)
              obtain ⟨ov, e3, e4⟩ := getV_pick (o17 _ _ upd_same nL3) z40 z41
              refine ⟨ov, e3, ?_⟩
              obtain ⟨od, osm, olt⟩ := odd3_ok (k := 1) (t0 := .int 1) (z := .str "1") wp17 (.inr rfl) wq17 wr17 ⟨_, rfl⟩ (by decide) e4
              clear e3 e4 wp13 wp14 wp15 wp17 wq14 wq15 wq17 wr15 wr17 d13 d14 d15 wb13 wb14 wb15 wb12 d12 s16 o17
              -- row
              refine ⟨by omega, by omega, fun C hC => ?_⟩
              have nC : ¬ F C := d17.new hC
              refine comp_by (it_range 0 _) (fun i τ H7 ys => (∃ v, τ = [v, some (.ref d)]) ∧ Deck F H7 d ∧ Off F H17 H7 ∧ H7 C = some (.lst ys) ∧ ∃ bs : List Int, bs.length = i ∧ ys = bs.map V.int) (by rw [List.length_map, List.length_range, Int.toNat_natCast]; exact le_line (by omega)) ⟨⟨none, rfl⟩, d17.same (Same.upd hC), (Same.upd hC).off, upd_same, [], rfl, rfl⟩ ?_ ?_ ?_
              · rintro i τ H7 ys hi ⟨_, _, _, h7, bs, hl, rfl⟩
                exact ⟨trivial, h7, by simp [hl]⟩
              · rintro i x τ H7 ys hi hx ⟨⟨v, rfl⟩, d7, o7, h7, bs, hl, rfl⟩
                refine ⟨F, d7, by decide, by decide, fun r H8 r0 r1 d8 o8 => ?_⟩
                exact ⟨o8 _ _ h7 nC, ⟨_, rfl⟩, d8.own nC, (o7.trans o8).upd_own hC, upd_same, bs ++ [r], by simp [hl], by simp⟩
              · rintro τ H18 ys ⟨_, d18, o18, h18, bs, hl, rfl⟩
                rw [List.length_map, List.length_range, Int.toNat_natCast] at hl
                have wb18 := o18.wo _ _ wb17
                obtain ⟨od, osm⟩ : (∃ d, DV (wo F H18) ov d) ∧ Sm (wo F H18) 2 ov ov := ⟨let ⟨d, h⟩ := od; ⟨d, h.mono o18.wo⟩, Sm.mono o18.wo osm⟩
                clear wb17 d17 o18
                refine ⟨_, _, fw wb18, h18, by rw [List.length_map, List.length_map]; exact le_line (by omega), fun rw' nrw => ?_⟩
                have nF : ¬ F rw' := d18.new nrw
                have s19 := Same.upd (o := .lst (cs.flatten.map V.int ++ bs.map V.int)) nrw
                have d19 := d18.same s19
                have wb19 := s19.wo (F := F) _ _ wb18
                have h19 : upd H18 rw' (.lst (cs.flatten.map V.int ++ bs.map V.int)) rw' = some (.lst (cs.flatten.map V.int ++ bs.map V.int)) := upd_same
                have brw : b ≠ rw' := ne_of_none (fw wb18) nrw
                generalize upd H18 rw' (.lst (cs.flatten.map V.int ++ bs.map V.int)) = H19 at *
                have XL : (cs.flatten.map V.int ++ bs.map V.int).length = m * j + j := by rw [List.length_append, List.length_map, List.length_map, fl, hl]
                have XI : ∀ e ∈ cs.flatten.map V.int ++ bs.map V.int, ∃ i : Int, e = .int i := fun e he => by
                  rcases List.mem_append.mp he with he | he
                  · obtain ⟨i, _, rfl⟩ := List.mem_map.mp he; exact ⟨i, rfl⟩
                  · obtain ⟨i, _, rfl⟩ := List.mem_map.mp he; exact ⟨i, rfl⟩
                refine ⟨_, lenL h19, F, d19, by rw [XL]; omega, by rw [XL]; omega, fun z6 H20 z60 z61 d20 o20 => ?_⟩
                rw [XL] at z61
                have h20 := o20 _ _ h19 nF
                obtain ⟨ix, hix⟩ : ∃ ix : Nat, z6 = (ix : Int) := ⟨z6.toNat, by omega⟩
                subst hix
                have ixl : ix < (cs.flatten.map V.int ++ bs.map V.int).length := by rw [XL]; omega
                refine ⟨_, ix, h20, ixN_nat ixl, ?_⟩
                have S21 : Same (wo F H18) (wo F (upd H20 rw' (.lst ((cs.flatten.map V.int ++ bs.map V.int).set ix ov)))) := fun a o e => by
                  obtain ⟨na, e'⟩ := wo_inv ((s19.wo.trans o20.wo) a o e)
                  have ne : a ≠ rw' := fun z => by
                    rw [z] at e
                    have h := fw e
                    rw [nrw] at h
                    cases h
                  exact wo_at (by rw [upd_ne ne]; exact e') na
                have d21 : Deck F (upd H20 rw' (.lst ((cs.flatten.map V.int ++ bs.map V.int).set ix ov))) d := d20.own nF
                have wr21 := wo_at (F := F) (upd_same (H := H20) (a := rw') (o := .lst ((cs.flatten.map V.int ++ bs.map V.int).set ix ov))) nF
                have XM : ∀ e ∈ (cs.flatten.map V.int ++ bs.map V.int).set ix ov, (∃ i : Int, e = .int i) ∨ e = ov := fun e he => (List.mem_or_eq_of_mem_set he).imp (XI e) id
                have XO : ov ∈ (cs.flatten.map V.int ++ bs.map V.int).set ix ov := List.mem_set ixl _
                have XS : ((cs.flatten.map V.int ++ bs.map V.int).set ix ov).length ≤ 1000 := by rw [List.length_set, XL]; omega
                generalize (cs.flatten.map V.int ++ bs.map V.int).set ix ov = xs at *
                generalize upd H20 rw' (.lst xs) = H21 at *
                -- text
                refine ⟨j, cs, rfl, hj, fw (S21 _ _ wb18), hc, hbit, by omega, fun tx H22 s22 ntx htx => ?_⟩
                have d22 := d21.same s22
                have S22 := S21.trans s22.wo
                have wr22 := s22.wo (F := F) _ _ wr21
                have wt22 := wo_at (F := F) htx (d21.new ntx)
                have tl : ((cs.map Om.letterOf).map V.int).length = m := by rw [List.length_map, List.length_map, cl]
                have TI : ∀ e ∈ (cs.map Om.letterOf).map V.int, ∃ i : Int, e = .int i := fun e he => by obtain ⟨i, _, rfl⟩ := List.mem_map.mp he; exact ⟨i, rfl⟩
                generalize (cs.map Om.letterOf).map V.int = ts at *
                clear d19 d20 d21 wb19 h19 h20 s19 s22 o20 wr21 S21 h18
                -- odd
                refine ⟨le_line (Nat.le_of_ble_eq_true rfl), fun L5 hL5 => ?_⟩
                have u1 := Same.upd (o := .lst [.int 2, .int 4, .int 8]) hL5
                have d23 := d22.same u1
                have S23 := S22.trans u1.wo
                have wr23 := u1.wo (F := F) _ _ wr22
                have wt23 := u1.wo (F := F) _ _ wt22
                refine ⟨_, three_get j3.1 j3.2 upd_same, ?_⟩
                generalize upd H22 L5 (.lst [.int 2, .int 4, .int 8]) = H23 at *
                refine ⟨le_line (Nat.le_of_ble_eq_true rfl), fun p5 hp5 => ?_⟩
                have u2 := Same.upd (o := .tup [.int 0]) hp5
                have d24 := d23.same u2
                have S24 := S23.trans u2.wo
                have wr24 := u2.wo (F := F) _ _ wr23
                have wt24 := u2.wo (F := F) _ _ wt23
                have wp24 := wo_at (F := F) (upd_same (H := H23) (a := p5) (o := .tup [.int 0])) (d23.new hp5)
                generalize upd H23 p5 (.tup [.int 0]) = H24 at *
                refine ⟨⟨by decide, by decide, by decide⟩, ?_⟩
                refine ⟨Nat.zero_le _, fun q5 hq5 => ?_⟩
                have u3 := Same.upd (o := .lst []) hq5
                have d25 := d24.same u3
                have S25 := S24.trans u3.wo
                have wr25 := u3.wo (F := F) _ _ wr24
                have wt25 := u3.wo (F := F) _ _ wt24
                have wp25 := u3.wo (F := F) _ _ wp24
                have wq25 := wo_at (F := F) (upd_same (H := H24) (a := q5) (o := .lst [])) (d24.new hq5)
                generalize upd H24 q5 (.lst []) = H25 at *
                intro r5 hr5
                have u4 := Same.upd (o := .dK []) hr5
                have d26 := d25.same u4
                have S26 := S25.trans u4.wo
                have wr26 := u4.wo (F := F) _ _ wr25
                have wt26 := u4.wo (F := F) _ _ wt25
                have wp26 := u4.wo (F := F) _ _ wp25
                have wq26 := u4.wo (F := F) _ _ wq25
                have wd26 := wo_at (F := F) (upd_same (H := H25) (a := r5) (o := .dK [])) (d25.new hr5)
                generalize upd H25 r5 (.dK []) = H26 at *
                refine ⟨le_line (Nat.le_of_ble_eq_true rfl), fun L6 hL6 => ?_⟩
                have u5 := Same.upd (o := .lst [.int ((2 ^ j : Nat) : Int), .int (-1), .bl true, .bl false, .non, .str "0", .ref p5, .int (10 ^ 25), .ref q5, .ref r5]) hL6
                have nL6 : ¬ F L6 := d26.new hL6
                refine ⟨F, d26.same u5, by decide, by decide, fun z7 H27 z70 z71 d27 o27 => ?_⟩
                have v5 := u5.wo.trans o27.wo
                obtain ⟨ov2, e3, e4⟩ := getV_pick (o27 _ _ upd_same nL6) z70 z71
                refine ⟨ov2, e3, ?_⟩
                obtain ⟨od2, osm2, olt2⟩ := odd3_ok (k := j) (t0 := .int 0) (z := .str "0") (v5 _ _ wp26) (.inl rfl) (v5 _ _ wq26) (v5 _ _ wd26) ⟨_, rfl⟩ j3.2 e4
                have S27 := S26.trans v5
                have wr27 := v5 _ _ wr26
                have wt27 := v5 _ _ wt26
                clear d22 d23 d24 d25 d26 S22 S23 S24 S25 S26 wr22 wr23 wr24 wr25 wr26 wt22 wt23 wt24 wt25 wt26 wp24 wp25 wp26 wq25 wq26 wd26 u1 u2 u3 u4 e3 e4
                -- at
                refine ⟨_, lenL (fw wt27), F, d27, by rw [tl]; omega, by rw [tl]; omega, fun z8 H28 z80 z81 d28 o28 => ?_⟩
                rw [tl] at z81
                obtain ⟨at', hat⟩ : ∃ at' : Nat, z8 = (at' : Int) := ⟨z8.toNat, by omega⟩
                subst hat
                have hat : at' ≤ ts.length := by rw [tl]; omega
                have S28 := S27.trans o28.wo
                have wr28 := o28.wo _ _ wr27
                have wt28 := o28.wo _ _ wt27
                have y28 : Same (wo F H27) H28 := o28.wo.trans (wo_same F H28)
                have x28 : Same (wo F H18) H28 := S28.trans (wo_same F H28)
                -- row is refused
                refine ⟨j, rfl, hj, .inl rfl, noB_odd (k := 1) (fw wr28) XM XO XS (let ⟨d, h⟩ := od; ⟨d, h.mono x28⟩) (Sm.mono x28 osm) olt ⟨fun _ => rfl, fun z => absurd z (by decide)⟩, fun H29 s29 => ?_⟩
                refine if_negP (by decide) ?_
                have d29 := d28.same s29
                have t29 := s29 _ _ (fw wt28)
                have y29 := y28.trans s29
                refine ⟨_, t29, fun n1 h1 => ?_⟩
                rw [cutH _ _ hat]
                have s24 := Same.upd (o := .lst (ts.take at')) h1
                have hn1 : upd H29 n1 (.lst (ts.take at')) n1 = some (.lst (ts.take at')) := upd_same
                generalize upd H29 n1 (.lst (ts.take at')) = H30 at *
                refine ⟨le_line (Nat.le_of_ble_eq_true rfl), fun n2 h2 => ?_⟩
                have s25 := s24.trans (Same.upd (o := .lst [ov2]) h2)
                refine ⟨_, _, Same.upd h2 _ _ hn1, upd_same, ?_, fun n3 h3 => ?_⟩
                · rw [List.length_take, tl]; exact le_line (by simp; omega)
                have s26 := s25.trans (Same.upd (o := .lst (ts.take at' ++ [ov2])) h3)
                have hn3 : upd (upd H30 n2 (.lst [ov2])) n3 (.lst (ts.take at' ++ [ov2])) n3 = some (.lst (ts.take at' ++ [ov2])) := upd_same
                generalize upd (upd H30 n2 (.lst [ov2])) n3 (.lst (ts.take at' ++ [ov2])) = H31 at *
                refine ⟨_, s26 _ _ t29, fun n4 h4 => ?_⟩
                rw [cutT _ _ hat]
                have s27 := s26.trans (Same.upd (o := .lst (ts.drop at')) h4)
                refine ⟨_, _, Same.upd h4 _ _ hn3, upd_same, ?_, fun n5 h5 => ?_⟩
                · rw [List.length_append, List.length_take, List.length_drop, tl]; exact le_line (by simp; omega)
                have s28 := s27.trans (Same.upd (o := .lst ((ts.take at' ++ [ov2]) ++ ts.drop at')) h5)
                have hn5 : upd (upd H31 n4 (.lst (ts.drop at'))) n5 (.lst ((ts.take at' ++ [ov2]) ++ ts.drop at')) n5 = some (.lst ((ts.take at' ++ [ov2]) ++ ts.drop at')) := upd_same
                generalize upd (upd H31 n4 (.lst (ts.drop at'))) n5 (.lst ((ts.take at' ++ [ov2]) ++ ts.drop at')) = H32 at *
                have y32 := y29.trans s28
                refine ⟨j, rfl, hj, .inr rfl, noB_odd (k := j) hn5 (fun e he => ?_) ?_ ?_ (let ⟨d, h⟩ := od2; ⟨d, h.mono y32⟩) (Sm.mono y32 osm2) olt2 ⟨fun z => absurd z (by decide), fun _ => rfl⟩, fun H33 s33 => ?_⟩
                · rcases List.mem_append.mp he with he | he
                  · rcases List.mem_append.mp he with he | he
                    · exact .inl (TI e (List.mem_of_mem_take he))
                    · exact .inr (List.mem_singleton.mp he)
                  · exact .inl (TI e (List.mem_of_mem_drop he))
                · simp
                · rw [List.length_append, List.length_append, List.length_take, List.length_drop, tl]; simp; omega
                refine if_negP (by decide) ?_
                exact ⟨_, _, _, _, _, _, _, _, rfl, (d29.same s28).same s33⟩
            · refine ite2 (fun h1 => ?_) (fun h1 => iteF (fin _ _ ⟨rfl, d11, wb11⟩))
              have j1 : 1 < j := by
                have := of_decide_eq_true h1
                omega
              refine ⟨j, rfl, hj, .inl rfl, .inr ⟨by', _, _, rfl, fw wy11, DVs.ints _, by rw [List.length_map]; omega, fun _ _ => by rw [List.length_map]; exact zm j1, fun z => absurd z (by decide), fun e he => ?_⟩, fun H12 s12 => ?_⟩
              · obtain ⟨i, _, rfl⟩ := List.mem_map.mp he
                exact Sm_leaf (T := "int") trivial rfl (by decide)
              · refine if_negP (by decide) ?_
                exact fin _ _ ⟨rfl, d11.same s12, s12.wo _ _ wb11⟩
          · have noth : ∀ H', Deck F H' d → wo F H' b = some (.lst (cs.flatten.map V.int)) → wo F H' by' = some (.lst (cs.flatten.map V.int ++ [.int 0])) → _ := fun H' d' wb' wy' => fin [some (.ref sc), some (.ref d), some (.int (j : Nat)), some y, some (.int (m : Nat)), some (.ref b), some (.ref by'), v7, v8, v9, v10, v11] H' ⟨by', cs.flatten ++ [0], rfl, d', wb', by rw [List.map_append]; exact wy', by simp [-List.length_flatten]; omega, fun h1 => by rw [List.length_append, fl]; exact mod 1 (.inl rfl) h1⟩
            refine ite2 (fun h1 => ?_) (fun h1 => noth _ d10 wb10 wy10)
            have e3 : j = 3 := by
              have := of_decide_eq_true h1
              omega
            refine ⟨le_line (Nat.le_of_ble_eq_true rfl), fun L2 hL2 => ?_⟩
            have nL2 := d10.new hL2
            have t1 := Same.upd (o := .lst [.int 1]) hL2
            refine ⟨F, d10.same t1, by decide, by decide, fun r H11 r0 r1 d11 o11 => ?_⟩
            have wb11 := o11.wo _ _ (t1.wo (F := F) _ _ wb10)
            have wy11 := o11.wo _ _ (t1.wo (F := F) _ _ wy10)
            have l11 := o11 _ _ (upd_same (H := H10) (a := L2) (o := .lst [.int 1])) nL2
            obtain ⟨r', rfl⟩ : ∃ r' : Nat, r = (r' : Int) := ⟨r.toNat, by omega⟩
            refine ⟨_, l11, by omega, by omega, by rw [Int.toNat_natCast]; exact le_line (by simp [-List.length_flatten]; omega), fun L3 hL3 => ?_⟩
            have t2 := Same.upd (o := .lst (List.replicate ((r' : Nat) : Int).toNat [.int 1]).flatten) hL3
            refine ⟨_, _, t2 _ _ (fw wy11), upd_same, ?_, fun b3 nb3 => ?_⟩
            · have rl : (List.replicate r' [V.int 1]).flatten.length = r' := by simp
              rw [Int.toNat_natCast, rl, List.length_append, List.length_map, List.length_singleton]; exact le_line (by omega)
            have t3 := t2.trans (Same.upd (o := .lst ((cs.flatten.map V.int ++ [.int 0]) ++ (List.replicate ((r' : Nat) : Int).toNat [.int 1]).flatten)) nb3)
            refine fin _ _ ⟨b3, cs.flatten ++ [0] ++ List.replicate r' 1, rfl, d11.same t3, t3.wo _ _ wb11, wo_at ?_ ((d11.same t2).new nb3), by simp [-List.length_flatten]; omega, fun h1 => ?_⟩
            · rw [upd_same, Int.toNat_natCast]
              simp
            · rw [List.length_append, List.length_append, fl, List.length_replicate]
              have : r' = 0 ∨ r' = 1 := by omega
              rcases this with rfl | rfl
              · exact mod 1 (.inl rfl) h1
              · exact mod 2 (.inr ⟨e3, rfl⟩) h1
      · rintro σ H5 ⟨v3, v4, v5, v6, v7, v8, v9, v10, rfl, d5⟩
        refine ⟨Nat.zero_le _, fun p1' hp1 => ?_⟩
        have s1 := Same.upd (o := .tup []) hp1
        have h1 : upd H5 p1' (.tup []) p1' = some (.tup []) := upd_same
        generalize upd H5 p1' (.tup []) = H6 at *
        refine ⟨le_line (Nat.le_of_ble_eq_true rfl), fun p2 hp2 => ?_⟩
        have s2 := Same.upd (o := .tup [.int 0, .int 1]) hp2
        have h2 : upd H6 p2 (.tup [.int 0, .int 1]) p2 = some (.tup [.int 0, .int 1]) := upd_same
        generalize upd H6 p2 (.tup [.int 0, .int 1]) = H7 at *
        refine ⟨le_line (Nat.le_of_ble_eq_true rfl), fun p5 hp5 => ?_⟩
        have s5 := Same.upd (o := .tup [.int 0, .int 1, .int 1]) hp5
        have h5 : upd H7 p5 (.tup [.int 0, .int 1, .int 1]) p5 = some (.tup [.int 0, .int 1, .int 1]) := upd_same
        generalize upd H7 p5 (.tup [.int 0, .int 1, .int 1]) = H8 at *
        intro p3 hp3
        have s3 := Same.upd (o := .dK []) hp3
        have h3 : upd H8 p3 (.dK []) p3 = some (.dK []) := upd_same
        generalize upd H8 p3 (.dK []) = H9 at *
        intro p4 hp4
        have s4 := Same.upd (o := .dK [(Sum.inl 0, .int 1)]) hp4
        have h4 : upd H9 p4 (.dK [(Sum.inl 0, .int 1)]) p4 = some (.dK [(Sum.inl 0, .int 1)]) := upd_same
        generalize upd H9 p4 (.dK [(Sum.inl 0, .int 1)]) = H10 at *
        refine ⟨le_line (Nat.le_of_ble_eq_true rfl), fun L hL => ?_⟩
        have hL' : upd H10 L (.lst [.non, .int 0, .bl true, .str "", .str "01", .ref p1', .ref p2, .ref p5, .ref p3, .ref p4]) L = some (.lst [.non, .int 0, .bl true, .str "", .str "01", .ref p1', .ref p2, .ref p5, .ref p3, .ref p4]) := upd_same
        have s6 := Same.upd (o := .lst [.non, .int 0, .bl true, .str "", .str "01", .ref p1', .ref p2, .ref p5, .ref p3, .ref p4]) hL
        generalize upd H10 L (.lst [.non, .int 0, .bl true, .str "", .str "01", .ref p1', .ref p2, .ref p5, .ref p3, .ref p4]) = H11 at *
        have t4 := s4.trans s6
        have t3 := s3.trans t4
        have t5 := s5.trans t3
        have t2 := s2.trans t5
        have t1 := s1.trans t2
        have d11 := d5.same t1
        refine ⟨⟨_, SqL.of hL'⟩, ?_⟩
        refine for_by (it_list _ L _) (fun i σ H' => ∃ v11 : Option V, σ = [some (.ref sc), some (.ref d), some (.int (j : Nat)), v3, v4, v5, v6, v7, v8, v9, v10, v11] ∧ Same H11 H') ⟨v11, rfl, Same.refl _⟩ (fun i σ H' _ ⟨_, _, s⟩ => SqL.of (s _ _ hL')) ?_ ?_
        · rintro i y σ H12 hi hy ⟨v11, rfl, s12⟩
          have hm := List.mem_of_getElem? hy
          have nt : ∀ (way : Int) (H13 : Hp), Same H12 H13 → NoB H13 way j y := fun way H13 s13 => by
            refine .inl ?_
            have u := s12.trans s13
            simp only [List.mem_cons, List.not_mem_nil, or_false] at hm
            rcases hm with rfl | rfl | rfl | rfl | rfl | rfl | rfl | rfl | rfl | rfl
            · exact ⟨⟨"NoneType", rfl, by decide⟩, .inl (.leaf trivial)⟩
            · exact ⟨⟨"int", rfl, by decide⟩, .inl (.leaf trivial)⟩
            · exact ⟨⟨"bool", rfl, by decide⟩, .inl (.leaf trivial)⟩
            · exact ⟨⟨"str", rfl, by decide⟩, .inl (.leaf trivial)⟩
            · exact ⟨⟨"str", rfl, by decide⟩, .inl (.leaf trivial)⟩
            · have h := u _ _ (t2 _ _ h1)
              exact ⟨⟨"tuple", by simp [tyN, h], by decide⟩, .inl (.tup h h .nil)⟩
            · have h := u _ _ (t5 _ _ h2)
              exact ⟨⟨"tuple", by simp [tyN, h], by decide⟩, .inl (.tup h h (.cons (.leaf trivial) (.cons (.leaf trivial) .nil)))⟩
            · have h := u _ _ (t3 _ _ h5)
              exact ⟨⟨"tuple", by simp [tyN, h], by decide⟩, .inl (.tup h h (.cons (.leaf trivial) (.cons (.leaf trivial) (.cons (.leaf trivial) .nil))))⟩
            · have h := u _ _ (t4 _ _ h3)
              exact ⟨⟨"dict", by simp [tyN, h], by decide⟩, .inl (.dic h)⟩
            · have h := u _ _ (s6 _ _ h4)
              exact ⟨⟨"dict", by simp [tyN, h], by decide⟩, .inr ⟨p4, rfl, h⟩⟩
          refine ⟨j, rfl, hj, .inl rfl, nt 0 _ (Same.refl _), fun H13 s13 => ?_⟩
          refine if_negP (by decide) ?_
          refine ⟨j, rfl, hj, .inr rfl, nt 1 _ s13, fun H14 s14 => ?_⟩
          refine if_negP (by decide) ?_
          exact ⟨_, rfl, (s12.trans s13).trans s14⟩
        · rintro σ H12 ⟨v11, rfl, s12⟩
          exact ⟨_, _, _, _, _, _, _, _, _, _, rfl, d11.same s12⟩
    · rintro σ H2 ⟨v2, v3, v4, v5, v6, v7, v8, v9, v10, v11, rfl, dk⟩
      exact q _
  · exact h.elim
end

end K03
end
section
set_option Elab.async false
set_option linter.all false
set_option maxRecDepth 100000
set_option maxHeartbeats 4000000
namespace K03
open PySem L2
section
def keysStr (es : Array DictEntry) : Bool := es.all fun e => match e.key with | .str _ _ => true | _ => false
theorem keysStr_of {es : Array DictEntry} (h : keysStr es = true) : StrKeys es := fun e he => by
  have := (Array.all_eq_true_iff_forall_mem.mp h) e he
  split at this
  · rename_i n t z; exact ⟨n, t, z⟩
  · cases this
open PySem.W in
theorem exn_mk {K : PySem.W.Frag} {C : Addr} {nm q : Str} {N B : Addr} {bs : List Value} {hdct : Bool} {sn : List Str} {sub : List Value} {ab : Bool} {col : Option Bool} {dd : Option Addr} {k0 k1 k2 k3 k5 : Option Value}
    {c1 : Value} {d1 : Option Addr} {es : Array DictEntry} {ep : Nat} {sl1 : Array (Option Value)} {cB : Value} {ddB : Option Addr} {slB : Array (Option Value)} {nmB qB : Str} {bsB mroB subB : List Value} {NB : Addr} {hdB abB delB : Bool} {snB : List Str} {colB : Option Bool}
    {c2 : Value} {d2 : Option Addr} {esB : Array DictEntry} {epB : Nat} {sl2 : Array (Option Value)}
    (hC : K.lookup C = some (excClassObj nm q C N bs (.ref B :: veM) hdct sn sub ab col dd k0 k1 k2 k3 k5 "ValueError.__new__")) (hN : K.lookup N = some ⟨c1, d1, .dict es ep, sl1⟩) (sN : keysStr es = true) (nN : (nsFind es "__init__").isNone = true)
    (hB : K.lookup B = some ⟨cB, ddB, .cls ⟨nmB, bsB, mroB, NB, qB, hdB, snB, subB, abB, colB, delB⟩, slB⟩) (hNB : K.lookup NB = some ⟨c2, d2, .dict esB epB, sl2⟩) (sB : keysStr esB = true) (nB : (nsFind esB "__init__").isNone = true) : ExnOk K C := by
  refine ⟨nm, q, N, bs, .ref B :: veM, hdct, sn, sub, ab, col, dd, k0, k1, k2, k3, k5, nsFind es, Option.isNone_iff_eq_none.mp nN, fun h X => ⟨X _ _ hC, ⟨_, es, ep, X _ _ hN, rfl, keysStr_of sN, fun _ => rfl⟩, ?_⟩⟩
  exact .own (X _ _ hB) ⟨_, esB, epB, X _ _ hNB, rfl, keysStr_of sB, fun _ => rfl⟩ (Option.isNone_iff_eq_none.mp nB) .base
def Cl0 (K : PySem.W.Frag) (C : Addr) (x : Str) (b : Bool) : Prop := ∃ D, PySem.W.nsIn K mainGlobals x = some (some (.ref D)) ∧ PySem.W.kitOne K (.ref C) (.ref D) = some b
theorem cl0_mk {K : PySem.W.Frag} {C D : Addr} {x : Str} {b : Bool} (h : PySem.W.nsIn K mainGlobals x = some (some (.ref D))) (e : PySem.W.kitOne K (.ref C) (.ref D) = some b) : Cl0 K C x b := ⟨D, h, e⟩
theorem cl0_of {K : PySem.W.Frag} {h : Heap} {mg : Str → Option Value} {C : Addr} {x : Str} {b : Bool} (X : K.In h) (G : h.Ns mainGlobals mg) (z : Cl0 K C x b) : Cl K mg C x b := let ⟨D, h1, e⟩ := z; ⟨D, PySem.W.mg_of X G h1, e⟩
theorem xcls_mk {K : PySem.W.Frag} {C : Addr} (a1 : PySem.W.findIn K (.ref C) "__getattribute__" = some (some (.builtin "BaseException.__getattribute__"))) (a2 : PySem.W.findIn K (.ref C) "__getattr__" = some none) (a3 : PySem.W.mroIn K C (.type "BaseException") = some true)
    (b : (PySem.W.clsIn K C).isSome = true) (c : PySem.W.findIn K (.ref C) "__class__" = some (some (.builtin "object.__class__")))
    (d : PySem.W.specialIn K (.builtin "object.__class__") "__get__" = some (some (.builtin "getset_descriptor.__get__"))) (e : PySem.W.takesIn K (.builtin "object.__class__") = some true) (f : PySem.W.mroIn K C (.type "object") = some true) : PySem.W.ExCls K C := ⟨a1, a2, a3, b, c, d, e, f⟩
end

end K03
end
section
set_option Elab.async false
set_option linter.all false
set_option maxRecDepth 100000
set_option maxHeartbeats 4000000
namespace K03
open PySem L2
theorem fnX_1 {K : PySem.W.Frag} {h : Heap} {mg : Str → Option Value} {x : Str} {st : Stmt} {p0 : Str} (D : DefIn K x st) (X : K.In h) (G : h.Ns mainGlobals mg)
    (hb : ∀ (kV doc pm : Value) (an : Option Addr) (cdv ct : Value) (a0 : Value), bindArgs (PySem.W.fnOf x x (defArgs st) (defBody st) (defScope st) .none kV doc pm an cdv ct) ⟨[a0], []⟩ = pure ([p0].zip [a0])) : FnX K mg x st [p0] :=
  D.fnX X G fun kV doc pm an cdv ct us hl => match us, hl with
    | [a0], _ => hb kV doc pm an cdv ct a0
theorem fnX_2 {K : PySem.W.Frag} {h : Heap} {mg : Str → Option Value} {x : Str} {st : Stmt} {p0 p1 : Str} (D : DefIn K x st) (X : K.In h) (G : h.Ns mainGlobals mg)
    (hb : ∀ (kV doc pm : Value) (an : Option Addr) (cdv ct : Value) (a0 a1 : Value), bindArgs (PySem.W.fnOf x x (defArgs st) (defBody st) (defScope st) .none kV doc pm an cdv ct) ⟨[a0, a1], []⟩ = pure ([p0, p1].zip [a0, a1])) : FnX K mg x st [p0, p1] :=
  D.fnX X G fun kV doc pm an cdv ct us hl => match us, hl with
    | [a0, a1], _ => hb kV doc pm an cdv ct a0 a1
theorem fnX_3 {K : PySem.W.Frag} {h : Heap} {mg : Str → Option Value} {x : Str} {st : Stmt} {p0 p1 p2 : Str} (D : DefIn K x st) (X : K.In h) (G : h.Ns mainGlobals mg)
    (hb : ∀ (kV doc pm : Value) (an : Option Addr) (cdv ct : Value) (a0 a1 a2 : Value), bindArgs (PySem.W.fnOf x x (defArgs st) (defBody st) (defScope st) .none kV doc pm an cdv ct) ⟨[a0, a1, a2], []⟩ = pure ([p0, p1, p2].zip [a0, a1, a2])) : FnX K mg x st [p0, p1, p2] :=
  D.fnX X G fun kV doc pm an cdv ct us hl => match us, hl with
    | [a0, a1, a2], _ => hb kV doc pm an cdv ct a0 a1 a2
theorem all_mk {l : PySem.W.OpenLaw} {w : World} {K : PySem.W.Frag} {h : Heap} {mg : Str → Option Value} {fa : Addr} (X : K.In h) (G : h.Ns mainGlobals mg) (hfa : mg "law" = some (.ref fa))
    (d1 : DefIn K "is_whole" sWhole) (d2 : DefIn K "is_within" sWithin) (d3 : DefIn K "is_letter" sLetter) (d4 : DefIn K "is_letter_list" sLetterL) (d5 : DefIn K "letter_of" sLetterOf) (d6 : DefIn K "letters" sLetters) (d7 : DefIn K "bits_of" sBitsOf) (d8 : DefIn K "_law_draw" sDraw) (d9 : DefIn K "_law_deck" sDeck) (d10 : DefIn K "_law_told" sTold) (d11 : DefIn K "_law_same" sSame3) (d12 : DefIn K "_law_kinds" sKinds) (d13 : DefIn K "_law_alike" sAlike) (d14 : DefIn K "_law_refused" sRef) (d15 : DefIn K "_law_right" sRight) (dl : DefIn K "law" sLaw)
    (z1 : PySem.W.nsIn K mainGlobals "len" = some none) (z2 : PySem.W.nsIn K mainGlobals "range" = some none) (z3 : PySem.W.nsIn K mainGlobals "isinstance" = some none) (z4 : PySem.W.nsIn K mainGlobals "int" = some none) (z5 : PySem.W.nsIn K mainGlobals "bool" = some none) (z6 : PySem.W.nsIn K mainGlobals "list" = some none) (z7 : PySem.W.nsIn K mainGlobals "max" = some none) (z8 : PySem.W.nsIn K mainGlobals "min" = some none) (z9 : PySem.W.nsIn K mainGlobals "all" = some none) (z10 : PySem.W.nsIn K mainGlobals "sum" = some none) (z11 : PySem.W.nsIn K mainGlobals "ValueError" = some none) {xC xB : Addr} (hC : PySem.W.nsIn K mainGlobals "NoLetter" = some (some (.ref xC))) (hB : PySem.W.nsIn K mainGlobals "BeatError" = some (some (.ref xB))) (xo : ExnOk K xC) (xz : PySem.W.ExCls K xC) (xm : PySem.W.exmOne K (.ref xC) (.ref xB) = some true) (q_NoLetter : Cl0 K xC "NoLetter" true) (q_NoCode : Cl0 K xC "NoCode" false) (q_NoWindow : Cl0 K xC "NoWindow" false) (q_NoMark : Cl0 K xC "NoMark" false) (q_NoText : Cl0 K xC "NoText" false) (q_NoName : Cl0 K xC "NoName" false) (q_NoRow : Cl0 K xC "NoRow" false) (q_NoWire : Cl0 K xC "NoWire" false) (k_ve : PySem.W.kitOne K (.ref xC) (.type "ValueError") = some true) :
    ∃ fd : FuncData, (∀ (s : Shared) (v : Value), BindsTo s fd ⟨[v], []⟩ [("script", v)]) ∧ ∀ base : Heap, K.In base → base.Ns mainGlobals mg → FnOk l.prog w K mg base CX0 6 fa fd ["script"] (spLaw K) := by
  obtain ⟨f, oc, od, an, osl, kV, dc, pm, cd, ct, h1, h2, h3, h4⟩ := dl
  have e := hfa.symm.trans (PySem.W.mg_of X G h1)
  cases e
  have F := fun_mk (st := sLaw) h2 h3 h4
  refine ⟨PySem.W.fnOf "law" "law" (defArgs sLaw) (defBody sLaw) (defScope sLaw) .none kV dc pm an cd ct, fun s v => .of_eq rfl, fun base _ _ => ?_⟩
  have z_len := PySem.W.mg_none_of X G z1
  have z_range := PySem.W.mg_none_of X G z2
  have z_isinstance := PySem.W.mg_none_of X G z3
  have z_int := PySem.W.mg_none_of X G z4
  have z_bool := PySem.W.mg_none_of X G z5
  have z_list := PySem.W.mg_none_of X G z6
  have z_max := PySem.W.mg_none_of X G z7
  have z_min := PySem.W.mg_none_of X G z8
  have z_all := PySem.W.mg_none_of X G z9
  have z_sum := PySem.W.mg_none_of X G z10
  have z_ValueError := PySem.W.mg_none_of X G z11
  have m_C := PySem.W.mg_of X G hC
  have m_B := PySem.W.mg_of X G hB
  have k_NoLetter := cl0_of X G q_NoLetter
  have k_NoCode := cl0_of X G q_NoCode
  have k_NoWindow := cl0_of X G q_NoWindow
  have k_NoMark := cl0_of X G q_NoMark
  have k_NoText := cl0_of X G q_NoText
  have k_NoName := cl0_of X G q_NoName
  have k_NoRow := cl0_of X G q_NoRow
  have k_NoWire := cl0_of X G q_NoWire
  have c_whole := ok_whole (P := l.prog) (w := w) (base := base) (fnX_1 d1 X G (fun _ _ _ _ _ _ _ => rfl)) z_isinstance z_int z_bool
  have c_within := ok_within (P := l.prog) (w := w) (base := base) (fnX_3 d2 X G (fun _ _ _ _ _ _ _ _ _ => rfl)) c_whole
  have c_letter := ok_letter (P := l.prog) (w := w) (base := base) (fnX_2 d3 X G (fun _ _ _ _ _ _ _ _ => rfl)) c_whole
  have c_letterL := ok_letterL (P := l.prog) (w := w) (base := base) (fnX_2 d4 X G (fun _ _ _ _ _ _ _ _ => rfl)) z_isinstance z_list z_all c_letter
  have c_letterOf := ok_letterOf (P := l.prog) (w := w) (base := base) (fnX_1 d5 X G (fun _ _ _ _ _ _ _ => rfl)) 
  have c_letters := ok_letters (P := l.prog) (w := w) (base := base) (fnX_2 d6 X G (fun _ _ _ _ _ _ _ _ => rfl)) xo m_C z_isinstance z_list z_all z_len z_range c_within c_letterOf
  have c_bitsOf := ok_bitsOf (P := l.prog) (w := w) (base := base) (fnX_2 d7 X G (fun _ _ _ _ _ _ _ _ => rfl)) xo m_C z_range c_letterL
  have c_draw := ok_draw (P := l.prog) (w := w) (base := base) (fnX_2 d8 X G (fun _ _ _ _ _ _ _ _ => rfl)) z_len
  have c_deck := ok_deck (P := l.prog) (w := w) (base := base) (fnX_1 d9 X G (fun _ _ _ _ _ _ _ => rfl)) z_len z_max z_min z_range z_int
  have c_told := ok_told (P := l.prog) (w := w) (base := base) (fnX_2 d10 X G (fun _ _ _ _ _ _ _ _ => rfl)) z_len z_range z_sum
  have c_same3 := ok_same3 (P := l.prog) (w := w) (base := base) (fnX_2 d11 X G (fun _ _ _ _ _ _ _ _ => rfl)) z_isinstance z_list z_int z_bool
  have c_kinds := ok_kinds (P := l.prog) (w := w) (base := base) (fnX_2 d12 X G (fun _ _ _ _ _ _ _ _ => rfl)) z_isinstance z_range z_ValueError xz k_NoLetter k_NoCode k_NoWindow k_NoMark k_NoText k_NoName k_NoRow k_NoWire k_ve
  have x_alike := fnX_2 d13 X G (fun _ _ _ _ _ _ _ _ => rfl)
  have c_alike := ok_sameS (P := l.prog) (w := w) (base := base) 2 x_alike z_isinstance z_list z_len z_range z_bool (ok_sameS 1 x_alike z_isinstance z_list z_len z_range z_bool (ok_sameS 0 x_alike z_isinstance z_list z_len z_range z_bool (ok_same0 x_alike)))
  have c_ref := ok_ref (P := l.prog) (w := w) (base := base) (fnX_3 d14 X G (fun _ _ _ _ _ _ _ _ _ => rfl)) z_isinstance z_list m_B xm c_letters c_bitsOf c_kinds c_alike
  have c_right := ok_right (P := l.prog) (w := w) (base := base) (fnX_2 d15 X G (fun _ _ _ _ _ _ _ _ => rfl)) z_list c_told c_same3 c_letters c_bitsOf
  exact ok_law F z_range z_len c_deck c_draw c_right c_ref c_told
theorem walk {l : PySem.W.OpenLaw} {q : Program} {loose : List Str} {XP : (Str → Option Value) → Heap → Prop} {YP : World → Heap → Prop} {d : DefRec} {K : Params → PySem.W.Frag} (hn : l.most = some 63) (hdf : d.params.defaults = [])
    (hY : ∀ (w : World) (h : Heap), YP w h → (K w.params).In h)
    (F : ∀ (w : World) (mg : Str → Option Value) (fa : Addr) (h : Heap), (K w.params).In h → h.Ns mainGlobals mg → mg d.name = some (.ref fa) →
      ∃ fd : FuncData, (∀ (s : Shared) (u : Value), BindsTo s fd ⟨[u], []⟩ [("script", u)]) ∧ ∀ base : Heap, (K w.params).In base → base.Ns mainGlobals mg → FnOk l.prog w (K w.params) mg base CX0 6 fa fd ["script"] (spLaw (K w.params))) :
    PySem.W.WalkO q loose XP YP l.row.toRowW d [] (fun f vs => PySem.call f vs) :=
  L2.walk_of (n := 63) (k := 6) (x := "script") (CX := fun _ => CX0) (sp := fun w => spLaw (K w.params)) hn (by decide) hdf ⟨rfl, by decide, by decide⟩ hY F (fun _ _ a ns hl _ hS => ⟨ns, hS, hl, fun _ => rfl⟩) fun _ _ _ _ _ z => z
end K03
open PySem PySem.W PyProof.Rows
local macro_rules | `(tactic| walk_at "k_def") => `(tactic| ((refine' L2.DefIn.mk ?a ?l ?c ?k); (case a => k_is); (case l => k_is); (case c => k_is); (case k => k_is)))
set_option maxRecDepth 100000 in
set_option maxHeartbeats 0 in
theorem PySem.Challenge.cw_ownbeat_k03_bits_and_letters_holds : PySem.Challenge.rw_ownbeat_k03_bits_and_letters.Holds := by
  w_on; o_law; k_head; (case hw => w_witness2)
  k_fill
  refine K03.walk (l := PySem.Challenge.rw_ownbeat_k03_bits_and_letters) rfl rfl (fun w h Y => PySem.W.kIn_of Y) ?F
  case F =>
    intro w mg fa h KX G hmg
    refine' K03.all_mk KX G hmg ?d1 ?d2 ?d3 ?d4 ?d5 ?d6 ?d7 ?d8 ?d9 ?d10 ?d11 ?d12 ?d13 ?d14 ?d15 ?dl ?z1 ?z2 ?z3 ?z4 ?z5 ?z6 ?z7 ?z8 ?z9 ?z10 ?z11 ?hC ?hB ?xo ?xz ?xm ?q_NoLetter ?q_NoCode ?q_NoWindow ?q_NoMark ?q_NoText ?q_NoName ?q_NoRow ?q_NoWire ?k_ve
    (case d1 => walk_at "k_def")
    (case d2 => walk_at "k_def")
    (case d3 => walk_at "k_def")
    (case d4 => walk_at "k_def")
    (case d5 => walk_at "k_def")
    (case d6 => walk_at "k_def")
    (case d7 => walk_at "k_def")
    (case d8 => walk_at "k_def")
    (case d9 => walk_at "k_def")
    (case d10 => walk_at "k_def")
    (case d11 => walk_at "k_def")
    (case d12 => walk_at "k_def")
    (case d13 => walk_at "k_def")
    (case d14 => walk_at "k_def")
    (case d15 => walk_at "k_def")
    (case dl => walk_at "k_def")
    (case z1 => k_is)
    (case z2 => k_is)
    (case z3 => k_is)
    (case z4 => k_is)
    (case z5 => k_is)
    (case z6 => k_is)
    (case z7 => k_is)
    (case z8 => k_is)
    (case z9 => k_is)
    (case z10 => k_is)
    (case z11 => k_is)
    (case hC => k_is)
    (case hB => k_is)
    (case xo => ((refine' K03.exn_mk ?a1 ?a2 ?a3 ?a4 ?a5 ?a6 ?a7 ?a8); (case a1 => k_is); (case a2 => k_is); (case a3 => kernel_rfl); (case a4 => kernel_rfl); (case a5 => k_is); (case a6 => k_is); (case a7 => kernel_rfl); (case a8 => kernel_rfl)))
    (case xz => ((refine' K03.xcls_mk ?a1 ?a2 ?a3 ?a4 ?a5 ?a6 ?a7 ?a8); (case a1 => k_is); (case a2 => k_is); (case a3 => k_is); (case a4 => kernel_rfl); (case a5 => k_is); (case a6 => k_is); (case a7 => k_is); (case a8 => k_is)))
    (case xm => kernel_rfl)
    (case q_NoLetter => ((refine' K03.cl0_mk ?a1 ?a2); (case a1 => k_is); (case a2 => kernel_rfl)))
    (case q_NoCode => ((refine' K03.cl0_mk ?a1 ?a2); (case a1 => k_is); (case a2 => kernel_rfl)))
    (case q_NoWindow => ((refine' K03.cl0_mk ?a1 ?a2); (case a1 => k_is); (case a2 => kernel_rfl)))
    (case q_NoMark => ((refine' K03.cl0_mk ?a1 ?a2); (case a1 => k_is); (case a2 => kernel_rfl)))
    (case q_NoText => ((refine' K03.cl0_mk ?a1 ?a2); (case a1 => k_is); (case a2 => kernel_rfl)))
    (case q_NoName => ((refine' K03.cl0_mk ?a1 ?a2); (case a1 => k_is); (case a2 => kernel_rfl)))
    (case q_NoRow => ((refine' K03.cl0_mk ?a1 ?a2); (case a1 => k_is); (case a2 => kernel_rfl)))
    (case q_NoWire => ((refine' K03.cl0_mk ?a1 ?a2); (case a1 => k_is); (case a2 => kernel_rfl)))
    (case k_ve => kernel_rfl)
end
end
