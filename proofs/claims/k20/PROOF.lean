import PyProof.Rows.All
import Wide.All
import OpenK.AllK
import Wide.FinOn
import HandS.Base
import HandS.Call
import HandS.List
import HandS.Comp
import HandS.Ends
import HandS.Words
import HandS.Wide
import HandS.IsInst
import HandS.Gcd
import HandS.Dict
import HandS.Style
import PyProof.CallFns
import Flt.RightSqrt
import PySem.Challenge.RW_spoutlines_k20_whole_bounds_at_slopes
set_option Elab.async false
set_option linter.all false
set_option maxRecDepth 100000
set_option maxHeartbeats 8000000
namespace Pf
open PySem PySem.Spec PyProof.Rows L2
abbrev Fg := PySem.W.Frag

/-! ### worlds -/
/-- what may be read, what data keeps off (A: the caller's own, O: this frame's growing lists), the vats -/
structure Wd where
  H : Hp
  A : Addr → Prop
  V : Addr → Prop
  O : Addr → Prop
def VatAt (H : Hp) (a : Addr) : Prop := ∃ c h n : Int, H a = some (.lst [.int c, .int h, .int n]) ∧ 0 ≤ c ∧ 0 ≤ h ∧ h < 2147483489 ∧ 0 ≤ n
structure Wd.Ok (W : Wd) : Prop where
  va : ∀ a, W.V a → W.A a ∧ VatAt W.H a
  at_ : ∀ a, W.A a → ∃ o, W.H a = some o
  ot : ∀ a, W.O a → ∃ xs, W.H a = some (.lst xs)
  oa : ∀ a, W.O a → ¬ W.A a
/-- a step of statements -/
structure Stp (W U : Wd) : Prop where
  ext : ∀ a o, W.H a = some o → ¬ W.V a → ¬ W.O a → U.H a = some o
  a1 : ∀ a, W.A a → U.A a
  a2 : ∀ a, U.A a → W.A a ∨ W.H a = none
  v1 : ∀ a, W.V a → U.V a
  v2 : ∀ a, U.V a → W.V a ∨ W.H a = none
  o2 : ∀ a, U.O a → W.O a ∨ W.H a = none
/-- a step of expressions -/
structure Le (W U : Wd) : Prop where
  ext : ∀ a o, W.H a = some o → ¬ W.V a → U.H a = some o
  a1 : ∀ a, W.A a → U.A a
  a2 : ∀ a, U.A a → W.A a ∨ W.H a = none
  v1 : ∀ a, W.V a → U.V a
  v2 : ∀ a, U.V a → W.V a ∨ W.H a = none
  o : U.O = W.O
theorem Le.refl (W : Wd) : Le W W := ⟨fun _ _ e _ => e, fun _ h => h, fun _ h => .inl h, fun _ h => h, fun _ h => .inl h, rfl⟩
theorem Stp.refl (W : Wd) : Stp W W := ⟨fun _ _ e _ _ => e, fun _ h => h, fun _ h => .inl h, fun _ h => h, fun _ h => .inl h, fun _ h => .inl h⟩
theorem Le.stp {W U : Wd} (l : Le W U) : Stp W U := ⟨fun a o e n _ => l.ext a o e n, l.a1, l.a2, l.v1, l.v2, fun a h => .inl (by rw [← l.o]; exact h)⟩
theorem Wd.Ok.vt {W : Wd} (k : W.Ok) {a : Addr} (h : W.V a) : ∃ xs, W.H a = some (.lst xs) := by
  obtain ⟨_, _, _, _, e, _⟩ := k.va a h
  exact ⟨_, e⟩
theorem Wd.Ok.ov {W : Wd} (k : W.Ok) {a : Addr} (h : W.O a) : ¬ W.V a := fun v => k.oa a h (k.va a v).1
theorem some_ne {H : Hp} {a : Addr} {o : HO} (e : H a = some o) (n : H a = none) : False := by rw [e] at n; cases n
/-- what was there is there -/
theorem Le.there {W U : Wd} (l : Le W U) (k : W.Ok) (q : U.Ok) {a : Addr} {o : HO} (e : W.H a = some o) : ∃ u, U.H a = some u := by
  by_cases v : W.V a
  · obtain ⟨xs, h⟩ := q.vt (l.v1 a v)
    exact ⟨_, h⟩
  · exact ⟨_, l.ext a o e v⟩
theorem Stp.there {W U : Wd} (l : Stp W U) (k : W.Ok) (q : U.Ok) {a : Addr} {o : HO} (e : W.H a = some o) (h : ¬ W.O a) : ∃ u, U.H a = some u := by
  by_cases v : W.V a
  · obtain ⟨xs, h⟩ := q.vt (l.v1 a v)
    exact ⟨_, h⟩
  · exact ⟨_, l.ext a o e v h⟩
theorem Le.trans {W U Z : Wd} (k : W.Ok) (q : U.Ok) (l : Le W U) (m : Le U Z) : Le W Z where
  ext := fun a o e n => m.ext a o (l.ext a o e n) fun v => by
    rcases l.v2 a v with z | z
    · exact n z
    · exact some_ne e z
  a1 := fun a h => m.a1 a (l.a1 a h)
  a2 := fun a h => by
    rcases m.a2 a h with z | z
    · exact l.a2 a z
    · cases e : W.H a with
      | none => exact .inr rfl
      | some o =>
        obtain ⟨u, hu⟩ := l.there k q e
        exact (some_ne hu z).elim
  v1 := fun a h => m.v1 a (l.v1 a h)
  v2 := fun a h => by
    rcases m.v2 a h with z | z
    · exact l.v2 a z
    · cases e : W.H a with
      | none => exact .inr rfl
      | some o =>
        obtain ⟨u, hu⟩ := l.there k q e
        exact (some_ne hu z).elim
  o := m.o.trans l.o

/-! ### data -/
mutual
inductive R (K : Fg) (W : Wd) : V → PyData → Prop
  | non : R K W .non .none
  | bl (b : Bool) : R K W (.bl b) (.bool b)
  | int (i : Int) : R K W (.int i) (.int i)
  | str (x : Str) : R K W (.str x) (.str x)
  | lst {a : Addr} {xs : List V} {ds : List PyData} : W.H a = some (.lst xs) → ¬ W.A a → ¬ W.O a → Rs K W xs ds → R K W (.ref a) (.list ds)
  | tup {a : Addr} {xs : List V} {ds : List PyData} : SqT K W.H a xs → Rs K W xs ds → R K W (.ref a) (.tuple ds)
  | dic {a : Addr} : W.H a = some (.dK []) → R K W (.ref a) (.dict [])
inductive Rs (K : Fg) (W : Wd) : List V → List PyData → Prop
  | nil : Rs K W [] []
  | cons {v : V} {vs : List V} {d : PyData} {ds : List PyData} : R K W v d → Rs K W vs ds → Rs K W (v :: vs) (d :: ds)
end
section
variable {K : Fg} {W U : Wd}
theorem rd_keep {H H' : Hp} (h : ∀ a o, H a = some o → (∀ xs, o ≠ .lst xs) → H' a = some o) {a : Addr} {xs : List V} (e : SqT K H a xs) : SqT K H' a xs := by
  rcases e with (e | ⟨o, e⟩) | e
  · exact .inl (.inl (h _ _ e fun _ z => by cases z))
  · exact .inl (.inr ⟨o, h _ _ e fun _ z => by cases z⟩)
  · exact .inr e
theorem Le.keepN {W U : Wd} (l : Le W U) (k : W.Ok) : ∀ a o, W.H a = some o → (∀ xs, o ≠ .lst xs) → U.H a = some o := fun a o e n => l.ext a o e fun v => by
  obtain ⟨xs, h⟩ := k.vt v
  rw [e] at h
  cases h
  exact n _ rfl
theorem Stp.keepN {W U : Wd} (l : Stp W U) (k : W.Ok) : ∀ a o, W.H a = some o → (∀ xs, o ≠ .lst xs) → U.H a = some o := fun a o e n => l.ext a o e (fun v => by
  obtain ⟨xs, h⟩ := k.vt v
  rw [e] at h
  cases h
  exact n _ rfl) fun z => by
  obtain ⟨xs, h⟩ := k.ot a z
  rw [e] at h
  cases h
  exact n _ rfl
mutual
theorem R.stp (l : Stp W U) (k : W.Ok) : ∀ {v : V} {d : PyData}, R K W v d → R K U v d
  | _, _, .non => .non
  | _, _, .bl b => .bl b
  | _, _, .int i => .int i
  | _, _, .str x => .str x
  | _, _, .lst e n m h => .lst (l.ext _ _ e (fun v => n (k.va _ v).1) m) (fun z => by
      rcases l.a2 _ z with z | z
      · exact n z
      · exact some_ne e z) (fun z => by
      rcases l.o2 _ z with z | z
      · exact m z
      · exact some_ne e z) (Rs.stp l k h)
  | _, _, .tup e h => .tup (rd_keep (l.keepN k) e) (Rs.stp l k h)
  | _, _, .dic e => .dic (l.keepN k _ _ e fun _ z => by cases z)
theorem Rs.stp (l : Stp W U) (k : W.Ok) : ∀ {vs : List V} {ds : List PyData}, Rs K W vs ds → Rs K U vs ds
  | _, _, .nil => .nil
  | _, _, .cons h t => .cons (R.stp l k h) (Rs.stp l k t)
end
theorem Rs.length : ∀ {vs : List V} {ds : List PyData}, Rs K W vs ds → vs.length = ds.length
  | _, _, .nil => rfl
  | _, _, .cons _ t => congrArg Nat.succ (Rs.length t)
theorem Rs.append : ∀ {vs ws : List V} {ds es : List PyData}, Rs K W vs ds → Rs K W ws es → Rs K W (vs ++ ws) (ds ++ es)
  | _, _, _, _, .nil, h => h
  | _, _, _, _, .cons h t, q => .cons h (Rs.append t q)
theorem Rs.get : ∀ {vs : List V} {ds : List PyData} {i : Nat} {d : PyData}, Rs K W vs ds → ds[i]? = some d → ∃ v, vs[i]? = some v ∧ R K W v d
  | _, _, _, _, .nil, e => by simp at e
  | _, _, 0, _, .cons h _, e => by simp at e; subst e; exact ⟨_, rfl, h⟩
  | _, _, i + 1, d, .cons _ t, e => by
    obtain ⟨v, h1, h2⟩ := Rs.get (i := i) (d := d) t (by simpa using e)
    exact ⟨v, by simpa using h1, h2⟩
theorem Rs.getV : ∀ {vs : List V} {ds : List PyData} {i : Nat} {v : V}, Rs K W vs ds → vs[i]? = some v → ∃ d, ds[i]? = some d ∧ R K W v d
  | _, _, _, _, .nil, e => by simp at e
  | _, _, 0, _, .cons h _, e => by simp at e; subst e; exact ⟨_, rfl, h⟩
  | _, _, i + 1, v, .cons _ t, e => by
    obtain ⟨d, h1, h2⟩ := Rs.getV (i := i) (v := v) t (by simpa using e)
    exact ⟨d, by simpa using h1, h2⟩
theorem Rs.drop : ∀ {vs : List V} {ds : List PyData} (n : Nat), Rs K W vs ds → Rs K W (vs.drop n) (ds.drop n)
  | _, _, 0, h => h
  | _, _, _ + 1, .nil => .nil
  | _, _, n + 1, .cons _ t => Rs.drop n t
theorem Rs.take : ∀ {vs : List V} {ds : List PyData} (n : Nat), Rs K W vs ds → Rs K W (vs.take n) (ds.take n)
  | _, _, 0, _ => .nil
  | _, _, _ + 1, .nil => .nil
  | _, _, n + 1, .cons h t => .cons h (Rs.take n t)
end

/-! ### what a name may stand for -/
inductive DV where
  | d (x : PyData)
  | scr (ns : List Int)
  | vat
inductive RD (K : Fg) (W : Wd) : V → DV → Prop
  | d {v : V} {x : PyData} : R K W v x → RD K W v (.d x)
  | scr {a : Addr} {ns : List Int} : ((∃ o, W.H a = some (.frz o (.lst (ns.map V.int)))) ∨ ∃ (o : Obj) (its : Array Value) (n : Nat), K.lookup a = some o ∧ o.cls = .type "list" ∧ o.dict = none ∧ o.data = .seq its n ∧ its.size ≤ sizeLine ∧ Vals (ns.map V.int) its.toList) → RD K W (.ref a) (.scr ns)
  | vat {a : Addr} : W.V a → RD K W (.ref a) .vat
inductive RDs (K : Fg) (W : Wd) : List V → List DV → Prop
  | nil : RDs K W [] []
  | cons {v : V} {vs : List V} {d : DV} {ds : List DV} : RD K W v d → RDs K W vs ds → RDs K W (v :: vs) (d :: ds)
inductive SD where
  | val (x : DV)
  | own (ds : List PyData)
abbrev SDs := List (Option SD)
inductive RSD (K : Fg) (W : Wd) : V → SD → Prop
  | val {v : V} {x : DV} : RD K W v x → RSD K W v (.val x)
  | own {a : Addr} {xs : List V} {ds : List PyData} : W.H a = some (.lst xs) → W.O a → Rs K W xs ds → RSD K W (.ref a) (.own ds)
structure Gd (K : Fg) (W : Wd) (σ : L2.St) (τ : SDs) : Prop where
  len : τ.length = σ.length
  get : ∀ (i : Nat) (x : SD), τ[i]? = some (some x) → ∃ v, σ[i]? = some (some v) ∧ RSD K W v x
  uni : ∀ (i j : Nat) (a : Addr) (xs ys : List PyData), τ[i]? = some (some (.own xs)) → τ[j]? = some (some (.own ys)) → σ[i]? = some (some (.ref a)) → σ[j]? = some (some (.ref a)) → i = j
section
variable {K : Fg} {W U : Wd}
theorem RD.stp (l : Stp W U) (k : W.Ok) {v : V} {d : DV} (h : RD K W v d) : RD K U v d := by
  cases h with
  | d h => exact .d (h.stp l k)
  | scr h =>
    rcases h with ⟨o, h⟩ | h
    · exact .scr (.inl ⟨o, l.keepN k _ _ h fun _ z => by cases z⟩)
    · exact .scr (.inr h)
  | vat h => exact .vat (l.v1 _ h)
theorem RDs.stp (l : Stp W U) (k : W.Ok) : ∀ {vs : List V} {ds : List DV}, RDs K W vs ds → RDs K U vs ds
  | _, _, .nil => .nil
  | _, _, .cons h t => .cons (h.stp l k) (RDs.stp l k t)
theorem RSD.le (l : Le W U) (k : W.Ok) {v : V} {d : SD} (h : RSD K W v d) : RSD K U v d := by
  cases h with
  | val h => exact .val (h.stp l.stp k)
  | own e o h => exact .own (l.ext _ _ e (k.ov o)) (by rw [l.o]; exact o) (h.stp l.stp k)
theorem Gd.le (l : Le W U) (k : W.Ok) {σ : L2.St} {τ : SDs} (h : Gd K W σ τ) : Gd K U σ τ :=
  ⟨h.len, fun i x e => by
    obtain ⟨v, h1, h2⟩ := h.get i x e
    exact ⟨v, h1, h2.le l k⟩, h.uni⟩
theorem RDs.length : ∀ {vs : List V} {ds : List DV}, RDs K W vs ds → vs.length = ds.length
  | _, _, .nil => rfl
  | _, _, .cons _ t => congrArg Nat.succ (RDs.length t)
/-- the data of a list of values, if all are data -/
def datas : List DV → Option (List PyData)
  | [] => some []
  | .d x :: r => (datas r).map (x :: ·)
  | _ :: _ => none
theorem RDs.datas : ∀ {vs : List V} {ds : List DV} {xs : List PyData}, RDs K W vs ds → datas ds = some xs → Rs K W vs xs
  | _, _, _, .nil, e => by
    have : [] = _ := Option.some.inj e
    subst this
    exact .nil
  | _, _, _, .cons (ds := r) (.d h) t, e => by
    obtain ⟨ys, e1, e2⟩ := Option.map_eq_some_iff.mp e
    subst e2
    exact .cons h (RDs.datas t e1)
  | _, _, _, .cons (.scr _) _, e => by cases e
  | _, _, _, .cons (.vat _) _, e => by cases e
/-- a new object is laid -/
theorem lay {p : Addr} {o : HO} (k : W.Ok) (n : W.H p = none) : Le W { W with H := upd W.H p o } ∧ ({ W with H := upd W.H p o } : Wd).Ok := by
  have ne : ∀ {a : Addr} {u : HO}, W.H a = some u → upd W.H p o a = some u := fun {a u} e => by rw [upd_ne (ne_of_none e n)]; exact e
  refine ⟨⟨fun a u e _ => ne e, fun _ h => h, fun _ h => .inl h, fun _ h => h, fun _ h => .inl h, rfl⟩, ⟨fun a h => ?_, fun a h => ?_, fun a h => ?_, k.oa⟩⟩
  · obtain ⟨h1, c, hh, m, e, r⟩ := k.va a h
    exact ⟨h1, c, hh, m, ne e, r⟩
  · obtain ⟨u, e⟩ := k.at_ a h
    exact ⟨u, ne e⟩
  · obtain ⟨xs, e⟩ := k.ot a h
    exact ⟨xs, ne e⟩
theorem lay_tup {p : Addr} {vs : List V} {ds : List PyData} (k : W.Ok) (n : W.H p = none) (h : Rs K W vs ds) : R K { W with H := upd W.H p (.tup vs) } (.ref p) (.tuple ds) :=
  .tup (.inl (.inl upd_same)) (h.stp (lay k n).1.stp k)
theorem lay_lst {p : Addr} {vs : List V} {ds : List PyData} (k : W.Ok) (n : W.H p = none) (h : Rs K W vs ds) : R K { W with H := upd W.H p (.lst vs) } (.ref p) (.list ds) :=
  .lst upd_same (fun z => by
    obtain ⟨u, e⟩ := k.at_ p z
    exact some_ne e n) (fun z => by
    obtain ⟨u, e⟩ := k.ot p z
    exact some_ne e n) (h.stp (lay k n).1.stp k)
end
end Pf

namespace Pf
open PySem PySem.Spec PyProof.Rows L2

/-! ### the small language -/
inductive BOp where | add | sub | mul | div | mod | pow
inductive COp where | lt | le | gt | ge | eq | ne | inn | notin | iss | isnt
inductive Bi where | len | abs | int | sum | all | any | max2 | min2 | divmod | tuple | list | repr | gcd2 | gcd3 | isqrt
inductive Tg where
  | one (i : Nat)
  | many (is : List Nat)
mutual
inductive RE where
  | con (d : PyData)
  | var (i : Nat)
  | tup (es : RA)
  | lst (es : RA)
  | dic
  | bin (op : BOp) (a b : RE)
  | neg (a : RE)
  | notV (a : RE)
  | andV (a b : RE)
  | orV (a b : RE)
  | cmp (op : COp) (a b : RE)
  | isN (a : RE)
  | notN (a : RE)
  | ite (t : RT) (a b : RE)
  | idx (a b : RE)
  | slc (a : RE) (lo hi : RO)
  | call (f : Nat) (es : RA)
  | callK (f n m : Nat) (pm : List Nat) (es ks : RA)
  | bi (b : Bi) (es : RA)
  | isi (a : RE) (T : String)
  | lc (wp : List Nat) (tg : Tg) (it : RI) (t : RT) (e : RE)
inductive RA where
  | nil
  | cons (e : RE) (es : RA)
inductive RT where
  | yes
  | val (e : RE)
  | bl (e : RE)
  | not (t : RT)
  | and (t u : RT)
  | or (t u : RT)
inductive RO where
  | none
  | some (e : RE)
inductive RI where
  | seq (e : RE)
  | rng (a : RE)
  | rng2 (a b : RE)
end
inductive RS where
  | asg (i : Nat) (e : RE)
  | own (i : Nat) (es : RA)
  | asgT (tg : Tg) (e : RE)
  | par (is : List Nat) (es : RA)
  | app (i : Nat) (e : RE)
  | frz (i : Nat) (s : RS)
  | setV (i j : Nat) (e : RE)
  | setV2 (i j x : Nat) (e : RE)
  | ret (e : RE)
  | retV (es : RA)
  | retN
  | iff (t : RT) (a b : RS)
  | whl (t : RT) (b : RS)
  | «for» (tg : Tg) (it : RI) (b : RS)
  | exp (e : RE)
  | brk
  | cnt
  | skip
  | fail
  | aug (i : Nat) (e : RE)
  | seq (s u : RS)

/-! ### what it means, over plain data -/
abbrev PSp := List DV → (DV → Prop) → Prop
def dint : DV → (Int → Prop) → Prop
  | .d (.int i), Q => Q i
  | _, _ => False
def dbool : DV → (Bool → Prop) → Prop
  | .d (.bool i), Q => Q i
  | _, _ => False
def seqOf : DV → Option (List PyData)
  | .d (.list xs) => some xs
  | .d (.tuple xs) => some xs
  | _ => none
def mx : Nat := 100000
def wBin : BOp → DV → DV → (DV → Prop) → Prop
  | .add, .d (.int i), .d (.int j), Q => Q (.d (.int (i + j)))
  | .add, .d (.list xs), .d (.list ys), Q => xs.length + ys.length ≤ mx ∧ Q (.d (.list (xs ++ ys)))
  | .add, .d (.tuple xs), .d (.tuple ys), Q => xs ≠ [] ∧ xs.length + ys.length ≤ mx ∧ Q (.d (.tuple (xs ++ ys)))
  | .add, .d (.str x), .d (.str y), Q => x.length + y.length ≤ mx ∧ Q (.d (.str (x ++ y)))
  | .sub, .d (.int i), .d (.int j), Q => Q (.d (.int (i - j)))
  | .mul, .d (.int i), .d (.int j), Q => (CMul i j ∨ CMulW i j) ∧ Q (.d (.int (i * j)))
  | .mul, .d (.list xs), .d (.int j), Q => -1000 ≤ j ∧ j ≤ 1000 ∧ xs.length ≤ 100 ∧ Q (.d (.list (List.replicate j.toNat xs).flatten))
  | .div, .d (.int i), .d (.int j), Q => CDivW i j ∧ Q (.d (.int (i / j)))
  | .mod, .d (.int i), .d (.int j), Q => 0 < j ∧ Q (.d (.int (i % j)))
  | .pow, .d (.int i), .d (.int j), Q => CPow i j ∧ Q (.d (.int (i ^ j.toNat)))
  | _, _, _, _ => False
def flatD : PyData → Bool
  | .none => true
  | .bool _ => true
  | .int _ => true
  | .str _ => true
  | _ => false
def wCmp : COp → DV → DV → (DV → Prop) → Prop
  | .lt, .d (.int i), .d (.int j), Q => Q (.d (.bool (decide (i < j))))
  | .le, .d (.int i), .d (.int j), Q => Q (.d (.bool (decide (i ≤ j))))
  | .gt, .d (.int i), .d (.int j), Q => Q (.d (.bool (decide (j < i))))
  | .ge, .d (.int i), .d (.int j), Q => Q (.d (.bool (decide (j ≤ i))))
  | .eq, .d (.int i), .d (.int j), Q => Q (.d (.bool (decide (i = j))))
  | .ne, .d (.int i), .d (.int j), Q => Q (.d (.bool (!decide (i = j))))
  | .eq, .d (.str i), .d (.str j), Q => Q (.d (.bool (decide (i = j))))
  | .ne, .d (.str i), .d (.str j), Q => Q (.d (.bool (!decide (i = j))))
  | .eq, .d x, .d y, Q => SeqAt.shaped x = true ∧ SeqAt.shaped y = true ∧ Q (.d (.bool (PyData.eqv x y)))
  | .ne, .d x, .d y, Q => SeqAt.shaped x = true ∧ SeqAt.shaped y = true ∧ Q (.d (.bool (!PyData.eqv x y)))
  | .inn, .d x, y, Q => ∃ ys, seqOf y = some ys ∧ flatD x = true ∧ ys.all flatD = true ∧ Q (.d (.bool (ys.any fun z => PyData.eqv z x)))
  | .notin, .d x, y, Q => ∃ ys, seqOf y = some ys ∧ flatD x = true ∧ ys.all flatD = true ∧ Q (.d (.bool (!ys.any fun z => PyData.eqv z x)))
  | .iss, .d (.bool i), .d (.bool j), Q => Q (.d (.bool (decide (i = j))))
  | .isnt, .d (.bool i), .d (.bool j), Q => Q (.d (.bool (!decide (i = j))))
  | _, _, _, _ => False
/-- what may stand at a vat's places -/
def VatZ (j : Nat) (z : Int) : Prop := 0 ≤ z ∧ (j = 1 → z < 2147483489)
def wIdx : DV → DV → (DV → Prop) → Prop
  | .vat, .d (.int i), Q => 0 ≤ i ∧ i < 3 ∧ ∀ z, VatZ i.toNat z → Q (.d (.int z))
  | .scr ns, .d (.int i), Q => ∃ n, atI ns i = some n ∧ Q (.d (.int n))
  | .d (.list xs), .d (.int i), Q => ∃ x, atI xs i = some x ∧ Q (.d x)
  | .d (.tuple xs), .d (.int i), Q => ∃ x, atI xs i = some x ∧ Q (.d x)
  | _, _, _ => False
def cutD {α : Type} (xs : List α) (lo hi : Option Int) : List α := (xs.drop (HT.sIx xs.length 0 lo)).take (HT.sIx xs.length xs.length hi - HT.sIx xs.length 0 lo)
def wSlc : DV → Option Int → Option Int → (DV → Prop) → Prop
  | .scr ns, lo, hi, Q => Q (.d (.list ((cutD ns lo hi).map PyData.int)))
  | .d (.list xs), lo, hi, Q => Q (.d (.list (cutD xs lo hi)))
  | .d (.tuple xs), lo, hi, Q => (cutD xs lo hi).length < xs.length ∧ Q (.d (.tuple (cutD xs lo hi)))
  | _, _, _, _ => False
def intsD : List PyData → Option (List Int)
  | [] => some []
  | .int i :: r => (intsD r).map (i :: ·)
  | _ => none
def boolsD : List PyData → Option (List Bool)
  | [] => some []
  | .bool i :: r => (boolsD r).map (i :: ·)
  | _ => none
def lenD : DV → Option Nat
  | .scr ns => some ns.length
  | .d (.list xs) => some xs.length
  | .d (.tuple xs) => some xs.length
  | _ => none
def wBi : Bi → List DV → (DV → Prop) → Prop
  | .len, [x], Q => ∃ n, lenD x = some n ∧ Q (.d (.int n))
  | .abs, [.d (.int i)], Q => Q (.d (.int (if i < 0 then -i else i)))
  | .int, [.d (.int i)], Q => Q (.d (.int i))
  | .sum, [.d (.list xs)], Q => ∃ ns, intsD xs = some ns ∧ Q (.d (.int ns.sum))
  | .all, [.d (.list xs)], Q => ∃ bs, boolsD xs = some bs ∧ Q (.d (.bool (bs.all id)))
  | .any, [.d (.list xs)], Q => ∃ bs, boolsD xs = some bs ∧ Q (.d (.bool (bs.any id)))
  | .max2, [.d (.int i), .d (.int j)], Q => Q (.d (.int (if j > i then j else i)))
  | .min2, [.d (.int i), .d (.int j)], Q => Q (.d (.int (if j < i then j else i)))
  | .divmod, [.d (.int i), .d (.int j)], Q => CDiv i j ∧ Q (.d (.tuple [.int (i / j), .int (i % j)]))
  | .tuple, [.d (.list xs)], Q => Q (.d (.tuple xs))
  | .tuple, [.d (.tuple xs)], Q => Q (.d (.tuple xs))
  | .list, [.d (.list xs)], Q => Q (.d (.list xs))
  | .list, [.d (.tuple xs)], Q => Q (.d (.list xs))
  | .repr, [.d (.list xs)], Q => (PyData.list xs).showable = true ∧ (PyData.list xs).hasDict = false ∧ (PyData.list xs).depth ≤ 40 ∧ (PyData.list xs).shown.length ≤ sizeLine ∧ Q (.d (.str (PyData.list xs).shown))
  | .repr, [.d (.tuple xs)], Q => (PyData.tuple xs).showable = true ∧ (PyData.tuple xs).hasDict = false ∧ (PyData.tuple xs).depth ≤ 40 ∧ (PyData.tuple xs).shown.length ≤ sizeLine ∧ Q (.d (.str (PyData.tuple xs).shown))
  | .repr, [.d (.bool b)], Q => Q (.d (.str (PyData.bool b).shown))
  | .gcd2, [.d (.int i), .d (.int j)], Q => Q (.d (.int ((Nat.gcd i.natAbs j.natAbs : Nat) : Int)))
  | .gcd3, [.d (.int i), .d (.int j), .d (.int k)], Q => Q (.d (.int ((Nat.gcd (Nat.gcd i.natAbs j.natAbs) k.natAbs : Nat) : Int)))
  | .isqrt, [.d (.int i)], Q => 0 ≤ i ∧ i < 2 ^ 13000 ∧ Q (.d (.int ((Float64.isqrt i.toNat : Nat) : Int)))
  | _, _, _ => False
/-- the name of a value's built-in type -/
def tyD : PyData → String
  | .none => "NoneType"
  | .bool _ => "bool"
  | .int _ => "int"
  | .str _ => "str"
  | .list _ => "list"
  | .tuple _ => "tuple"
  | .dict _ => "dict"
def wIsi (x : DV) (T : String) (Q : DV → Prop) : Prop := match x with
  | .d y => ∃ b, kitB (tyD y) T = some b ∧ Q (.d (.bool b))
  | _ => False
def truD : PyData → Option Bool
  | .none => some false
  | .bool b => some b
  | .int i => some (i != 0)
  | .list xs => some (!xs.isEmpty)
  | .tuple xs => some (!xs.isEmpty)
  | _ => none
/-- what is walked, item by item -/
def itemsD : DV → Option (List DV)
  | .scr ns => some (ns.map fun n => .d (.int n))
  | .d (.list xs) => some (xs.map .d)
  | .d (.tuple xs) => some (xs.map .d)
  | _ => none
def rngD (lo : Int) (n : Nat) : List DV := (List.range n).map fun (i : Nat) => DV.d (.int (lo + (i : Int)))
def setAll (τ : SDs) : List Nat → List PyData → SDs
  | i :: is, x :: xs => setAll (τ.set i (some (.val (.d x)))) is xs
  | _, _ => τ
def wTg : Tg → DV → SDs → (SDs → Prop) → Prop
  | .one i, x, τ, Q => Q (τ.set i (some (.val x)))
  | .many is, .d (.tuple xs), τ, Q => xs.length = is.length ∧ Q (setAll τ is xs)
  | .many _, _, _, _ => False
def wipeD (τ : SDs) : List Nat → SDs
  | [] => τ
  | v :: vs => (wipeD τ vs).set v none
def goLc (turn : DV → (Option PyData → Prop) → Prop) : List DV → List PyData → (List PyData → Prop) → Prop
  | [], acc, Q => Q acc
  | x :: r, acc, Q => turn x fun o => goLc turn r (acc ++ o.toList) Q
def perm (pm : List Nat) (rs : List DV) : List DV := pm.filterMap fun i => rs[i]?
section
variable (Φ : Nat → PSp)
mutual
def wE : RE → SDs → (DV → Prop) → Prop
  | .con d, _, Q => Q (.d d)
  | .var i, τ, Q => match τ[i]? with
    | some (some (.val x)) => Q x
    | _ => False
  | .tup es, τ, Q => wA es τ fun rs => ∃ ds, datas rs = some ds ∧ ds.length ≤ mx ∧ Q (.d (.tuple ds))
  | .lst es, τ, Q => wA es τ fun rs => ∃ ds, datas rs = some ds ∧ ds.length ≤ mx ∧ Q (.d (.list ds))
  | .dic, _, Q => Q (.d (.dict []))
  | .bin op a b, τ, Q => wE a τ fun x => wE b τ fun y => wBin op x y Q
  | .neg a, τ, Q => wE a τ fun x => dint x fun i => Q (.d (.int (-i)))
  | .notV a, τ, Q => wE a τ fun x => dbool x fun b => Q (.d (.bool (!b)))
  | .andV a b, τ, Q => wE a τ fun x => dbool x fun c => if c = true then wE b τ Q else Q (.d (.bool false))
  | .orV a b, τ, Q => wE a τ fun x => dbool x fun c => if c = true then Q (.d (.bool true)) else wE b τ Q
  | .cmp op a b, τ, Q => wE a τ fun x => wE b τ fun y => wCmp op x y Q
  | .isN a, τ, Q => wE a τ fun x => match x with
    | .d y => Q (.d (.bool (match y with | .none => true | _ => false)))
    | _ => False
  | .notN a, τ, Q => wE a τ fun x => match x with
    | .d y => Q (.d (.bool (match y with | .none => false | _ => true)))
    | _ => False
  | .ite t a b, τ, Q => wT t τ fun c => if c = true then wE a τ Q else wE b τ Q
  | .idx a b, τ, Q => wE a τ fun x => wE b τ fun y => wIdx x y Q
  | .slc a lo hi, τ, Q => wE a τ fun x => wO lo τ fun l => wO hi τ fun h => wSlc x l h Q
  | .call f es, τ, Q => wA es τ fun rs => Φ f rs Q
  | .callK f n m pm es ks, τ, Q => wA es τ fun rs => rs.length = n ∧ wA ks τ fun zs => zs.length = m ∧ Φ f (perm pm (rs ++ zs)) Q
  | .bi b es, τ, Q => wA es τ fun rs => wBi b rs Q
  | .isi a T, τ, Q => wE a τ fun x => wIsi x T Q
  | .lc wp tg it t e, τ, Q => wI it τ fun xs => xs.length ≤ mx ∧ goLc (fun x k => wTg tg x (wipeD τ wp) fun τ2 => wT t τ2 fun b => if b = true then wE e τ2 fun r => match r with
      | .d y => k (some y)
      | _ => False
    else k none) xs [] fun ys => Q (.d (.list ys))
def wA : RA → SDs → (List DV → Prop) → Prop
  | .nil, _, Q => Q []
  | .cons e es, τ, Q => wE e τ fun x => wA es τ fun xs => Q (x :: xs)
def wT : RT → SDs → (Bool → Prop) → Prop
  | .yes, _, Q => Q true
  | .val e, τ, Q => wE e τ fun x => match x with
    | .d y => ∃ b, truD y = some b ∧ Q b
    | _ => False
  | .bl e, τ, Q => wE e τ fun x => dbool x Q
  | .not t, τ, Q => wT t τ fun b => Q (!b)
  | .and t u, τ, Q => wT t τ fun b => if b = true then wT u τ Q else Q false
  | .or t u, τ, Q => wT t τ fun b => if b = true then Q true else wT u τ Q
def wO : RO → SDs → (Option Int → Prop) → Prop
  | .none, _, Q => Q none
  | .some e, τ, Q => wE e τ fun x => dint x fun i => Q (some i)
def wI : RI → SDs → (List DV → Prop) → Prop
  | .seq e, τ, Q => wE e τ fun x => ∃ xs, itemsD x = some xs ∧ Q xs
  | .rng a, τ, Q => wE a τ fun x => dint x fun n => n < 2 ^ 62 ∧ -(2 ^ 62) ≤ n ∧ Q (rngD 0 n.toNat)
  | .rng2 a b, τ, Q => wE a τ fun x => wE b τ fun y => dint x fun m => dint y fun n => (-(2 ^ 62) ≤ m ∧ m < 2 ^ 62 ∧ -(2 ^ 62) ≤ n ∧ n < 2 ^ 62) ∧ Q (rngD m (n - m).toNat)
end
end
structure PD where
  nx : SDs → Prop
  rt : DV → Prop
  bk : SDs → Prop := fun _ => False
  ct : SDs → Prop := fun _ => False
def goFor (turn : DV → SDs → (SDs → Prop) → Prop) (nx : SDs → Prop) : List DV → SDs → Prop
  | [], τ => nx τ
  | x :: r, τ => turn x τ fun τ2 => goFor turn nx r τ2
def goWh (turn : SDs → (SDs → Prop) → Prop) : Nat → SDs → Prop
  | 0, _ => False
  | n + 1, τ => turn τ fun τ2 => goWh turn n τ2
def frzD (τ : SDs) (i : Nat) : SDs := match τ[i]? with
  | some (some (.own ds)) => τ.set i (some (.val (.d (.list ds))))
  | _ => τ
def setVals (τ : SDs) : List Nat → List DV → SDs
  | i :: is, x :: xs => setVals (τ.set i (some (.val x))) is xs
  | _, _ => τ
section
variable (Φ : Nat → PSp)
def wS : RS → PD → SDs → Prop
  | .asg i e, D, τ => wE Φ e τ fun r => D.nx (τ.set i (some (.val r)))
  | .own i es, D, τ => wA Φ es τ fun rs => ∃ ds, datas rs = some ds ∧ ds.length ≤ mx ∧ D.nx (τ.set i (some (.own ds)))
  | .asgT tg e, D, τ => wE Φ e τ fun r => wTg tg r τ D.nx
  | .par is es, D, τ => wA Φ es τ fun rs => rs.length = is.length ∧ D.nx (setVals τ is rs)
  | .app i e, D, τ => match τ[i]? with
    | some (some (.own ds)) => wE Φ e τ fun r => match r with
      | .d y => ds.length < mx ∧ D.nx (τ.set i (some (.own (ds ++ [y]))))
      | _ => False
    | _ => False
  | .frz i s, D, τ => wS s D (frzD τ i)
  | .setV i j e, D, τ => j < 3 ∧ wE Φ e τ fun r => match r, τ[i]? with
    | .d (.int z), some (some (.val .vat)) => VatZ j z ∧ D.nx τ
    | _, _ => False
  | .setV2 i j x e, D, τ => j < 3 ∧ wE Φ e τ fun r => match r, τ[i]? with
    | .d (.tuple [.int z, y]), some (some (.val .vat)) => VatZ j z ∧ D.nx (τ.set x (some (.val (.d y))))
    | _, _ => False
  | .ret e, D, τ => wE Φ e τ D.rt
  | .retV es, D, τ => wA Φ es τ fun rs => match rs with
    | [.d (.int c), .d (.int h), .d (.int n)] => 0 ≤ c ∧ 0 ≤ h ∧ h < 2147483489 ∧ 0 ≤ n ∧ D.rt .vat
    | _ => False
  | .retN, D, _ => D.rt (.d .none)
  | .iff t a b, D, τ => wT Φ t τ fun c => if c = true then wS a D τ else wS b D τ
  | .whl t b, D, τ => ∃ n, goWh (fun τ1 k => wT Φ t τ1 fun c => if c = true then wS b { D with nx := k, ct := k, bk := D.nx } τ1 else D.nx τ1) n τ
  | .for tg it b, D, τ => wI Φ it τ fun xs => goFor (fun x τ1 k => wTg tg x τ1 fun τ2 => wS b { D with nx := k, ct := k, bk := D.nx } τ2) D.nx xs τ
  | .exp e, D, τ => wE Φ e τ fun _ => D.nx τ
  | .brk, D, τ => D.bk τ
  | .cnt, D, τ => D.ct τ
  | .skip, D, τ => D.nx τ
  | .fail, _, _ => False
  | .aug i e, D, τ => match τ[i]? with
    | some (some (.val (.d (.int a)))) => wE Φ e τ fun r => dint r fun b => D.nx (τ.set i (some (.val (.d (.int (a + b))))))
    | _ => False
  | .seq s u, D, τ => wS s { D with nx := fun τ2 => wS u D τ2 } τ
end
end Pf

namespace Pf
open PySem PySem.Spec PyProof.Rows L2
section
variable {X : Cx} {K : Fg}

/-! ### readings from plain meanings -/
def trE (K : Fg) (w : SDs → (DV → Prop) → Prop) : TE := fun σ H Q => ∃ W τ R, W.H = H ∧ W.Ok ∧ Gd K W σ τ ∧ w τ R ∧ ∀ r v U, R r → U.Ok → Le W U → RD K U v r → Q v U.H
def trA (K : Fg) (w : SDs → (List DV → Prop) → Prop) : TA := fun σ H Q => ∃ W τ R, W.H = H ∧ W.Ok ∧ Gd K W σ τ ∧ w τ R ∧ ∀ r v U, R r → U.Ok → Le W U → RDs K U v r → Q v U.H
def trT (K : Fg) (w : SDs → (Bool → Prop) → Prop) : TT := fun σ H Q => ∃ W τ R, W.H = H ∧ W.Ok ∧ Gd K W σ τ ∧ w τ R ∧ ∀ r U, R r → U.Ok → Le W U → Q r U.H
def trO (K : Fg) (w : SDs → (Option Int → Prop) → Prop) : TO := fun σ H Q => ∃ W τ R, W.H = H ∧ W.Ok ∧ Gd K W σ τ ∧ w τ R ∧ ∀ r U, R r → U.Ok → Le W U → Q r U.H
theorem pE_imp {e : Expr} {t u : TE} (h : PE X e t) (i : ∀ σ H Q, u σ H Q → t σ H Q) : PE X e u := ⟨fun p s σ H Q I q => h.run p s σ H Q I (i _ _ _ q)⟩
theorem pT_imp {e : Expr} {t u : TT} (h : PT X e t) (i : ∀ σ H Q, u σ H Q → t σ H Q) : PT X e u := ⟨fun p s σ H Q I q => h.run p s σ H Q I (i _ _ _ q)⟩
theorem pW_imp {e : Expr} {t u : TT} (h : PW X e t) (i : ∀ σ H Q, u σ H Q → t σ H Q) : PW X e u := ⟨fun w p s σ H Q I q => h.run w p s σ H Q I (i _ _ _ q)⟩
theorem pA_imp {e : List Expr} {t u : TA} (h : PA X e t) (i : ∀ σ H Q, u σ H Q → t σ H Q) : PA X e u := ⟨fun w p s σ H Q I q => h.run w p s σ H Q I (i _ _ _ q)⟩
theorem pS_imp {e : Stmt} {t u : TS} (h : PS X e t) (i : ∀ D σ H, u D σ H → t D σ H) : PS X e u := ⟨fun p s σ H D I q => h.run p s σ H D I (i _ _ _ q)⟩
theorem pSs_imp {e : List Stmt} {t u : TS} (h : PSs X e t) (i : ∀ D σ H, u D σ H → t D σ H) : PSs X e u := ⟨fun p s σ H D I q => h.run p s σ H D I (i _ _ _ q)⟩
theorem op_imp {f : Value → Value → Sem Value} {r r' : R2} (h : OpR X f r) (i : ∀ x y H Q, r' x y H Q → r x y H Q) : OpR X f r' := fun p s σ H x y v u Q I rx ry q => h p s σ H x y v u Q I rx ry (i _ _ _ _ q)
theorem call_imp {f : Value} {r r' : List V → Hp → VK → Prop} (h : CallR X f r) (i : ∀ x H Q, r' x H Q → r x H Q) : CallR X f r' := fun p s σ H vs us Q I rv q => h p s σ H vs us Q I rv (i _ _ _ q)

/-! ### operators on values -/
def rW2 (K : Fg) (w : DV → DV → (DV → Prop) → Prop) : R2 := fun x y H Q => ∃ W dx dy R, W.H = H ∧ W.Ok ∧ RD K W x dx ∧ RD K W y dy ∧ w dx dy R ∧ ∀ r v U, R r → U.Ok → Le W U → RD K U v r → Q v U.H
def rWs (K : Fg) (w : List DV → (DV → Prop) → Prop) : List V → Hp → VK → Prop := fun xs H Q => ∃ W ds R, W.H = H ∧ W.Ok ∧ RDs K W xs ds ∧ w ds R ∧ ∀ r v U, R r → U.Ok → Le W U → RD K U v r → Q v U.H
theorem bin_imp {wa wb : SDs → (DV → Prop) → Prop} {w : DV → DV → (DV → Prop) → Prop} {σ : L2.St} {H : Hp} {Q : VK}
    (h : trE K (fun τ R => wa τ fun x => wb τ fun y => w x y R) σ H Q) : tOp (rW2 K w) (trE K wa) (trE K wb) σ H Q := by
  obtain ⟨W, τ, R, rfl, k, g, hw, hq⟩ := h
  refine ⟨W, τ, _, rfl, k, g, hw, fun x v U hx k1 l1 rx => ?_⟩
  refine ⟨U, τ, _, rfl, k1, g.le l1 k, hx, fun y u Z hy k2 l2 ry => ?_⟩
  exact ⟨Z, x, y, R, rfl, k2, rx.stp l2.stp k1, ry, hy, fun r z Y hr k3 l3 rz => hq r z Y hr k3 (l1.trans k k1 (l2.trans k1 k2 l3)) rz⟩
theorem sz {n : Nat} (h : n ≤ mx) : n ≤ sizeLine := Nat.le_trans h (by decide)
theorem szl {n : Nat} (h : n < mx) : n < sizeLine := Nat.lt_of_lt_of_le h (by decide)
theorem op_addW : OpR X (binaryOp .Add) (rW2 X.K (wBin .add)) := by
  rintro p s σ H x y v u Q I rx ry ⟨W, dx, dy, R, rfl, k, hx, hy, hw, hq⟩
  cases hx with
  | scr => exact hw.elim
  | vat => exact hw.elim
  | d hx =>
    cases hy with
    | scr => cases hx <;> exact hw.elim
    | vat => cases hx <;> exact hw.elim
    | d hy =>
      cases hx with
      | int i =>
        cases hy with
        | int j => exact op_add p s σ _ _ _ v u Q I rx ry ⟨i, j, rfl, rfl, hq _ _ W hw k (Le.refl W) (.d (.int _))⟩
        | _ => exact hw.elim
      | str i =>
        cases hy with
        | str j => exact op_add_str p s σ _ _ _ v u Q I rx ry ⟨i, j, rfl, rfl, sz hw.1, hq _ _ W hw.2 k (Le.refl W) (.d (.str _))⟩
        | _ => exact hw.elim
      | lst e a o hs =>
        cases hy with
        | lst e' a' o' hs' =>
          exact op_cat p s σ _ _ _ v u Q I rx ry ⟨_, _, _, _, rfl, rfl, e, e', by rw [hs.length, hs'.length]; exact sz hw.1, fun q n => hq _ _ _ hw.2 (lay k n).2 (lay k n).1 (.d (lay_lst k n (hs.append hs')))⟩
        | _ => exact hw.elim
      | tup e hs =>
        cases hy with
        | tup e' hs' =>
          refine op_catT p s σ _ _ _ v u Q I rx ry ⟨_, _, _, _, rfl, rfl, e, e', fun z => ?_, by rw [hs.length, hs'.length]; exact sz hw.2.1, fun z => ?_, fun _ q n => hq _ _ _ hw.2.2 (lay k n).2 (lay k n).1 (.d (lay_tup k n (hs.append hs')))⟩
          · subst z
            cases hs
            exact hw.1 rfl
          · subst z
            cases hs'
            refine hq _ _ W hw.2.2 k (Le.refl W) (.d ?_)
            rw [List.append_nil]
            exact .tup e hs
        | _ => exact hw.elim
      | _ => exact hw.elim
theorem op_subW : OpR X (binaryOp .Sub) (rW2 X.K (wBin .sub)) := by
  rintro p s σ H x y v u Q I rx ry ⟨W, dx, dy, R, rfl, k, hx, hy, hw, hq⟩
  cases hx with
  | d hx =>
    cases hy with
    | d hy =>
      cases hx with
      | int i =>
        cases hy with
        | int j => exact op_sub p s σ _ _ _ v u Q I rx ry ⟨i, j, rfl, rfl, hq _ _ W hw k (Le.refl W) (.d (.int _))⟩
        | _ => exact hw.elim
      | _ => exact hw.elim
    | _ => cases hx <;> exact hw.elim
  | _ => exact hw.elim
theorem op_mulWW : OpR X (binaryOp .Mult) (rW2 X.K (wBin .mul)) := by
  rintro p s σ H x y v u Q I rx ry ⟨W, dx, dy, R, rfl, k, hx, hy, hw, hq⟩
  cases hx with
  | d hx =>
    cases hy with
    | d hy =>
      cases hx with
      | int i =>
        cases hy with
        | int j =>
          rcases hw.1 with h | h
          · exact op_mul p s σ _ _ _ v u Q I rx ry ⟨i, j, rfl, rfl, h, hq _ _ W hw.2 k (Le.refl W) (.d (.int _))⟩
          · exact op_mulW p s σ _ _ _ v u Q I rx ry ⟨i, j, rfl, rfl, h, hq _ _ W hw.2 k (Le.refl W) (.d (.int _))⟩
        | _ => exact hw.elim
      | lst e a o hs =>
        cases hy with
        | int j =>
          obtain ⟨h1, h2, h3, hw⟩ := hw
          refine op_rep p s σ _ _ _ v u Q I rx ry ⟨_, j, _, rfl, rfl, e, by omega, by omega, ?_, fun q n => hq _ _ _ hw (lay k n).2 (lay k n).1 (.d (lay_lst k n ?_))⟩
          · rw [hs.length]
            exact Nat.le_trans (Nat.mul_le_mul h3 (show j.toNat ≤ 1000 by omega)) (by decide)
          · clear hw hq h1 h2
            induction j.toNat with
            | zero => exact .nil
            | succ m ih =>
              rw [List.replicate_succ, List.replicate_succ, List.flatten_cons, List.flatten_cons]
              exact hs.append ih
        | _ => exact hw.elim
      | _ => exact hw.elim
    | _ => cases hx <;> exact hw.elim
  | _ => exact hw.elim
theorem op_divW : OpR X (binaryOp .FloorDiv) (rW2 X.K (wBin .div)) := by
  rintro p s σ H x y v u Q I rx ry ⟨W, dx, dy, R, rfl, k, hx, hy, hw, hq⟩
  cases hx with
  | d hx =>
    cases hy with
    | d hy =>
      cases hx with
      | int i =>
        cases hy with
        | int j => exact op_fdivW p s σ _ _ _ v u Q I rx ry ⟨i, j, rfl, rfl, hw.1, hq _ _ W hw.2 k (Le.refl W) (.d (.int _))⟩
        | _ => exact hw.elim
      | _ => exact hw.elim
    | _ => cases hx <;> exact hw.elim
  | _ => exact hw.elim
theorem op_modW : OpR X (binaryOp .Mod) (rW2 X.K (wBin .mod)) := by
  rintro p s σ H x y v u Q I rx ry ⟨W, dx, dy, R, rfl, k, hx, hy, hw, hq⟩
  cases hx with
  | d hx =>
    cases hy with
    | d hy =>
      cases hx with
      | int i =>
        cases hy with
        | int j => exact op_mod p s σ _ _ _ v u Q I rx ry ⟨i, j, rfl, rfl, hw.1, hq _ _ W hw.2 k (Le.refl W) (.d (.int _))⟩
        | _ => exact hw.elim
      | _ => exact hw.elim
    | _ => cases hx <;> exact hw.elim
  | _ => exact hw.elim
theorem op_powW : OpR X (binaryOp .Pow) (rW2 X.K (wBin .pow)) := by
  rintro p s σ H x y v u Q I rx ry ⟨W, dx, dy, R, rfl, k, hx, hy, hw, hq⟩
  cases hx with
  | d hx =>
    cases hy with
    | d hy =>
      cases hx with
      | int i =>
        cases hy with
        | int j => exact op_pow p s σ _ _ _ v u Q I rx ry ⟨i, j, rfl, rfl, hw.1, hq _ _ W hw.2 k (Le.refl W) (.d (.int _))⟩
        | _ => exact hw.elim
      | _ => exact hw.elim
    | _ => cases hx <;> exact hw.elim
  | _ => exact hw.elim
/-- comparisons of ints -/
theorem cmp_int {op : CmpOp} {c : COp} {f : Int → Int → Bool} (ho : OpR X (compareOp op) (rI0 fun i j => .bl (f i j))) (hc : ∀ x y Q, wCmp c x y Q → ∃ i j, x = .d (.int i) ∧ y = .d (.int j) ∧ Q (.d (.bool (f i j)))) :
    OpR X (compareOp op) (rW2 X.K (wCmp c)) := by
  rintro p s σ H x y v u Q I rx ry ⟨W, dx, dy, R, rfl, k, hx, hy, hw, hq⟩
  obtain ⟨i, j, rfl, rfl, hr⟩ := hc _ _ _ hw
  cases hx with
  | d hx =>
    cases hy with
    | d hy =>
      cases hx
      cases hy
      exact ho p s σ _ _ _ v u Q I rx ry ⟨i, j, rfl, rfl, hq _ _ W hr k (Le.refl W) (.d (.bl _))⟩
theorem op_ltW : OpR X (compareOp .Lt) (rW2 X.K (wCmp .lt)) := cmp_int op_lt fun x y Q h => by
  unfold wCmp at h
  split at h <;> first | exact ⟨_, _, rfl, rfl, h⟩ | (exfalso; assumption) | (rename_i e; cases e) | exact h.elim
theorem op_leW : OpR X (compareOp .LtE) (rW2 X.K (wCmp .le)) := cmp_int op_le fun x y Q h => by
  unfold wCmp at h
  split at h <;> first | exact ⟨_, _, rfl, rfl, h⟩ | (exfalso; assumption) | (rename_i e; cases e) | exact h.elim
theorem op_gtW : OpR X (compareOp .Gt) (rW2 X.K (wCmp .gt)) := cmp_int op_gt fun x y Q h => by
  unfold wCmp at h
  split at h <;> first | exact ⟨_, _, rfl, rfl, h⟩ | (exfalso; assumption) | (rename_i e; cases e) | exact h.elim
theorem op_geW : OpR X (compareOp .GtE) (rW2 X.K (wCmp .ge)) := cmp_int op_ge fun x y Q h => by
  unfold wCmp at h
  split at h <;> first | exact ⟨_, _, rfl, rfl, h⟩ | (exfalso; assumption) | (rename_i e; cases e) | exact h.elim
theorem op_isW : OpR X (compareOp .Is) (rW2 X.K (wCmp .iss)) := by
  rintro p s σ H x y v u Q I rx ry ⟨W, dx, dy, R, rfl, k, hx, hy, hw, hq⟩
  cases hx with
  | d hx =>
    cases hy with
    | d hy =>
      cases hx with
      | bl a =>
        cases hy with
        | bl b => exact op_isBl p s σ _ _ _ v u Q I rx ry ⟨a, b, rfl, rfl, hq _ _ W hw k (Le.refl W) (.d (.bl _))⟩
        | _ => exact hw.elim
      | _ => exact hw.elim
    | _ => cases hx <;> exact hw.elim
  | _ => exact hw.elim
theorem op_isntW : OpR X (compareOp .IsNot) (rW2 X.K (wCmp .isnt)) := by
  rintro p s σ H x y v u Q I rx ry ⟨W, dx, dy, R, rfl, k, hx, hy, hw, hq⟩
  cases hx with
  | d hx =>
    cases hy with
    | d hy =>
      cases hx with
      | bl a =>
        cases hy with
        | bl b => exact op_notBl p s σ _ _ _ v u Q I rx ry ⟨a, b, rfl, rfl, hq _ _ W hw k (Le.refl W) (.d (.bl _))⟩
        | _ => exact hw.elim
      | _ => exact hw.elim
    | _ => cases hx <;> exact hw.elim
  | _ => exact hw.elim
mutual
theorem R.dp {W : Wd} : ∀ {v : V} {d : PyData}, R K W v d → d.hasDict = false → Dp K W.H v d
  | _, _, .non, _ => .non
  | _, _, .bl b, _ => .bl b
  | _, _, .int i, _ => .int i
  | _, _, .str x, _ => .str x
  | _, _, .lst e _ _ h, q => .lst (SqL.of e) (Rs.dp h (by simpa only [PyData.hasDict] using q))
  | _, _, .tup e h, q => .tup e (Rs.dp h (by simpa only [PyData.hasDict] using q))
  | _, _, .dic _, q => by simp [PyData.hasDict] at q
theorem Rs.dp {W : Wd} : ∀ {vs : List V} {ds : List PyData}, Rs K W vs ds → PyData.hasDictAll ds = false → DpAll K W.H vs ds
  | _, _, .nil, _ => .nil
  | _, _, .cons h t, q => by
    simp only [PyData.hasDictAll, Bool.or_eq_false_iff] at q
    exact .cons (R.dp h q.1) (Rs.dp t q.2)
end
theorem nodict {d : PyData} (h : SeqAt.shaped d = true) : d.hasDict = false := PyData.hasDict_of_canLay d (SeqAt.canLay_of_shaped h)
theorem decI {i j : Int} : decide (V.int i = V.int j) = decide (i = j) := by rw [dec_int, Bool.beq_eq_decide_eq]
theorem decS {i j : Str} : decide (V.str i = V.str j) = decide (i = j) := by rw [dec_str, Bool.beq_eq_decide_eq]
theorem op_eqW (hu : X.A.units + 64 < cLine) : OpR X (compareOp .Eq) (rW2 X.K (wCmp .eq)) := by
  rintro p s σ H x y v u Q I rx ry ⟨W, dx, dy, R, rfl, k, hx, hy, hw, hq⟩
  unfold wCmp at hw
  split at hw <;> first
    | exact hw.elim
    | (rename_i hh _ _; cases hh; done)
    | skip
  all_goals (try (rename_i hh; cases hh; done))
  · cases hx with
    | d hx => cases hy with
      | d hy =>
        cases hx
        cases hy
        refine op_eq p s σ _ _ _ v u Q I rx ry ⟨rfl, ?_⟩
        rw [decI]
        exact hq _ _ W hw k (Le.refl W) (.d (.bl _))
  · cases hx with
    | d hx => cases hy with
      | d hy =>
        cases hx
        cases hy
        refine op_eq p s σ _ _ _ v u Q I rx ry ⟨rfl, ?_⟩
        rw [decS]
        exact hq _ _ W hw k (Le.refl W) (.d (.bl _))
  · cases hx with
    | d hx => cases hy with
      | d hy => exact op_eqD hu p s σ _ _ _ v u Q I rx ry ⟨_, _, hx.dp (nodict hw.1), hy.dp (nodict hw.2.1), hw.1, hw.2.1, hq _ _ W hw.2.2 k (Le.refl W) (.d (.bl _))⟩
theorem op_neW (hu : X.A.units + 64 < cLine) : OpR X (compareOp .NotEq) (rW2 X.K (wCmp .ne)) := by
  rintro p s σ H x y v u Q I rx ry ⟨W, dx, dy, R, rfl, k, hx, hy, hw, hq⟩
  unfold wCmp at hw
  split at hw <;> first
    | exact hw.elim
    | (rename_i hh _ _; cases hh; done)
    | skip
  all_goals (try (rename_i hh; cases hh; done))
  · cases hx with
    | d hx => cases hy with
      | d hy =>
        cases hx
        cases hy
        refine op_ne p s σ _ _ _ v u Q I rx ry ⟨rfl, ?_⟩
        rw [decI]
        exact hq _ _ W hw k (Le.refl W) (.d (.bl _))
  · cases hx with
    | d hx => cases hy with
      | d hy =>
        cases hx
        cases hy
        refine op_ne p s σ _ _ _ v u Q I rx ry ⟨rfl, ?_⟩
        rw [decS]
        exact hq _ _ W hw k (Le.refl W) (.d (.bl _))
  · cases hx with
    | d hx => cases hy with
      | d hy => exact op_neD hu p s σ _ _ _ v u Q I rx ry ⟨_, _, hx.dp (nodict hw.1), hy.dp (nodict hw.2.1), hw.1, hw.2.1, hq _ _ W hw.2.2 k (Le.refl W) (.d (.bl _))⟩
theorem flat_v {W : Wd} {v : V} {d : PyData} (h : R K W v d) (f : flatD d = true) : flatV v = true := by
  cases h <;> first | rfl | cases f
theorem flat_eq {W : Wd} {v u : V} {d e : PyData} (h : R K W v d) (g : R K W u e) (f : flatD d = true) (f' : flatD e = true) : eqV v u = PyData.eqv d e := by
  cases h <;> cases g <;> first | (simp [eqV, PyData.eqv]; done) | cases f | cases f'
theorem flat_all {W : Wd} : ∀ {vs : List V} {ds : List PyData}, Rs K W vs ds → ds.all flatD = true → vs.all flatV = true
  | _, _, .nil, _ => rfl
  | _, _, .cons h t, q => by
    rw [List.all_cons, Bool.and_eq_true] at q
    rw [List.all_cons, Bool.and_eq_true]
    exact ⟨flat_v h q.1, flat_all t q.2⟩
theorem flat_any {W : Wd} {u : V} {e : PyData} (g : R K W u e) (f' : flatD e = true) : ∀ {vs : List V} {ds : List PyData}, Rs K W vs ds → ds.all flatD = true → inV u vs = ds.any fun z => PyData.eqv z e
  | _, _, .nil, _ => rfl
  | _, _, .cons h t, q => by
    rw [List.all_cons, Bool.and_eq_true] at q
    have := flat_any g f' t q.2
    unfold inV at this ⊢
    rw [List.any_cons, List.any_cons, this, flat_eq h g q.1 f']
theorem seq_of {W : Wd} {v : V} {d : DV} {ds : List PyData} (h : RD K W v d) (e : seqOf d = some ds) : ∃ a vs, v = .ref a ∧ (SqL K W.H a vs ∨ SqT K W.H a vs) ∧ Rs K W vs ds := by
  cases h with
  | d h =>
    cases h with
    | lst e1 _ _ hs =>
      cases e
      exact ⟨_, _, rfl, .inl (SqL.of e1), hs⟩
    | tup e1 hs =>
      cases e
      exact ⟨_, _, rfl, .inr e1, hs⟩
    | _ => cases e
  | _ => cases e
theorem op_inW : OpR X (compareOp .In) (rW2 X.K (wCmp .inn)) := by
  rintro p s σ H x y v u Q I rx ry ⟨W, dx, dy, R, rfl, k, hx, hy, hw, hq⟩
  cases hx with
  | d hx =>
    obtain ⟨ys, e, f1, f2, hr⟩ := (show ∃ ys, seqOf dy = some ys ∧ _ from hw)
    obtain ⟨a, vs, rfl, hs, hr'⟩ := seq_of hy e
    refine op_in_seq p s σ _ _ _ v u Q I rx ry ⟨a, vs, rfl, hs, flat_v hx f1, flat_all hr' f2, ?_⟩
    refine hq _ _ W hr k (Le.refl W) ?_
    rw [← flat_any hx f1 hr' f2]
    exact .d (.bl _)
  | _ => exact hw.elim
theorem op_niW : OpR X (compareOp .NotIn) (rW2 X.K (wCmp .notin)) := by
  rintro p s σ H x y v u Q I rx ry ⟨W, dx, dy, R, rfl, k, hx, hy, hw, hq⟩
  cases hx with
  | d hx =>
    obtain ⟨ys, e, f1, f2, hr⟩ := (show ∃ ys, seqOf dy = some ys ∧ _ from hw)
    obtain ⟨a, vs, rfl, hs, hr'⟩ := seq_of hy e
    refine op_notIn_seq p s σ _ _ _ v u Q I rx ry ⟨a, vs, rfl, hs, flat_v hx f1, flat_all hr' f2, ?_⟩
    refine hq _ _ W hr k (Le.refl W) ?_
    rw [← flat_any hx f1 hr' f2]
    exact .d (.bl _)
  | _ => exact hw.elim
/-! ### places and cuts -/
theorem atI_len {α β : Type} {xs : List α} {ys : List β} (h : xs.length = ys.length) {i : Int} {y : β} (e : atI ys i = some y) : ∃ j : Nat, ys[j]? = some y ∧ ∀ x : α, xs[j]? = some x → atI xs i = some x := by
  unfold atI at e ⊢
  rw [h]
  cases q : ixN ys.length i with
  | none => rw [q] at e; cases e
  | some j =>
    rw [q] at e
    exact ⟨j, e, fun x hx => hx⟩
theorem atI_R {W : Wd} {vs : List V} {ds : List PyData} (h : Rs K W vs ds) {i : Int} {d : PyData} (e : atI ds i = some d) : ∃ v, atI vs i = some v ∧ R K W v d := by
  obtain ⟨j, h1, h2⟩ := atI_len h.length e
  obtain ⟨v, h3, h4⟩ := h.get h1
  exact ⟨v, h2 v h3, h4⟩
theorem scr_sq {W : Wd} {a : Addr} {ns : List Int} (h : RD K W (.ref a) (.scr ns)) : SqL K W.H a (ns.map V.int) := by
  cases h with
  | scr h =>
    rcases h with ⟨o, h⟩ | h
    · exact .inl (.inr ⟨o, h⟩)
    · exact .inr h
theorem ixW : IxR X (rW2 X.K wIdx) := by
  rintro ve se p s σ H x y v u Q I rx ry ⟨W, dx, dy, R, rfl, k, hx, hy, hw, hq⟩ hsub
  cases hy with
  | d hy =>
    cases hy with
    | int i =>
      cases hx with
      | scr h =>
        obtain ⟨n, e, hr⟩ := (show ∃ n, atI _ i = some n ∧ _ from hw)
        obtain ⟨j, h1, h2⟩ := atI_len (List.length_map V.int) e
        refine ix_list ve se p s σ _ _ _ v u Q I rx ry ⟨_, _, i, .int n, rfl, rfl, scr_sq (.scr h), h2 _ (by rw [List.getElem?_map, h1]; rfl), hq _ _ W hr k (Le.refl W) (.d (.int _))⟩ hsub
      | vat h =>
        obtain ⟨h0, h3, hz⟩ := (show 0 ≤ i ∧ i < 3 ∧ _ from hw)
        obtain ⟨_, c, hh, n, e, b1, b2, b3, b4⟩ := k.va _ h
        have go : ∀ z : Int, VatZ i.toNat z → atI [V.int c, V.int hh, V.int n] i = some (.int z) → wpAny (model X.prog X.w) X.A (subscriptTail ve se v u) (EP X p σ Q) X.xe s := fun z q1 q2 =>
          ix_list ve se p s σ _ _ _ v u Q I rx ry ⟨_, _, i, _, rfl, rfl, SqL.of e, q2, hq _ _ W (hz z q1) k (Le.refl W) (.d (.int _))⟩ hsub
        have hi : i = 0 ∨ i = 1 ∨ i = 2 := by omega
        rcases hi with rfl | rfl | rfl
        · exact go c ⟨b1, fun z => by cases z⟩ rfl
        · exact go hh ⟨b2, fun _ => b3⟩ rfl
        · exact go n ⟨b4, fun z => by cases z⟩ rfl
      | d hx =>
        cases hx with
        | lst e a o hs =>
          obtain ⟨z, e1, hr⟩ := (show ∃ z, atI _ i = some z ∧ _ from hw)
          obtain ⟨z', e2, r⟩ := atI_R hs e1
          exact ix_list ve se p s σ _ _ _ v u Q I rx ry ⟨_, _, i, _, rfl, rfl, SqL.of e, e2, hq _ _ W hr k (Le.refl W) (.d r)⟩ hsub
        | tup e hs =>
          obtain ⟨z, e1, hr⟩ := (show ∃ z, atI _ i = some z ∧ _ from hw)
          obtain ⟨z', e2, r⟩ := atI_R hs e1
          exact ix_tup ve se p s σ _ _ _ v u Q I rx ry ⟨_, _, i, _, rfl, rfl, e, e2, hq _ _ W hr k (Le.refl W) (.d r)⟩ hsub
        | _ => exact hw.elim
    | _ => cases hx <;> first | exact hw.elim | (rename_i hx; cases hx <;> exact hw.elim)
  | _ => cases hx <;> first | exact hw.elim | (rename_i hx; cases hx <;> exact hw.elim)
theorem cut_R {W : Wd} {vs : List V} {ds : List PyData} (h : Rs K W vs ds) (lo hi : Option Int) : Rs K W (cutV vs lo hi) (cutD ds lo hi) := by
  unfold cutV cutD
  rw [h.length]
  exact (h.drop _).take _
theorem ints_R {W : Wd} : ∀ ns : List Int, Rs K W (ns.map V.int) (ns.map PyData.int)
  | [] => .nil
  | n :: r => .cons (.int n) (ints_R r)
theorem cut_map {α β : Type} (f : α → β) (xs : List α) (lo hi : Option Int) : cutD (xs.map f) lo hi = (cutD xs lo hi).map f := by
  unfold cutD
  rw [List.length_map, List.map_take, List.map_drop]
def rWsl (K : Fg) : V → Option Int → Option Int → Hp → VK → Prop := fun x lo hi H Q => ∃ W dx R, W.H = H ∧ W.Ok ∧ RD K W x dx ∧ wSlc dx lo hi R ∧ ∀ r v U, R r → U.Ok → Le W U → RD K U v r → Q v U.H
theorem slW : SlR X (rWsl X.K) := by
  have key : ∀ x lo hi H Q, rWsl X.K x lo hi H Q → rSlL X.K x lo hi H Q ∨ rSlT X.K x lo hi H Q := by
    rintro x lo hi H Q ⟨W, dx, R, rfl, k, hx, hw, hq⟩
    cases hx with
    | scr h =>
      refine .inl ⟨_, _, rfl, scr_sq (.scr h), fun q n => hq _ _ _ hw (lay k n).2 (lay k n).1 (.d (lay_lst k n ?_))⟩
      rw [show cutV _ lo hi = (cutD _ lo hi).map V.int from cut_map V.int _ lo hi]
      exact ints_R _
    | vat h => exact hw.elim
    | d hx =>
      cases hx with
      | lst e a o hs => exact .inl ⟨_, _, rfl, SqL.of e, fun q n => hq _ _ _ hw (lay k n).2 (lay k n).1 (.d (lay_lst k n (cut_R hs lo hi)))⟩
      | tup e hs =>
        refine .inr ⟨_, _, rfl, e, fun z => ?_, fun q n => hq _ _ _ hw.2 (lay k n).2 (lay k n).1 (.d (lay_tup k n (cut_R hs lo hi)))⟩
        have h1 := hw.1
        unfold cutD at h1
        rw [← hs.length, z.1, z.2] at h1
        simp [hs.length] at h1
      | _ => exact hw.elim
  have h := (sl_list (X := X)).or (sl_tup (X := X))
  intro p s σ H x v vl vu lo hi sl Q I rx hs h1 h2 q
  exact h p s σ H x v vl vu lo hi sl Q I rx hs h1 h2 (key _ _ _ _ _ q)
end
end Pf

namespace Pf
open PySem PySem.Spec PyProof.Rows L2
/-! ### built-ins -/
theorem gcd3_args (a b c : Value) : argsOk "math.gcd" ⟨[a, b, c], []⟩ := by unfold argsOk; kernel_rfl
theorem gcd3_run (a : Int) (t : Tok) (b : Int) (u : Tok) (c : Int) (v : Tok) :
    Gives (Builtin.«math.gcd» ⟨[.int a t, .int b u, .int c v], []⟩) (.int (((((Nat.gcd 0 a.natAbs).gcd b.natAbs).gcd c.natAbs : Nat) : Int))) :=
  .of_wp fun M A E s Q h => by obtain ⟨hp, g, d, tk, os⟩ := s; wp_walk; exact ⟨_, rfl, h⟩
section
variable {X : Cx}
theorem cr_gcd3 : CallR X (.builtin "math.gcd") (fun vs H Q => ∃ a b c : Int, vs = [.int a, .int b, .int c] ∧ Q (.int (((a.natAbs.gcd b.natAbs).gcd c.natAbs : Nat) : Int)) H) := by
  intro pins s σ H vs us Q I r h
  obtain ⟨a, b, c, rfl, q⟩ := h
  cases r with
  | cons r1 r =>
    cases r with
    | cons r2 r =>
      cases r with
      | cons r3 r =>
        cases r
        obtain ⟨t1, rfl⟩ := r1
        obtain ⟨t2, rfl⟩ := r2
        obtain ⟨t3, rfl⟩ := r3
        have g := gcd3_run a t1 b t2 c t3
        rw [Nat.gcd_zero_left] at g
        exact PySem.call_function_meets PySem.W.MGF.kind_gcd PySem.W.MGF.plain_gcd PySem.W.MGF.entry_gcd (gcd3_args _ _ _) g.meets ⟨.int _, H, I.tok _, ⟨_, rfl⟩, q⟩
theorem cr_isqrt : CallR X (.builtin "math.isqrt") (fun vs H Q => ∃ a : Int, vs = [.int a] ∧ 0 ≤ a ∧ a < 2 ^ 13000 ∧ Q (.int ((Float64.isqrt a.toNat : Nat) : Int)) H) := by
  intro pins s σ H vs us Q I r h
  obtain ⟨a, rfl, h0, h1, q⟩ := h
  obtain ⟨u, rfl, t, rfl⟩ := vals1 r
  have h2 : a.toNat < 2 ^ (12999 + 1) := by
    have : ((a.toNat : Nat) : Int) < ((2 ^ (12999 + 1) : Nat) : Int) := by rw [Int.toNat_of_nonneg h0, Int.natCast_pow]; exact h1
    exact Int.ofNat_lt.mp this
  have hl := PySem.W.mg_log h2
  exact PySem.call_function_meets PySem.W.MGF.kind_isqrt PySem.W.MGF.plain_isqrt PySem.W.MGF.entry_isqrt (PySem.W.MGF.args_isqrt _) (PySem.W.mg_run_isqrt a t (by omega) (by omega) (by omega)).meets ⟨.int _, H, I.tok _, ⟨_, rfl⟩, q⟩
def biV : Bi → Value
  | .len => .builtin "len"
  | .abs => .builtin "abs"
  | .int => .type "int"
  | .sum => .builtin "sum"
  | .all => .builtin "all"
  | .any => .builtin "any"
  | .max2 => .builtin "max"
  | .min2 => .builtin "min"
  | .divmod => .builtin "divmod"
  | .tuple => .type "tuple"
  | .list => .type "list"
  | .repr => .builtin "repr"
  | .gcd2 => .builtin "math.gcd"
  | .gcd3 => .builtin "math.gcd"
  | .isqrt => .builtin "math.isqrt"
theorem R.int_of {K : Fg} {W : Wd} {v : V} {i : Int} (h : R K W v (.int i)) : v = .int i := by cases h; rfl
theorem R.bool_of {K : Fg} {W : Wd} {v : V} {i : Bool} (h : R K W v (.bool i)) : v = .bl i := by cases h; rfl
theorem RD.int_of {K : Fg} {W : Wd} {v : V} {i : Int} (h : RD K W v (.d (.int i))) : v = .int i := by
  cases h with
  | d h => exact h.int_of
theorem ints_of {K : Fg} {W : Wd} : ∀ {vs : List V} {ds : List PyData} {ns : List Int}, Rs K W vs ds → intsD ds = some ns → vs = ns.map V.int
  | _, _, _, .nil, e => by
    have : [] = _ := Option.some.inj e
    subst this
    rfl
  | _, _, _, .cons (ds := r) (.int i) t, e => by
    obtain ⟨ys, e1, e2⟩ := Option.map_eq_some_iff.mp e
    subst e2
    rw [ints_of t e1]
    rfl
  | _, _, _, .cons .non _, e => by cases e
  | _, _, _, .cons (.bl _) _, e => by cases e
  | _, _, _, .cons (.str _) _, e => by cases e
  | _, _, _, .cons (.lst _ _ _ _) _, e => by cases e
  | _, _, _, .cons (.tup _ _) _, e => by cases e
  | _, _, _, .cons (.dic _) _, e => by cases e
theorem bools_of {K : Fg} {W : Wd} : ∀ {vs : List V} {ds : List PyData} {ns : List Bool}, Rs K W vs ds → boolsD ds = some ns → vs = ns.map V.bl
  | _, _, _, .nil, e => by
    have : [] = _ := Option.some.inj e
    subst this
    rfl
  | _, _, _, .cons (ds := r) (.bl i) t, e => by
    obtain ⟨ys, e1, e2⟩ := Option.map_eq_some_iff.mp e
    subst e2
    rw [bools_of t e1]
    rfl
  | _, _, _, .cons .non _, e => by cases e
  | _, _, _, .cons (.int _) _, e => by cases e
  | _, _, _, .cons (.str _) _, e => by cases e
  | _, _, _, .cons (.lst _ _ _ _) _, e => by cases e
  | _, _, _, .cons (.tup _ _) _, e => by cases e
  | _, _, _, .cons (.dic _) _, e => by cases e
theorem len_of {K : Fg} {W : Wd} {v : V} {d : DV} {n : Nat} (h : RD K W v d) (e : lenD d = some n) : LenV K v W.H n := by
  cases h with
  | scr h =>
    cases e
    exact .inl ⟨_, scr_sq (.scr h), by rw [List.length_map]⟩
  | vat h => cases e
  | d h =>
    cases h with
    | lst e1 _ _ hs =>
      cases e
      exact .inl ⟨_, SqL.of e1, hs.length.symm⟩
    | tup e1 hs =>
      cases e
      exact .inr ⟨_, e1, hs.length.symm⟩
    | _ => cases e
/-- one argument, two -/
theorem rds1 {K : Fg} {W : Wd} {vs : List V} {a : DV} (h : RDs K W vs [a]) : ∃ v, vs = [v] ∧ RD K W v a := by
  cases h with
  | cons h t => cases t; exact ⟨_, rfl, h⟩
theorem rds2 {K : Fg} {W : Wd} {vs : List V} {a b : DV} (h : RDs K W vs [a, b]) : ∃ v u, vs = [v, u] ∧ RD K W v a ∧ RD K W u b := by
  cases h with
  | cons h t =>
    obtain ⟨u, rfl, h2⟩ := rds1 t
    exact ⟨_, _, rfl, h, h2⟩
theorem rds3 {K : Fg} {W : Wd} {vs : List V} {a b c : DV} (h : RDs K W vs [a, b, c]) : ∃ v u z, vs = [v, u, z] ∧ RD K W v a ∧ RD K W u b ∧ RD K W z c := by
  cases h with
  | cons h t =>
    obtain ⟨u, z, rfl, h2⟩ := rds2 t
    exact ⟨_, _, _, rfl, h, h2⟩
theorem repr_seq (hg : X.A.guards = some []) (hu : X.A.units + 64 < cLine) {pins : List (Addr × Obj)} {s : Shared} {σ : L2.St} {W : Wd} {v : V} {us : List Value} {d : PyData} {Q : VK} (I : Inv X pins σ W.H s) (rv : Vals [v] us) (a : Addr) (ha : v = .ref a) (h : R X.K W v d)
    (h1 : d.showable = true) (h2 : d.hasDict = false) (h3 : d.depth ≤ 40) (h4 : d.shown.length ≤ sizeLine) (hq : Q (.str d.shown) W.H) : wpAny (model X.prog X.w) X.A (call (.builtin "repr") us) (EP X pins σ Q) X.xe s := by
  subst ha
  obtain ⟨u, rfl, ru⟩ := vals1 rv
  have eu : u = Value.ref a := ru
  subst eu
  obtain ⟨as, hr⟩ := Dp.reads I d (.ref a) _ (h.dp h2) rfl
  exact repr_of_reads' hr h1 (PyData.noDict_hsm h2) hg (by omega) (fun _ _ e => e) (fun h' u tk hk => ⟨.str _, _, I.kept hk, ⟨_, rfl⟩, hq⟩) h4
theorem repr_bool {pins : List (Addr × Obj)} {s : Shared} {σ : L2.St} {W : Wd} {b : Bool} {us : List Value} {Q : VK} (I : Inv X pins σ W.H s) (rv : Vals [V.bl b] us)
    (hq : Q (.str (PyData.bool b).shown) W.H) : wpAny (model X.prog X.w) X.A (call (.builtin "repr") us) (EP X pins σ Q) X.xe s := by
  obtain ⟨u, rfl, ru⟩ := vals1 rv
  have eu : u = Value.bool b := ru
  subst eu
  cases b
  · exact PySem.P.repr_of_bool ⟨.str _, _, I.tok _, ⟨_, rfl⟩, (by simp only [PyData.shown] at hq; exact hq)⟩
  · exact PySem.P.repr_of_bool ⟨.str _, _, I.tok _, ⟨_, rfl⟩, (by simp only [PyData.shown] at hq; exact hq)⟩
theorem biW (hc : X.calm = true) (hg : X.A.guards = some []) (hu : X.A.units + 64 < cLine) : ∀ b : Bi, CallR X (biV b) (rWs X.K (wBi b)) := by
  intro b p s σ H vs us Q I rv ⟨W, ds, R, e, k, hd, hw, hq⟩
  subst e
  unfold wBi at hw
  split at hw
  · obtain ⟨v, rfl, h⟩ := rds1 hd
    obtain ⟨n, e, hr⟩ := hw
    exact call_len p s σ _ _ us Q I rv ⟨v, n, rfl, len_of h e, hq _ _ W hr k (Le.refl W) (.d (.int _))⟩
  · obtain ⟨v, rfl, h⟩ := rds1 hd
    have := h.int_of
    subst this
    exact call_abs p s σ _ _ us Q I rv ⟨_, rfl, hq _ _ W hw k (Le.refl W) (.d (.int _))⟩
  · obtain ⟨v, rfl, h⟩ := rds1 hd
    have := h.int_of
    subst this
    exact call_int1 p s σ _ _ us Q I rv (.inl ⟨_, rfl, hq _ _ W hw k (Le.refl W) (.d (.int _))⟩)
  · obtain ⟨v, rfl, h⟩ := rds1 hd
    obtain ⟨ns, e, hr⟩ := hw
    cases h with
    | d h =>
      cases h with
      | lst e1 a o hs =>
        rw [ints_of hs e] at e1
        exact cr_sum hc p s σ _ _ us Q I rv ⟨_, ns, rfl, SqL.of e1, hq _ _ W hr k (Le.refl W) (.d (.int _))⟩
  · obtain ⟨v, rfl, h⟩ := rds1 hd
    obtain ⟨ns, e, hr⟩ := hw
    cases h with
    | d h =>
      cases h with
      | lst e1 a o hs =>
        rw [bools_of hs e] at e1
        exact cr_all hc p s σ _ _ us Q I rv ⟨_, ns, rfl, SqL.of e1, hq _ _ W hr k (Le.refl W) (.d (.bl _))⟩
  · obtain ⟨v, rfl, h⟩ := rds1 hd
    obtain ⟨ns, e, hr⟩ := hw
    cases h with
    | d h =>
      cases h with
      | lst e1 a o hs =>
        rw [bools_of hs e] at e1
        exact cr_any hc p s σ _ _ us Q I rv ⟨_, ns, rfl, SqL.of e1, hq _ _ W hr k (Le.refl W) (.d (.bl _))⟩
  · obtain ⟨v, u, rfl, h, h'⟩ := rds2 hd
    have e1 := h.int_of
    have e2 := h'.int_of
    subst e1 e2
    exact call_max2 hc p s σ _ _ us Q I rv ⟨_, _, rfl, hq _ _ W hw k (Le.refl W) (.d (.int _))⟩
  · obtain ⟨v, u, rfl, h, h'⟩ := rds2 hd
    have e1 := h.int_of
    have e2 := h'.int_of
    subst e1 e2
    exact call_min2 hc p s σ _ _ us Q I rv ⟨_, _, rfl, hq _ _ W hw k (Le.refl W) (.d (.int _))⟩
  · obtain ⟨v, u, rfl, h, h'⟩ := rds2 hd
    have e1 := h.int_of
    have e2 := h'.int_of
    subst e1 e2
    exact call_divmod p s σ _ _ us Q I rv ⟨_, _, rfl, hw.1, fun q n => hq _ _ _ hw.2 (lay k n).2 (lay k n).1 (.d (lay_tup k n (.cons (.int _) (.cons (.int _) .nil))))⟩
  · obtain ⟨v, rfl, h⟩ := rds1 hd
    cases h with
    | d h =>
      cases h with
      | lst e1 a o hs => exact call_tuple_of p s σ _ _ us Q I rv ⟨_, _, rfl, .inl ⟨SqL.of e1, fun q n => hq _ _ _ hw (lay k n).2 (lay k n).1 (.d (lay_tup k n hs))⟩⟩
  · obtain ⟨v, rfl, h⟩ := rds1 hd
    cases h with
    | d h =>
      cases h with
      | tup e1 hs => exact call_tuple_of p s σ _ _ us Q I rv ⟨_, _, rfl, .inr ⟨e1, hq _ _ W hw k (Le.refl W) (.d (.tup e1 hs))⟩⟩
  · obtain ⟨v, rfl, h⟩ := rds1 hd
    cases h with
    | d h =>
      cases h with
      | lst e1 a o hs => exact call_list_of p s σ _ _ us Q I rv ⟨_, _, rfl, .inl (SqL.of e1), fun q n => hq _ _ _ hw (lay k n).2 (lay k n).1 (.d (lay_lst k n hs))⟩
  · obtain ⟨v, rfl, h⟩ := rds1 hd
    cases h with
    | d h =>
      cases h with
      | tup e1 hs => exact call_list_of p s σ _ _ us Q I rv ⟨_, _, rfl, .inr e1, fun q n => hq _ _ _ hw (lay k n).2 (lay k n).1 (.d (lay_lst k n hs))⟩
  · obtain ⟨v, rfl, h⟩ := rds1 hd
    obtain ⟨h1, h2, h3, h4, hr⟩ := hw
    have hh := hq _ (.str _) W hr k (Le.refl W) (.d (.str _))
    cases h with
    | d h =>
      cases h with
      | lst e1 a o hs => exact repr_seq hg hu I rv _ rfl (.lst e1 a o hs) h1 h2 h3 h4 hh
  · obtain ⟨v, rfl, h⟩ := rds1 hd
    obtain ⟨h1, h2, h3, h4, hr⟩ := hw
    have hh := hq _ (.str _) W hr k (Le.refl W) (.d (.str _))
    cases h with
    | d h =>
      cases h with
      | tup e1 hs => exact repr_seq hg hu I rv _ rfl (.tup e1 hs) h1 h2 h3 h4 hh
  · obtain ⟨v, rfl, h⟩ := rds1 hd
    cases h with
    | d h =>
      have := h.bool_of
      subst this
      exact repr_bool I rv (hq _ (.str _) W hw k (Le.refl W) (.d (.str _)))
  · obtain ⟨v, u, rfl, h, h'⟩ := rds2 hd
    have e1 := h.int_of
    have e2 := h'.int_of
    subst e1 e2
    exact cr_gcd p s σ _ _ us Q I rv ⟨_, _, rfl, hq _ _ W hw k (Le.refl W) (.d (.int _))⟩
  · obtain ⟨v, u, z, rfl, h, h', h''⟩ := rds3 hd
    have e1 := h.int_of
    have e2 := h'.int_of
    have e3 := h''.int_of
    subst e1 e2 e3
    exact cr_gcd3 p s σ _ _ us Q I rv ⟨_, _, _, rfl, hq _ _ W hw k (Le.refl W) (.d (.int _))⟩
  · obtain ⟨v, rfl, h⟩ := rds1 hd
    have := h.int_of
    subst this
    exact cr_isqrt p s σ _ _ us Q I rv ⟨_, rfl, hw.1, hw.2.1, hq _ _ W hw.2.2 k (Le.refl W) (.d (.int _))⟩
  · exact hw.elim
/-- isinstance -/
theorem ty_of {K : Fg} {W : Wd} {v : V} {d : PyData} (h : R K W v d) : TyX K W.H v (.type (tyD d)) := by
  cases h with
  | non => exact .base .non
  | bl b => exact .base (.bl b)
  | int i => exact .base (.int i)
  | str x => exact .base (.str x)
  | lst e _ _ _ => exact .base (.lst e)
  | dic e => exact .base (.dK e)
  | tup e _ =>
    rcases e with (e | ⟨o, e⟩) | ⟨o, its, n, e, c, _⟩
    · exact .base (.tup e)
    · exact .fTuple e
    · exact .kTuple e c
end
end Pf

namespace Pf
open PySem PySem.Spec PyProof.Rows L2
/-! ### what is walked -/
/-- a list or a tuple, by what came -/
def iSeq (K : Fg) (te : TE) : TI := fun σ H R => te σ H fun x H1 => ∃ a, x = .ref a ∧ (((∃ xs, SqL K H1 a xs) ∧ R (Itl K a) H1) ∨ ((∃ xs, SqT K H1 a xs) ∧ R (Itt K a) H1))
section
variable {X : Cx} {tg : Expr}
theorem fp_one {pins : List (Addr × Obj)} {σ : L2.St} {H : Hp} {s : Shared} (J : Inv X pins σ H s) : ∀ b ∈ [s.heap.objs.size], FpOk X pins H b := fun b hb => by
  cases hb with
  | head => exact J.fpOk (Nat.le_refl _) (J.hok.fresh (Nat.le_refl _))
  | tail _ h => cases h
theorem pi_seq {l : Expr} {te : TE} (hl : PE X l te) : PI X tg l (iSeq X.K te) := by
  constructor
  intro pins s σ H R I h
  refine thn (hl.run pins s σ H _ I h) ?_
  rintro v z ⟨x, G, J, rx, a, rfl, ⟨⟨xs, hx⟩, q⟩ | ⟨⟨xs, hx⟩, q⟩⟩
  · have ev : v = Value.ref a := rx
    subst ev
    obtain ⟨its, _, pl, _⟩ := J.list hx
    exact wpAny_pyIter_list pl.isList ⟨_, _, _, _, G, rfl, J.kept (t' := z.toks) fun _ _ eo => Heap.get?_push_of_some _ eo, turn_list a _, ⟨_, Heap.get?_push_size _ rfl, rfl, rfl⟩, fp_one J, q⟩
  · have ev : v = Value.ref a := rx
    subst ev
    obtain ⟨its, _, pl, _⟩ := J.tuple hx
    exact wpAny_pyIter_tuple pl ⟨_, _, _, _, G, rfl, J.kept (t' := z.toks) fun _ _ eo => Heap.get?_push_of_some _ eo, turn_tuple a _, ⟨_, Heap.get?_push_size _ rfl, rfl, rfl⟩, fp_one J, q⟩
end
/-- the items of a walk, in a world: what the walk J yields is what the list tells -/
def Walks (K : Fg) (J : It) (W : Wd) (xs : List DV) : Prop := ∀ U : Wd, U.Ok → Stp W U →
  ∀ i : Nat, (i < xs.length → J.go i U.H ∧ ∀ x H', J.yld i U.H x H' → H' = U.H ∧ ∃ d, xs[i]? = some d ∧ RD K U x d) ∧ (xs.length ≤ i → J.stop i U.H)
def trI (K : Fg) (w : SDs → (List DV → Prop) → Prop) : TI := fun σ H Q => ∃ W τ R, W.H = H ∧ W.Ok ∧ Gd K W σ τ ∧ w τ R ∧ ∀ xs J U, R xs → U.Ok → Le W U → Walks K J U xs → Q J U.H
theorem Stp.trans {W U Z : Wd} (k : W.Ok) (q : U.Ok) (l : Stp W U) (m : Stp U Z) (ho : ∀ a, W.O a → ∃ o, U.H a = some o) : Stp W Z := by
  have back : ∀ a, U.H a = none → W.H a = none := fun a z => by
    cases e : W.H a with
    | none => rfl
    | some o =>
      by_cases h : W.O a
      · obtain ⟨u, hu⟩ := ho a h
        exact (some_ne hu z).elim
      · obtain ⟨u, hu⟩ := l.there k q e h
        exact (some_ne hu z).elim
  refine ⟨fun a o e n h => m.ext a o (l.ext a o e n h) (fun v => ?_) fun v => ?_, fun a h => m.a1 a (l.a1 a h), fun a h => ?_, fun a h => m.v1 a (l.v1 a h), fun a h => ?_, fun a h => ?_⟩
  · rcases l.v2 a v with z | z
    · exact n z
    · exact some_ne e z
  · rcases l.o2 a v with z | z
    · exact h z
    · exact some_ne e z
  · rcases m.a2 a h with z | z
    · exact l.a2 a z
    · exact .inr (back a z)
  · rcases m.v2 a h with z | z
    · exact l.v2 a z
    · exact .inr (back a z)
  · rcases m.o2 a h with z | z
    · exact l.o2 a z
    · exact .inr (back a z)
section
variable {K : Fg} {W U : Wd}
theorem walk_l {a : Addr} {vs : List V} {ds : List DV} (h : ∀ U : Wd, U.Ok → Stp W U → SqL K U.H a vs ∧ RDs K U vs ds) : Walks K (Itl K a) W ds := fun U q l i => by
  obtain ⟨h1, h2⟩ := h U q l
  refine ⟨fun hi => ⟨?_, fun x H' y => ⟨y.1, ?_⟩⟩, fun hi => ⟨vs, h1, by rw [h2.length]; exact hi⟩⟩
  · have hv : i < vs.length := by rw [h2.length]; exact hi
    exact ⟨vs, vs[i], h1, List.getElem?_eq_getElem hv⟩
  · have e := y.2 vs h1
    clear h1 hi y h q l
    induction h2 generalizing i with
    | nil => simp at e
    | cons r t ih =>
      cases i with
      | zero => simp at e; subst e; exact ⟨_, rfl, r⟩
      | succ i => exact ih i (by simpa using e)
theorem walk_t {a : Addr} {vs : List V} {ds : List DV} (h : ∀ U : Wd, U.Ok → Stp W U → SqT K U.H a vs ∧ RDs K U vs ds) : Walks K (Itt K a) W ds := fun U q l i => by
  obtain ⟨h1, h2⟩ := h U q l
  refine ⟨fun hi => ⟨?_, fun x H' y => ⟨y.1, ?_⟩⟩, fun hi => ⟨vs, h1, by rw [h2.length]; exact hi⟩⟩
  · have hv : i < vs.length := by rw [h2.length]; exact hi
    exact ⟨vs, vs[i], h1, List.getElem?_eq_getElem hv⟩
  · have e := y.2 vs h1
    clear h1 hi y h q l
    induction h2 generalizing i with
    | nil => simp at e
    | cons r t ih =>
      cases i with
      | zero => simp at e; subst e; exact ⟨_, rfl, r⟩
      | succ i => exact ih i (by simpa using e)
theorem Rs.ds : ∀ {vs : List V} {ds : List PyData}, Rs K W vs ds → RDs K W vs (ds.map .d)
  | _, _, .nil => .nil
  | _, _, .cons h t => .cons (.d h) (Rs.ds t)
theorem walk_seq {v : V} {d : DV} {xs : List DV} (k : W.Ok) (h : RD K W v d) (e : itemsD d = some xs) :
    ∃ a, v = .ref a ∧ (((∃ vs, SqL K W.H a vs) ∧ Walks K (Itl K a) W xs) ∨ ((∃ vs, SqT K W.H a vs) ∧ Walks K (Itt K a) W xs)) := by
  cases h with
  | vat h => cases e
  | scr h =>
    cases e
    refine ⟨_, rfl, .inl ⟨⟨_, scr_sq (.scr h)⟩, walk_l fun U q l => ⟨scr_sq (RD.stp l k (.scr h)), ?_⟩⟩⟩
    · rename_i ns
      clear h
      induction ns with
      | nil => exact .nil
      | cons n r ih => exact .cons (.d (.int n)) ih
  | d h =>
    cases h with
    | lst e1 n m hs =>
      cases e
      exact ⟨_, rfl, .inl ⟨⟨_, SqL.of e1⟩, walk_l fun U q l => ⟨SqL.of (l.ext _ _ e1 (fun v => n (k.va _ v).1) m), (hs.stp l k).ds⟩⟩⟩
    | tup e1 hs =>
      cases e
      exact ⟨_, rfl, .inr ⟨⟨_, e1⟩, walk_t fun U q l => ⟨rd_keep (l.keepN k) e1, (hs.stp l k).ds⟩⟩⟩
    | _ => cases e
theorem walk_rng {lo : Int} {n : Nat} : Walks K (Itr lo n) W (rngD lo n) := fun U q l i => by
  have hl : (rngD lo n).length = n := by unfold rngD; rw [List.length_map, List.length_range]
  rw [hl]
  refine ⟨fun hi => ⟨hi, fun x H' y => ⟨y.1, .d (.int (lo + i)), ?_, ?_⟩⟩, fun hi => hi⟩
  · unfold rngD
    rw [List.getElem?_map, List.getElem?_range hi]
    rfl
  · rw [y.2]
    exact .d (.int _)
/-- steps that leave this frame's growing lists as they are -/
structure Sq (W U : Wd) : Prop where
  stp : Stp W U
  own : ∀ a xs, W.O a → W.H a = some (.lst xs) → U.H a = some (.lst xs) ∧ U.O a
theorem Le.sq (l : Le W U) (k : W.Ok) : Sq W U := ⟨l.stp, fun a xs h e => ⟨l.ext a _ e (k.ov h), by rw [l.o]; exact h⟩⟩
theorem Sq.there (l : Sq W U) (k : W.Ok) (a : Addr) (h : W.O a) : ∃ o, U.H a = some o := by
  obtain ⟨xs, e⟩ := k.ot a h
  exact ⟨_, (l.own a xs h e).1⟩
theorem Sq.trans {Z : Wd} (k : W.Ok) (q : U.Ok) (l : Sq W U) (m : Sq U Z) : Sq W Z := ⟨l.stp.trans k q m.stp (l.there k), fun a xs h e => by
  obtain ⟨h1, h2⟩ := l.own a xs h e
  exact m.own a xs h2 h1⟩
theorem Gd.sq (l : Sq W U) (k : W.Ok) {σ : L2.St} {τ : SDs} (h : Gd K W σ τ) : Gd K U σ τ :=
  ⟨h.len, fun i x e => by
    obtain ⟨v, h1, h2⟩ := h.get i x e
    refine ⟨v, h1, ?_⟩
    cases h2 with
    | val h2 => exact .val (h2.stp l.stp k)
    | own e1 o hs =>
      obtain ⟨e2, o2⟩ := l.own _ _ o e1
      exact .own e2 o2 (hs.stp l.stp k), h.uni⟩
/-- one of the growing lists grows -/
theorem grow {a : Addr} {xs ys : List V} (k : W.Ok) (h : W.O a) (e : W.H a = some (.lst xs)) : ({ W with H := upd W.H a (.lst ys) } : Wd).Ok ∧ Stp W { W with H := upd W.H a (.lst ys) } := by
  have ne : ∀ {b : Addr}, W.A b → b ≠ a := fun {b} hb z => by subst z; exact k.oa _ h hb
  refine ⟨⟨fun b hb => ?_, fun b hb => ?_, fun b hb => ?_, k.oa⟩, ⟨fun b o e' _ n => ?_, fun _ z => z, fun _ z => .inl z, fun _ z => z, fun _ z => .inl z, fun _ z => .inl z⟩⟩
  · obtain ⟨h1, c, hh, m, e1, r⟩ := k.va b hb
    exact ⟨h1, c, hh, m, by show upd W.H a _ b = _; rw [upd_ne (ne h1)]; exact e1, r⟩
  · obtain ⟨o, e1⟩ := k.at_ b hb
    exact ⟨o, by show upd W.H a _ b = _; rw [upd_ne (ne hb)]; exact e1⟩
  · by_cases z : b = a
    · subst z
      exact ⟨_, upd_same⟩
    · obtain ⟨o, e1⟩ := k.ot b hb
      exact ⟨o, by show upd W.H a _ b = _; rw [upd_ne z]; exact e1⟩
  · have z : b ≠ a := fun z => by subst z; exact n h
    show upd W.H a _ b = _
    rw [upd_ne z]
    exact e'
mutual
theorem R.less {O : Addr → Prop} (h : ∀ a, O a → W.O a) : ∀ {v : V} {d : PyData}, R K W v d → R K { W with O := O } v d
  | _, _, .non => .non
  | _, _, .bl b => .bl b
  | _, _, .int i => .int i
  | _, _, .str x => .str x
  | _, _, .lst e n m q => .lst e n (fun z => m (h _ z)) (Rs.less h q)
  | _, _, .tup e q => .tup e (Rs.less h q)
  | _, _, .dic e => .dic e
theorem Rs.less {O : Addr → Prop} (h : ∀ a, O a → W.O a) : ∀ {vs : List V} {ds : List PyData}, Rs K W vs ds → Rs K { W with O := O } vs ds
  | _, _, .nil => .nil
  | _, _, .cons q t => .cons (R.less h q) (Rs.less h t)
end
end
end Pf

namespace Pf
open PySem PySem.Spec PyProof.Rows L2
/-! ### from the text to the small language -/
structure CC where
  N : List Str
  sc : Scope
  fn : Str → Bool
  fs : List (Str × Nat)
  kb : List (Str × Nat × List Str × List Nat)
  ms : List (Str × Nat × Bi)
  bs : List Str
  ap : List Nat
  gs : List (Str × PyData) := []
def ixOf : List Str → Str → Option Nat
  | [], _ => none
  | y :: r, x => if y = x then some 0 else (ixOf r x).map Nat.succ
theorem ixOf_get : ∀ {N : List Str} {x : Str} {i : Nat}, ixOf N x = some i → N[i]? = some x
  | [], _, _, h => by cases h
  | y :: r, x, i, h => by
    unfold ixOf at h
    split at h
    · rename_i e
      cases h
      simp [e]
    · obtain ⟨j, h1, h2⟩ := Option.map_eq_some_iff.mp h
      subst h2
      simpa using ixOf_get h1
def okName (x : Str) : Bool := !(x == ("__debug__" : Str)) && !(x == ("__classdict__" : Str))
def visK : Option NameKind → Bool
  | some .local => true
  | some .cell => true
  | some .free => true
  | _ => false
def cslot (cc : CC) (x : Str) : Option Nat := if (visK (cc.sc.names.lookup x) && okName x) = true then ixOf cc.N x else none
def isGl : Option NameKind → Bool
  | some .globalImplicit => true
  | _ => false
def cglob (cc : CC) (x : Str) : Bool := isGl (cc.sc.names.lookup x) && okName x
def locK (cc : CC) (x : Str) : Bool := match cc.sc.names.lookup x with
  | some .local => true
  | some .cell => cc.fn x
  | _ => false
def bopOf : Operator → Option BOp
  | .Add => some .add
  | .Sub => some .sub
  | .Mult => some .mul
  | .FloorDiv => some .div
  | .Mod => some .mod
  | .Pow => some .pow
  | _ => none
def copOf : CmpOp → Option COp
  | .Lt => some .lt
  | .LtE => some .le
  | .Gt => some .gt
  | .GtE => some .ge
  | .Eq => some .eq
  | .NotEq => some .ne
  | .In => some .inn
  | .NotIn => some .notin
  | .Is => some .iss
  | .IsNot => some .isnt
def biTab : List (Str × Nat × Bi) := [("len", 1, .len), ("abs", 1, .abs), ("int", 1, .int), ("sum", 1, .sum), ("all", 1, .all), ("any", 1, .any), ("max", 2, .max2), ("min", 2, .min2), ("divmod", 2, .divmod), ("tuple", 1, .tuple), ("list", 1, .list), ("repr", 1, .repr)]
def bFind (l : List (Str × Nat × Bi)) (x : Str) (n : Nat) : Option Bi := match l.find? fun p => p.1 == x && p.2.1 == n with
  | some p => some p.2.2
  | none => none
def tyTab : List (Str × String) := [("int", "int"), ("bool", "bool"), ("tuple", "tuple"), ("str", "str"), ("list", "list"), ("dict", "dict")]
def isStar : Expr → Bool
  | .Starred _ _ => true
  | _ => false
def plainIx : Expr → Bool
  | .Name _ _ => true
  | .Constant _ _ _ => true
  | .BinOp _ _ _ _ => true
  | .UnaryOp _ _ _ => true
  | .Call _ _ _ _ => true
  | .Subscript _ _ _ => true
  | .IfExp _ _ _ _ => true
  | .Tuple _ _ _ => true
  | _ => false
/-- tests that ask a value's truth -/
def plainT : Expr → Bool
  | .Name _ _ => true
  | .Call _ _ _ _ => true
  | .Subscript _ _ _ => true
  | .Constant _ _ _ => true
  | _ => false
def iterOk : Expr → Bool
  | .Name _ _ => true
  | .Call _ _ _ _ => true
  | .Subscript _ _ _ => true
  | .BinOp _ _ _ _ => true
  | .List _ _ => true
  | .Tuple _ _ _ => true
  | .IfExp _ _ _ _ => true
  | .ListComp _ _ _ _ => true
  | _ => false
def kwNames : List Keyword → Option (List Str)
  | [] => some []
  | ⟨some x, _, _⟩ :: r => (kwNames r).map (x :: ·)
  | _ => none
def ownOf (N : List Str) (scope : Scope) : List (Str × Nat) := scope.names.filterMap fun p => match p.2 with
  | .local => (ixOf N p.1).map fun i => (p.1, i)
  | .cell => (ixOf N p.1).map fun i => (p.1, i)
  | _ => none
def inCC (cc : CC) (scope : Scope) : CC := { cc with sc := relS scope cc.sc, fn := fun x => scope.names.lookup x == some .cell }
def tgName (cc : CC) : Expr → Option Nat
  | .Name x _ => if locK cc x = true then ixOf cc.N x else none
  | _ => none
def tgNames (cc : CC) : List Expr → Option (List Nat)
  | [] => some []
  | e :: r => match tgName cc e, tgNames cc r with
    | some i, some is => some (i :: is)
    | _, _ => none
def cTg (cc : CC) : Expr → Option Tg
  | .Name x p => (tgName cc (.Name x p)).map .one
  | .Tuple es _ _ => (tgNames cc es).map .many
  | _ => none
def tgIn : Tg → List Nat → Bool
  | .one i, l => l.contains i
  | .many is, l => is.all l.contains
mutual
def cE : Nat → CC → Expr → Option RE
  | 0, _, _ => none
  | n + 1, cc, e => match e with
    | .Constant c _ _ => match c with
      | .none => some (.con .none)
      | .bool b => some (.con (.bool b))
      | .int i => some (.con (.int i))
      | .str s => some (.con (.str s))
      | _ => none
    | .Name x _ => match cslot cc x with
      | some i => some (.var i)
      | none => if cglob cc x = true then (cc.gs.lookup x).map .con else none
    | .Tuple es _ _ => (cA n cc es).map .tup
    | .List es _ => (cA n cc es).map .lst
    | .Dict [] [] _ => some .dic
    | .BinOp a op b _ => match bopOf op, cE n cc a, cE n cc b with
      | some o, some x, some y => some (.bin o x y)
      | _, _, _ => none
    | .UnaryOp .USub a _ => (cE n cc a).map .neg
    | .UnaryOp .Not a _ => (cE n cc a).map .notV
    | .BoolOp op vs pos => match vs with
      | [] => none
      | [a] => cE n cc a
      | a :: b :: r => match op, cE n cc a, cE n cc (.BoolOp op (b :: r) pos) with
        | .And, some x, some y => some (.andV x y)
        | .Or, some x, some y => some (.orV x y)
        | _, _, _ => none
    | .Compare a [.Is] [.Constant .none _ _] _ => (cE n cc a).map .isN
    | .Compare a [.IsNot] [.Constant .none _ _] _ => (cE n cc a).map .notN
    | .Compare a [op] [b] _ => if behindInMarks op b = true then none else match copOf op, cE n cc a, cE n cc b with
      | some o, some x, some y => some (.cmp o x y)
      | _, _, _ => none
    | .IfExp c a b _ => match cT n cc c, cE n cc a, cE n cc b with
      | some t, some x, some y => some (.ite t x y)
      | _, _, _ => none
    | .Subscript a (.Slice lo hi none _) _ => match cE n cc a, cO n cc lo, cO n cc hi with
      | some x, some l, some h => some (.slc x l h)
      | _, _, _ => none
    | .Subscript a b _ => if plainIx b = true then match cE n cc a, cE n cc b with
      | some x, some y => some (.idx x y)
      | _, _ => none
      else none
    | .Call (.Name x _) args kws _ => if cglob cc x = true then match kws with
      | [] => match cc.fs.lookup x with
        | some k => (cA n cc args).map (.call k)
        | none => match bFind cc.ms x args.length with
          | some b => (cA n cc args).map (.bi b)
          | none => if cc.bs.contains x = true then match bFind biTab x args.length with
            | some b => (cA n cc args).map (.bi b)
            | none => match args with
              | [a, .Name T _] => if (x == ("isinstance" : Str) && cglob cc T && cc.bs.contains T) = true then match tyTab.lookup T, cE n cc a with
                | some t, some y => some (.isi y t)
                | _, _ => none
                else none
              | _ => none
            else none
      | _ :: _ => match cc.fs.lookup x, kwNames kws with
        | some k, some ns => match cc.kb.find? fun p => p.1 == x && p.2.1 == args.length && decide (p.2.2.1 = ns) with
          | some p => match cA n cc args, cK n cc kws with
            | some u, some z => if (p.2.2.2.all fun i => decide (i < args.length + ns.length)) = true then some (.callK k args.length ns.length p.2.2.2 u z) else none
            | _, _ => none
          | none => none
        | _, _ => none
      else none
    | .ListComp elt [⟨tg, iter, ifs, 0⟩] scope _ => if (blkC cc.N cc.sc scope (ownOf cc.N scope) && iterOk iter) = true then match cI n cc iter, cTg (inCC cc scope) tg, cTs n (inCC cc scope) ifs, cE n (inCC cc scope) elt with
      | some it, some g, some t, some x => if tgIn g ((ownOf cc.N scope).map (·.2)) = true then some (.lc ((ownOf cc.N scope).map (·.2)) g it t x) else none
      | _, _, _, _ => none
      else none
    | _ => none
def cA : Nat → CC → List Expr → Option RA
  | 0, _, _ => none
  | n + 1, cc, es => match es with
    | [] => some .nil
    | e :: r => if isStar e = true then none else match cE n cc e, cA n cc r with
      | some x, some y => some (.cons x y)
      | _, _ => none
def cK : Nat → CC → List Keyword → Option RA
  | 0, _, _ => none
  | n + 1, cc, es => match es with
    | [] => some .nil
    | ⟨_, e, _⟩ :: r => match cE n cc e, cK n cc r with
      | some x, some y => some (.cons x y)
      | _, _ => none
def cO : Nat → CC → Option Expr → Option RO
  | 0, _, _ => none
  | n + 1, cc, e => match e with
    | none => some .none
    | some e => (cE n cc e).map .some
def cT : Nat → CC → Expr → Option RT
  | 0, _, _ => none
  | n + 1, cc, e => match e with
    | .UnaryOp .Not a _ => (cT n cc a).map .not
    | .BoolOp op vs pos => match vs with
      | [] => none
      | [a] => cT n cc a
      | a :: b :: r => match op, cT n cc a, cT n cc (.BoolOp op (b :: r) pos) with
        | .And, some x, some y => some (.and x y)
        | .Or, some x, some y => some (.or x y)
        | _, _, _ => none
    | .Compare a [.Is] [.Constant .none _ _] _ => (cE n cc a).map fun x => .bl (.isN x)
    | .Compare a [.IsNot] [.Constant .none _ _] _ => (cE n cc a).map fun x => .bl (.notN x)
    | .Compare a [op] [b] _ => if behindInMarks op b = true then none else match copOf op, cE n cc a, cE n cc b with
      | some o, some x, some y => some (.bl (.cmp o x y))
      | _, _, _ => none
    | e => if plainT e = true then (cE n cc e).map .val else none
def cTs : Nat → CC → List Expr → Option RT
  | 0, _, _ => none
  | n + 1, cc, es => match es with
    | [] => some .yes
    | [c] => cT n cc c
    | _ => none
def cI : Nat → CC → Expr → Option RI
  | 0, _, _ => none
  | n + 1, cc, e => match e with
    | .Call (.Name x p) [a] [] pos => if (x == ("range" : Str) && cglob cc x && cc.bs.contains x && !isStar a) = true then (cE n cc a).map .rng else (cE n cc (.Call (.Name x p) [a] [] pos)).map .seq
    | .Call (.Name x p) [a, b] [] pos => if (x == ("range" : Str) && cglob cc x && cc.bs.contains x && !isStar a && !isStar b) = true then match cE n cc a, cE n cc b with
      | some y, some z => some (.rng2 y z)
      | _, _ => none
      else (cE n cc (.Call (.Name x p) [a, b] [] pos)).map .seq
    | e => (cE n cc e).map .seq
end
def isLoc : Option NameKind → Bool
  | some .local => true
  | _ => false
/-- what a pair of tuples does: 0 in order, 1 exchanged, 2 not known -/
def swp (cc : CC) (ts vs : List Expr) : Nat :=
  if (!(ts.length == 2 || ts.length == 3) || vs.length != ts.length) = true then 0
  else if (ts.all fun t => match t with | .Name x p => isLoc (cc.sc.names.lookup x) && p.line == ((ts.head?.map (·.pos.line)).getD 0) | _ => false) = true then
    (if (vs.all (foldedForSure 8)) = true then 0 else if (vs.all (constantsAlone 8)) = true then 2 else 1)
  else 0
def isLC : Expr → Bool
  | .ListComp _ _ _ _ => true
  | .SetComp _ _ _ _ => true
  | .DictComp _ _ _ _ _ => true
  | _ => false
end Pf

namespace Pf
open PySem PySem.Spec PyProof.Rows L2
/-! ### a def's promise over plain data -/
structure FnP (P : Program) (w : World) (K : Fg) (mg : Str → Option Value) (base : Heap) (lv : Nat) (f : Addr) (fd : FuncData) (ps : List Str) (sp : PSp) : Prop where
  len : ∀ ds Q, sp ds Q → ds.length = ps.length
  run : ∀ (A : Around) (outer : List Env) (s : Shared) (args : Args) (us : List Value) (vs : List V) (W : Wd) (ds : List DV) (Q : DV → Prop), Room lv A → A.guards = some [] → W.Ok → (∀ a, ¬ W.O a) →
    Env0 P w K mg base A outer s W.H → BindsTo s fd args (ps.zip us) → Vals vs us → RDs K W vs ds → sp ds Q →
    codeAny (model P w) A (.call (.ref f) args) (CR CX0 outer P w W.H s (fun v H' => ∃ U r, U.H = H' ∧ U.Ok ∧ Stp W U ∧ RD K U v r ∧ Q r) E0) s
theorem FnP.mono {P : Program} {w : World} {K : Fg} {mg : Str → Option Value} {base : Heap} {i j : Nat} {f : Addr} {fd : FuncData} {ps : List Str} {sp : PSp} (F : FnP P w K mg base i f fd ps sp) (h : i ≤ j) : FnP P w K mg base j f fd ps sp :=
  ⟨F.len, fun A o s ar us vs W ds Q r => F.run A o s ar us vs W ds Q (r.mono h)⟩
theorem FnP.imp {P : Program} {w : World} {K : Fg} {mg : Str → Option Value} {base : Heap} {i : Nat} {f : Addr} {fd : FuncData} {ps : List Str} {sp sp' : PSp} (F : FnP P w K mg base i f fd ps sp) (h : ∀ ds Q, sp' ds Q → sp ds Q) : FnP P w K mg base i f fd ps sp' :=
  ⟨fun ds Q q => F.len ds Q (h _ _ q), fun A o s ar us vs W ds Q r g k n e b v d q => F.run A o s ar us vs W ds Q r g k n e b v d (h _ _ q)⟩
/-- how a caller's world looks to the callee, and back -/
def Wd.into (W : Wd) : Wd := ⟨W.H, fun a => W.A a ∨ W.O a, W.V, fun _ => False⟩
def Wd.back (W U : Wd) : Wd := ⟨U.H, fun a => U.A a ∧ ¬ W.O a, U.V, W.O⟩
section
variable {K : Fg} {W U : Wd}
theorem into_ok (k : W.Ok) : W.into.Ok := ⟨fun a v => ⟨.inl (k.va a v).1, (k.va a v).2⟩, fun a h => by
  rcases h with h | h
  · exact k.at_ a h
  · obtain ⟨xs, e⟩ := k.ot a h
    exact ⟨_, e⟩, fun _ h => h.elim, fun _ h => h.elim⟩
mutual
theorem R.into : ∀ {v : V} {d : PyData}, R K W v d → R K W.into v d
  | _, _, .non => .non
  | _, _, .bl b => .bl b
  | _, _, .int i => .int i
  | _, _, .str x => .str x
  | _, _, .lst e n m q => .lst e (fun z => z.elim n m) (fun z => z) (Rs.into q)
  | _, _, .tup e q => .tup e (Rs.into q)
  | _, _, .dic e => .dic e
theorem Rs.into : ∀ {vs : List V} {ds : List PyData}, Rs K W vs ds → Rs K W.into vs ds
  | _, _, .nil => .nil
  | _, _, .cons q t => .cons (R.into q) (Rs.into t)
end
theorem RD.into {v : V} {d : DV} (h : RD K W v d) : RD K W.into v d := by
  cases h with
  | d h => exact .d h.into
  | scr h => exact .scr h
  | vat h => exact .vat h
theorem RDs.into : ∀ {vs : List V} {ds : List DV}, RDs K W vs ds → RDs K W.into vs ds
  | _, _, .nil => .nil
  | _, _, .cons h t => .cons (RD.into h) (RDs.into t)
theorem back_le (k : W.Ok) (q : U.Ok) (l : Stp W.into U) : Le W (W.back U) ∧ (W.back U).Ok := by
  refine ⟨⟨fun a o e n => l.ext a o e n fun z => z, fun a h => ⟨l.a1 a (.inl h), fun z => k.oa a z h⟩, fun a h => ?_, l.v1, l.v2, rfl⟩, ⟨fun a h => ⟨⟨(q.va a h).1, fun z => ?_⟩, (q.va a h).2⟩, fun a h => q.at_ a h.1, fun a h => ?_, fun a h z => z.2 h⟩⟩
  · rcases l.a2 a h.1 with (z | z) | z
    · exact .inl z
    · exact (h.2 z).elim
    · exact .inr z
  · obtain ⟨xs, e⟩ := k.ot a z
    rcases l.v2 a h with v | v
    · exact k.ov z v
    · exact some_ne e v
  · obtain ⟨xs, e⟩ := k.ot a h
    exact ⟨xs, l.ext a _ e (k.ov h) fun z => z⟩
theorem into_o (l : Stp W.into U) {a : Addr} (h : W.O a) : U.A a := l.a1 a (.inr h)
mutual
theorem R.back (l : Stp W.into U) : ∀ {v : V} {d : PyData}, R K U v d → R K (W.back U) v d
  | _, _, .non => .non
  | _, _, .bl b => .bl b
  | _, _, .int i => .int i
  | _, _, .str x => .str x
  | _, _, .lst e n m q => .lst e (fun z => n z.1) (fun z => n (into_o l z)) (Rs.back l q)
  | _, _, .tup e q => .tup e (Rs.back l q)
  | _, _, .dic e => .dic e
theorem Rs.back (l : Stp W.into U) : ∀ {vs : List V} {ds : List PyData}, Rs K U vs ds → Rs K (W.back U) vs ds
  | _, _, .nil => .nil
  | _, _, .cons q t => .cons (R.back l q) (Rs.back l t)
end
theorem RD.back (l : Stp W.into U) {v : V} {d : DV} (h : RD K U v d) : RD K (W.back U) v d := by
  cases h with
  | d h => exact .d (h.back l)
  | scr h => exact .scr h
  | vat h => exact .vat h
end
section
variable {X : Cx}
/-- the callee runs -/
theorem run_P {lv : Nat} {f : Addr} {fd : FuncData} {ps : List Str} {sp : PSp} {pins : List (Addr × Obj)} {s : Shared} {σ : L2.St} {W : Wd} {args : Args} {us : List Value} {vs : List V} {ds : List DV} {R : DV → Prop} {Q : VK}
    (F : FnP X.prog X.w X.K X.mg X.base lv f fd ps sp) (hr : Room lv X.A) (hg : X.A.guards = some []) (I : Inv X pins σ W.H s) (hb : BindsTo s fd args (ps.zip us)) (rv : Vals vs us) (k : W.Ok) (hd : RDs X.K W vs ds) (hs : sp ds R)
    (hq : ∀ r v U, R r → U.Ok → Le W U → RD X.K U v r → Q v U.H) : codeAny (model X.prog X.w) X.A (.call (.ref f) args) (fun r s' => match r with | .ok (.ret u) => EP X pins σ Q u s' | _ => False) s := by
  refine codeAny_mono (F.run X.A X.stack s args us vs W.into ds R hr hg (into_ok k) (fun _ z => z) I.env0 hb rv hd.into hs) fun r z h => ?_
  cases r with
  | error e => exact h.elim
  | ok fl =>
    cases fl with
    | ret u =>
      obtain ⟨v, G, J, rv', U, r', e, q, l, hr', hR⟩ := I.after (show CE X.stack X.prog X.w W.H s _ u z from h)
      subst e
      obtain ⟨l1, l2⟩ := back_le k q l
      exact ⟨v, U.H, J, rv', (show Q v (W.back U).H from hq r' v (W.back U) hR l2 l1 (hr'.back l))⟩
    | next => exact False.elim h
    | brk => exact False.elim h
    | cont => exact False.elim h
/-! ### the context of a def's body -/
structure Fns (X : Cx) (Φ : Nat → PSp) (lv : Nat) (x : Str) (k : Nat) : Prop where
  ex : ∃ (f : Addr) (fd : FuncData) (ps : List Str), X.mg x = some (.ref f) ∧ PySem.W.keepIn X.K (.ref f) = true ∧ FnP X.prog X.w X.K X.mg X.base lv f fd ps (Φ k) ∧ Binds X.K fd ps []
structure Fnk (X : Cx) (Φ : Nat → PSp) (lv : Nat) (x : Str) (k n : Nat) (kn : List Str) (pm : List Nat) : Prop where
  ex : ∃ (f : Addr) (fd : FuncData) (ps : List Str), X.mg x = some (.ref f) ∧ PySem.W.keepIn X.K (.ref f) = true ∧ FnP X.prog X.w X.K X.mg X.base lv f fd ps (Φ k) ∧
    ∀ (s : Shared) (us ws : List Value), X.K.In s.heap → us.length = n → ws.length = kn.length → BindsTo s fd ⟨us, kn.zip ws⟩ (ps.zip (pm.filterMap fun i => (us ++ ws)[i]?))
structure Cok (cc : CC) (Φ : Nat → PSp) (lv : Nat) (X : Cx) : Prop where
  nd : X.N.Nodup
  n : X.N = cc.N
  sc : X.env.scope = cc.sc
  fn : X.fn = cc.fn
  calm : X.calm = true
  xe : X.xe = fun _ _ => False
  g : X.A.guards = some []
  r : Room lv X.A
  fs : ∀ x k, cc.fs.lookup x = some k → Fns X Φ lv x k
  kb : ∀ p, p ∈ cc.kb → ∀ k, cc.fs.lookup p.1 = some k → Fnk X Φ lv p.1 k p.2.1 p.2.2.1 p.2.2.2
  ms : ∀ p, p ∈ cc.ms → X.mg p.1 = some (biV p.2.2)
  bs : ∀ x, x ∈ cc.bs → X.mg x = none
  mok : ∀ p, p ∈ cc.ms → 0 < p.2.1 ∧ ∃ id, biV p.2.2 = .builtin id
  gs : ∀ x d, cc.gs.lookup x = some d → ∃ (v : V) (u : Value), X.mg x = some u ∧ RelV v u ∧ ∀ W : Wd, R X.K W v d
variable {cc : CC} {Φ : Nat → PSp} {lv : Nat}
theorem Cok.blk (c : Cok cc Φ lv X) (s : Shared) (H : Hp) (scope : Scope) (C : Addr) (cl : List (Str × Addr)) (fp : List Addr) : Cok (inCC cc scope) Φ lv (X.blk s H scope (compEnvC scope cl C X.env) fp) :=
  ⟨c.nd, c.n, by show relS scope X.env.scope = _; rw [c.sc]; rfl, rfl, c.calm, rfl, c.g, c.r, fun x k h => ⟨(c.fs x k h).ex⟩, fun p h k e => ⟨(c.kb p h k e).ex⟩, c.ms, c.bs, c.mok, c.gs⟩
theorem okN {x : Str} (h : okName x = true) : (x == ("__debug__" : Str)) = false ∧ (x == ("__classdict__" : Str)) = false := by
  unfold okName at h
  rw [Bool.and_eq_true, Bool.not_eq_true', Bool.not_eq_true'] at h
  exact h
theorem cslot_ok (c : Cok cc Φ lv X) {x : Str} {i : Nat} (h : cslot cc x = some i) : X.N[i]? = some x ∧ Vis X.env.scope x ∧ okName x = true := by
  unfold cslot at h
  split at h
  · rename_i e
    rw [Bool.and_eq_true] at e
    refine ⟨by rw [c.n]; exact ixOf_get h, ?_, e.2⟩
    have e1 := e.1
    unfold Vis
    rw [c.sc]
    revert e1
    cases cc.sc.names.lookup x with
    | none => intro z; cases z
    | some k => cases k <;> intro z <;> first | exact .inl rfl | exact .inr (.inl rfl) | exact .inr (.inr rfl) | cases z
  · cases h
theorem cglob_ok (c : Cok cc Φ lv X) {x : Str} (h : cglob cc x = true) : Gl X x ∧ okName x = true := by
  unfold cglob at h
  rw [Bool.and_eq_true] at h
  refine ⟨?_, h.2⟩
  have e1 := h.1
  show X.env.scope.names.lookup x = _
  rw [c.sc]
  revert e1
  cases cc.sc.names.lookup x with
  | none => intro z; cases z
  | some k => cases k <;> intro z <;> first | rfl | cases z
theorem locK_ok (c : Cok cc Φ lv X) {x : Str} (h : locK cc x = true) : L2.Loc X.env.scope x ∧ (X.fn x = true ∨ X.env.scope.names.lookup x = some .local) := by
  unfold locK at h
  unfold L2.Loc
  rw [c.sc, c.fn]
  revert h
  cases cc.sc.names.lookup x with
  | none => intro z; cases z
  | some k => cases k <;> intro z <;> first | exact ⟨.inl rfl, .inr rfl⟩ | exact ⟨.inr rfl, .inl z⟩ | cases z
/-! ### lists of expressions -/
theorem star_cons {e : Expr} {es : List Expr} {env : Env} (h : isStar e = false) : starEach (e :: es) env = (false, eval e env) :: starEach es env := by
  cases e <;> first | rfl | cases h
def noStar (es : List Expr) : Bool := es.all fun e => !isStar e
theorem star_any {pos : Pos} {env : Env} : ∀ {es : List Expr}, noStar es = true → (backTo pos (starEach es env)).any (·.1) = false
  | [], _ => rfl
  | e :: r, h => by
    unfold noStar at h
    rw [List.all_cons, Bool.and_eq_true, Bool.not_eq_true'] at h
    rw [star_cons h.1]
    show (false || (backTo pos (starEach r env)).any (·.1)) = false
    rw [star_any h.2]
    rfl
theorem cA_star : ∀ {n : Nat} {es : List Expr} {ra : RA}, cA n cc es = some ra → noStar es = true
  | 0, _, _, h => by simp [cA] at h
  | n + 1, [], _, _ => rfl
  | n + 1, e :: r, ra, h => by
    rw [cA] at h
    split at h
    · cases h
    · rename_i hs
      split at h
      · rename_i x y h1 h2
        have := cA_star h2
        unfold noStar at this ⊢
        rw [List.all_cons, this, Bool.and_true]
        cases e <;> first | rfl | exact (hs rfl).elim
      · cases h
end
end Pf

namespace Pf
open PySem PySem.Spec PyProof.Rows L2
section
variable {X : Cx} {cc : CC} {Φ : Nat → PSp} {lv : Nat} {pos : Pos}
/-! ### one piece at a time -/
theorem e_var (c : Cok cc Φ lv X) {x : Str} {i : Nat} (h : cslot cc x = some i) : PE X (.Name x pos) (trE X.K (wE Φ (.var i))) := by
  obtain ⟨h1, h2, h3⟩ := cslot_ok c h
  obtain ⟨h4, h5⟩ := okN h3
  refine pE_imp (pe_var h1 h2 h4 h5) fun σ H Q q => ?_
  obtain ⟨W, τ, R, rfl, k, g, hw, hq⟩ := q
  simp only [wE] at hw
  split at hw
  · rename_i d e
    obtain ⟨v, e1, r⟩ := g.get i _ e
    cases r with
    | val r => exact ⟨v, e1, hq d v W hw k (Le.refl W) r⟩
  · exact hw.elim
theorem e_con {d : PyData} {v : V} {e : Expr} (h : PE X e (tC v)) (r : ∀ K W, R K W v d) : PE X e (trE X.K (wE Φ (.con d))) := pE_imp h fun σ H Q q => by
  obtain ⟨W, τ, R, rfl, k, g, hw, hq⟩ := q
  simp only [wE] at hw
  exact hq _ v W hw k (Le.refl W) (.d (r _ _))
theorem e_glo (c : Cok cc Φ lv X) {x : Str} {d : PyData} (hg : cglob cc x = true) (h : cc.gs.lookup x = some d) : PE X (.Name x pos) (trE X.K (wE Φ (.con d))) := by
  obtain ⟨g1, g2⟩ := cglob_ok c hg
  obtain ⟨v, u, hm, r, hr⟩ := c.gs x d h
  refine pE_imp (pe_glob g1 hm r (okN g2).1) fun σ H Q q => ?_
  obtain ⟨W, τ, R, rfl, k, g, hw, hq⟩ := q
  simp only [wE] at hw
  exact hq _ v W hw k (Le.refl W) (.d (hr _))
theorem e_tup {es : List Expr} {ra : RA} {n : Nat} (h : PA X es (trA X.K (wA Φ ra))) : PE X (.Tuple es n pos) (trE X.K (wE Φ (.tup ra))) := pE_imp (pe_tup h) fun σ H Q q => by
  obtain ⟨W, τ, R, rfl, k, g, hw, hq⟩ := q
  simp only [wE] at hw
  refine ⟨W, τ, _, rfl, k, g, hw, fun rs vs U hr k1 l1 rv => ?_⟩
  obtain ⟨ds, e, hl, hr⟩ := hr
  have hs := rv.datas e
  exact ⟨by rw [hs.length]; exact sz hl, fun p n => hq _ _ _ hr (lay k1 n).2 (l1.trans k k1 (lay k1 n).1) (.d (lay_tup k1 n hs))⟩
theorem e_lst {es : List Expr} {ra : RA} (h : PA X es (trA X.K (wA Φ ra))) : PE X (.List es pos) (trE X.K (wE Φ (.lst ra))) := pE_imp (pe_lst h) fun σ H Q q => by
  obtain ⟨W, τ, R, rfl, k, g, hw, hq⟩ := q
  simp only [wE] at hw
  refine ⟨W, τ, _, rfl, k, g, hw, fun rs vs U hr k1 l1 rv => ?_⟩
  obtain ⟨ds, e, hl, hr⟩ := hr
  have hs := rv.datas e
  exact ⟨by rw [hs.length]; exact sz hl, fun p n => hq _ _ _ hr (lay k1 n).2 (l1.trans k k1 (lay k1 n).1) (.d (lay_lst k1 n hs))⟩
theorem e_bin {a b : Expr} {x y : RE} {op : Operator} {o : BOp} (ho : bopOf op = some o) (ha : PE X a (trE X.K (wE Φ x))) (hb : PE X b (trE X.K (wE Φ y))) : PE X (.BinOp a op b pos) (trE X.K (wE Φ (.bin o x y))) := by
  have hop : OpR X (binaryOp op) (rW2 X.K (wBin o)) := by
    cases op <;> cases ho <;> first | exact op_addW | exact op_subW | exact op_mulWW | exact op_divW | exact op_modW | exact op_powW
  refine pE_imp (pe_op hop ha hb) fun σ H Q q => bin_imp ?_
  simpa only [wE] using q
theorem un_imp {w : SDs → (DV → Prop) → Prop} {f : DV → (DV → Prop) → Prop} {K : Fg} {σ : L2.St} {H : Hp} {Q : VK} {r : V → Hp → VK → Prop} (hr : ∀ (W : Wd) d v R Q, W.Ok → RD K W v d → f d R → (∀ r v U, R r → U.Ok → Le W U → RD K U v r → Q v U.H) → r v W.H Q)
    (h : trE K (fun τ R => w τ fun x => f x R) σ H Q) : trE K w σ H fun v H1 => r v H1 Q := by
  obtain ⟨W, τ, R, rfl, k, g, hw, hq⟩ := h
  exact ⟨W, τ, _, rfl, k, g, hw, fun d v U hd k1 l1 rv => hr U d v R Q k1 rv hd fun r v Z h1 k2 l2 h2 => hq r v Z h1 k2 (l1.trans k k1 l2) h2⟩
theorem dint_of {K : Fg} {W : Wd} {v : V} {d : DV} {Q : Int → Prop} (h : RD K W v d) (q : dint d Q) : ∃ i, v = .int i ∧ Q i := by
  cases h with
  | d h => cases h <;> first | exact ⟨_, rfl, q⟩ | exact q.elim
  | _ => exact q.elim
theorem dbool_of {K : Fg} {W : Wd} {v : V} {d : DV} {Q : Bool → Prop} (h : RD K W v d) (q : dbool d Q) : ∃ i, v = .bl i ∧ Q i := by
  cases h with
  | d h => cases h <;> first | exact ⟨_, rfl, q⟩ | exact q.elim
  | _ => exact q.elim
theorem e_neg {a : Expr} {x : RE} (ha : PE X a (trE X.K (wE Φ x))) : PE X (.UnaryOp .USub a pos) (trE X.K (wE Φ (.neg x))) := pE_imp (pe_un un_neg ha) fun σ H Q q => by
  simp only [wE] at q
  refine un_imp (f := fun d R => dint d fun i => R (.d (.int (-i)))) (r := rU fun i => .int (-i)) (fun W d v R Q k r h hq => ?_) q
  obtain ⟨i, rfl, h⟩ := dint_of r h
  exact ⟨i, rfl, hq _ _ W h k (Le.refl W) (.d (.int _))⟩
theorem e_not {a : Expr} {x : RE} (ha : PE X a (trE X.K (wE Φ x))) : PE X (.UnaryOp .Not a pos) (trE X.K (wE Φ (.notV x))) := pE_imp (pe_not ha) fun σ H Q q => by
  simp only [wE] at q
  refine un_imp (f := fun d R => dbool d fun i => R (.d (.bool (!i)))) (r := fun v H Q => ∃ c, v = .bl c ∧ Q (.bl (!c)) H) (fun W d v R Q k r h hq => ?_) q
  obtain ⟨i, rfl, h⟩ := dbool_of r h
  exact ⟨i, rfl, hq _ _ W h k (Le.refl W) (.d (.bl _))⟩
theorem e_and {a b : Expr} {rest : List Expr} {x y : RE} (ha : PE X a (trE X.K (wE Φ x))) (hb : PE X (.BoolOp .And (b :: rest) pos) (trE X.K (wE Φ y))) : PE X (.BoolOp .And (a :: b :: rest) pos) (trE X.K (wE Φ (.andV x y))) := pE_imp (pe_and ha hb) fun σ H Q q => by
  obtain ⟨W, τ, R, rfl, k, g, hw, hq⟩ := q
  simp only [wE] at hw
  refine ⟨W, τ, _, rfl, k, g, hw, fun d v U hd k1 l1 rv => ?_⟩
  obtain ⟨i, rfl, h⟩ := dbool_of rv hd
  refine ⟨i, rfl, ?_⟩
  cases i with
  | true => exact iteT ⟨U, τ, R, rfl, k1, g.le l1 k, h, fun r v Z h1 k2 l2 h2 => hq r v Z h1 k2 (l1.trans k k1 l2) h2⟩
  | false => exact iteF (hq _ _ U h k1 l1 (.d (.bl _)))
theorem e_or {a b : Expr} {rest : List Expr} {x y : RE} (ha : PE X a (trE X.K (wE Φ x))) (hb : PE X (.BoolOp .Or (b :: rest) pos) (trE X.K (wE Φ y))) : PE X (.BoolOp .Or (a :: b :: rest) pos) (trE X.K (wE Φ (.orV x y))) := pE_imp (pe_or ha hb) fun σ H Q q => by
  obtain ⟨W, τ, R, rfl, k, g, hw, hq⟩ := q
  simp only [wE] at hw
  refine ⟨W, τ, _, rfl, k, g, hw, fun d v U hd k1 l1 rv => ?_⟩
  obtain ⟨i, rfl, h⟩ := dbool_of rv hd
  refine ⟨i, rfl, ?_⟩
  cases i with
  | true => exact iteT (hq _ _ U h k1 l1 (.d (.bl _)))
  | false => exact iteF ⟨U, τ, R, rfl, k1, g.le l1 k, h, fun r v Z h1 k2 l2 h2 => hq r v Z h1 k2 (l1.trans k k1 l2) h2⟩
theorem copW (c : Cok cc Φ lv X) {op : CmpOp} {o : COp} (ho : copOf op = some o) : OpR X (compareOp op) (rW2 X.K (wCmp o)) := by
  have hu := c.r.units
  cases op <;> cases ho <;> first | exact op_ltW | exact op_leW | exact op_gtW | exact op_geW | exact op_eqW hu | exact op_neW hu | exact op_inW | exact op_niW | exact op_isW | exact op_isntW
theorem e_cmp (c : Cok cc Φ lv X) {a b : Expr} {x y : RE} {op : CmpOp} {o : COp} (ho : copOf op = some o) (hm : behindInMarks op b = false) (ha : PE X a (trE X.K (wE Φ x))) (hb : PE X b (trE X.K (wE Φ y))) : PE X (.Compare a [op] [b] pos) (trE X.K (wE Φ (.cmp o x y))) := by
  refine pE_imp (pe_cmpR (copW c ho) ha hb hm) fun σ H Q q => bin_imp ?_
  simpa only [wE] using q
theorem t_cmp (c : Cok cc Φ lv X) {a b : Expr} {x y : RE} {op : CmpOp} {o : COp} (ho : copOf op = some o) (hm : behindInMarks op b = false) (ha : PE X a (trE X.K (wE Φ x))) (hb : PE X b (trE X.K (wE Φ y))) : PT X (.Compare a [op] [b] pos) (trT X.K (wT Φ (.bl (.cmp o x y)))) := by
  refine pT_imp (pt_cmpR (copW c ho) ha hb hm) fun σ H Q q => ?_
  show tOp _ _ _ σ H _
  refine bin_imp ?_
  obtain ⟨W, τ, R, rfl, k, g, hw, hq⟩ := q
  simp only [wT, wE] at hw
  refine ⟨W, τ, _, rfl, k, g, hw, fun r v U h1 k1 l1 rv => ?_⟩
  obtain ⟨i, rfl, h⟩ := dbool_of rv h1
  exact ⟨i, rfl, hq i U h k1 l1⟩
def nonD : PyData → Bool
  | .none => true
  | _ => false
theorem non_of {K : Fg} {W : Wd} {v : V} {d : PyData} (h : R K W v d) : decide (v = .non) = nonD d := by
  cases h <;> rfl
theorem isN_of {K : Fg} {W : Wd} {v : V} {d : DV} {Q : PyData → Prop} (h : RD K W v d) (q : match d with | .d y => Q y | _ => False) : ∃ y, decide (v = .non) = nonD y ∧ Q y := by
  cases h with
  | d h => exact ⟨_, non_of h, q⟩
  | _ => exact q.elim
theorem e_isN {a : Expr} {x : RE} {j : Nat} {p : Pos} (ha : PE X a (trE X.K (wE Φ x))) : PE X (.Compare a [.Is] [.Constant .none j p] pos) (trE X.K (wE Φ (.isN x))) := pE_imp (pe_cmp (pc_isN ha) rfl) fun σ H Q q => by
  obtain ⟨W, τ, R, rfl, k, g, hw, hq⟩ := q
  simp only [wE] at hw
  refine ⟨W, τ, _, rfl, k, g, hw, fun d v U hd k1 l1 rv => ?_⟩
  cases rv with
  | d h =>
    rw [non_of h]
    rename_i y
    cases y <;> exact hq _ _ U hd k1 l1 (.d (.bl _))
  | _ => exact hd.elim
theorem e_notN {a : Expr} {x : RE} {j : Nat} {p : Pos} (ha : PE X a (trE X.K (wE Φ x))) : PE X (.Compare a [.IsNot] [.Constant .none j p] pos) (trE X.K (wE Φ (.notN x))) := pE_imp (pe_cmp (pc_notN ha) rfl) fun σ H Q q => by
  obtain ⟨W, τ, R, rfl, k, g, hw, hq⟩ := q
  simp only [wE] at hw
  refine ⟨W, τ, _, rfl, k, g, hw, fun d v U hd k1 l1 rv => ?_⟩
  cases rv with
  | d h =>
    rw [non_of h]
    rename_i y
    cases y <;> exact hq _ _ U hd k1 l1 (.d (.bl _))
  | _ => exact hd.elim
theorem t_isN {a : Expr} {x : RE} {j : Nat} {p : Pos} (ha : PE X a (trE X.K (wE Φ x))) : PT X (.Compare a [.Is] [.Constant .none j p] pos) (trT X.K (wT Φ (.bl (.isN x)))) := pT_imp (pt_cmp (pc_isN ha) rfl) fun σ H Q q => by
  obtain ⟨W, τ, R, rfl, k, g, hw, hq⟩ := q
  simp only [wT, wE] at hw
  refine ⟨W, τ, _, rfl, k, g, hw, fun d v U hd k1 l1 rv => ?_⟩
  cases rv with
  | d h =>
    rw [non_of h]
    rename_i y
    cases y <;> exact ⟨_, rfl, hq _ U hd k1 l1⟩
  | _ => exact hd.elim
theorem t_notN {a : Expr} {x : RE} {j : Nat} {p : Pos} (ha : PE X a (trE X.K (wE Φ x))) : PT X (.Compare a [.IsNot] [.Constant .none j p] pos) (trT X.K (wT Φ (.bl (.notN x)))) := pT_imp (pt_cmp (pc_notN ha) rfl) fun σ H Q q => by
  obtain ⟨W, τ, R, rfl, k, g, hw, hq⟩ := q
  simp only [wT, wE] at hw
  refine ⟨W, τ, _, rfl, k, g, hw, fun d v U hd k1 l1 rv => ?_⟩
  cases rv with
  | d h =>
    rw [non_of h]
    rename_i y
    cases y <;> exact ⟨_, rfl, hq _ U hd k1 l1⟩
  | _ => exact hd.elim
theorem e_ite {t a b : Expr} {r : RT} {x y : RE} (ht : PT X t (trT X.K (wT Φ r))) (ha : PE X a (trE X.K (wE Φ x))) (hb : PE X b (trE X.K (wE Φ y))) : PE X (.IfExp t a b pos) (trE X.K (wE Φ (.ite r x y))) := pE_imp (pe_ifExp ht ha hb) fun σ H Q q => by
  obtain ⟨W, τ, R, rfl, k, g, hw, hq⟩ := q
  simp only [wE] at hw
  refine ⟨W, τ, _, rfl, k, g, hw, fun i U h k1 l1 => ?_⟩
  cases i with
  | true => exact iteT ⟨U, τ, R, rfl, k1, g.le l1 k, h, fun r v Z h1 k2 l2 h2 => hq r v Z h1 k2 (l1.trans k k1 l2) h2⟩
  | false => exact iteF ⟨U, τ, R, rfl, k1, g.le l1 k, h, fun r v Z h1 k2 l2 h2 => hq r v Z h1 k2 (l1.trans k k1 l2) h2⟩
theorem e_idx {a b : Expr} {x y : RE} (hb' : plainIx b = true) (ha : PE X a (trE X.K (wE Φ x))) (hb : PE X b (trE X.K (wE Φ y))) : PE X (.Subscript a b pos) (trE X.K (wE Φ (.idx x y))) := by
  have hs : PlainIx b := by intro o i; cases b <;> first | rfl | cases hb'
  refine pE_imp (pe_ix ixW ha hb hs) fun σ H Q q => bin_imp ?_
  simpa only [wE] using q
theorem e_slc {a : Expr} {lo hi : Option Expr} {x : RE} {l h : RO} {p2 : Pos} (ha : PE X a (trE X.K (wE Φ x))) (hl : PO X lo (trO X.K (wO Φ l))) (hh : PO X hi (trO X.K (wO Φ h))) : PE X (.Subscript a (.Slice lo hi none p2) pos) (trE X.K (wE Φ (.slc x l h))) := pE_imp (pe_slice slW ha hl hh) fun σ H Q q => by
  obtain ⟨W, τ, R, rfl, k, g, hw, hq⟩ := q
  simp only [wE] at hw
  refine ⟨W, τ, _, rfl, k, g, hw, fun d v U hd k1 l1 rv => ?_⟩
  refine ⟨U, τ, _, rfl, k1, g.le l1 k, hd, fun i Z hi k2 l2 => ?_⟩
  refine ⟨Z, τ, _, rfl, k2, (g.le l1 k).le l2 k1, hi, fun j Y hj k3 l3 => ?_⟩
  exact ⟨Y, d, R, rfl, k3, (rv.stp l2.stp k1).stp l3.stp k2, hj, fun r v Z h1 k4 l4 h2 => hq r v Z h1 k4 (l1.trans k k1 (l2.trans k1 k2 (l3.trans k2 k3 l4))) h2⟩
theorem o_none : PO X none (trO X.K (wO Φ .none)) := ⟨fun p s σ H Q I q => by
  obtain ⟨W, τ, R, rfl, k, g, hw, hq⟩ := q
  simp only [wO] at hw
  exact po_none.run p s σ _ Q I (hq _ W hw k (Le.refl W))⟩
theorem o_some {e : Expr} {x : RE} (h : PE X e (trE X.K (wE Φ x))) : PO X (some e) (trO X.K (wO Φ (.some x))) := ⟨fun p s σ H Q I q => by
  obtain ⟨W, τ, R, rfl, k, g, hw, hq⟩ := q
  simp only [wO] at hw
  refine (po_some h).run p s σ _ Q I ⟨W, τ, _, rfl, k, g, hw, fun d v U hd k1 l1 rv => ?_⟩
  obtain ⟨i, rfl, h⟩ := dint_of rv hd
  exact ⟨i, rfl, hq _ U h k1 l1⟩⟩
/-! ### argument lists -/
theorem a_nil : PA X [] (trA X.K (wA Φ .nil)) := pA_imp pa_nil fun σ H Q q => by
  obtain ⟨W, τ, R, rfl, k, g, hw, hq⟩ := q
  simp only [wA] at hw
  exact hq _ _ W hw k (Le.refl W) .nil
theorem cons_imp {K : Fg} {x : RE} {r : RA} {σ : L2.St} {H : Hp} {Q : List V → Hp → Prop} (q : trA K (wA Φ (.cons x r)) σ H Q) : tCons (trE K (wE Φ x)) (trA K (wA Φ r)) σ H Q := by
  obtain ⟨W, τ, R, rfl, k, g, hw, hq⟩ := q
  simp only [wA] at hw
  refine ⟨W, τ, _, rfl, k, g, hw, fun d v U hd k1 l1 rv => ?_⟩
  exact ⟨U, τ, _, rfl, k1, g.le l1 k, hd, fun ds vs Z hds k2 l2 rvs => hq _ _ Z hds k2 (l1.trans k k1 l2) (.cons (rv.stp l2.stp k1) rvs)⟩
theorem a_cons {e : Expr} {es : List Expr} {x : RE} {r : RA} (hs : isStar e = false) (he : PE X e (trE X.K (wE Φ x))) (hr : PA X es (trA X.K (wA Φ r))) : PA X (e :: es) (trA X.K (wA Φ (.cons x r))) :=
  pA_imp (pa_cons he hr (star_cons hs)) fun _ _ _ q => cons_imp q
theorem k_nil : PK X [] (trA X.K (wA Φ .nil)) := ⟨fun p pins s σ H Q I q => by
  obtain ⟨W, τ, R, rfl, k, g, hw, hq⟩ := q
  simp only [wA] at hw
  exact pk_nil.run p pins s σ _ Q I (hq _ _ W hw k (Le.refl W) .nil)⟩
theorem k_cons {e : Expr} {es : List Keyword} {x : RE} {r : RA} {nm : Option Str} {kp : Pos} (he : PE X e (trE X.K (wE Φ x))) (hr : PK X es (trA X.K (wA Φ r))) : PK X (⟨nm, e, kp⟩ :: es) (trA X.K (wA Φ (.cons x r))) :=
  ⟨fun p pins s σ H Q I q => (pk_cons he hr).run p pins s σ H Q I (cons_imp q)⟩
/-! ### tests -/
theorem t_yes : PTs X [] (trT X.K (wT Φ .yes)) := ⟨fun p s σ H Q I q => by
  obtain ⟨W, τ, R, rfl, k, g, hw, hq⟩ := q
  simp only [wT] at hw
  exact pts_nil.run p s σ _ Q I (hq _ W hw k (Le.refl W))⟩
theorem t_not {a : Expr} {x : RT} (ha : PT X a (trT X.K (wT Φ x))) : PT X (.UnaryOp .Not a pos) (trT X.K (wT Φ (.not x))) := pT_imp (pt_not ha) fun σ H Q q => by
  obtain ⟨W, τ, R, rfl, k, g, hw, hq⟩ := q
  simp only [wT] at hw
  exact ⟨W, τ, _, rfl, k, g, hw, fun i U h k1 l1 => hq _ U h k1 l1⟩
theorem w_and {a b : Expr} {rest : List Expr} {x y : RT} (ha : PT X a (trT X.K (wT Φ x))) (hb : PW X (.BoolOp .And (b :: rest) pos) (trT X.K (wT Φ y))) : PW X (.BoolOp .And (a :: b :: rest) pos) (trT X.K (wT Φ (.and x y))) := pW_imp (pw_and ha hb) fun σ H Q q => by
  obtain ⟨W, τ, R, rfl, k, g, hw, hq⟩ := q
  simp only [wT] at hw
  refine ⟨W, τ, _, rfl, k, g, hw, fun i U h k1 l1 => ?_⟩
  cases i with
  | true => exact iteT ⟨U, τ, R, rfl, k1, g.le l1 k, h, fun r Z h1 k2 l2 => hq r Z h1 k2 (l1.trans k k1 l2)⟩
  | false => exact iteF (hq _ U h k1 l1)
theorem w_or {a b : Expr} {rest : List Expr} {x y : RT} (ha : PT X a (trT X.K (wT Φ x))) (hb : PW X (.BoolOp .Or (b :: rest) pos) (trT X.K (wT Φ y))) : PW X (.BoolOp .Or (a :: b :: rest) pos) (trT X.K (wT Φ (.or x y))) := pW_imp (pw_or ha hb) fun σ H Q q => by
  obtain ⟨W, τ, R, rfl, k, g, hw, hq⟩ := q
  simp only [wT] at hw
  refine ⟨W, τ, _, rfl, k, g, hw, fun i U h k1 l1 => ?_⟩
  cases i with
  | true => exact iteT (hq _ U h k1 l1)
  | false => exact iteF ⟨U, τ, R, rfl, k1, g.le l1 k, h, fun r Z h1 k2 l2 => hq r Z h1 k2 (l1.trans k k1 l2)⟩
theorem isEmpty_R {K : Fg} {W : Wd} {vs : List V} {ds : List PyData} (h : Rs K W vs ds) : vs.isEmpty = ds.isEmpty := by
  cases h <;> rfl
theorem tru_of {K : Fg} {W : Wd} {v : V} {y : PyData} {b : Bool} (h : R K W v y) (e : truD y = some b) : TruV K v W.H b := by
  cases h with
  | non => cases e; rfl
  | bl b => cases e; rfl
  | int i => cases e; rfl
  | str x => cases e
  | lst e1 _ _ hs => cases e; exact .inl ⟨_, SqL.of e1, by rw [isEmpty_R hs]⟩
  | tup e1 hs => cases e; exact .inr (.inl ⟨_, e1, by rw [isEmpty_R hs]⟩)
  | dic _ => cases e
theorem t_val {e : Expr} {x : RE} (hp : plainT e = true) (he : PE X e (trE X.K (wE Φ x))) : PT X e (trT X.K (wT Φ (.val x))) := by
  have hs : ∀ whole, isTrue e X.env whole = (do let v ← whole; standAt e.pos; holding [v] (truthy v)) := by
    intro whole
    cases e <;> first | rfl | cases hp
  refine pT_imp (pt_truth he hs) fun σ H Q q => ?_
  obtain ⟨W, τ, R, rfl, k, g, hw, hq⟩ := q
  simp only [wT] at hw
  refine ⟨W, τ, _, rfl, k, g, hw, fun d v U hd k1 l1 rv => ?_⟩
  cases rv with
  | d h =>
    obtain ⟨b, e1, hb⟩ := hd
    exact ⟨b, tru_of h e1, hq b U hb k1 l1⟩
  | _ => exact hd.elim
end
end Pf

namespace Pf
open PySem PySem.Spec PyProof.Rows L2
section
variable {X : Cx} {cc : CC} {Φ : Nat → PSp} {lv : Nat} {pos p : Pos} {x : Str} {k : Nat}
/-! ### calls -/
theorem after_call {pins : List (Addr × Obj)} {σ : L2.St} {s : Shared} {Q : VK} {f : Value} {us : List Value} {kw : List (Str × Value)}
    (h : codeAny (model X.prog X.w) X.A (.call f ⟨us, kw⟩) (fun r s' => match r with | .ok (.ret u) => EP X pins σ Q u s' | _ => False) s) : wpAny (model X.prog X.w) X.A (call f us kw) (EP X pins σ Q) X.xe s := by
  refine wpAny_call (codeAny_mono h fun r z q => ?_)
  cases r with
  | error e => exact False.elim q
  | ok fl =>
    cases fl with
    | ret u => exact q
    | next => exact False.elim q
    | brk => exact False.elim q
    | cont => exact False.elim q
theorem e_call0 (c : Cok cc Φ lv X) (hg : cglob cc x = true) (F : Fns X Φ lv x k) : PE X (.Call (.Name x p) [] [] pos) (trE X.K (wE Φ (.call k .nil))) := by
  obtain ⟨g1, g2⟩ := cglob_ok c hg
  obtain ⟨f, fd, ps, hm, hk, F, hb⟩ := F.ex
  constructor
  rintro pins s σ H Q I ⟨W, τ, R, rfl, kk, g, hw, hq⟩
  simp only [wE, wA] at hw
  refine wpAny_Call_Name_kw (ld_glob I g1 hm ?_ (okN g2).1)
  refine PySem.W.callWith_K0 I.kIn hk (after_call ?_)
  have hl : ([] ++ [] : List Value).length = ps.length := by rw [← F.len _ _ hw]; rfl
  exact run_P F c.r c.g I (hb s [] I.kIn hl) (vs := []) .nil kk .nil hw hq
theorem e_call1 (c : Cok cc Φ lv X) (hg : cglob cc x = true) (F : Fns X Φ lv x k) {e : Expr} {es : List Expr} {ra : RA} (hs : noStar (e :: es) = true) (ha : PA X (e :: es) (trA X.K (wA Φ ra))) : PE X (.Call (.Name x p) (e :: es) [] pos) (trE X.K (wE Φ (.call k ra))) := by
  obtain ⟨g1, g2⟩ := cglob_ok c hg
  obtain ⟨f, fd, ps, hm, hk, F, hb⟩ := F.ex
  unfold noStar at hs
  rw [List.all_cons, Bool.and_eq_true, Bool.not_eq_true'] at hs
  constructor
  rintro pins s σ H Q I ⟨W, τ, R, rfl, kk, g, hw, hq⟩
  simp only [wE] at hw
  refine wpAny_Call_Name_kw (ld_glob I g1 hm ?_ (okN g2).1)
  refine PySem.W.callWith_K (h₀ := X.base) I.ok.mod.kin hk (thn (ha.run pos pins s σ _ (fun vs H1 => ∃ U ds, U.H = H1 ∧ U.Ok ∧ Le W U ∧ RDs X.K U vs ds ∧ Φ k ds R) I ⟨W, τ, _, rfl, kk, g, hw, fun ds vs U hd k1 l1 rv => ⟨U, ds, rfl, k1, l1, rv, hd⟩⟩) ?_) (star_cons hs.1) (star_any hs.2)
  rintro us z ⟨vs, H1, J, rv, U, ds, rfl, k1, l1, rd, hd⟩
  refine ⟨J.kIn, after_call ?_⟩
  have hl : (us ++ [] : List Value).length = ps.length := by rw [← F.len _ _ hd, ← rd.length, rv.length, List.append_nil]
  have hb' := hb z us J.kIn hl
  rw [List.append_nil] at hb'
  exact run_P F c.r c.g J hb' rv k1 rd hd fun r v Z h1 k2 l2 h2 => hq r v Z h1 k2 (l1.trans kk k1 l2) h2
theorem perm_vals {vs : List V} {us : List Value} (h : Vals vs us) : ∀ pm : List Nat, (∀ i ∈ pm, i < vs.length) → Vals (pm.filterMap fun i => vs[i]?) (pm.filterMap fun i => us[i]?)
  | [], _ => .nil
  | i :: r, hi => by
    have h1 : i < vs.length := hi i List.mem_cons_self
    obtain ⟨u, h2, h3⟩ := h.get (List.getElem?_eq_getElem h1)
    rw [List.filterMap_cons, List.filterMap_cons, h2, List.getElem?_eq_getElem h1]
    exact .cons h3 (perm_vals h r fun j hj => hi j (List.mem_cons_of_mem _ hj))
theorem RDs.get {K : Fg} {W : Wd} : ∀ {vs : List V} {ds : List DV} {i : Nat}, RDs K W vs ds → i < vs.length → ∃ v d, vs[i]? = some v ∧ ds[i]? = some d ∧ RD K W v d
  | _, _, _, .nil, h => by cases h
  | _, _, 0, .cons h t, _ => ⟨_, _, rfl, rfl, h⟩
  | _, _, i + 1, .cons _ t, h => by
    obtain ⟨v, d, h1, h2, h3⟩ := RDs.get (i := i) t (Nat.lt_of_succ_lt_succ h)
    exact ⟨v, d, by simpa using h1, by simpa using h2, h3⟩
theorem perm_rds {K : Fg} {W : Wd} {vs : List V} {us : List DV} (h : RDs K W vs us) : ∀ pm : List Nat, (∀ i ∈ pm, i < vs.length) → RDs K W (pm.filterMap fun i => vs[i]?) (perm pm us)
  | [], _ => .nil
  | i :: r, hi => by
    obtain ⟨v, d, h1, h2, h3⟩ := h.get (hi i List.mem_cons_self)
    unfold perm
    rw [List.filterMap_cons, List.filterMap_cons, h1, h2]
    exact .cons h3 (perm_rds h r fun j hj => hi j (List.mem_cons_of_mem _ hj))
theorem RDs.append {K : Fg} {W : Wd} : ∀ {vs ws : List V} {ds es : List DV}, RDs K W vs ds → RDs K W ws es → RDs K W (vs ++ ws) (ds ++ es)
  | _, _, _, _, .nil, h => h
  | _, _, _, _, .cons h t, q => .cons h (RDs.append t q)
theorem perm_ok {vs : List V} {us : List Value} {pm : List Nat} {m : Nat} (rv : Vals vs us) (hp : (pm.filterMap fun i => us[i]?).length = m) (hm : pm.length = m) : ∀ i ∈ pm, i < vs.length := by
  intro i hi
  rw [rv.length]
  refine Nat.lt_of_not_le fun h => ?_
  have : (pm.filterMap fun i => us[i]?).length < pm.length := by
    clear hp hm
    induction pm with
    | nil => cases hi
    | cons j r ih =>
      rw [List.filterMap_cons]
      rcases List.mem_cons.mp hi with e | e
      · subst e
        rw [List.getElem?_eq_none_iff.mpr h]
        exact Nat.lt_succ_of_le (List.length_filterMap_le _ _)
      · have q := ih e
        cases us[j]? with
        | none => exact Nat.lt_succ_of_lt q
        | some u => exact Nat.succ_lt_succ q
  omega
/-! keywords -/
theorem kwn {env : Env} {pos : Pos} : ∀ {kws : List Keyword} {ns : List Str}, kwNames kws = some ns → (backToKw pos (keywordEach kws env)).all (·.1.isSome) = true ∧ (backToKw pos (keywordEach kws env)).filterMap (·.1) = ns ∧ (backToKw pos (keywordEach kws env)).any (·.1.isNone) = false ∧ ns.length = kws.length
  | [], _, h => by cases h; exact ⟨rfl, rfl, rfl, rfl⟩
  | ⟨some y, e, q⟩ :: r, ns, h => by
    obtain ⟨ms, h1, h2⟩ := Option.map_eq_some_iff.mp h
    subst h2
    obtain ⟨a, b, c, d⟩ := kwn (env := env) (pos := pos) h1
    refine ⟨?_, ?_, ?_, congrArg Nat.succ d⟩
    · show (true && (backToKw pos (keywordEach r env)).all (·.1.isSome)) = true
      rw [a]
      rfl
    · show y :: (backToKw pos (keywordEach r env)).filterMap (·.1) = _
      rw [b]
    · show (false || (backToKw pos (keywordEach r env)).any (·.1.isNone)) = false
      rw [c]
      rfl
  | ⟨none, e, q⟩ :: r, ns, h => by cases h
theorem e_callK (c : Cok cc Φ lv X) (hg : cglob cc x = true) {args : List Expr} {kws : List Keyword} {ns : List Str} {pm : List Nat} (F : Fnk X Φ lv x k args.length ns pm) (hn : kwNames kws = some ns) (hp : (pm.all fun i => decide (i < args.length + ns.length)) = true)
    {ra rk : RA} (hra : args = [] → ra = .nil) (hs : noStar args = true) (ha : PA X args (trA X.K (wA Φ ra))) (hk' : PK X kws (trA X.K (wA Φ rk))) : PE X (.Call (.Name x p) args kws pos) (trE X.K (wE Φ (.callK k args.length ns.length pm ra rk))) := by
  obtain ⟨g1, g2⟩ := cglob_ok c hg
  obtain ⟨f, fd, ps, hm, hk, F, hb⟩ := F.ex
  obtain ⟨n1, n2, n3, n4⟩ := kwn (env := X.env) (pos := pos) hn
  constructor
  rintro pins s σ H Q I ⟨W, τ, R, rfl, kk, g, hw, hq⟩
  simp only [wE] at hw
  refine wpAny_Call_Name_kw (ld_glob I g1 hm ?_ (okN g2).1)
  have fin : ∀ (us : List Value) (z : Shared), AP X pins σ (fun vs H1 => ∃ U ds, U.H = H1 ∧ U.Ok ∧ Le W U ∧ RDs X.K U vs ds ∧ ds.length = args.length ∧ wA Φ rk τ fun zs => zs.length = ns.length ∧ Φ k (perm pm (ds ++ zs)) R) us z →
      wpAny (model X.prog X.w) X.A (evalAll ((backToKw pos (keywordEach kws X.env)).map (·.2))) (fun ks s₂ => X.K.In s₂.heap ∧ wpAny (model X.prog X.w) X.A (call (.ref f) ([] ++ us) (((backToKw pos (keywordEach kws X.env)).filterMap (·.1)).zip ks)) (EP X pins σ Q) X.xe s₂) X.xe z := by
    rintro us z ⟨vs, H1, J, rv, U, ds, rfl, k1, l1, rd, hd1, hd2⟩
    refine thn (hk'.run pos pins z σ _ (fun zs H2 => ∃ Z es, Z.H = H2 ∧ Z.Ok ∧ Le U Z ∧ RDs X.K Z zs es ∧ es.length = ns.length ∧ Φ k (perm pm (ds ++ es)) R) J ⟨U, τ, _, rfl, k1, g.le l1 kk, hd2, fun es zs Z he k2 l2 rz => ⟨Z, es, rfl, k2, l2, rz, he.1, he.2⟩⟩) ?_
    rintro ws y ⟨zs, H2, J2, rz, Z, es, rfl, k2, l2, re, he1, he2⟩
    rw [n2]
    refine ⟨J2.kIn, ?_⟩
    show wpAny _ _ (call (.ref f) us (ns.zip ws)) _ _ _
    refine after_call ?_
    have rvz := Vals.append rv rz
    have rdz := RDs.append (rd.stp l2.stp k1) re
    have hpm : ∀ i ∈ pm, i < (vs ++ zs).length := fun i hi => by
      rw [List.all_eq_true] at hp
      have := of_decide_eq_true (hp i hi)
      rw [List.length_append, rd.length, re.length, hd1, he1]
      exact this
    exact run_P F c.r c.g J2 (hb y us ws J2.kIn (by rw [← rv.length, rd.length, hd1]) (by rw [← rz.length, re.length, he1])) (perm_vals rvz pm hpm) k2 (perm_rds rdz pm hpm) he2
      fun r v Y h1 k3 l3 h2 => hq r v Y h1 k3 (l1.trans kk k1 (l2.trans k1 k2 l3)) h2
  cases args with
  | nil =>
    have := hra rfl
    subst this
    simp only [wA] at hw
    exact PySem.W.callWith_KW0 (h₀ := X.base) I.ok.mod.kin hk n1 (fin [] s ⟨[], W.H, I, .nil, W, [], rfl, kk, Le.refl W, .nil, hw.1, hw.2⟩) (by rw [n3]; rfl)
  | cons e es =>
    unfold noStar at hs
    rw [List.all_cons, Bool.and_eq_true, Bool.not_eq_true'] at hs
    refine PySem.W.callWith_KW (h₀ := X.base) I.ok.mod.kin hk n1 (thn (ha.run pos pins s σ _ _ I ⟨W, τ, _, rfl, kk, g, hw, fun ds vs U hd k1 l1 rv => ⟨U, ds, rfl, k1, l1, rv, hd.1, hd.2⟩⟩) fin) ?_ (star_cons hs.1)
    rw [star_cons hs.1, n3]
    show ((false || (backTo pos (starEach es X.env)).any (·.1)) || false) = false
    rw [star_any hs.2]
    rfl
/-! built-ins by their names -/
theorem bFind_ok {l : List (Str × Nat × Bi)} {n : Nat} {b : Bi} (h : bFind l x n = some b) : (x, n, b) ∈ l := by
  unfold bFind at h
  split at h
  · rename_i q e
    have h1 := List.mem_of_find?_eq_some e
    have h2 := List.find?_some e
    rw [Bool.and_eq_true, beq_iff_eq, beq_iff_eq] at h2
    have h3 : q.2.2 = b := Option.some.inj h
    obtain ⟨a, m, d⟩ := q
    obtain ⟨h4, h5⟩ := h2
    have h4 : a = x := h4
    have h5 : m = n := h5
    have h3 : d = b := h3
    subst h3 h4 h5
    exact h1
  · cases h
theorem bi_imp {K : Fg} {b : Bi} {ra : RA} {σ : L2.St} {H : Hp} {Q : VK} (q : trE K (wE Φ (.bi b ra)) σ H Q) : tCB (rWs K (wBi b)) (trA K (wA Φ ra)) σ H Q := by
  obtain ⟨W, τ, R, rfl, kk, g, hw, hq⟩ := q
  simp only [wE] at hw
  exact ⟨W, τ, _, rfl, kk, g, hw, fun ds vs U hd k1 l1 rv => ⟨U, ds, R, rfl, k1, rv, hd, fun r v Z h1 k2 l2 h2 => hq r v Z h1 k2 (l1.trans kk k1 l2) h2⟩⟩
theorem biTab_ok {n : Nat} {b : Bi} (h : (x, n, b) ∈ biTab) : 0 < n ∧ x ≠ "__name__" ∧ bootBuiltins x = some (biV b) := by
  simp only [biTab, List.mem_cons, Prod.mk.injEq, List.not_mem_nil, or_false] at h
  rcases h with h | h | h | h | h | h | h | h | h | h | h | h <;> (obtain ⟨rfl, rfl, rfl⟩ := h; exact ⟨by decide, by decide, by decide +kernel⟩)
theorem e_bi (c : Cok cc Φ lv X) (hg : cglob cc x = true) (hb : cc.bs.contains x = true) {b : Bi} {e : Expr} {es : List Expr} {n : Nat} (hf : bFind biTab x n = some b) {ra : RA} (hs : noStar (e :: es) = true) (ha : PA X (e :: es) (trA X.K (wA Φ ra))) : PE X (.Call (.Name x p) (e :: es) [] pos) (trE X.K (wE Φ (.bi b ra))) := by
  obtain ⟨g1, g2⟩ := cglob_ok c hg
  obtain ⟨_, hn, hv⟩ := biTab_ok (bFind_ok hf)
  have hm : X.mg x = none := c.bs x (by simpa using hb)
  have hc := biW (X := X) c.calm c.g c.r.units b
  unfold noStar at hs
  rw [List.all_cons, Bool.and_eq_true, Bool.not_eq_true'] at hs
  cases b <;> first
    | exact pE_imp (pe_callB hc g1 hm hv ha hn (okN g2).1 (star_cons hs.1) (star_any hs.2)) fun _ _ _ q => bi_imp q
    | exact pE_imp (pe_callTy hc g1 hm hv ha hn (okN g2).1 (star_cons hs.1) (star_any hs.2)) fun _ _ _ q => bi_imp q
theorem e_ms (c : Cok cc Φ lv X) (hg : cglob cc x = true) {b : Bi} {e : Expr} {es : List Expr} {n : Nat} (hf : bFind cc.ms x n = some b) {ra : RA} (hs : noStar (e :: es) = true) (ha : PA X (e :: es) (trA X.K (wA Φ ra))) (ok : ∃ id, biV b = .builtin id) : PE X (.Call (.Name x p) (e :: es) [] pos) (trE X.K (wE Φ (.bi b ra))) := by
  obtain ⟨g1, g2⟩ := cglob_ok c hg
  have hm := c.ms _ (bFind_ok hf)
  have hc := biW (X := X) c.calm c.g c.r.units b
  obtain ⟨id, hid⟩ := ok
  rw [hid] at hc
  rw [show biV (x, n, b).2.2 = biV b from rfl, hid] at hm
  unfold noStar at hs
  rw [List.all_cons, Bool.and_eq_true, Bool.not_eq_true'] at hs
  exact pE_imp (pe_callBfun hc g1 hm ha (okN g2).1 (star_cons hs.1) (star_any hs.2)) fun _ _ _ q => bi_imp q
theorem tyTab_ok {T : Str} {t : String} (h : tyTab.lookup T = some t) : T ≠ "__name__" ∧ bootBuiltins T = some (.type t) := by
  have h := mem_of_lookup h
  simp only [tyTab, List.mem_cons, Prod.mk.injEq, List.not_mem_nil, or_false] at h
  rcases h with h | h | h | h | h | h <;> (obtain ⟨rfl, rfl⟩ := h; exact ⟨by decide, by decide +kernel⟩)
theorem e_isi (c : Cok cc Φ lv X) (hg : cglob cc ("isinstance" : Str) = true) (hb : cc.bs.contains ("isinstance" : Str) = true) {a : Expr} {y : RE} {T : Str} {t : String} {q : Pos} (hT : cglob cc T = true) (hbT : cc.bs.contains T = true) (ht : tyTab.lookup T = some t) (hs : isStar a = false) (ha : PE X a (trE X.K (wE Φ y))) :
    PE X (.Call (.Name ("isinstance" : Str) p) [a, .Name T q] [] pos) (trE X.K (wE Φ (.isi y t))) := by
  obtain ⟨g1, g2⟩ := cglob_ok c hg
  obtain ⟨g3, g4⟩ := cglob_ok c hT
  obtain ⟨t1, t2⟩ := tyTab_ok ht
  have hm : X.mg ("isinstance" : Str) = none := c.bs _ (by simpa using hb)
  have hm2 : X.mg T = none := c.bs _ (by simpa using hbT)
  have hp : PA X [a, .Name T q] (tCons (trE X.K (wE Φ y)) (tCons (tC (.ty t)) tNil)) := pa_cons ha (pa_cons (pe_bltn g3 hm2 t2 rfl t1 (okN g4).1) pa_nil) (star_cons hs)
  refine pE_imp (pe_callB call_isi g1 hm (by decide +kernel) hp (by decide) (by decide) (star_cons hs) rfl) fun σ H Q q => ?_
  obtain ⟨W, τ, R, rfl, kk, g, hw, hq⟩ := q
  simp only [wE] at hw
  refine ⟨W, τ, _, rfl, kk, g, hw, fun d v U hd k1 l1 rv => ?_⟩
  cases rv with
  | d h =>
    obtain ⟨b, e1, hb⟩ := hd
    exact ⟨v, .ty t, _, .type t, b, rfl, (by constructor), ty_of h, kit_ty e1, hq _ _ U hb k1 l1 (.d (.bl _))⟩
  | _ => exact hd.elim
end
end Pf

namespace Pf
open PySem PySem.Spec PyProof.Rows L2
section
variable {K : Fg} {W : Wd} {σ : L2.St} {τ : SDs}
/-! ### slots -/
theorem set_get {α : Type} {l : List α} {i j : Nat} {x y : α} (h : (l.set i x)[j]? = some y) : (i = j ∧ i < l.length ∧ y = x) ∨ (i ≠ j ∧ l[j]? = some y) := by
  by_cases e : i = j
  · subst e
    by_cases hl : i < l.length
    · rw [List.getElem?_set_self hl] at h
      exact .inl ⟨rfl, hl, (Option.some.inj h).symm⟩
    · rw [List.getElem?_eq_none (by rw [List.length_set]; omega)] at h
      cases h
  · rw [List.getElem?_set_ne e] at h
    exact .inr ⟨e, h⟩
theorem Gd.set (g : Gd K W σ τ) {v : V} {d : DV} (h : RD K W v d) (i : Nat) : Gd K W (σ.set i (some v)) (τ.set i (some (.val d))) := by
  refine ⟨by rw [List.length_set, List.length_set]; exact g.len, fun j x e => ?_, fun j m a xs ys e1 e2 e3 e4 => ?_⟩
  · rcases set_get e with ⟨rfl, hl, e⟩ | ⟨ne, e⟩
    · cases e
      exact ⟨v, by rw [List.getElem?_set_self (by rw [← g.len]; exact hl)], .val h⟩
    · obtain ⟨u, h1, h2⟩ := g.get j x e
      exact ⟨u, by rw [List.getElem?_set_ne ne]; exact h1, h2⟩
  · rcases set_get e1 with ⟨rfl, hl, e⟩ | ⟨ne, e⟩
    · cases e
    · rcases set_get e2 with ⟨rfl, hl, e'⟩ | ⟨ne', e'⟩
      · cases e'
      · rw [List.getElem?_set_ne ne] at e3
        rw [List.getElem?_set_ne ne'] at e4
        exact g.uni j m a xs ys e e' e3 e4
theorem Gd.unset (g : Gd K W σ τ) (i : Nat) : Gd K W (σ.set i none) (τ.set i none) := by
  refine ⟨by rw [List.length_set, List.length_set]; exact g.len, fun j x e => ?_, fun j m a xs ys e1 e2 e3 e4 => ?_⟩
  · rcases set_get e with ⟨rfl, hl, e⟩ | ⟨ne, e⟩
    · cases e
    · obtain ⟨u, h1, h2⟩ := g.get j x e
      exact ⟨u, by rw [List.getElem?_set_ne ne]; exact h1, h2⟩
  · rcases set_get e1 with ⟨rfl, hl, e⟩ | ⟨ne, e⟩
    · cases e
    · rcases set_get e2 with ⟨rfl, hl, e'⟩ | ⟨ne', e'⟩
      · cases e'
      · rw [List.getElem?_set_ne ne] at e3
        rw [List.getElem?_set_ne ne'] at e4
        exact g.uni j m a xs ys e e' e3 e4
theorem Gd.wipe (g : Gd K W σ τ) : ∀ vs : List Nat, Gd K W (wipe σ vs) (wipeD τ vs)
  | [] => g
  | i :: r => (g.wipe r).unset i
theorem wipe_get {vs : List Nat} {i : Nat} (h : i ∈ vs) (hl : i < σ.length) : (wipe σ vs)[i]? = some none := by
  induction vs with
  | nil => cases h
  | cons j r ih =>
    unfold wipe
    by_cases e : j = i
    · subst e
      rw [List.getElem?_set_self (by rw [wipe_length]; exact hl)]
    · rw [List.getElem?_set_ne e]
      rcases List.mem_cons.mp h with z | z
      · exact absurd z.symm e
      · exact ih z
theorem wipe_at {vs : List Nat} {i : Nat} : (wipe σ vs)[i]? = if i ∈ vs ∧ i < σ.length then some none else σ[i]? := by
  by_cases h : i ∈ vs
  · by_cases hl : i < σ.length
    · rw [if_pos ⟨h, hl⟩, wipe_get h hl]
    · rw [if_neg fun z => hl z.2, List.getElem?_eq_none (by rw [wipe_length]; omega), List.getElem?_eq_none (by omega)]
  · rw [if_neg fun z => h z.1, wipe_out h]
theorem wipe_same {ρ : L2.St} {vs : List Nat} (hl : ρ.length = σ.length) (h : ∀ i, i ∉ vs → ρ[i]? = σ[i]?) : wipe ρ vs = wipe σ vs := by
  apply List.ext_getElem?
  intro i
  rw [wipe_at, wipe_at, hl]
  split
  · rfl
  · rename_i n
    by_cases hv : i ∈ vs
    · rw [List.getElem?_eq_none (by rw [hl]; exact Nat.le_of_not_lt fun z => n ⟨hv, z⟩), List.getElem?_eq_none (Nat.le_of_not_lt fun z => n ⟨hv, z⟩)]
    · exact h i hv
/-! ### targets -/
def gNames : List Nat → TGs
  | [] => gNil
  | i :: r => gCons (gName i) (gNames r)
def gOf (K : Fg) : Tg → TG
  | .one i => gName i
  | .many is => gTup K is.length (gNames is)
/-- slots but those of the target are as they were -/
def OffT (tg : Tg) (σ ρ : L2.St) : Prop := ρ.length = σ.length ∧ ∀ i, (match tg with | .one j => i ≠ j | .many is => i ∉ is) → ρ[i]? = σ[i]?
theorem names_sem (k : W.Ok) : ∀ {is : List Nat} {vs : List V} {ds : List PyData} {σ : L2.St} {τ : SDs}, Gd K W σ τ → Rs K W vs ds → ds.length = is.length → ∀ (P : L2.St → Hp → Prop), (∀ ρ, Gd K W ρ (setAll τ is ds) → (ρ.length = σ.length ∧ ∀ i, i ∉ is → ρ[i]? = σ[i]?) → P ρ W.H) → gNames is vs σ W.H P
  | [], _, _, σ, τ, g, .nil, _, P, h => ⟨rfl, h σ g ⟨rfl, fun _ _ => rfl⟩⟩
  | [], _, _, _, _, _, .cons _ _, e, _, _ => by cases e
  | _ :: _, _, _, _, _, _, .nil, e, _, _ => by cases e
  | i :: r, _, _, σ, τ, g, .cons hv ht, e, P, h => ⟨_, _, rfl, names_sem k (g.set (.d hv) i) ht (Nat.succ.inj e) P fun ρ h1 h2 => h ρ h1 ⟨by rw [h2.1, List.length_set], fun j hj => by
      rw [h2.2 j fun z => hj (List.mem_cons_of_mem _ z), List.getElem?_set_ne fun z => hj (by rw [← z]; exact List.mem_cons_self)]⟩⟩
theorem tg_sem (k : W.Ok) {tg : Tg} {v : V} {d : DV} {Q : SDs → Prop} (g : Gd K W σ τ) (r : RD K W v d) (h : wTg tg d τ Q) (P : L2.St → Hp → Prop) (hp : ∀ ρ τ', Gd K W ρ τ' → Q τ' → OffT tg σ ρ → P ρ W.H) : gOf K tg v σ W.H P := by
  cases tg with
  | one i => exact hp _ _ (g.set r i) h ⟨List.length_set, fun j hj => List.getElem?_set_ne fun z => hj z.symm⟩
  | many is =>
    cases r with
    | d r =>
      cases r with
      | tup e hs =>
        exact ⟨_, _, rfl, e, by rw [hs.length]; exact h.1, names_sem k g hs h.1 P fun ρ h1 h2 => hp ρ _ h1 h.2 h2⟩
      | _ => exact h.elim
    | _ => exact h.elim
end
section
variable {X : Cx} {cc : CC} {Φ : Nat → PSp} {lv : Nat} {pos : Pos}
theorem tgName_ok (c : Cok cc Φ lv X) {e : Expr} {i : Nat} (h : tgName cc e = some i) : PG X e (gName i) := by
  unfold tgName at h
  split at h
  · split at h
    · rename_i hl
      obtain ⟨h1, h2⟩ := locK_ok c hl
      exact pg_name c.nd (by rw [c.n]; exact ixOf_get h) h1 h2
    · cases h
  · cases h
theorem tgName_each {cc : CC} {e : Expr} {es : List Expr} {env : Env} {i : Nat} (h : tgName cc e = some i) : assignEach (e :: es) env = (false, assign e env) :: assignEach es env := by
  unfold tgName at h
  split at h
  · rfl
  · cases h
theorem tgNames_ok (c : Cok cc Φ lv X) : ∀ {es : List Expr} {is : List Nat}, tgNames cc es = some is → PGs X es (gNames is) ∧ (assignEach es X.env).length = is.length ∧ (assignEach es X.env).findIdx? (·.1) = none
  | [], is, h => by cases h; exact ⟨pgs_nil, rfl, rfl⟩
  | e :: r, is, h => by
    unfold tgNames at h
    split at h
    · rename_i i js h1 h2
      cases h
      obtain ⟨a, b, d⟩ := tgNames_ok c h2
      have he := tgName_each (es := r) (env := X.env) h1
      refine ⟨pgs_cons (tgName_ok c h1) a (by rw [he]; rfl), by rw [he]; exact congrArg Nat.succ b, ?_⟩
      rw [he, List.findIdx?_cons, d]
      rfl
    · cases h
theorem tg_ok (c : Cok cc Φ lv X) {e : Expr} {tg : Tg} (h : cTg cc e = some tg) : PG X e (gOf X.K tg) := by
  unfold cTg at h
  split at h
  · obtain ⟨i, h1, h2⟩ := Option.map_eq_some_iff.mp h
    subst h2
    exact tgName_ok c h1
  · obtain ⟨is, h1, h2⟩ := Option.map_eq_some_iff.mp h
    subst h2
    obtain ⟨a, b, d⟩ := tgNames_ok c h1
    exact pg_tup c.calm a b d
  · cases h
/-! ### walks by their text -/
theorem i_seq {tg e : Expr} {x : RE} (h : PE X e (trE X.K (wE Φ x))) : PI X tg e (trI X.K (wI Φ (.seq x))) := by
  refine ⟨fun pins s σ H R I q => (pi_seq h).run pins s σ H R I ?_⟩
  obtain ⟨W, τ, Q, rfl, k, g, hw, hq⟩ := q
  simp only [wI] at hw
  refine ⟨W, τ, _, rfl, k, g, hw, fun d v U hd k1 l1 rv => ?_⟩
  obtain ⟨xs, e1, hQ⟩ := hd
  obtain ⟨a, ea, hh⟩ := walk_seq k1 rv e1
  refine ⟨a, ea, ?_⟩
  rcases hh with ⟨h1, h2⟩ | ⟨h1, h2⟩
  · exact .inl ⟨h1, hq xs _ U hQ k1 l1 h2⟩
  · exact .inr ⟨h1, hq xs _ U hQ k1 l1 h2⟩
theorem i_rng (c : Cok cc Φ lv X) {tg a : Expr} {p : Pos} {x : RE} (hg : cglob cc ("range" : Str) = true) (hb : cc.bs.contains ("range" : Str) = true) (hs : isStar a = false) (h : PE X a (trE X.K (wE Φ x))) : PI X tg (.Call (.Name ("range" : Str) p) [a] [] pos) (trI X.K (wI Φ (.rng x))) := by
  obtain ⟨g1, g2⟩ := cglob_ok c hg
  refine ⟨fun pins s σ H R I q => (pi_range1 g1 (c.bs _ (by simpa using hb)) (pa_cons h pa_nil (star_cons hs)) (by rw [star_cons hs]; rfl)).run pins s σ H R I ?_⟩
  obtain ⟨W, τ, Q, rfl, k, g, hw, hq⟩ := q
  simp only [wI] at hw
  refine ⟨W, τ, _, rfl, k, g, hw, fun d v U hd k1 l1 rv => ?_⟩
  obtain ⟨n, rfl, h1, h2, hQ⟩ := dint_of rv hd
  exact ⟨n, rfl, h2, h1, hq _ _ U hQ k1 l1 walk_rng⟩
theorem i_rng2 (c : Cok cc Φ lv X) {tg a b : Expr} {p : Pos} {x y : RE} (hg : cglob cc ("range" : Str) = true) (hb : cc.bs.contains ("range" : Str) = true) (hs : isStar a = false) (hs2 : isStar b = false) (h : PE X a (trE X.K (wE Φ x))) (h2 : PE X b (trE X.K (wE Φ y))) :
    PI X tg (.Call (.Name ("range" : Str) p) [a, b] [] pos) (trI X.K (wI Φ (.rng2 x y))) := by
  obtain ⟨g1, g2⟩ := cglob_ok c hg
  refine ⟨fun pins s σ H R I q => (pi_range2 g1 (c.bs _ (by simpa using hb)) (pa_cons h (pa_cons h2 pa_nil (star_cons hs2)) (star_cons hs)) (by rw [star_cons hs, star_cons hs2]; rfl) (by rw [star_cons hs2]; rfl)).run pins s σ H R I ?_⟩
  obtain ⟨W, τ, Q, rfl, k, g, hw, hq⟩ := q
  simp only [wI] at hw
  refine ⟨W, τ, _, rfl, k, g, hw, fun d v U hd k1 l1 rv => ?_⟩
  refine ⟨U, τ, _, rfl, k1, g.le l1 k, hd, fun e u Z he k2 l2 ru => ?_⟩
  obtain ⟨m, rfl, he⟩ := dint_of rv he
  obtain ⟨n, rfl, h1, hQ⟩ := dint_of ru he
  exact ⟨m, n, rfl, h1, hq _ _ Z hQ k2 (l1.trans k k1 l2) walk_rng⟩
/-! ### comprehensions -/
/-- a world in which the new list at D grows -/
structure Grw (K : Fg) (U Z : Wd) (D : Addr) (acc : List PyData) : Prop where
  ok : Z.Ok
  sq : Sq U Z
  o : ∀ a, Z.O a ↔ (U.O a ∨ a = D)
  h : ∃ vs, Z.H D = some (.lst vs) ∧ Rs K Z vs acc
theorem grw_start {K : Fg} {U : Wd} (k : U.Ok) {D : Addr} (n : U.H D = none) : Grw K U { U with H := upd U.H D (.lst []), O := fun a => U.O a ∨ a = D } D [] := by
  have ne : ∀ {a : Addr} {u : HO}, U.H a = some u → upd U.H D (.lst []) a = some u := fun {a u} e => by rw [upd_ne (ne_of_none e n)]; exact e
  refine ⟨⟨fun a h => ?_, fun a h => ?_, fun a h => ?_, fun a h z => ?_⟩, ⟨⟨fun a u e _ _ => ne e, fun _ h => h, fun _ h => .inl h, fun _ h => h, fun _ h => .inl h, fun a h => ?_⟩, fun a xs h e => ⟨ne e, .inl h⟩⟩, fun a => Iff.rfl, ⟨[], upd_same, .nil⟩⟩
  · obtain ⟨h1, c, hh, m, e, r⟩ := k.va a h
    exact ⟨h1, c, hh, m, ne e, r⟩
  · obtain ⟨u, e⟩ := k.at_ a h
    exact ⟨u, ne e⟩
  · rcases h with h | h
    · obtain ⟨xs, e⟩ := k.ot a h
      exact ⟨xs, ne e⟩
    · exact ⟨[], by rw [h]; exact upd_same⟩
  · rcases h with h | h
    · exact k.oa a h z
    · obtain ⟨u, e⟩ := k.at_ a z
      rw [h] at e
      exact some_ne e n
  · rcases h with h | h
    · exact .inl h
    · exact .inr (by rw [h]; exact n)
theorem Grw.le {K : Fg} {U Z Y : Wd} {D : Addr} {acc : List PyData} (k : U.Ok) (g : Grw K U Z D acc) (l : Le Z Y) (y : Y.Ok) : Grw K U Y D acc := by
  obtain ⟨vs, e, r⟩ := g.h
  exact ⟨y, g.sq.trans k g.ok (l.sq g.ok), fun a => by rw [l.o]; exact g.o a, ⟨vs, l.ext _ _ e (g.ok.ov ((g.o D).mpr (.inr rfl))), r.stp l.stp g.ok⟩⟩
theorem Grw.put {K : Fg} {U Z : Wd} {D : Addr} {acc : List PyData} (k : U.Ok) (n : U.H D = none) (g : Grw K U Z D acc) {v : V} {d : PyData} (r : R K Z v d) :
    ∃ vs, Z.H D = some (.lst vs) ∧ vs.length = acc.length ∧ Grw K U { Z with H := upd Z.H D (.lst (vs ++ [v])) } D (acc ++ [d]) := by
  obtain ⟨vs, e, h⟩ := g.h
  obtain ⟨g1, g2⟩ := grow (ys := vs ++ [v]) g.ok ((g.o D).mpr (.inr rfl)) e
  refine ⟨vs, e, h.length, g1, ⟨?_, fun a xs ho ea => ?_⟩, g.o, ⟨_, upd_same, (h.stp g2 g.ok).append (.cons (r.stp g2 g.ok) .nil)⟩⟩
  · exact g.sq.stp.trans k g.ok g2 (g.sq.there k)
  · obtain ⟨e1, o1⟩ := g.sq.own a xs ho ea
    refine ⟨?_, o1⟩
    show upd Z.H D _ a = _
    rw [upd_ne (ne_of_none ea n)]
    exact e1
theorem Grw.done {K : Fg} {U Z : Wd} {D : Addr} {acc : List PyData} (k : U.Ok) (n : U.H D = none) (g : Grw K U Z D acc) : Le U { Z with O := U.O } ∧ ({ Z with O := U.O } : Wd).Ok ∧ R K { Z with O := U.O } (.ref D) (.list acc) := by
  have sub : ∀ a, U.O a → Z.O a := fun a h => (g.o a).mpr (.inl h)
  obtain ⟨vs, e, h⟩ := g.h
  refine ⟨⟨fun a o ea nv => ?_, g.sq.stp.a1, g.sq.stp.a2, g.sq.stp.v1, g.sq.stp.v2, rfl⟩, ⟨g.ok.va, g.ok.at_, fun a h => g.ok.ot a (sub a h), fun a h => g.ok.oa a (sub a h)⟩, .lst e (fun z => g.ok.oa D ((g.o D).mpr (.inr rfl)) z) (fun z => ?_) (h.less sub)⟩
  · by_cases ho : U.O a
    · obtain ⟨xs, ex⟩ := k.ot a ho
      rw [ex] at ea
      cases ea
      exact (g.sq.own a xs ho ex).1
    · exact g.sq.stp.ext a o ea nv ho
  · obtain ⟨xs, ex⟩ := k.ot D z
    exact some_ne ex n
theorem tgIn_off {tg : Tg} {vs : List Nat} (h : tgIn tg vs = true) {σ ρ : L2.St} (o : OffT tg σ ρ) : wipe ρ vs = wipe σ vs := by
  refine wipe_same o.1 fun i hi => o.2 i ?_
  cases tg with
  | one j =>
    intro z
    subst z
    exact hi (by simpa [tgIn] using h)
  | many is =>
    intro z
    unfold tgIn at h
    rw [List.all_eq_true] at h
    exact hi (by simpa using h i z)
theorem wipe_wipe {σ : L2.St} {vs : List Nat} : wipe (wipe σ vs) vs = wipe σ vs := wipe_same (wipe_length σ vs) fun i hi => wipe_out hi
def turnLc (Φ : Nat → PSp) (wp : List Nat) (g : Tg) (t : RT) (x : RE) (τ : SDs) : DV → (Option PyData → Prop) → Prop := fun y k => wTg g y (wipeD τ wp) fun τ2 => wT Φ t τ2 fun b => if b = true then wE Φ x τ2 fun r => match r with
      | .d z => k (some z)
      | _ => False
    else k none
theorem lc_imp {K : Fg} {vs : List Nat} {g : Tg} {it : RI} {t : RT} {x : RE} (hin : tgIn g vs = true) {σ : L2.St} {H : Hp} {Q : VK} (q : trE K (wE Φ (.lc vs g it t x)) σ H Q) : tLc (trI K (wI Φ it)) (gOf K g) (trT K (wT Φ t)) (trE K (wE Φ x)) vs σ H Q := by
  obtain ⟨W, τ, R, rfl, k, gd, hw, hq⟩ := q
  simp only [wE] at hw
  refine ⟨W, τ, _, rfl, k, gd, hw, fun xs J U hxs k1 l1 hJ => ?_⟩
  obtain ⟨hlen, hgo⟩ := hxs
  intro D hD
  have gd1 := gd.le l1 k
  have hgo : goLc (turnLc Φ vs g t x τ) (xs.drop 0) [] fun ys => R (.d (.list ys)) := hgo
  refine ⟨fun i m H' => m = xs.length - i ∧ i ≤ xs.length ∧ ∃ Z acc, Z.H = H' ∧ Grw K U Z D acc ∧ acc.length ≤ i ∧ goLc (turnLc Φ vs g t x τ) (xs.drop i) acc fun ys => R (.d (.list ys)), ⟨xs.length, rfl, Nat.zero_le _, _, [], rfl, grw_start k1 hD, Nat.le_refl _, hgo⟩, ?_⟩
  rintro i m H' ⟨rfl, hil, Z, acc, rfl, gz, hacc, hgo⟩
  have walk := hJ Z gz.ok gz.sq.stp i
  by_cases hlt : i < xs.length
  · refine .inr ⟨(walk.1 hlt).1, fun H2 => ∃ Y acc, Y.H = H2 ∧ Grw K U Y D acc ∧ acc.length ≤ i + 1 ∧ goLc (turnLc Φ vs g t x τ) (xs.drop (i + 1)) acc fun ys => R (.d (.list ys)), fun H2 h => ⟨xs.length - (i + 1), by omega, rfl, hlt, h⟩, fun y H2 yl => ?_⟩
    obtain ⟨rfl, d, hd, rd⟩ := (walk.1 hlt).2 y H2 yl
    have hdr : xs.drop i = d :: xs.drop (i + 1) := by
      rw [List.drop_eq_getElem_cons hlt]
      rw [List.getElem?_eq_getElem hlt] at hd
      rw [Option.some.inj hd]
    rw [hdr] at hgo
    have hturn : turnLc Φ vs g t x τ d (fun o => goLc (turnLc Φ vs g t x τ) (xs.drop (i + 1)) (acc ++ o.toList) fun ys => R (.d (.list ys))) := hgo
    refine tg_sem gz.ok ((gd1.sq gz.sq k1).wipe vs) rd hturn _ fun ρ τ2 gd2 ht2 off => ⟨(tgIn_off hin off).trans wipe_wipe, ?_⟩
    refine ⟨Z, τ2, _, rfl, gz.ok, gd2, ht2, fun b Y hb k2 l2 => ?_⟩
    have gy := gz.le k1 l2 k2
    cases b with
    | true =>
      refine iteT ⟨Y, τ2, _, rfl, k2, gd2.le l2 gz.ok, hb, fun r v Y2 hr k3 l3 rv => ?_⟩
      cases rv with
      | d h =>
        obtain ⟨us, e, hl, g'⟩ := (gy.le k1 l3 k3).put k1 hD h
        exact ⟨us, e, by rw [hl]; exact szl (by omega), _, _, rfl, g', by rw [List.length_append, List.length_singleton]; omega, hr⟩
      | _ => exact hr.elim
    | false =>
      refine iteF ⟨Y, acc, rfl, gy, by omega, ?_⟩
      have hb : goLc (turnLc Φ vs g t x τ) (xs.drop (i + 1)) (acc ++ []) fun ys => R (.d (.list ys)) := hb
      rw [List.append_nil] at hb
      exact hb
  · refine .inl ⟨walk.2 (Nat.le_of_not_lt hlt), ?_⟩
    rw [List.drop_eq_nil_of_le (Nat.le_of_not_lt hlt)] at hgo
    obtain ⟨h1, h2, h3⟩ := gz.done k1 hD
    exact (show Q (.ref D) ({ Z with O := U.O } : Wd).H from hq _ (.ref D) { Z with O := U.O } hgo h2 (l1.trans k k1 h1) (.d h3))
theorem e_lc (c : Cok cc Φ lv X) {elt tg iter : Expr} {ifs : List Expr} {scope : Scope} {g : Tg} {it : RI} {t : RT} {x : RE} (hb : blkC cc.N cc.sc scope (ownOf cc.N scope) = true) (hi' : iterOk iter = true) (hin : tgIn g ((ownOf cc.N scope).map (·.2)) = true)
    (hi : ∀ tg, PI X tg iter (trI X.K (wI Φ it))) (hg : cTg (inCC cc scope) tg = some g)
    (ht : ∀ Y : Cx, Cok (inCC cc scope) Φ lv Y → PTs Y ifs (trT Y.K (wT Φ t))) (he : ∀ Y : Cx, Cok (inCC cc scope) Φ lv Y → PE Y elt (trE Y.K (wE Φ x))) :
    PE X (.ListComp elt [⟨tg, iter, ifs, 0⟩] scope pos) (trE X.K (wE Φ (.lc ((ownOf cc.N scope).map (·.2)) g it t x))) := by
  have ok : BlkOk X.N X.env.scope scope (ownOf cc.N scope) := by rw [c.n, c.sc]; exact blkOk_by hb
  have hs : ∀ y, foldedSetIterable iter X.env y = pure y := by intro y; cases iter <;> first | rfl | cases hi'
  have base := pe_lc (pos := pos) (g := gOf X.K g) (tt := trT X.K (wT Φ t)) (te := trE X.K (wE Φ x)) c.calm c.nd (hi tg) ok (fun s H C cl fp => tg_ok (c.blk s H scope C cl fp) hg) (fun s H C cl fp => ht _ (c.blk s H scope C cl fp)) (fun s H C cl fp => he _ (c.blk s H scope C cl fp)) hs
  generalize hv : (ownOf cc.N scope).map (·.2) = vs at hin base ⊢
  refine pE_imp base fun σ H Q q => lc_imp hin q
end
end Pf

namespace Pf
open PySem PySem.Spec PyProof.Rows L2
/-- all of a text's pieces, to a depth -/
structure Snd (Φ : Nat → PSp) (lv n : Nat) : Prop where
  e : ∀ {cc : CC} {X : Cx} {e : Expr} {r : RE}, Cok cc Φ lv X → cE n cc e = some r → PE X e (trE X.K (wE Φ r))
  a : ∀ {cc : CC} {X : Cx} {e : List Expr} {r : RA}, Cok cc Φ lv X → cA n cc e = some r → PA X e (trA X.K (wA Φ r))
  k : ∀ {cc : CC} {X : Cx} {e : List Keyword} {r : RA}, Cok cc Φ lv X → cK n cc e = some r → PK X e (trA X.K (wA Φ r))
  o : ∀ {cc : CC} {X : Cx} {e : Option Expr} {r : RO}, Cok cc Φ lv X → cO n cc e = some r → PO X e (trO X.K (wO Φ r))
  t : ∀ {cc : CC} {X : Cx} {e : Expr} {r : RT}, Cok cc Φ lv X → cT n cc e = some r → PT X e (trT X.K (wT Φ r))
  w : ∀ {cc : CC} {X : Cx} {op : BoolOp} {vs : List Expr} {pos : Pos} {r : RT}, Cok cc Φ lv X → cT n cc (.BoolOp op vs pos) = some r → PW X (.BoolOp op vs pos) (trT X.K (wT Φ r))
  ts : ∀ {cc : CC} {X : Cx} {e : List Expr} {r : RT}, Cok cc Φ lv X → cTs n cc e = some r → PTs X e (trT X.K (wT Φ r))
  i : ∀ {cc : CC} {X : Cx} {e : Expr} {r : RI}, Cok cc Φ lv X → cI n cc e = some r → ∀ tg, PI X tg e (trI X.K (wI Φ r))
section
variable {Φ : Nat → PSp} {lv n : Nat}
theorem snd0 : Snd Φ lv 0 := by
  constructor
  · intro cc X e r c h; simp [cE] at h
  · intro cc X e r c h; simp [cA] at h
  · intro cc X e r c h; simp [cK] at h
  · intro cc X e r c h; simp [cO] at h
  · intro cc X e r c h; simp [cT] at h
  · intro cc X op vs pos r c h; simp [cT] at h
  · intro cc X e r c h; simp [cTs] at h
  · intro cc X e r c h; simp [cI] at h
theorem snd_a (S : Snd Φ lv n) {cc : CC} {X : Cx} {e : List Expr} {r : RA} (c : Cok cc Φ lv X) (h : cA (n + 1) cc e = some r) : PA X e (trA X.K (wA Φ r)) := by
  cases e with
  | nil => simp only [cA] at h; cases h; exact a_nil
  | cons e es =>
    simp only [cA] at h
    split at h
    · cases h
    · rename_i hs
      split at h
      · rename_i x y h1 h2
        cases h
        exact a_cons (by simpa using hs) (S.e c h1) (S.a c h2)
      · cases h
theorem snd_k (S : Snd Φ lv n) {cc : CC} {X : Cx} {e : List Keyword} {r : RA} (c : Cok cc Φ lv X) (h : cK (n + 1) cc e = some r) : PK X e (trA X.K (wA Φ r)) := by
  cases e with
  | nil => simp only [cK] at h; cases h; exact k_nil
  | cons e es =>
    obtain ⟨nm, e, kp⟩ := e
    simp only [cK] at h
    split at h
    · rename_i x y h1 h2
      cases h
      exact k_cons (S.e c h1) (S.k c h2)
    · cases h
theorem snd_o (S : Snd Φ lv n) {cc : CC} {X : Cx} {e : Option Expr} {r : RO} (c : Cok cc Φ lv X) (h : cO (n + 1) cc e = some r) : PO X e (trO X.K (wO Φ r)) := by
  cases e with
  | none => simp only [cO] at h; cases h; exact o_none
  | some e =>
    simp only [cO] at h
    obtain ⟨x, h1, h2⟩ := Option.map_eq_some_iff.mp h
    subst h2
    exact o_some (S.e c h1)
theorem snd_w (S : Snd Φ lv n) {cc : CC} {X : Cx} {op : BoolOp} {vs : List Expr} {pos : Pos} {r : RT} (c : Cok cc Φ lv X) (h : cT (n + 1) cc (.BoolOp op vs pos) = some r) : PW X (.BoolOp op vs pos) (trT X.K (wT Φ r)) := by
  simp only [cT] at h
  split at h
  · cases h
  · have := S.t c h
    cases op
    · exact pw_and1 this
    · exact pw_or1 this
  · split at h
    · rename_i x y h1 h2
      cases h
      exact w_and (S.t c h1) (S.w c h2)
    · rename_i x y h1 h2
      cases h
      exact w_or (S.t c h1) (S.w c h2)
    · cases h
theorem snd_t (S : Snd Φ lv n) {cc : CC} {X : Cx} {e : Expr} {r : RT} (c : Cok cc Φ lv X) (h : cT (n + 1) cc e = some r) : PT X e (trT X.K (wT Φ r)) := by
  have key : (if plainT e = true then (cE n cc e).map RT.val else none) = some r → PT X e (trT X.K (wT Φ r)) := fun h => by
    split at h
    · rename_i hp
      obtain ⟨x, h1, h2⟩ := Option.map_eq_some_iff.mp h
      subst h2
      exact t_val hp (S.e c h1)
    · cases h
  cases e with
  | BoolOp op vs pos => exact (snd_w S c h).pt
  | UnaryOp op a pos =>
    cases op with
    | Not =>
      simp only [cT] at h
      obtain ⟨x, h1, h2⟩ := Option.map_eq_some_iff.mp h
      subst h2
      exact t_not (S.t c h1)
    | _ => simp only [cT] at h; exact key h
  | Compare a ops bs pos =>
    unfold cT at h
    split at h <;> (first | (rename_i hh; cases hh; done) | skip)
    · rename_i hh; cases hh
      obtain ⟨x, h1, h2⟩ := Option.map_eq_some_iff.mp h
      subst h2
      exact t_isN (S.e c h1)
    · rename_i hh; cases hh
      obtain ⟨x, h1, h2⟩ := Option.map_eq_some_iff.mp h
      subst h2
      exact t_notN (S.e c h1)
    · rename_i hh; cases hh
      split at h
      · cases h
      · rename_i hm
        split at h
        · rename_i o x y h1 h2 h3
          cases h
          exact t_cmp c h1 (by simpa using hm) (S.e c h2) (S.e c h3)
        · cases h
    · exact key h
  | _ => simp only [cT] at h; exact key h
theorem snd_ts (S : Snd Φ lv n) {cc : CC} {X : Cx} {e : List Expr} {r : RT} (c : Cok cc Φ lv X) (h : cTs (n + 1) cc e = some r) : PTs X e (trT X.K (wT Φ r)) := by
  simp only [cTs] at h
  split at h
  · cases h; exact t_yes
  · exact pts_one (S.t c h)
  · cases h
theorem snd_i (S : Snd Φ lv n) {cc : CC} {X : Cx} {e : Expr} {r : RI} (c : Cok cc Φ lv X) (h : cI (n + 1) cc e = some r) (tg : Expr) : PI X tg e (trI X.K (wI Φ r)) := by
  unfold cI at h
  split at h
  · split at h
    · rename_i hh
      simp only [Bool.and_eq_true, beq_iff_eq, Bool.not_eq_true'] at hh
      obtain ⟨⟨⟨h1, h2⟩, h3⟩, h4⟩ := hh
      subst h1
      obtain ⟨x, e1, e2⟩ := Option.map_eq_some_iff.mp h
      subst e2
      exact i_rng c h2 h3 h4 (S.e c e1)
    · obtain ⟨x, e1, e2⟩ := Option.map_eq_some_iff.mp h
      subst e2
      exact i_seq (S.e c e1)
  · split at h
    · rename_i hh
      simp only [Bool.and_eq_true, beq_iff_eq, Bool.not_eq_true'] at hh
      obtain ⟨⟨⟨⟨h1, h2⟩, h3⟩, h4⟩, h5⟩ := hh
      subst h1
      split at h
      · rename_i x y e1 e2
        cases h
        exact i_rng2 c h2 h3 h4 h5 (S.e c e1) (S.e c e2)
      · cases h
    · obtain ⟨x, e1, e2⟩ := Option.map_eq_some_iff.mp h
      subst e2
      exact i_seq (S.e c e1)
  · obtain ⟨x, e1, e2⟩ := Option.map_eq_some_iff.mp h
    subst e2
    exact i_seq (S.e c e1)
theorem cA_nil {cc : CC} {r : RA} (h : cA n cc [] = some r) : r = .nil := by
  cases n with
  | zero => simp [cA] at h
  | succ n => simp only [cA] at h; cases h; rfl
theorem cE_star {cc : CC} {e : Expr} {r : RE} (h : cE n cc e = some r) : isStar e = false := by
  cases n with
  | zero => simp [cE] at h
  | succ n => cases e <;> first | rfl | (simp [cE] at h)
theorem e_dic {X : Cx} {pos : Pos} : PE X (.Dict [] [] pos) (trE X.K (wE Φ .dic)) := pE_imp pe_dnewK fun σ H Q q => by
  obtain ⟨W, τ, R, rfl, k, g, hw, hq⟩ := q
  simp only [wE] at hw
  exact fun d hd => hq _ _ _ hw (lay k hd).2 (lay k hd).1 (.d (.dic upd_same))
theorem snd_e (S : Snd Φ lv n) {cc : CC} {X : Cx} {e : Expr} {r : RE} (c : Cok cc Φ lv X) (h : cE (n + 1) cc e = some r) : PE X e (trE X.K (wE Φ r)) := by
  unfold cE at h
  split at h
  · -- constants
    split at h
    · cases h; exact e_con pe_non fun _ _ => .non
    · cases h; exact e_con pe_bl fun _ _ => .bl _
    · cases h; exact e_con pe_int fun _ _ => .int _
    · cases h; exact e_con pe_str fun _ _ => .str _
    · cases h
  · split at h
    · rename_i i hi
      cases h
      exact e_var c hi
    · split at h
      · rename_i hg
        obtain ⟨d, h1, h2⟩ := Option.map_eq_some_iff.mp h
        subst h2
        exact e_glo c hg h1
      · cases h
  · obtain ⟨x, h1, h2⟩ := Option.map_eq_some_iff.mp h
    subst h2
    exact e_tup (S.a c h1)
  · obtain ⟨x, h1, h2⟩ := Option.map_eq_some_iff.mp h
    subst h2
    exact e_lst (S.a c h1)
  · cases h
    exact e_dic
  · split at h
    · rename_i o x y h1 h2 h3
      cases h
      exact e_bin h1 (S.e c h2) (S.e c h3)
    · cases h
  · obtain ⟨x, h1, h2⟩ := Option.map_eq_some_iff.mp h
    subst h2
    exact e_neg (S.e c h1)
  · obtain ⟨x, h1, h2⟩ := Option.map_eq_some_iff.mp h
    subst h2
    exact e_not (S.e c h1)
  · split at h
    · cases h
    · exact pe_one (S.e c h)
    · split at h
      · rename_i x y h1 h2
        cases h
        exact e_and (S.e c h1) (S.e c h2)
      · rename_i x y h1 h2
        cases h
        exact e_or (S.e c h1) (S.e c h2)
      · cases h
  · obtain ⟨x, h1, h2⟩ := Option.map_eq_some_iff.mp h
    subst h2
    exact e_isN (S.e c h1)
  · obtain ⟨x, h1, h2⟩ := Option.map_eq_some_iff.mp h
    subst h2
    exact e_notN (S.e c h1)
  · split at h
    · cases h
    · rename_i hm
      split at h
      · rename_i o x y h1 h2 h3
        cases h
        exact e_cmp c h1 (by simpa using hm) (S.e c h2) (S.e c h3)
      · cases h
  · split at h
    · rename_i t x y h1 h2 h3
      cases h
      exact e_ite (S.t c h1) (S.e c h2) (S.e c h3)
    · cases h
  · split at h
    · rename_i x l u h1 h2 h3
      cases h
      exact e_slc (S.e c h1) (S.o c h2) (S.o c h3)
    · cases h
  · split at h
    · rename_i hp
      split at h
      · rename_i x y h1 h2
        cases h
        exact e_idx hp (S.e c h1) (S.e c h2)
      · cases h
    · cases h
  · rename_i x p args kws q
    split at h
    · rename_i hg
      split at h
      · split at h
        · rename_i k hk
          obtain ⟨ra, h1, h2⟩ := Option.map_eq_some_iff.mp h
          subst h2
          cases args with
          | nil =>
            have := cA_nil h1
            subst this
            exact e_call0 c hg (c.fs _ _ hk)
          | cons a as => exact e_call1 c hg (c.fs _ _ hk) (cA_star h1) (S.a c h1)
        · split at h
          · rename_i b hb
            obtain ⟨ra, h1, h2⟩ := Option.map_eq_some_iff.mp h
            subst h2
            obtain ⟨m1, m2⟩ := c.mok _ (bFind_ok hb)
            cases args with
            | nil => exact absurd m1 (Nat.lt_irrefl _)
            | cons a as => exact e_ms c hg hb (cA_star h1) (S.a c h1) m2
          · split at h
            · rename_i hbs
              split at h
              · rename_i b hb
                obtain ⟨ra, h1, h2⟩ := Option.map_eq_some_iff.mp h
                subst h2
                cases args with
                | nil => exact absurd (biTab_ok (bFind_ok hb)).1 (Nat.lt_irrefl _)
                | cons a as => exact e_bi c hg hbs hb (cA_star h1) (S.a c h1)
              · split at h
                · split at h
                  · rename_i hh
                    simp only [Bool.and_eq_true, beq_iff_eq] at hh
                    obtain ⟨⟨e1, e2⟩, e3⟩ := hh
                    subst e1
                    split at h
                    · rename_i t y h1 h2
                      cases h
                      exact e_isi c hg hbs e2 e3 h1 (cE_star h2) (S.e c h2)
                    · cases h
                  · cases h
                · cases h
            · cases h
      · split at h
        · rename_i k ns hk hn
          split at h
          · rename_i pr hp
            split at h
            · rename_i u z h1 h2
              split at h
              · rename_i hall
                cases h
                have hm := List.mem_of_find?_eq_some hp
                have he := List.find?_some hp
                simp only [Bool.and_eq_true, beq_iff_eq, decide_eq_true_eq] at he
                obtain ⟨⟨e1, e2⟩, e3⟩ := he
                have F := c.kb pr hm k (by rw [e1]; exact hk)
                rw [e1, e2, e3] at F
                exact e_callK c hg F hn hall (fun z => by subst z; exact cA_nil h1) (cA_star h1) (S.a c h1) (S.k c h2)
              · cases h
            · cases h
          · cases h
        · cases h
    · cases h
  · split at h
    · rename_i hb
      rw [Bool.and_eq_true] at hb
      split at h
      · rename_i it g t x h1 h2 h3 h4
        split at h
        · rename_i hin
          cases h
          exact e_lc c hb.1 hb.2 hin (S.i c h1) h2 (fun Y d => S.ts d h3) fun Y d => S.e d h4
        · cases h
      · cases h
    · cases h
  · cases h
theorem snd : ∀ n : Nat, Snd Φ lv n
  | 0 => snd0
  | n + 1 => ⟨snd_e (snd n), snd_a (snd n), snd_k (snd n), snd_o (snd n), snd_t (snd n), snd_w (snd n), snd_ts (snd n), snd_i (snd n)⟩
end
end Pf

namespace Pf
open PySem PySem.Spec PyProof.Rows L2
/-! ### statements -/
mutual
def namesE : Nat → Expr → List Str
  | 0, _ => []
  | n + 1, e => match e with
    | .Name x _ => [x]
    | .Tuple es _ _ => namesA n es
    | .List es _ => namesA n es
    | .BinOp a _ b _ => namesE n a ++ namesE n b
    | .UnaryOp _ a _ => namesE n a
    | .BoolOp _ es _ => namesA n es
    | .Compare a _ bs _ => namesE n a ++ namesA n bs
    | .IfExp a b c _ => namesE n a ++ namesE n b ++ namesE n c
    | .Subscript a b _ => namesE n a ++ namesE n b
    | .Slice a b _ _ => (match a with | some e => namesE n e | none => []) ++ (match b with | some e => namesE n e | none => [])
    | .Call f args kws _ => namesE n f ++ namesA n args ++ namesK n kws
    | .ListComp a [⟨_, it, ifs, _⟩] _ _ => namesE n a ++ namesE n it ++ namesA n ifs
    | .Attribute a _ _ => namesE n a
    | _ => []
def namesA : Nat → List Expr → List Str
  | 0, _ => []
  | n + 1, es => match es with
    | [] => []
    | e :: r => namesE n e ++ namesA n r
def namesK : Nat → List Keyword → List Str
  | 0, _ => []
  | n + 1, es => match es with
    | [] => []
    | ⟨_, e, _⟩ :: r => namesE n e ++ namesK n r
end
/-- the growing lists that are read as a whole -/
def frzOf (cc : CC) (ns : List Str) (s : RS) : RS := if cc.ap.isEmpty = true then s else
  (cc.ap.filter fun i => ns.any fun x => decide (cslot cc x = some i)).foldr (fun i r => .frz i r) s
mutual
def cS : Nat → CC → Stmt → Option RS
  | 0, _, _ => none
  | n + 1, cc, st => match st with
    | .Return (some (.List es q)) _ => if cc.ap.contains 1000 = true then (cA n cc es).map .retV else (cE n cc (.List es q)).map fun x => frzOf cc (namesA n es) (.ret x)
    | .Return (some e) _ => (cE n cc e).map fun x => frzOf cc (namesE n e) (.ret x)
    | .Return none _ => some .retN
    | .Assign [.Subscript (.Name v _) (.Constant (.int j) _ _) _] e _ => if (isLC e || decide (j < 0)) = true then none else match cslot cc v, cE n cc e with
      | some i, some x => some (.setV i j.toNat x)
      | _, _ => none
    | .Assign [.Tuple [.Subscript (.Name v _) (.Constant (.int j) _ _) _, .Name y p] _ _] (.Call f as ks q) _ => if decide (j < 0) = true then none else match cslot cc v, tgName cc (.Name y p), cE n cc (.Call f as ks q) with
      | some i, some m, some x => some (.setV2 i j.toNat m x)
      | _, _, _ => none
    | .Assign [.Name y p] (.List es q) _ => match tgName cc (.Name y p), cA n cc es with
      | some i, some ra => if cc.ap.contains i = true then some (frzOf cc (namesA n es) (.own i ra)) else (cE n cc (.List es q)).map fun x => frzOf cc (namesA n es) (.asg i x)
      | _, _ => none
    | .Assign [.Name y p] e _ => match tgName cc (.Name y p), cE n cc e with
      | some i, some x => some (frzOf cc (namesE n e) (.asg i x))
      | _, _ => none
    | .Assign [.Tuple ts k p] (.Tuple vs k2 p2) _ => match swp cc ts vs with
      | 0 => match cTg cc (.Tuple ts k p), cE n cc (.Tuple vs k2 p2) with
        | some g, some x => some (frzOf cc (namesA n vs) (.asgT g x))
        | _, _ => none
      | 1 => match tgNames cc ts, cA n cc vs with
        | some is, some ra => if decide is.Nodup = true then some (frzOf cc (namesA n vs) (.par is ra)) else none
        | _, _ => none
      | _ => none
    | .Assign [.Tuple ts k p] e _ => match cTg cc (.Tuple ts k p), cE n cc e with
      | some g, some x => some (frzOf cc (namesE n e) (.asgT g x))
      | _, _ => none
    | .Expr (.Call (.Attribute (.Name x _) m p1) [e] [] p2) _ => if (m == ("append" : Str) && !isStar e && p1.endLine == p2.line) = true then match cslot cc x, cE n cc e with
      | some i, some y => some (frzOf cc (namesE n e) (.app i y))
      | _, _ => none
      else none
    | .Expr (.Call (.Name x p) args kws q) _ => (cE n cc (.Call (.Name x p) args kws q)).map fun y => frzOf cc (namesE n (.Call (.Name x p) args kws q)) (.exp y)
    | .Expr (.Constant (.str _) _ _) _ => some .skip
    | .AugAssign (.Name y p) .Add e _ => match tgName cc (.Name y p), cE n cc e with
      | some i, some x => some (frzOf cc (namesE n e) (.aug i x))
      | _, _ => none
    | .Pass _ => some .skip
    | .Break _ => some .brk
    | .Continue _ => some .cnt
    | .Raise _ _ _ => some .fail
    | .If c a b _ => match cT n cc c, cSs n cc a, cSs n cc b with
      | some t, some x, some y => some (frzOf cc (namesE n c) (.iff t x y))
      | _, _, _ => none
    | .While c b [] _ => match cT n cc c, cSs n cc b with
      | some t, some x => some (.whl t x)
      | _, _ => none
    | .For tg it b [] _ => if iterOk it = true then match cTg cc tg, cI n cc it, cSs n cc b with
      | some g, some i, some x => some (frzOf cc (namesE n it) (.for g i x))
      | _, _, _ => none
      else none
    | _ => none
def cSs : Nat → CC → List Stmt → Option RS
  | 0, _, _ => none
  | n + 1, cc, ss => match ss with
    | [] => some .skip
    | [s] => cS n cc s
    | s :: r => match cS n cc s, cSs n cc r with
      | some x, some y => some (.seq x y)
      | _, _ => none
end
structure Sts (W U : Wd) : Prop where
  stp : Stp W U
  th : ∀ a, W.O a → ∃ o, U.H a = some o
theorem Sts.refl {W : Wd} (k : W.Ok) : Sts W W := ⟨Stp.refl W, fun a h => by obtain ⟨xs, e⟩ := k.ot a h; exact ⟨_, e⟩⟩
theorem Le.sts {W U : Wd} (l : Le W U) (k : W.Ok) : Sts W U := ⟨l.stp, fun a h => (l.sq k).there k a h⟩
theorem Sts.trans {W U Z : Wd} (k : W.Ok) (q : U.Ok) (z : Z.Ok) (l : Sts W U) (m : Sts U Z) : Sts W Z := ⟨l.stp.trans k q m.stp l.th, fun a h => by
  obtain ⟨o, e⟩ := l.th a h
  by_cases hu : U.O a
  · exact m.th a hu
  · exact m.stp.there q z e hu⟩
structure Lk (K : Fg) (W : Wd) (D : Ends) (P : PD) : Prop where
  nx : ∀ U σ τ, U.Ok → Sts W U → Gd K U σ τ → P.nx τ → D.nx σ U.H
  rt : ∀ U v r, U.Ok → Sts W U → RD K U v r → P.rt r → D.rt v U.H
  bk : ∀ U σ τ, U.Ok → Sts W U → Gd K U σ τ → P.bk τ → D.bk σ U.H
  ct : ∀ U σ τ, U.Ok → Sts W U → Gd K U σ τ → P.ct τ → D.ct σ U.H
theorem Lk.on {K : Fg} {W U : Wd} {D : Ends} {P : PD} (h : Lk K W D P) (k : W.Ok) (q : U.Ok) (l : Sts W U) : Lk K U D P :=
  ⟨fun Z σ τ z m g p => h.nx Z σ τ z (l.trans k q z m) g p, fun Z v r z m g p => h.rt Z v r z (l.trans k q z m) g p, fun Z σ τ z m g p => h.bk Z σ τ z (l.trans k q z m) g p, fun Z σ τ z m g p => h.ct Z σ τ z (l.trans k q z m) g p⟩
def trS (K : Fg) (w : PD → SDs → Prop) : TS := fun D σ H => ∃ W τ P, W.H = H ∧ W.Ok ∧ Gd K W σ τ ∧ w P τ ∧ Lk K W D P
section
variable {X : Cx} {cc : CC} {Φ : Nat → PSp} {lv : Nat} {pos : Pos}
/-- an expression's meaning used by a statement -/
theorem use_e {K : Fg} {w : SDs → (DV → Prop) → Prop} {W : Wd} {σ : L2.St} {τ : SDs} {R : DV → Prop} {Q : VK} (k : W.Ok) (g : Gd K W σ τ) (h : w τ R) (hq : ∀ d v U, R d → U.Ok → Le W U → RD K U v d → Q v U.H) : trE K w σ W.H Q := ⟨W, τ, R, rfl, k, g, h, hq⟩
theorem s_ret {e : Expr} {x : RE} (h : PE X e (trE X.K (wE Φ x))) : PS X (.Return (some e) pos) (trS X.K (wS Φ (.ret x))) := pS_imp (ps_ret h) fun D σ H q => by
  obtain ⟨W, τ, P, rfl, k, g, hw, hl⟩ := q
  simp only [wS] at hw
  exact use_e k g hw fun d v U hd k1 l1 rv => hl.rt U v d k1 (l1.sts k) rv hd
theorem s_exp {f : Expr} {as : List Expr} {ks : List Keyword} {q : Pos} {x : RE} (h : PE X (.Call f as ks q) (trE X.K (wE Φ x))) : PS X (.Expr (.Call f as ks q) pos) (trS X.K (wS Φ (.exp x))) := pS_imp (ps_expr h rfl) fun D σ H q => by
  obtain ⟨W, τ, P, rfl, k, g, hw, hl⟩ := q
  simp only [wS] at hw
  exact use_e k g hw fun d v U hd k1 l1 rv => hl.nx U σ τ k1 (l1.sts k) (g.le l1 k) hd
theorem s_retN : PS X (.Return none pos) (trS X.K (wS Φ .retN)) := pS_imp ps_retN fun D σ H q => by
  obtain ⟨W, τ, P, rfl, k, g, hw, hl⟩ := q
  simp only [wS] at hw
  exact hl.rt W .non _ k (Sts.refl k) (.d .non) hw
theorem s_aug (c : Cok cc Φ lv X) {y : Str} {p : Pos} {e : Expr} {i : Nat} {x : RE} (hi : tgName cc (.Name y p) = some i) (h : PE X e (trE X.K (wE Φ x))) : PS X (.AugAssign (.Name y p) .Add e pos) (trS X.K (wS Φ (.aug i x))) := by
  unfold tgName at hi
  dsimp only at hi
  split at hi
  · rename_i hl
    obtain ⟨h1, h2⟩ := locK_ok c hl
    refine pS_imp (ps_aug c.nd (by rw [c.n]; exact ixOf_get hi) h1 h ip_add h2) fun D σ H q => ?_
    obtain ⟨W, τ, P, rfl, k, g, hw, hl⟩ := q
    simp only [wS] at hw
    split at hw
    · rename_i a e0
      obtain ⟨v, e1, r⟩ := g.get i _ e0
      cases r with
      | val r =>
        have := r.int_of
        subst this
        refine ⟨_, e1, use_e k g hw fun d u U hd k1 l1 rv => ?_⟩
        obtain ⟨b, rfl, hb⟩ := dint_of rv hd
        exact ⟨a, b, rfl, rfl, hl.nx U _ _ k1 (l1.sts k) ((g.le l1 k).set (.d (.int _)) i) hb⟩
    · exact hw.elim
  · cases hi
theorem s_skip {st : Stmt} (h : PS X st tNext) : PS X st (trS X.K (wS Φ .skip)) := pS_imp h fun D σ H q => by
  obtain ⟨W, τ, P, rfl, k, g, hw, hl⟩ := q
  simp only [wS] at hw
  exact hl.nx W σ τ k (Sts.refl k) g hw
theorem ss_nil : PSs X [] (trS X.K (wS Φ .skip)) := pSs_imp pss_nil fun D σ H q => by
  obtain ⟨W, τ, P, rfl, k, g, hw, hl⟩ := q
  simp only [wS] at hw
  exact hl.nx W σ τ k (Sts.refl k) g hw
theorem s_brk : PS X (.Break pos) (trS X.K (wS Φ .brk)) := pS_imp ps_break fun D σ H q => by
  obtain ⟨W, τ, P, rfl, k, g, hw, hl⟩ := q
  simp only [wS] at hw
  exact hl.bk W σ τ k (Sts.refl k) g hw
theorem s_cnt : PS X (.Continue pos) (trS X.K (wS Φ .cnt)) := pS_imp ps_continue fun D σ H q => by
  obtain ⟨W, τ, P, rfl, k, g, hw, hl⟩ := q
  simp only [wS] at hw
  exact hl.ct W σ τ k (Sts.refl k) g hw
theorem s_fail {st : Stmt} : PS X st (trS X.K (wS Φ .fail)) := pS_imp ps_never fun D σ H q => by
  obtain ⟨W, τ, P, rfl, k, g, hw, hl⟩ := q
  simp only [wS] at hw
theorem seq_imp {K : Fg} {s u : RS} {D : Ends} {σ : L2.St} {H : Hp} (q : trS K (wS Φ (.seq s u)) D σ H) : tSeq (trS K (wS Φ s)) (trS K (wS Φ u)) D σ H := by
  obtain ⟨W, τ, P, rfl, k, g, hw, hl⟩ := q
  simp only [wS] at hw
  exact ⟨W, τ, _, rfl, k, g, hw, ⟨fun U ρ τ' k1 l1 g1 h1 => ⟨U, τ', P, rfl, k1, g1, h1, hl.on k k1 l1⟩, hl.rt, hl.bk, hl.ct⟩⟩
theorem ss_cons {s : Stmt} {r : List Stmt} {x y : RS} (h : PS X s (trS X.K (wS Φ x))) (hr : PSs X r (trS X.K (wS Φ y))) : PSs X (s :: r) (trS X.K (wS Φ (.seq x y))) := pSs_imp (pss_cons h hr) fun _ _ _ q => seq_imp q
theorem s_iff {c : Expr} {a b : List Stmt} {t : RT} {x y : RS} (hc : PT X c (trT X.K (wT Φ t))) (ha : PSs X a (trS X.K (wS Φ x))) (hb : PSs X b (trS X.K (wS Φ y))) : PS X (.If c a b pos) (trS X.K (wS Φ (.iff t x y))) := pS_imp (ps_if hc ha hb) fun D σ H q => by
  obtain ⟨W, τ, P, rfl, k, g, hw, hl⟩ := q
  simp only [wS] at hw
  refine ⟨W, τ, _, rfl, k, g, hw, fun i U h k1 l1 => ?_⟩
  cases i with
  | true => exact iteT ⟨U, τ, P, rfl, k1, g.le l1 k, h, hl.on k k1 (l1.sts k)⟩
  | false => exact iteF ⟨U, τ, P, rfl, k1, g.le l1 k, h, hl.on k k1 (l1.sts k)⟩
theorem s_whl (c : Cok cc Φ lv X) {e : Expr} {b : List Stmt} {t : RT} {x : RS} (hc : PT X e (trT X.K (wT Φ t))) (hb : PSs X b (trS X.K (wS Φ x))) : PS X (.While e b [] pos) (trS X.K (wS Φ (.whl t x))) := by
  refine pS_imp (ps_while (by rw [c.xe]; exact PassesOwn.never) hc hb) fun D σ H q => ?_
  obtain ⟨W, τ, P, rfl, k, g, hw, hl⟩ := q
  simp only [wS] at hw
  obtain ⟨n, hw⟩ := hw
  refine ⟨fun m σ' H' => ∃ Z τ', Z.H = H' ∧ Z.Ok ∧ Sts W Z ∧ Gd X.K Z σ' τ' ∧ goWh (fun τ1 k => wT Φ t τ1 fun c => if c = true then wS Φ x { P with nx := k, ct := k, bk := P.nx } τ1 else P.nx τ1) m τ', ⟨n, W, τ, rfl, k, Sts.refl k, g, hw⟩, ?_⟩
  rintro m σ' H' ⟨Z, τ', rfl, kz, lz, gz, hz⟩
  cases m with
  | zero => exact False.elim hz
  | succ m =>
    refine ⟨Z, τ', _, rfl, kz, gz, hz, fun i U h k1 l1 => ?_⟩
    have lu := lz.trans k kz k1 (l1.sts kz)
    cases i with
    | true =>
      refine iteT ⟨fun σ2 H2 => ∃ Y τ2, Y.H = H2 ∧ Y.Ok ∧ Sts W Y ∧ Gd X.K Y σ2 τ2 ∧ goWh (fun τ1 k => wT Φ t τ1 fun c => if c = true then wS Φ x { P with nx := k, ct := k, bk := P.nx } τ1 else P.nx τ1) m τ2, fun σ2 H2 h2 => ⟨m, Nat.lt_succ_self m, h2⟩, ?_⟩
      exact ⟨U, τ', _, rfl, k1, gz.le l1 kz, h, ⟨fun Y ρ τ2 ky ly gy hy => ⟨Y, τ2, rfl, ky, lu.trans k k1 ky ly, gy, hy⟩, fun Y v r ky ly gy hy => hl.rt Y v r ky (lu.trans k k1 ky ly) gy hy, fun Y ρ τ2 ky ly gy hy => hl.nx Y ρ τ2 ky (lu.trans k k1 ky ly) gy hy, fun Y ρ τ2 ky ly gy hy => ⟨Y, τ2, rfl, ky, lu.trans k k1 ky ly, gy, hy⟩⟩⟩
    | false => exact iteF (hl.nx U σ' τ' k1 lu (gz.le l1 kz) h)
theorem s_for (c : Cok cc Φ lv X) {tg it : Expr} {b : List Stmt} {g : Tg} {i : RI} {x : RS} (hit : iterOk it = true) (hg : cTg cc tg = some g) (hi : PI X tg it (trI X.K (wI Φ i))) (hb : PSs X b (trS X.K (wS Φ x))) : PS X (.For tg it b [] pos) (trS X.K (wS Φ (.for g i x))) := by
  have hs : ∀ y, foldedSetIterable it X.env y = pure y := by intro y; cases it <;> first | rfl | cases hit
  refine pS_imp (ps_for (by rw [c.xe]; exact PassesOwn.never) c.calm hi (tg_ok c hg) hb hs) fun D σ H q => ?_
  obtain ⟨W, τ, P, rfl, k, gd, hw, hl⟩ := q
  simp only [wS] at hw
  refine ⟨W, τ, _, rfl, k, gd, hw, fun xs J U hxs k1 l1 hJ => ?_⟩
  have lu := l1.sts k
  have hxs : goFor (fun y τ1 k => wTg g y τ1 fun τ2 => wS Φ x { P with nx := k, ct := k, bk := P.nx } τ2) P.nx (xs.drop 0) τ := hxs
  refine ⟨fun j m σ' H' => m = xs.length - j ∧ j ≤ xs.length ∧ ∃ Z τ', Z.H = H' ∧ Z.Ok ∧ Sts U Z ∧ Gd X.K Z σ' τ' ∧ goFor (fun y τ1 k => wTg g y τ1 fun τ2 => wS Φ x { P with nx := k, ct := k, bk := P.nx } τ2) P.nx (xs.drop j) τ', ⟨xs.length, rfl, Nat.zero_le _, U, τ, rfl, k1, Sts.refl k1, gd.le l1 k, hxs⟩, ?_⟩
  rintro j m σ' H' ⟨rfl, hj, Z, τ', rfl, kz, lz, gz, hz⟩
  have walk := hJ Z kz lz.stp j
  have lwz := lu.trans k k1 kz lz
  by_cases hlt : j < xs.length
  · refine .inr ⟨(walk.1 hlt).1, fun σ2 H2 => ∃ Y τ2, Y.H = H2 ∧ Y.Ok ∧ Sts U Y ∧ Gd X.K Y σ2 τ2 ∧ goFor (fun y τ1 k => wTg g y τ1 fun τ2 => wS Φ x { P with nx := k, ct := k, bk := P.nx } τ2) P.nx (xs.drop (j + 1)) τ2, fun σ2 H2 h => ⟨xs.length - (j + 1), by omega, rfl, hlt, h⟩, fun y H2 yl => ?_⟩
    obtain ⟨rfl, d, hd, rd⟩ := (walk.1 hlt).2 y H2 yl
    have hdr : xs.drop j = d :: xs.drop (j + 1) := by
      rw [List.drop_eq_getElem_cons hlt]
      rw [List.getElem?_eq_getElem hlt] at hd
      rw [Option.some.inj hd]
    rw [hdr] at hz
    have hz : wTg g d τ' fun τ2 => wS Φ x { P with nx := goFor (fun y τ1 k => wTg g y τ1 fun τ2 => wS Φ x { P with nx := k, ct := k, bk := P.nx } τ2) P.nx (xs.drop (j + 1)), ct := goFor (fun y τ1 k => wTg g y τ1 fun τ2 => wS Φ x { P with nx := k, ct := k, bk := P.nx } τ2) P.nx (xs.drop (j + 1)), bk := P.nx } τ2 := hz
    refine tg_sem kz gz rd hz _ fun ρ τ2 g2 h2 _ => ?_
    exact ⟨Z, τ2, _, rfl, kz, g2, h2, ⟨fun Y ρ τ2 ky ly gy hy => ⟨Y, τ2, rfl, ky, lz.trans k1 kz ky ly, gy, hy⟩, fun Y v r ky ly gy hy => hl.rt Y v r ky (lwz.trans k kz ky ly) gy hy, fun Y ρ τ2 ky ly gy hy => hl.nx Y ρ τ2 ky (lwz.trans k kz ky ly) gy hy, fun Y ρ τ2 ky ly gy hy => ⟨Y, τ2, rfl, ky, lz.trans k1 kz ky ly, gy, hy⟩⟩⟩
  · refine .inl ⟨walk.2 (Nat.le_of_not_lt hlt), ?_⟩
    rw [List.drop_eq_nil_of_le (Nat.le_of_not_lt hlt)] at hz
    exact hl.nx Z σ' τ' kz lwz gz hz
end
end Pf

namespace Pf
open PySem PySem.Spec PyProof.Rows L2
section
variable {X : Cx} {cc : CC} {Φ : Nat → PSp} {lv : Nat} {pos : Pos}
/-! ### stores -/
theorem asg_imp {K : Fg} {i : Nat} {x : RE} {D : Ends} {σ : L2.St} {H : Hp} (q : trS K (wS Φ (.asg i x)) D σ H) : tAsg (trE K (wE Φ x)) (gName i) D σ H := by
  obtain ⟨W, τ, P, rfl, k, g, hw, hl⟩ := q
  simp only [wS] at hw
  exact use_e k g hw fun d v U hd k1 l1 rv => hl.nx U _ _ k1 (l1.sts k) ((g.le l1 k).set rv i) hd
theorem tgName_inv {e : Expr} {i : Nat} (h : tgName cc e = some i) : ∃ x p, e = .Name x p ∧ locK cc x = true ∧ ixOf cc.N x = some i := by
  unfold tgName at h
  split at h
  · split at h
    · rename_i hl
      exact ⟨_, _, rfl, hl, h⟩
    · cases h
  · cases h
theorem plain_swaps {e : Expr} {t : Option Expr} {l : Nat} {env : Env} (h : isLC e = false) : swapsWith e t l env = pure false := by
  cases e <;> first | rfl | cases h
theorem s_asg (c : Cok cc Φ lv X) {y : Str} {p : Pos} {i : Nat} {e : Expr} {x : RE} (hl : isLC e = false) (ht : tgName cc (.Name y p) = some i) (h : PE X e (trE X.K (wE Φ x))) : PS X (.Assign [.Name y p] e pos) (trS X.K (wS Φ (.asg i x))) := by
  obtain ⟨y', p', e1, h1, h2⟩ := tgName_inv ht
  cases e1
  obtain ⟨h3, h4⟩ := locK_ok c h1
  exact pS_imp (ps_set c.nd (by rw [c.n]; exact ixOf_get h2) h3 h (plain_swaps hl) h4) fun _ _ _ q => asg_imp q
theorem swaps_lc {elt : Expr} {gs : List Comprehension} {scope : Scope} {pos p : Pos} {y : Str} {l : Nat} {env : Env} : swapsWith (.ListComp elt gs scope pos) (some (.Name y p)) l env =
    pure (env.blockKind == .function && env.kindOf y == some .local && p.line == pos.line && !(scope.names.any fun (n, k) => n == y && (k == .local || k == .cell))) := rfl
theorem s_asgLc (c : Cok cc Φ lv X) {y : Str} {p q : Pos} {i : Nat} {elt tg iter : Expr} {ifs : List Expr} {scope : Scope} {g : Tg} {it : RI} {t : RT} {x : RE} (htg : tgName cc (.Name y p) = some i) (hb : blkC cc.N cc.sc scope (ownOf cc.N scope) = true) (hi' : iterOk iter = true) (hin : tgIn g ((ownOf cc.N scope).map (·.2)) = true)
    (hi : ∀ tg, PI X tg iter (trI X.K (wI Φ it))) (hg : cTg (inCC cc scope) tg = some g)
    (ht : ∀ Y : Cx, Cok (inCC cc scope) Φ lv Y → PTs Y ifs (trT Y.K (wT Φ t))) (he : ∀ Y : Cx, Cok (inCC cc scope) Φ lv Y → PE Y elt (trE Y.K (wE Φ x))) :
    PS X (.Assign [.Name y p] (.ListComp elt [⟨tg, iter, ifs, 0⟩] scope q) pos) (trS X.K (wS Φ (.asg i (.lc ((ownOf cc.N scope).map (·.2)) g it t x)))) := by
  obtain ⟨y', p', e1, h1, h2⟩ := tgName_inv htg
  cases e1
  obtain ⟨h3, h4⟩ := locK_ok c h1
  have hy : X.N[i]? = some y := by rw [c.n]; exact ixOf_get h2
  cases hsw : (X.env.blockKind == .function && X.env.kindOf y == some .local && p.line == q.line && !(scope.names.any fun (n, k) => n == y && (k == .local || k == .cell))) with
  | false => exact pS_imp (ps_set c.nd hy h3 (e_lc c hb hi' hin hi hg ht he) (by rw [swaps_lc, hsw]) h4) fun _ _ _ q => asg_imp q
  | true =>
    have hloc : X.env.scope.names.lookup y = some .local := by
      have := hsw
      simp only [Bool.and_eq_true, beq_iff_eq] at this
      exact this.1.1.2
    have ok : BlkOk X.N X.env.scope scope (ownOf cc.N scope) := by rw [c.n, c.sc]; exact blkOk_by hb
    have hs : ∀ y, foldedSetIterable iter X.env y = pure y := by intro y; cases iter <;> first | rfl | cases hi'
    have base := ps_setLc (pos := q) (spos := pos) (py := p) (g := gOf X.K g) (tt := trT X.K (wT Φ t)) (te := trE X.K (wE Φ x)) c.calm c.nd hy hloc (by rw [swaps_lc, hsw]) (hi tg) ok (fun s H C cl fp => tg_ok (c.blk s H scope C cl fp) hg) (fun s H C cl fp => ht _ (c.blk s H scope C cl fp)) (fun s H C cl fp => he _ (c.blk s H scope C cl fp)) hs
    refine pS_imp base fun D σ H q => ?_
    have q2 := asg_imp q
    exact lc_imp hin q2
theorem s_own (c : Cok cc Φ lv X) {y : Str} {p q : Pos} {i : Nat} {es : List Expr} {ra : RA} (ht : tgName cc (.Name y p) = some i) (h : PA X es (trA X.K (wA Φ ra))) : PS X (.Assign [.Name y p] (.List es q) pos) (trS X.K (wS Φ (.own i ra))) := by
  obtain ⟨y', p', e1, h1, h2⟩ := tgName_inv ht
  cases e1
  obtain ⟨h3, h4⟩ := locK_ok c h1
  refine pS_imp (ps_set c.nd (by rw [c.n]; exact ixOf_get h2) h3 (pe_lst h) rfl h4) fun D σ H q => ?_
  obtain ⟨W, τ, P, rfl, k, g, hw, hl⟩ := q
  simp only [wS] at hw
  refine ⟨W, τ, _, rfl, k, g, hw, fun rs vs U hr k1 l1 rv => ?_⟩
  obtain ⟨ds, e, hz, hn⟩ := hr
  have hs := rv.datas e
  refine ⟨by rw [hs.length]; exact sz hz, fun a n => ?_⟩
  have gu := g.le l1 k
  obtain ⟨m1, m2⟩ := lay (o := .lst vs) k1 n
  have na : ∀ b, (U.O b ∨ U.A b) → b ≠ a := fun b hb z => by
    subst z
    rcases hb with hb | hb
    · obtain ⟨xs, e⟩ := k1.ot b hb; exact some_ne e n
    · obtain ⟨xs, e⟩ := k1.at_ b hb; exact some_ne e n
  have kz : ({ U with H := upd U.H a (.lst vs), O := fun b => U.O b ∨ b = a } : Wd).Ok := ⟨m2.va, m2.at_, fun b hb => by
    rcases hb with hb | hb
    · exact m2.ot b hb
    · exact ⟨vs, by rw [hb]; exact upd_same⟩, fun b hb z => by
    rcases hb with hb | hb
    · exact m2.oa b hb z
    · exact na b (.inr z) hb⟩
  have lz : Sts U { U with H := upd U.H a (.lst vs), O := fun b => U.O b ∨ b = a } := ⟨⟨fun b o e n1 _ => m1.ext b o e n1, m1.a1, m1.a2, m1.v1, m1.v2, fun b hb => by
    rcases hb with hb | hb
    · exact .inl hb
    · exact .inr (by rw [hb]; exact n)⟩, fun b hb => by obtain ⟨xs, e⟩ := m2.ot b hb; exact ⟨_, e⟩⟩
  have sq : Sq U { U with H := upd U.H a (.lst vs), O := fun b => U.O b ∨ b = a } := ⟨lz.stp, fun b xs hb e => ⟨by show upd U.H a _ b = _; rw [upd_ne (na b (.inl hb))]; exact e, .inl hb⟩⟩
  have gz := gu.sq sq k1
  refine hl.nx { U with H := upd U.H a (.lst vs), O := fun b => U.O b ∨ b = a } _ _ kz ((l1.sts k).trans k k1 kz lz) ⟨by rw [List.length_set, List.length_set]; exact gz.len, fun j x e => ?_, fun j m b xs ys e1 e2 e3 e4 => ?_⟩ hn
  · rcases set_get e with ⟨rfl, hle, e⟩ | ⟨ne, e⟩
    · cases e
      exact ⟨.ref a, by rw [List.getElem?_set_self (by rw [← gz.len]; exact hle)], .own upd_same (.inr rfl) (hs.stp lz.stp k1)⟩
    · obtain ⟨u, h1, h2⟩ := gz.get j x e
      exact ⟨u, by rw [List.getElem?_set_ne ne]; exact h1, h2⟩
  · have old : ∀ {j : Nat} {xs : List PyData}, τ[j]? = some (some (.own xs)) → σ[j]? = some (some (.ref b)) → b ≠ a := fun {j xs} e1 e2 => by
      obtain ⟨u, h1, h2⟩ := gu.get j _ e1
      rw [e2] at h1
      cases h1
      cases h2 with
      | own e o _ => exact na b (.inl o)
    rcases set_get e1 with ⟨rfl, hle, e⟩ | ⟨ne, e⟩
    · rcases set_get e2 with ⟨rfl, hle', e'⟩ | ⟨ne', e'⟩
      · rfl
      · rw [List.getElem?_set_self (by rw [← gz.len]; exact hle)] at e3
        rw [List.getElem?_set_ne ne'] at e4
        cases e3
        exact absurd rfl (old e' e4)
    · rcases set_get e2 with ⟨rfl, hle', e'⟩ | ⟨ne', e'⟩
      · rw [List.getElem?_set_self (by rw [← gz.len]; exact hle')] at e4
        rw [List.getElem?_set_ne ne] at e3
        cases e4
        exact absurd rfl (old e e3)
      · rw [List.getElem?_set_ne ne] at e3
        rw [List.getElem?_set_ne ne'] at e4
        exact gz.uni j m b xs ys e e' e3 e4
theorem RSD.own_inv {K : Fg} {W : Wd} {v : V} {ds : List PyData} (h : RSD K W v (.own ds)) : ∃ a xs, v = .ref a ∧ W.H a = some (.lst xs) ∧ W.O a ∧ Rs K W xs ds := by
  cases h with
  | own e o r => exact ⟨_, _, rfl, e, o, r⟩
theorem s_app (c : Cok cc Φ lv X) {y : Str} {p p1 p2 : Pos} {i : Nat} {e : Expr} {x : RE} (hi : cslot cc y = some i) (hs : isStar e = false) (hln : (p1.endLine == p2.line) = true) (h : PE X e (trE X.K (wE Φ x))) : PS X (.Expr (.Call (.Attribute (.Name y p) ("append" : Str) p1) [e] [] p2) pos) (trS X.K (wS Φ (.app i x))) := by
  obtain ⟨h1, h2, h3⟩ := cslot_ok c hi
  obtain ⟨h4, h5⟩ := okN h3
  have hp : PA X [e] (tCons (trE X.K (wE Φ x)) tNil) := pa_cons h pa_nil (star_cons hs)
  refine pS_imp (ps_expr (pe_bm PySem.F.plainAttrs_list PySem.F.slot_list_append PySem.F.type_list_append mt_append (pe_var h1 h2 h4 h5) hp rfl (by rw [star_cons hs]; rfl) hln (star_cons hs) rfl) rfl) fun D σ H q => ?_
  obtain ⟨W, τ, P, rfl, k, g, hw, hl⟩ := q
  simp only [wS] at hw
  split at hw
  · rename_i ds e0
    obtain ⟨v, hv, hr⟩ := g.get i _ e0
    obtain ⟨a, xs, rfl, e1, o, hs1⟩ := hr.own_inv
    refine ⟨_, hv, .inl ⟨rfl, xs, SqL.of e1⟩, use_e k g hw fun d u U hd k1 l1 rv => ?_⟩
    cases d with
    | d pd =>
      have r : R X.K U u pd := by cases rv; assumption
      obtain ⟨hz, hn⟩ := hd
      have o1 : U.O a := by rw [l1.o]; exact o
      have e2 := l1.ext a _ e1 (k.ov o)
      have hs2 := hs1.stp l1.stp k
      obtain ⟨g1, g2⟩ := grow (ys := xs ++ [u]) k1 o1 e2
      refine ⟨a, xs, u, rfl, rfl, e2, by rw [hs1.length]; exact szl hz, ?_⟩
      have gu := g.le l1 k
      have lz : Sts U { U with H := upd U.H a (.lst (xs ++ [u])) } := ⟨g2, fun b hb => by obtain ⟨ys, e⟩ := g1.ot b hb; exact ⟨_, e⟩⟩
      refine hl.nx { U with H := upd U.H a (.lst (xs ++ [u])) } _ _ g1 ((l1.sts k).trans k k1 g1 lz) ⟨by rw [List.length_set]; exact gu.len, fun j x e => ?_, fun j m b ys zs e1 e2 e3 e4 => ?_⟩ hn
      · rcases set_get e with ⟨ej, hle, e'⟩ | ⟨ne, e⟩
        · subst ej
          cases e'
          exact ⟨.ref a, hv, .own upd_same o1 ((hs2.stp g2 k1).append (.cons (r.stp g2 k1) .nil))⟩
        · obtain ⟨w, w1, w2⟩ := gu.get j x e
          refine ⟨w, w1, ?_⟩
          cases x with
          | val dv =>
            cases w2 with
            | val w2 => exact .val (w2.stp g2 k1)
          | own ds' =>
            obtain ⟨b, ys, rfl, q1, q2, q3⟩ := w2.own_inv
            have nb : b ≠ a := fun z => by
              rw [z] at w1
              exact ne (gu.uni i j a ds ds' e0 e hv w1)
            exact .own (by show upd U.H a _ b = _; rw [upd_ne nb]; exact q1) q2 (q3.stp g2 k1)
      · have back : ∀ {j : Nat} {xs : List PyData}, (τ.set i (some (.own (ds ++ [pd])) : Option SD))[j]? = some (some (.own xs)) → ∃ xs', τ[j]? = some (some (.own xs')) := fun {j xs} e => by
          rcases set_get e with ⟨ej, hle, e⟩ | ⟨ne, e⟩
          · subst ej
            exact ⟨ds, e0⟩
          · exact ⟨xs, e⟩
        obtain ⟨y1, q1⟩ := back e1
        obtain ⟨y2, q2⟩ := back e2
        exact gu.uni j m b y1 y2 q1 q2 e3 e4
    | scr _ => exact hd.elim
    | vat => exact hd.elim
  · exact hw.elim
/-! ### tuples taken apart -/
theorem asgT_imp {K : Fg} {tg : Tg} {x : RE} {D : Ends} {σ : L2.St} {H : Hp} (q : trS K (wS Φ (.asgT tg x)) D σ H) : tAsg (trE K (wE Φ x)) (gOf K tg) D σ H := by
  obtain ⟨W, τ, P, rfl, k, g, hw, hl⟩ := q
  simp only [wS] at hw
  exact use_e k g hw fun d v U hd k1 l1 rv => tg_sem k1 (g.le l1 k) rv hd _ fun ρ τ' g' h' _ => hl.nx U ρ τ' k1 (l1.sts k) g' h'
theorem s_asgT (c : Cok cc Φ lv X) {ts : List Expr} {k : Nat} {p : Pos} {e : Expr} {tg : Tg} {x : RE} (hg : cTg cc (.Tuple ts k p) = some tg) (hw : swappedStores [.Tuple ts k p] e X.env = pure none) (h : PE X e (trE X.K (wE Φ x))) : PS X (.Assign [.Tuple ts k p] e pos) (trS X.K (wS Φ (.asgT tg x))) := by
  have hs : swapsWithSole [.Tuple ts k p] e pos.line X.env = pure false := by
    cases e <;> rfl
  exact pS_imp (ps_asg h (tg_ok c hg) hs hw rfl) fun _ _ _ q => asgT_imp q
theorem swp_none {ts : List Expr} {k : Nat} {p : Pos} {e : Expr} {env : Env} (h : ∀ vs k2 p2, e ≠ .Tuple vs k2 p2) : swappedStores [.Tuple ts k p] e env = pure none := by
  cases e <;> first | rfl | exact absurd rfl (h _ _ _)
end
end Pf

namespace Pf
open PySem PySem.Spec PyProof.Rows L2
def nm (env : Env) (line : Nat) : Expr → Option Str
  | .Name id pos => if env.kindOf id == some .local && pos.line == line then some id else none
  | _ => none
theorem isLoc_eq {k : Option NameKind} : isLoc k = (k == some .local) := by
  cases k with
  | none => rfl
  | some k => cases k <;> rfl
theorem nm_name {env : Env} {l : Nat} {x : Str} {q : Pos} : nm env l (.Name x q) = if (env.kindOf x == some .local && q.line == l) = true then some x else none := rfl
def star1 : Expr → Bool
  | .Starred .. => true
  | _ => false
theorem sw_form (ts vs : List Expr) (k k2 : Nat) (p p2 : Pos) (env : Env) : swappedStores [.Tuple ts k p] (.Tuple vs k2 p2) env =
   (if (!(ts.length == 2 || ts.length == 3) || vs.length != ts.length || env.blockKind != .function) = true then pure none
    else if (vs.any star1) = true then pure none
    else if ((ts.filterMap (nm env ((ts.head?.map (·.pos.line)).getD 0))).length != ts.length || (ts.filterMap (nm env ((ts.head?.map (·.pos.line)).getD 0))).eraseDups.length != (ts.filterMap (nm env ((ts.head?.map (·.pos.line)).getD 0))).length) = true then pure none
    else if vs.all (foldedForSure 8) = true then pure none
    else if vs.all (constantsAlone 8) = true then (do let y ← unsupported "assign.tuple-of-constant-expressions:order-of-the-stores"; (fun (_ : PUnit) => pure (some (ts.filterMap (nm env ((ts.head?.map (·.pos.line)).getD 0))))) y)
    else pure (some (ts.filterMap (nm env ((ts.head?.map (·.pos.line)).getD 0))))) := by
  rfl
theorem fm_all {α β : Type} (f : α → Option β) : ∀ l : List α, (l.filterMap f).length = l.length → l.all (fun x => (f x).isSome) = true
  | [], _ => rfl
  | a :: r, h => by
    have hr := List.length_filterMap_le f r
    rw [List.filterMap_cons] at h
    rw [List.all_cons]
    cases e : f a with
    | none =>
      rw [e] at h
      have h : (r.filterMap f).length = r.length + 1 := h
      omega
    | some b =>
      rw [e] at h
      have h : (r.filterMap f).length + 1 = r.length + 1 := h
      rw [fm_all f r (by omega)]
      rfl
section
variable {X : Cx} {cc : CC} {Φ : Nat → PSp} {lv : Nat} {pos : Pos}
theorem swp0 (c : Cok cc Φ lv X) {ts vs : List Expr} {k k2 : Nat} {p p2 : Pos} (h : swp cc ts vs = 0) : swappedStores [.Tuple ts k p] (.Tuple vs k2 p2) X.env = pure none := by
  rw [sw_form]
  split
  · rfl
  · rename_i n1
    split
    · rfl
    · split
      · rfl
      · rename_i n2
        split
        · rfl
        · rename_i n3
          exfalso
          unfold swp at h
          simp only [Bool.or_eq_true, not_or, Bool.not_eq_true] at n1
          rw [if_neg (by simp only [Bool.or_eq_true, not_or, Bool.not_eq_true]; exact ⟨n1.1.1, n1.1.2⟩)] at h
          simp only [Bool.or_eq_true, not_or, Bool.not_eq_true, bne_eq_false_iff_eq] at n2
          have ha := fm_all _ ts n2.1
          split at h
          · split at h <;> cases h
          · rename_i hh
            apply hh
            rw [List.all_eq_true] at ha ⊢
            intro t ht
            have := ha t ht
            cases t <;> first | (cases this; done) | skip
            rename_i x q
            have hk : X.env.kindOf x = cc.sc.names.lookup x := by show X.env.scope.names.lookup x = _; rw [c.sc]
            rw [nm_name, hk, ← isLoc_eq] at this
            show (isLoc (cc.sc.names.lookup x) && _) = true
            split at this
            · assumption
            · cases this
theorem swp1_base (c : Cok cc Φ lv X) {ts vs : List Expr} (h : swp cc ts vs = 1) : (ts.length = 2 ∨ ts.length = 3) ∧ vs.length = ts.length ∧ (∀ t ∈ ts, ∃ x q, t = .Name x q ∧ X.env.scope.names.lookup x = some .local ∧ nm X.env ((ts.head?.map (·.pos.line)).getD 0) t = some x) ∧ vs.all (foldedForSure 8) = false ∧ vs.all (constantsAlone 8) = false := by
  unfold swp at h
  split at h
  · cases h
  · rename_i n1
    simp only [Bool.or_eq_true, not_or, Bool.not_eq_true, Bool.not_eq_false', bne_eq_false_iff_eq] at n1
    split at h
    · rename_i ha
      split at h
      · cases h
      · rename_i h3
        split at h
        · cases h
        · rename_i h4
          refine ⟨?_, n1.2, fun t ht => ?_, by simpa using h3, by simpa using h4⟩
          · have := n1.1
            simp only [Bool.or_eq_true, beq_iff_eq] at this
            exact this
          · have := List.all_eq_true.mp ha t ht
            cases t <;> first | (cases this; done) | skip
            rename_i x q
            have hk : X.env.scope.names.lookup x = cc.sc.names.lookup x := by rw [c.sc]
            have this : (isLoc (cc.sc.names.lookup x) && q.line == (ts.head?.map (·.pos.line)).getD 0) = true := this
            refine ⟨x, q, rfl, ?_, ?_⟩
            · rw [hk]
              rw [isLoc_eq, Bool.and_eq_true, beq_iff_eq] at this
              exact this.1
            · have hk2 : X.env.kindOf x = cc.sc.names.lookup x := hk
              rw [nm_name, hk2, ← isLoc_eq]
              exact if_pos this
    · cases h
theorem fn_block (c : Cok cc Φ lv X) (I : X.Ok) : X.env.blockKind = .function := by
  unfold Env.blockKind
  rw [I.kind]
  rfl
theorem setVals2 {K : Fg} {U : Wd} {σ : L2.St} {τ : SDs} (g : Gd K U σ τ) {i j : Nat} {v u : V} {a b : DV} (h1 : RD K U v a) (h2 : RD K U u b) : Gd K U ((σ.set i (some v)).set j (some u)) (setVals τ [i, j] [a, b]) := (g.set h1 i).set h2 j
theorem no_star (h : noStar vs = true) : vs.any star1 = false := by
  rw [List.any_eq_false]
  intro e he
  have := List.all_eq_true.mp h e he
  cases e <;> first | (intro z; cases z; done) | (simp [isStar] at this)
theorem s_par2 (c : Cok cc Φ lv X) {x y : Str} {p1 p2 p3 p4 : Pos} {k k2 : Nat} {a b : Expr} {i j : Nat} {ra : RA} (h : swp cc [.Name x p1, .Name y p2] [a, b] = 1) (hi : tgName cc (.Name x p1) = some i) (hj : tgName cc (.Name y p2) = some j) (hne : i ≠ j) (hs : noStar [a, b] = true) (ha : PA X [a, b] (trA X.K (wA Φ ra))) :
    PS X (.Assign [.Tuple [.Name x p1, .Name y p2] k p3] (.Tuple [a, b] k2 p4) pos) (trS X.K (wS Φ (.par [i, j] ra))) := by
  obtain ⟨_, _, hn, h3, h4⟩ := swp1_base c h
  obtain ⟨x', q', e1, l1, n1⟩ := hn _ (List.mem_cons_self)
  cases e1
  obtain ⟨y', q', e1, l2, n2⟩ := hn _ (List.mem_cons_of_mem _ (List.mem_cons_self))
  cases e1
  obtain ⟨_, _, e1, _, ix⟩ := tgName_inv hi
  cases e1
  obtain ⟨_, _, e1, _, iy⟩ := tgName_inv hj
  cases e1
  have hxy : x ≠ y := fun z => by
    rw [z] at ix
    rw [ix] at iy
    exact hne (Option.some.inj iy)
  refine ⟨fun pins s σ H D I q => ?_⟩
  have hw : swappedStores [.Tuple [.Name x p1, .Name y p2] k p3] (.Tuple [a, b] k2 p4) X.env = pure (some [x, y]) := by
    rw [sw_form, if_neg (by rw [fn_block c I.ok]; simp), if_neg (by rw [no_star hs]; simp)]
    have hf : ([.Name x p1, .Name y p2] : List Expr).filterMap (nm X.env ((([.Name x p1, .Name y p2] : List Expr).head?.map (·.pos.line)).getD 0)) = [x, y] := by
      rw [List.filterMap_cons, n1, List.filterMap_cons, n2]
      rfl
    rw [hf, if_neg (by simp [List.eraseDups, List.eraseDupsBy, List.eraseDupsBy.loop, (beq_eq_false_iff_ne.mpr (Ne.symm hxy) : (y == x) = false)]), if_neg (by rw [h3]; simp), if_neg (by rw [h4]; simp)]
  refine (ps_par c.calm c.nd (by rw [c.n]; exact ixOf_get ix) (by rw [c.n]; exact ixOf_get iy) hne l1 l2 ha hw).run pins s σ H D I ?_
  obtain ⟨W, τ, P, rfl, kk, g, hw, hl⟩ := q
  simp only [wS] at hw
  refine ⟨W, τ, _, rfl, kk, g, hw, fun rs vs U hr k1 l1 rv => ?_⟩
  obtain ⟨hz, hn⟩ := hr
  match rs, hz, hn, rv with
  | [d1, d2], _, hn, rv =>
    obtain ⟨v, u, rfl, r1, r2⟩ := rds2 rv
    exact ⟨v, u, rfl, hl.nx U _ _ k1 (l1.sts kk) (setVals2 (g.le l1 kk) r1 r2) hn⟩
theorem s_par3 (c : Cok cc Φ lv X) {x y z : Str} {p1 p2 p5 p3 p4 : Pos} {k k2 : Nat} {a b e : Expr} {i j m : Nat} {ra : RA} (h : swp cc [.Name x p1, .Name y p2, .Name z p5] [a, b, e] = 1) (hi : tgName cc (.Name x p1) = some i) (hj : tgName cc (.Name y p2) = some j) (hm : tgName cc (.Name z p5) = some m)
    (hne : i ≠ j) (hne2 : i ≠ m) (hne3 : j ≠ m) (hs : noStar [a, b, e] = true) (ha : PA X [a, b, e] (trA X.K (wA Φ ra))) :
    PS X (.Assign [.Tuple [.Name x p1, .Name y p2, .Name z p5] k p3] (.Tuple [a, b, e] k2 p4) pos) (trS X.K (wS Φ (.par [i, j, m] ra))) := by
  obtain ⟨_, _, hn, h3, h4⟩ := swp1_base c h
  obtain ⟨x', q', e1, l1, n1⟩ := hn _ (List.mem_cons_self)
  cases e1
  obtain ⟨y', q', e1, l2, n2⟩ := hn _ (List.mem_cons_of_mem _ (List.mem_cons_self))
  cases e1
  obtain ⟨z', q', e1, l3, n3⟩ := hn _ (List.mem_cons_of_mem _ (List.mem_cons_of_mem _ (List.mem_cons_self)))
  cases e1
  obtain ⟨_, _, e1, _, ix⟩ := tgName_inv hi
  cases e1
  obtain ⟨_, _, e1, _, iy⟩ := tgName_inv hj
  cases e1
  obtain ⟨_, _, e1, _, iz⟩ := tgName_inv hm
  cases e1
  have hxy : x ≠ y := fun q => by
    rw [q] at ix
    rw [ix] at iy
    exact hne (Option.some.inj iy)
  have hxz : x ≠ z := fun q => by
    rw [q] at ix
    rw [ix] at iz
    exact hne2 (Option.some.inj iz)
  have hyz : y ≠ z := fun q => by
    rw [q] at iy
    rw [iy] at iz
    exact hne3 (Option.some.inj iz)
  refine ⟨fun pins s σ H D I q => ?_⟩
  have hw : swappedStores [.Tuple [.Name x p1, .Name y p2, .Name z p5] k p3] (.Tuple [a, b, e] k2 p4) X.env = pure (some [x, y, z]) := by
    rw [sw_form, if_neg (by rw [fn_block c I.ok]; simp), if_neg (by rw [no_star hs]; simp)]
    have hf : ([.Name x p1, .Name y p2, .Name z p5] : List Expr).filterMap (nm X.env ((([.Name x p1, .Name y p2, .Name z p5] : List Expr).head?.map (·.pos.line)).getD 0)) = [x, y, z] := by
      rw [List.filterMap_cons, n1, List.filterMap_cons, n2, List.filterMap_cons, n3]
      rfl
    rw [hf, if_neg (by simp [List.eraseDups, List.eraseDupsBy, List.eraseDupsBy.loop, (beq_eq_false_iff_ne.mpr (Ne.symm hxy) : (y == x) = false), (beq_eq_false_iff_ne.mpr (Ne.symm hxz) : (z == x) = false), (beq_eq_false_iff_ne.mpr (Ne.symm hyz) : (z == y) = false)]), if_neg (by rw [h3]; simp), if_neg (by rw [h4]; simp)]
  refine (L2.ps_par3 c.calm c.nd (by rw [c.n]; exact ixOf_get ix) (by rw [c.n]; exact ixOf_get iy) (by rw [c.n]; exact ixOf_get iz) hne hne2 hne3 l1 l2 l3 ha hw).run pins s σ H D I ?_
  obtain ⟨W, τ, P, rfl, kk, g, hw, hl⟩ := q
  simp only [wS] at hw
  refine ⟨W, τ, _, rfl, kk, g, hw, fun rs vs U hr k1 l1 rv => ?_⟩
  obtain ⟨hz, hn⟩ := hr
  match rs, hz, hn, rv with
  | [d1, d2, d3], _, hn, rv =>
    obtain ⟨v, u, t, rfl, r1, r2, r3⟩ := rds3 rv
    exact ⟨v, u, t, rfl, hl.nx U _ _ k1 (l1.sts kk) (((g.le l1 kk).set r1 i |>.set r2 j).set r3 m) hn⟩
end
end Pf

namespace Pf
open PySem PySem.Spec PyProof.Rows L2
section
variable {X : Cx} {cc : CC} {Φ : Nat → PSp} {lv : Nat} {pos : Pos}
theorem frz_gd {K : Fg} {W : Wd} {σ : L2.St} {τ : SDs} {i : Nat} (k : W.Ok) (g : Gd K W σ τ) : ∃ U : Wd, U.H = W.H ∧ U.Ok ∧ Sts W U ∧ Gd K U σ (frzD τ i) := by
  unfold frzD
  split
  · rename_i ds e0
    obtain ⟨v, hv, hr⟩ := g.get i _ e0
    obtain ⟨a, xs, rfl, e1, o, hs⟩ := hr.own_inv
    have sub : ∀ b, (W.O b ∧ b ≠ a) → W.O b := fun b h => h.1
    refine ⟨{ W with O := fun b => W.O b ∧ b ≠ a }, rfl, ⟨k.va, k.at_, fun b h => k.ot b h.1, fun b h => k.oa b h.1⟩, ⟨⟨fun b o e _ _ => e, fun _ h => h, fun _ h => .inl h, fun _ h => h, fun _ h => .inl h, fun b h => .inl h.1⟩, fun b h => by obtain ⟨ys, e⟩ := k.ot b h; exact ⟨_, e⟩⟩,
      ⟨by rw [List.length_set]; exact g.len, fun j x e => ?_, fun j m b ys zs e1 e2 e3 e4 => ?_⟩⟩
    · rcases set_get e with ⟨ej, hle, e'⟩ | ⟨ne, e'⟩
      · subst ej
        cases e'
        exact ⟨.ref a, hv, .val (.d (.lst e1 (k.oa a o) (fun z => z.2 rfl) (hs.less sub)))⟩
      · obtain ⟨w, w1, w2⟩ := g.get j x e'
        refine ⟨w, w1, ?_⟩
        cases x with
        | val d =>
          cases w2 with
          | val w2 =>
            cases w2 with
            | d h => exact .val (.d (h.less sub))
            | scr h => exact .val (.scr h)
            | vat h => exact .val (.vat h)
        | own ds' =>
          obtain ⟨b, ys, rfl, q1, q2, q3⟩ := w2.own_inv
          exact .own q1 ⟨q2, fun z => by rw [z] at w1; exact ne (g.uni i j a ds ds' e0 e' hv w1)⟩ (q3.less sub)
    · rcases set_get e1 with ⟨ej, hle, e'⟩ | ⟨ne, e'⟩
      · cases e'
      · rcases set_get e2 with ⟨ej, hle, e''⟩ | ⟨ne', e''⟩
        · cases e''
        · exact g.uni j m b ys zs e' e'' e3 e4
  · exact ⟨W, rfl, k, Sts.refl k, g⟩
theorem frz_imp {K : Fg} {i : Nat} {s : RS} {D : Ends} {σ : L2.St} {H : Hp} (q : trS K (wS Φ (.frz i s)) D σ H) : trS K (wS Φ s) D σ H := by
  obtain ⟨W, τ, P, rfl, k, g, hw, hl⟩ := q
  simp only [wS] at hw
  obtain ⟨U, e, q, l, g'⟩ := frz_gd (i := i) k g
  exact ⟨U, _, P, e, q, g', hw, hl.on k q l⟩
theorem s_frz {st : Stmt} {i : Nat} {s : RS} (h : PS X st (trS X.K (wS Φ s))) : PS X st (trS X.K (wS Φ (.frz i s))) := pS_imp h fun _ _ _ q => frz_imp q
theorem s_frzOf {st : Stmt} {ns : List Str} {s : RS} (h : PS X st (trS X.K (wS Φ s))) : PS X st (trS X.K (wS Φ (frzOf cc ns s))) := by
  unfold frzOf
  split
  · exact h
  · generalize cc.ap.filter _ = l
    induction l with
    | nil => exact h
    | cons i r ih => exact s_frz ih
theorem s_retV {es : List Expr} {ra : RA} {p : Pos} (h : PA X es (trA X.K (wA Φ ra))) : PS X (.Return (some (.List es p)) pos) (trS X.K (wS Φ (.retV ra))) := pS_imp (ps_ret (pe_lst h)) fun D σ H q => by
  obtain ⟨W, τ, P, rfl, k, g, hw, hl⟩ := q
  simp only [wS] at hw
  refine ⟨W, τ, _, rfl, k, g, hw, fun rs vs U hr k1 l1 rv => ?_⟩
  split at hr
  · rename_i c h n
    obtain ⟨v1, v2, v3, rfl, r1, r2, r3⟩ := rds3 rv
    have e1 := r1.int_of
    have e2 := r2.int_of
    have e3 := r3.int_of
    subst e1 e2 e3
    obtain ⟨b1, b2, b3, b4, hrt⟩ := hr
    refine ⟨by show 3 ≤ sizeLine; decide, fun a n' => ?_⟩
    obtain ⟨m1, m2⟩ := lay (o := .lst [.int c, .int h, .int n]) k1 n'
    have kz : ({ U with H := upd U.H a (.lst [.int c, .int h, .int n]), A := fun b => U.A b ∨ b = a, V := fun b => U.V b ∨ b = a } : Wd).Ok := ⟨fun b hb => by
      rcases hb with hb | hb
      · exact ⟨.inl (m2.va b hb).1, (m2.va b hb).2⟩
      · rw [hb]
        exact ⟨.inr rfl, c, h, n, upd_same, b1, b2, b3, b4⟩, fun b hb => by
      rcases hb with hb | hb
      · exact m2.at_ b hb
      · rw [hb]
        exact ⟨_, upd_same⟩, m2.ot, fun b hb z => by
      rcases z with z | z
      · exact m2.oa b hb z
      · obtain ⟨xs, e⟩ := k1.ot b hb
        rw [z] at e
        exact some_ne e n'⟩
    have lz : Sts U { U with H := upd U.H a (.lst [.int c, .int h, .int n]), A := fun b => U.A b ∨ b = a, V := fun b => U.V b ∨ b = a } := ⟨⟨fun b o e n1 _ => m1.ext b o e n1, fun b hb => .inl hb, fun b hb => by
      rcases hb with hb | hb
      · exact .inl hb
      · exact .inr (by rw [hb]; exact n'), fun b hb => .inl hb, fun b hb => by
      rcases hb with hb | hb
      · exact .inl hb
      · exact .inr (by rw [hb]; exact n'), fun b hb => .inl hb⟩, fun b hb => by obtain ⟨ys, e⟩ := m2.ot b hb; exact ⟨_, e⟩⟩
    exact hl.rt { U with H := upd U.H a (.lst [.int c, .int h, .int n]), A := fun b => U.A b ∨ b = a, V := fun b => U.V b ∨ b = a } (.ref a) .vat kz ((l1.sts k).trans k k1 kz lz) (.vat (.inr rfl)) hrt
  · exact hr.elim
/-- a vat's place is set -/
theorem vat_set {K : Fg} {U : Wd} {a : Addr} {j : Nat} {z : Int} (k : U.Ok) (h : U.V a) (hj : j < 3) (hz : VatZ j z) : ∃ xs, U.H a = some (.lst xs) ∧ ixN xs.length (j : Int) = some j ∧ ({ U with H := upd U.H a (.lst (xs.set j (.int z))) } : Wd).Ok ∧ Sq U { U with H := upd U.H a (.lst (xs.set j (.int z))) } := by
  obtain ⟨h1, c, hh, n, e, b1, b2, b3, b4⟩ := k.va a h
  have ne : ∀ {b : Addr}, U.O b → b ≠ a := fun {b} ho q => by subst q; exact k.oa _ ho h1
  have other : ∀ {b : Addr} {o : HO}, b ≠ a → U.H b = some o → upd U.H a (.lst ([V.int c, .int hh, .int n].set j (.int z))) b = some o := fun {b o} q e => by rw [upd_ne q]; exact e
  have va : VatAt (upd U.H a (.lst ([V.int c, .int hh, .int n].set j (.int z)))) a := by
    have hj' : j = 0 ∨ j = 1 ∨ j = 2 := by omega
    rcases hj' with rfl | rfl | rfl
    · exact ⟨z, hh, n, upd_same, hz.1, b2, b3, b4⟩
    · exact ⟨c, z, n, upd_same, b1, hz.1, hz.2 rfl, b4⟩
    · exact ⟨c, hh, z, upd_same, b1, b2, b3, hz.1⟩
  refine ⟨_, e, ?_, ⟨fun b hb => ?_, fun b hb => ?_, fun b hb => ?_, k.oa⟩, ⟨⟨fun b o e' nv _ => other (fun q => by rw [q] at nv; exact nv h) e', fun _ q => q, fun _ q => .inl q, fun _ q => q, fun _ q => .inl q, fun _ q => .inl q⟩, fun b xs ho e' => ⟨other (ne ho) e', ho⟩⟩⟩
  · unfold ixN
    rw [if_pos (by omega), if_pos (by show (j : Int) < ((3 : Nat) : Int); omega)]
    simp
  · obtain ⟨h1', c', hh', n', e', r⟩ := k.va b hb
    refine ⟨h1', ?_⟩
    by_cases q : b = a
    · rw [q]
      exact va
    · exact ⟨c', hh', n', other q e', r⟩
  · by_cases q : b = a
    · rw [q]
      exact ⟨_, upd_same⟩
    · obtain ⟨o, e'⟩ := k.at_ b hb
      exact ⟨o, other q e'⟩
  · obtain ⟨xs, e'⟩ := k.ot b hb
    exact ⟨xs, other (ne hb) e'⟩
theorem s_setV (c : Cok cc Φ lv X) {v : Str} {p1 p2 p3 : Pos} {kk : Nat} {j : Int} {i : Nat} {e : Expr} {x : RE} (hi : cslot cc v = some i) (hl : isLC e = false) (hj0 : 0 ≤ j) (h : PE X e (trE X.K (wE Φ x))) :
    PS X (.Assign [.Subscript (.Name v p1) (.Constant (.int j) kk p2) p3] e pos) (trS X.K (wS Φ (.setV i j.toNat x))) := by
  obtain ⟨h1, h2, h3⟩ := cslot_ok c hi
  obtain ⟨h4, h5⟩ := okN h3
  have hs : swapsWithSole [.Subscript (.Name v p1) (.Constant (.int j) kk p2) p3] e pos.line X.env = pure false := by
    cases e <;> first | rfl | cases hl
  refine pS_imp (ps_asg h (pg_sub (pe_var h1 h2 h4 h5) pe_int set_list (by intro _; rfl)) hs (by cases e <;> rfl) rfl) fun D σ H q => ?_
  obtain ⟨W, τ, P, rfl, k, g, hw, hl⟩ := q
  simp only [wS] at hw
  obtain ⟨hj, hw⟩ := hw
  refine use_e k g hw fun d u U hd k1 l1 rv => ?_
  split at hd
  · rename_i z hτ
    obtain ⟨w, w1, w2⟩ := g.get i _ hτ
    cases w2 with
    | val w2 =>
      cases w2 with
      | vat hv =>
        have := rv.int_of
        subst this
        obtain ⟨xs, e1, e2, k2, sq⟩ := vat_set (K := X.K) k1 (l1.v1 _ hv) hj hd.1
        rw [Int.toNat_of_nonneg hj0] at e2
        exact ⟨_, w1, _, xs, j, j.toNat, rfl, rfl, e1, e2, hl.nx { U with H := upd U.H _ (.lst (xs.set j.toNat (.int z))) } σ τ k2 ((l1.sts k).trans k k1 k2 ⟨sq.stp, sq.there k1⟩) ((g.le l1 k).sq sq k1) hd.2⟩
  · exact hd.elim
theorem s_setV2 (c : Cok cc Φ lv X) {v y : Str} {p1 p2 p3 p4 p5 q : Pos} {kk kt : Nat} {j : Int} {i m : Nat} {f : Expr} {as : List Expr} {ks : List Keyword} {x : RE} (hi : cslot cc v = some i) (hm : tgName cc (.Name y p4) = some m) (hj0 : 0 ≤ j) (h : PE X (.Call f as ks q) (trE X.K (wE Φ x))) :
    PS X (.Assign [.Tuple [.Subscript (.Name v p1) (.Constant (.int j) kk p2) p3, .Name y p4] kt p5] (.Call f as ks q) pos) (trS X.K (wS Φ (.setV2 i j.toNat m x))) := by
  obtain ⟨h1, h2, h3⟩ := cslot_ok c hi
  obtain ⟨h4, h5⟩ := okN h3
  refine pS_imp (ps_asg h (pg_tup c.calm (pgs_cons (pg_sub (pe_var h1 h2 h4 h5) pe_int set_list (by intro _; rfl)) (pgs_cons (tgName_ok c hm) pgs_nil rfl) rfl) rfl rfl) rfl rfl rfl) fun D σ H q => ?_
  obtain ⟨W, τ, P, rfl, k, g, hw, hl⟩ := q
  simp only [wS] at hw
  obtain ⟨hj, hw⟩ := hw
  refine use_e k g hw fun d u U hd k1 l1 rv => ?_
  split at hd
  · rename_i z yd hτ
    obtain ⟨w, w1, w2⟩ := g.get i _ hτ
    cases w2 with
    | val w2 =>
      cases w2 with
      | vat hv =>
        cases rv with
        | d rv =>
          cases rv with
          | tup et hs =>
            cases hs with
            | cons r1 hs =>
              cases hs with
              | cons r2 hs =>
                cases hs
                cases r1
                obtain ⟨xs, e1, e2, k2, sq⟩ := vat_set (K := X.K) k1 (l1.v1 _ hv) hj hd.1
                rw [Int.toNat_of_nonneg hj0] at e2
                have g2 := (g.le l1 k).sq sq k1
                exact ⟨_, _, rfl, et, rfl, _, _, rfl, ⟨_, w1, _, xs, j, j.toNat, rfl, rfl, e1, e2, _, _, rfl, rfl, hl.nx { U with H := upd U.H _ (.lst (xs.set j.toNat (.int z))) } _ _ k2 ((l1.sts k).trans k k1 k2 ⟨sq.stp, sq.there k1⟩) (g2.set (.d (r2.stp sq.stp k1)) m) hd.2⟩⟩
  · exact hd.elim
/-! ### all statements -/
structure SndS (Φ : Nat → PSp) (lv n : Nat) : Prop where
  s : ∀ {cc : CC} {X : Cx} {e : Stmt} {r : RS}, Cok cc Φ lv X → cS n cc e = some r → PS X e (trS X.K (wS Φ r))
  ss : ∀ {cc : CC} {X : Cx} {e : List Stmt} {r : RS}, Cok cc Φ lv X → cSs n cc e = some r → PSs X e (trS X.K (wS Φ r))
theorem sndS0 : SndS Φ lv 0 := by
  constructor
  · intro cc X e r c h; simp [cS] at h
  · intro cc X e r c h; simp [cSs] at h
theorem sndS_ss {n : Nat} (S : SndS Φ lv n) {e : List Stmt} {r : RS} (c : Cok cc Φ lv X) (h : cSs (n + 1) cc e = some r) : PSs X e (trS X.K (wS Φ r)) := by
  simp only [cSs] at h
  split at h
  · cases h; exact ss_nil
  · exact pss_one (S.s c h)
  · split at h
    · rename_i x y h1 h2
      cases h
      exact ss_cons (S.s c h1) (S.ss c h2)
    · cases h
theorem notLC_of {n : Nat} {e : Expr} {x : RE} (h : cE n cc e = some x) : isLC e = false ∨ ∃ elt tg iter ifs scope q, e = .ListComp elt [⟨tg, iter, ifs, 0⟩] scope q := by
  cases n with
  | zero => simp [cE] at h
  | succ n =>
    cases e <;> first | exact .inl rfl | skip
    · rename_i elt gs scope q
      unfold cE at h
      split at h <;> first | (rename_i hh; cases hh; done) | skip
      · rename_i hh
        cases hh
        exact .inr ⟨_, _, _, _, _, _, rfl⟩
      · cases h
    · simp [cE] at h
    · simp [cE] at h
theorem s_asgE {n : Nat} (c : Cok cc Φ lv X) {y : Str} {p : Pos} {i : Nat} {e : Expr} {x : RE} (ht : tgName cc (.Name y p) = some i) (h : cE n cc e = some x) : PS X (.Assign [.Name y p] e pos) (trS X.K (wS Φ (.asg i x))) := by
  rcases notLC_of h with hl | ⟨elt, tg, iter, ifs, scope, q, rfl⟩
  · exact s_asg c hl ht ((snd n).e c h)
  · cases n with
    | zero => simp [cE] at h
    | succ n =>
      simp only [cE] at h
      split at h
      · rename_i hb
        rw [Bool.and_eq_true] at hb
        split at h
        · rename_i it g t x h1 h2 h3 h4
          split at h
          · rename_i hin
            cases h
            exact s_asgLc c ht hb.1 hb.2 hin ((snd n).i c h1) h2 (fun Y d => (snd n).ts d h3) fun Y d => (snd n).e d h4
          · cases h
        · cases h
      · cases h
theorem sndS_s {n : Nat} (S : SndS Φ lv n) {e : Stmt} {r : RS} (c : Cok cc Φ lv X) (h : cS (n + 1) cc e = some r) : PS X e (trS X.K (wS Φ r)) := by
  unfold cS at h
  split at h
  · split at h
    · obtain ⟨x, h1, h2⟩ := Option.map_eq_some_iff.mp h
      subst h2
      exact s_retV ((snd n).a c h1)
    · obtain ⟨x, h1, h2⟩ := Option.map_eq_some_iff.mp h
      subst h2
      exact s_frzOf (s_ret ((snd n).e c h1))
  · obtain ⟨x, h1, h2⟩ := Option.map_eq_some_iff.mp h
    subst h2
    exact s_frzOf (s_ret ((snd n).e c h1))
  · cases h; exact s_retN
  · split at h
    · cases h
    · rename_i hh
      simp only [Bool.or_eq_true, not_or, Bool.not_eq_true, decide_eq_true_eq] at hh
      split at h
      · rename_i i x h1 h2
        cases h
        exact s_setV c h1 hh.1 (by omega) ((snd n).e c h2)
      · cases h
  · split at h
    · cases h
    · rename_i hh
      simp only [decide_eq_true_eq] at hh
      split at h
      · rename_i i m x h1 h2 h3
        cases h
        exact s_setV2 c h1 h2 (by omega) ((snd n).e c h3)
      · cases h
  · split at h
    · rename_i i ra h1 h2
      split at h
      · cases h
        exact s_frzOf (s_own c h1 ((snd n).a c h2))
      · obtain ⟨x, h3, h4⟩ := Option.map_eq_some_iff.mp h
        subst h4
        exact s_frzOf (s_asgE c h1 h3)
    · cases h
  · split at h
    · rename_i i x h1 h2
      cases h
      exact s_frzOf (s_asgE c h1 h2)
    · cases h
  · rename_i ts k p vs k2 p2 q
    split at h
    · rename_i hsw
      split at h
      · rename_i g x h1 h2
        cases h
        exact s_frzOf (s_asgT c h1 (swp0 c hsw) ((snd n).e c h2))
      · cases h
    · rename_i hsw
      split at h
      · rename_i is ra h1 h2
        split at h
        · rename_i hnd
          cases h
          refine s_frzOf ?_
          have hnd := of_decide_eq_true hnd
          obtain ⟨hl, hl2, hnm, _, _⟩ := swp1_base c hsw
          have hs := cA_star h2
          have hp := (snd (Φ := Φ) (lv := lv) n).a c h2
          rcases hl with hl | hl
          · match ts, vs, hl, hl2 with
            | [t1, t2], [a, b], _, _ =>
              obtain ⟨x, q1, rfl, _, _⟩ := hnm _ List.mem_cons_self
              obtain ⟨y, q2, rfl, _, _⟩ := hnm _ (List.mem_cons_of_mem _ List.mem_cons_self)
              simp only [tgNames] at h1
              cases e1 : tgName cc (.Name x q1) with
              | none => rw [e1] at h1; simp at h1
              | some i =>
                cases e2 : tgName cc (.Name y q2) with
                | none => rw [e1, e2] at h1; simp at h1
                | some j =>
                  rw [e1, e2] at h1
                  cases h1
                  exact s_par2 c hsw e1 e2 (by simpa using hnd) hs hp
          · match ts, vs, hl, hl2 with
            | [t1, t2, t3], [a, b, d], _, _ =>
              obtain ⟨x, q1, rfl, _, _⟩ := hnm _ List.mem_cons_self
              obtain ⟨y, q2, rfl, _, _⟩ := hnm _ (List.mem_cons_of_mem _ List.mem_cons_self)
              obtain ⟨z, q3, rfl, _, _⟩ := hnm _ (List.mem_cons_of_mem _ (List.mem_cons_of_mem _ List.mem_cons_self))
              simp only [tgNames] at h1
              cases e1 : tgName cc (.Name x q1) with
              | none => rw [e1] at h1; simp at h1
              | some i =>
                cases e2 : tgName cc (.Name y q2) with
                | none => rw [e1, e2] at h1; simp at h1
                | some j =>
                  cases e3 : tgName cc (.Name z q3) with
                  | none => rw [e1, e2, e3] at h1; simp at h1
                  | some m =>
                    rw [e1, e2, e3] at h1
                    cases h1
                    simp at hnd
                    exact s_par3 c hsw e1 e2 e3 hnd.1.1 hnd.1.2 hnd.2 hs hp
        · cases h
      · cases h
    · cases h
  · rename_i ts k p e q hne
    split at h
    · rename_i g x h1 h2
      cases h
      exact s_frzOf (s_asgT c h1 (swp_none fun vs k2 p2 z => hne vs k2 p2 z) ((snd n).e c h2))
    · cases h
  · split at h
    · rename_i hh
      simp only [Bool.and_eq_true, beq_iff_eq, Bool.not_eq_true'] at hh
      obtain ⟨⟨h1, h2⟩, h3⟩ := hh
      subst h1
      split at h
      · rename_i i y h4 h5
        cases h
        exact s_frzOf (s_app c h4 h2 (by rw [beq_iff_eq]; exact h3) ((snd n).e c h5))
      · cases h
    · cases h
  · obtain ⟨x, h1, h2⟩ := Option.map_eq_some_iff.mp h
    subst h2
    exact s_frzOf (s_exp ((snd n).e c h1))
  · cases h; exact s_skip ps_doc
  · split at h
    · rename_i i x h1 h2
      cases h
      exact s_frzOf (s_aug c h1 ((snd n).e c h2))
    · cases h
  · cases h; exact s_skip ps_pass
  · cases h; exact s_brk
  · cases h; exact s_cnt
  · cases h; exact s_fail
  · split at h
    · rename_i t x y h1 h2 h3
      cases h
      exact s_frzOf (s_iff ((snd n).t c h1) (S.ss c h2) (S.ss c h3))
    · cases h
  · split at h
    · rename_i t x h1 h2
      cases h
      exact s_whl c ((snd n).t c h1) (S.ss c h2)
    · cases h
  · split at h
    · rename_i hit
      split at h
      · rename_i g i x h1 h2 h3
        cases h
        exact s_frzOf (s_for c hit h1 ((snd n).i c h2 _) (S.ss c h3))
      · cases h
    · cases h
  · cases h
theorem sndS : ∀ n : Nat, SndS Φ lv n
  | 0 => sndS0
  | n + 1 => ⟨fun c h => sndS_s (sndS n) c h, fun c h => sndS_ss (sndS n) c h⟩
end
end Pf

namespace Pf
open PySem PySem.Spec PyProof.Rows L2
/-! ### a def keeps its promise -/
def startD (N : List Str) (ds : List DV) : SDs := ds.map (fun d => some (.val d)) ++ List.replicate (N.length - ds.length) none
section
variable {P : Program} {w : World} {K : Fg} {mg : Str → Option Value} {base : Heap}
theorem start_gd {W : Wd} {N : List Str} {vs : List V} {ds : List DV} (h : RDs K W vs ds) : Gd K W (L2.start N vs) (startD N ds) := by
  unfold L2.start startD
  rw [h.length]
  refine ⟨by simp [h.length], fun i x e => ?_, fun i j a xs ys e1 _ _ _ => ?_⟩
  · by_cases hi : i < ds.length
    · rw [List.getElem?_append_left (by rw [List.length_map]; exact hi), List.getElem?_map, List.getElem?_eq_getElem hi] at e
      obtain ⟨v, d, h1, h2, h3⟩ := h.get (i := i) (by rw [h.length]; exact hi)
      rw [List.getElem?_eq_getElem hi] at h2
      cases h2
      cases e
      exact ⟨v, by rw [List.getElem?_append_left (by rw [List.length_map, h.length]; exact hi), List.getElem?_map, h1]; rfl, .val h3⟩
    · rw [List.getElem?_append_right (by rw [List.length_map]; omega), List.getElem?_replicate] at e
      split at e <;> cases e
  · exfalso
    by_cases hi : i < ds.length
    · rw [List.getElem?_append_left (by rw [List.length_map]; exact hi), List.getElem?_map, List.getElem?_eq_getElem hi] at e1
      cases e1
    · rw [List.getElem?_append_right (by rw [List.length_map]; omega), List.getElem?_replicate] at e1
      split at e1 <;> cases e1
/-- what the top has left, for a group of defs -/
structure Glo (P : Program) (w : World) (K : Fg) (mg : Str → Option Value) (base : Heap) (Φ : Nat → PSp) (lv : Nat) (cc : CC) : Prop where
  fs : ∀ x k, cc.fs.lookup x = some k → ∃ (f : Addr) (fd : FuncData) (ps : List Str), mg x = some (.ref f) ∧ PySem.W.keepIn K (.ref f) = true ∧ FnP P w K mg base lv f fd ps (Φ k) ∧ Binds K fd ps []
  kb : ∀ p, p ∈ cc.kb → ∀ k, cc.fs.lookup p.1 = some k → ∃ (f : Addr) (fd : FuncData) (ps : List Str), mg p.1 = some (.ref f) ∧ PySem.W.keepIn K (.ref f) = true ∧ FnP P w K mg base lv f fd ps (Φ k) ∧
    ∀ (s : Shared) (us ws : List Value), K.In s.heap → us.length = p.2.1 → ws.length = p.2.2.1.length → BindsTo s fd ⟨us, p.2.2.1.zip ws⟩ (ps.zip (p.2.2.2.filterMap fun i => (us ++ ws)[i]?))
  ms : ∀ p, p ∈ cc.ms → mg p.1 = some (biV p.2.2)
  bs : ∀ x, x ∈ cc.bs → mg x = none
  mok : ∀ p, p ∈ cc.ms → 0 < p.2.1 ∧ ∃ id, biV p.2.2 = .builtin id
  gs : ∀ x d, cc.gs.lookup x = some d → ∃ (v : V) (u : Value), mg x = some u ∧ RelV v u ∧ ∀ W : Wd, R K W v d
theorem fnp_of {Φ : Nat → PSp} {lv n : Nat} {cc : CC} {x qual : Str} {st : Stmt} {f : Addr} {fd : FuncData} {ps : List Str} {sp : PSp} {rs : RS} (F : Fun K x qual st f fd) (S : FnScope cc.N ps cc.sc) (hsc : defScope st = cc.sc) (hfn : cc.fn = fun _ => true) (G : Glo P w K mg base Φ lv cc)
    (hc : cSs n cc (defBody st) = some rs) (len : ∀ ds Q, sp ds Q → ds.length = ps.length)
    (sem : ∀ ds Q, sp ds Q → wS Φ rs { nx := fun _ => Q (.d .none), rt := Q } (startD cc.N ds)) : FnP P w K mg base (lv + 1) f fd ps sp := by
  obtain ⟨oc, od, kV, doc, pm, an, cdv, ct, osl, rfl, lk, hcd⟩ := F.ex
  refine ⟨len, fun A outer s args us vs W ds Q hr hg k hO e0 hb rv rd hs => ?_⟩
  rw [hsc] at lk hb
  have hl : us.length = ps.length := by rw [← rv.length, rd.length]; exact len _ _ hs
  have KX : K.In s.heap := e0.mod.kin.keeps fun b o e => (e0.bs b o e).1
  have lim : s.heap.NoLimit := e0.mod.nolimit.keeps fun b o e => (e0.bs b o e).1
  refine codeAny_call_function hr.depth (KX _ _ lk) rfl S.co S.gen rfl (PySem.W.codeRec_of KX hcd) (hb _ _ _ _ ?_)
  have cellOk : ∀ y ∈ ps.zip us, cc.sc.names.lookup y.1 = some .local ∨ (cc.sc.names.lookup y.1 = some .cell ∧ ((cellsFrom (s.heap.objs.size + 1) cc.sc.names []).lookup y.1).isSome = true) := by
    rintro ⟨y, u⟩ hy
    rcases S.par y (List.of_mem_zip hy).1 with q | q
    · exact .inl q
    · exact .inr ⟨q, PySem.W.cellsFrom_some _ _ _ (.inl q)⟩
  refine wpAny_newFunctionEnv_cells S.kind cellOk fun env he s1 ic => ?_
  subst he
  refine ⟨lim.keeps ic.toInCall.keep, codeAny_func ?_⟩
  have I := inv_start (CX := CX0) (E := E0) S hr.hd e0 (by rw [rd.length]; exact len _ _ hs) rv ic
  have hcok : Cok cc Φ lv (cxOf CX0 P w K mg base cc.N qual cc.sc f cdv A outer s W.H E0).nox := ⟨S.nd, rfl, rfl, by rw [hfn]; rfl, rfl, rfl, hg, hr.deeper _, fun y k h => ⟨G.fs y k h⟩, fun p hp k h => ⟨G.kb p hp k h⟩, G.ms, G.bs, G.mok, G.gs⟩
  have hbody := ((sndS (Φ := Φ) (lv := lv) n).ss hcok hc).nox
  refine wpAny_mono (hbody.run [] s1 _ _ { nx := fun _ H' => ∃ U r, U.H = H' ∧ U.Ok ∧ Stp W U ∧ RD K U .non r ∧ Q r, rt := fun v H' => ∃ U r, U.H = H' ∧ U.Ok ∧ Stp W U ∧ RD K U v r ∧ Q r } I ⟨W, _, _, rfl, k, start_gd rd, sem ds Q hs, ⟨?_, ?_, ?_, ?_⟩⟩) (fun fl z hz => ?_) fun e z hz => hz
  · intro U σ τ q l _ h
    exact ⟨U, _, rfl, q, l.stp, .d .non, h⟩
  · intro U v r q l hv h
    exact ⟨U, r, rfl, q, l.stp, hv, h⟩
  · intro U σ τ _ _ _ h
    exact h
  · intro U σ τ _ _ _ h
    exact h
  · cases fl with
    | ret u =>
      obtain ⟨v, σ', G', J, rv', q⟩ := hz
      exact ⟨v, G', J.os, J.bare, J.base, J.hok, rv', q⟩
    | next =>
      obtain ⟨σ', G', J, q⟩ := hz
      exact ⟨.non, G', J.os, J.bare, J.base, J.hok, rfl, q⟩
    | brk =>
      obtain ⟨_, _, _, q⟩ := hz
      exact False.elim q
    | cont =>
      obtain ⟨_, _, _, q⟩ := hz
      exact False.elim q
end
/-! ### the law's call -/
section
variable {P : Program} {w : World} {K : Fg} {mg mb : Str → Option Value} {k : Nat} {fa a : Addr} {fd : FuncData} {x : Str} {sp : PSp} {s : Shared} {ns : List Int}
def LawEnd (s : Shared) (r : Result) (z : Shared) : Prop := r = .ok (.ret (.bool true)) ∧ OldK s.heap z.heap ∧ z.os = s.os ∧ AllBare z.gens
theorem law_core {its : List Value} (KX : K.In s.heap) (hns : s.heap.Ns mainGlobals mg) (hb : s.heap.Ns builtinsNs mb) (hbb : ∀ y : Str, y ≠ "__name__" → mb y = bootBuiltins y) (hlim : s.heap.NoLimit) (hg : s.gens = #[])
    (ha : s.heap.get? a = some { cls := .type "list", data := .seq its.toArray }) (hr : Room k callerA) (F : ∀ base : Heap, K.In base → base.Ns mainGlobals mg → FnP P w K mg base k fa fd [x] sp)
    (hbind : ∀ (z : Shared) (u : Value), BindsTo z fd ⟨[u], []⟩ [(x, u)]) (hsp : sp [.scr ns] fun r => r = .d (.bool true))
    {H : Hp} (hO : ∀ b, H b = none ∨ ∃ o xs, H b = some (.frz o (.lst xs))) (hS : RD K ⟨H, fun _ => False, fun _ => False, fun _ => False⟩ (.ref a) (.scr ns)) (ok : HOk P w H s.heap) (hA : ∀ b u, H b = some u → b = a) (hK : ∀ u, H a = some u → K.lookup a = none) :
    codeAny (model P w) callerA (.call (.ref fa) ⟨[.ref a], []⟩) (LawEnd s) s := by
  have up : ∀ {b : Addr} {o : Obj}, s.heap.get? b = some o → H b = none → (hidT s.heap H).get? b = some o := fun e n => hidT_get e n
  have free : ∀ {b : Addr} {o : Obj}, s.heap.get? b = some o → (∀ (vs : Array Value) n, o.data ≠ .seq vs n) → H b = none := fun {b o} e d => by
    cases q : H b with
    | none => rfl
    | some u =>
      have z := hA b u q
      rw [z, ha] at e
      cases e
      exact absurd rfl (d _ _)
  have ns' : ∀ {b : Addr} {m : Str → Option Value}, s.heap.Ns b m → (hidT s.heap H).Ns b m := fun {b m} ⟨o, es, ep, e, d, r⟩ => ⟨o, es, ep, up e (free e fun vs n z => by rw [d] at z; cases z), d, r⟩
  have Kb : K.In (hidT s.heap H) := fun b o e => up (KX b o e) (by
    cases q : H b with
    | none => rfl
    | some u =>
      have z := hA b u q
      subst z
      rw [hK u q] at e
      cases e)
  have M : Mod K mg (hidT s.heap H) := ⟨Kb, ns' hns, ⟨mb, ns' hb, hbb⟩, by
    obtain ⟨mc, h1, h2⟩ := hlim
    exact ⟨mc, ns' h1, h2⟩⟩
  have E0' : Env0 P w K mg (hidT s.heap H) callerA [] s H := ⟨rfl, M, fun b o e => of_hidT e, Nat.le_of_eq (hidT_size _ _), trivial, fun b z => absurd (show b ∈ ([] : List Addr) from z) (by simp), ok, .of_eq hg⟩
  have wok : (⟨H, fun _ => False, fun _ => False, fun _ => False⟩ : Wd).Ok := ⟨fun _ z => z.elim, fun _ z => z.elim, fun _ z => z.elim, fun _ z => z.elim⟩
  refine codeAny_mono ((F _ Kb (ns' hns)).run callerA [] s ⟨[.ref a], []⟩ [.ref a] [.ref a] ⟨H, fun _ => False, fun _ => False, fun _ => False⟩ [.scr ns] _ hr rfl wok (fun _ z => z) E0' (hbind s (.ref a)) (.cons rfl .nil) (.cons hS .nil) hsp) fun r z h => ?_
  cases r with
  | error e => exact False.elim h
  | ok fl =>
    cases fl with
    | next => exact False.elim h
    | brk => exact False.elim h
    | cont => exact False.elim h
    | ret u =>
      obtain ⟨v, G, hos, bare, un, ok', rv, U, r, e1, q, l, hr', hR⟩ := h
      subst e1
      subst hR
      cases hr' with
      | d hr' =>
        have := hr'.bool_of
        subst this
        have hu : u = Value.bool true := rv
        subst hu
        refine ⟨rfl, OldK.of_keep fun b o e => ?_, hos, bare⟩
        rcases hO b with z0 | ⟨ob, xs, z0⟩
        · exact un.keep b o e z0 (fun z1 => absurd (show b ∈ ([] : List Addr) from z1) (by simp)) (by simp)
        · have z2 := un.frzs b ob _ z0
          obtain ⟨q1, _⟩ := ok b _ z0
          obtain ⟨q2, _⟩ := ok' b _ z2
          rw [e] at q1
          cases q1
          exact q2
theorem law_P {its : List Value} (KX : K.In s.heap) (hns : s.heap.Ns mainGlobals mg) (hb : s.heap.Ns builtinsNs mb) (hbb : ∀ y : Str, y ≠ "__name__" → mb y = bootBuiltins y) (hlim : s.heap.NoLimit) (hg : s.gens = #[])
    (ha : s.heap.get? a = some { cls := .type "list", data := .seq its.toArray }) (hi : IntsAre its ns) (hl : ns.length ≤ sizeLine) (hr : Room k callerA) (F : ∀ base : Heap, K.In base → base.Ns mainGlobals mg → FnP P w K mg base k fa fd [x] sp)
    (hbind : ∀ (z : Shared) (u : Value), BindsTo z fd ⟨[u], []⟩ [(x, u)]) (hsp : sp [.scr ns] fun r => r = .d (.bool true)) : codeAny (model P w) callerA (.call (.ref fa) ⟨[.ref a], []⟩) (LawEnd s) s := by
  have rv := vals_ints hi
  cases hk : K.lookup a with
  | some o =>
    have e := KX a o hk
    rw [ha] at e
    cases e
    refine law_core (H := fun _ => none) KX hns hb hbb hlim hg ha hr F hbind hsp (fun _ => .inl rfl) (.scr (.inr ⟨_, its.toArray, _, hk, rfl, rfl, rfl, by rw [List.size_toArray, hi.length]; exact hl, by simpa using rv⟩)) (fun b u z => by cases z) (fun b u z => by cases z) fun u z => by cases z
  | none =>
    have key : ∀ b u, (if b = a then some (HO.frz { cls := .type "list", data := .seq its.toArray } (.lst (ns.map V.int))) else none) = some u → b = a ∧ u = HO.frz { cls := .type "list", data := .seq its.toArray } (.lst (ns.map V.int)) := fun b u z => by
      split at z
      · rename_i h
        exact ⟨h, (Option.some.inj z).symm⟩
      · cases z
    refine law_core (H := fun b => if b = a then some (HO.frz { cls := .type "list", data := .seq its.toArray } (.lst (ns.map V.int))) else none) KX hns hb hbb hlim hg ha hr F hbind hsp (fun b => ?_) (.scr (.inl ⟨_, if_pos rfl⟩)) (fun b u z => ?_) (fun b u z => (key b u z).1) fun _ _ => hk
    · by_cases h : b = a
      · exact .inr ⟨_, _, if_pos h⟩
      · exact .inl (if_neg h)
    · obtain ⟨h1, h2⟩ := key b u z
      subst h1 h2
      exact ⟨ha, by rw [List.length_map]; exact hl, its, _, rv, ha⟩
end
/-- the goal that the head leaves, from the law's promise over plain data -/
theorem walk_P {l : PySem.W.OpenLaw} {n k : Nat} {q : Program} {loose : List Str} {XP : (Str → Option Value) → Heap → Prop} {YP : World → Heap → Prop} {d : DefRec} {K : Params → Fg} {sp : PSp} {x : Str}
    (hn : l.most = some n) (hn2 : n ≤ sizeLine) (hdf : d.params.defaults = []) (hr : Room k callerA) (hY : ∀ (w : World) (h : Heap), YP w h → (K w.params).In h)
    (F : ∀ (w : World) (mg : Str → Option Value) (fa : Addr) (h : Heap), (K w.params).In h → h.Ns mainGlobals mg → mg d.name = some (.ref fa) →
      ∃ fd : FuncData, (∀ (s : Shared) (u : Value), BindsTo s fd ⟨[u], []⟩ [(x, u)]) ∧ ∀ base : Heap, (K w.params).In base → base.Ns mainGlobals mg → FnP l.prog w (K w.params) mg base k fa fd [x] sp)
    (hsp : ∀ ns : List Int, ns.length ≤ n → sp [.scr ns] fun r => r = .d (.bool true)) : PySem.W.WalkO q loose XP YP l.row.toRowW d [] (fun f vs => PySem.call f vs) := by
  refine Att.attach_call hn hdf fun w s₀ s₁ mg mb fa o pm cd doc a vs ns G Y ho hd hcd hmg hobj hints hlen hg => ?_
  obtain ⟨fd, hb, hF⟩ := F w mg fa _ (hY w _ Y) G.T.g hmg
  exact law_P (hY w _ Y) G.T.g G.T.b G.T.builtins G.T.nolimit hg hobj hints (Nat.le_trans hlen hn2) hr hF hb (hsp ns hlen)
end Pf

namespace Pf
open PySem PySem.Spec PyProof.Rows L2
/-! ### chains of promises -/
theorem fa {α : Type} {P : α → Prop} {a : α} {l : List α} (h : P a) (t : ∀ x ∈ l, P x) : ∀ x ∈ a :: l, P x := fun x hx => by
  rcases List.mem_cons.mp hx with e | e
  · rw [e]; exact h
  · exact t x e
theorem fn0 {α : Type} {P : α → Prop} : ∀ x ∈ ([] : List α), P x := fun x hx => by cases hx
section
variable {P : Program} {w : World} {K : Fg} {mg : Str → Option Value} {base : Heap} {Φ : Nat → PSp}
/-- a def that is known -/
structure FF (P : Program) (w : World) (K : Fg) (mg : Str → Option Value) (base : Heap) (Φ : Nat → PSp) (lv : Nat) (st : Stmt) (ps : List Str) (x : Str) (k : Nat) : Prop where
  ex : ∃ (f : Addr) (fd : FuncData), mg x = some (.ref f) ∧ Fun K x x st f fd ∧ FnP P w K mg base lv f fd ps (Φ k) ∧ Binds K fd ps []
theorem FF.up {lv m : Nat} {st : Stmt} {ps : List Str} {x : Str} {k : Nat} (h : FF P w K mg base Φ lv st ps x k) (hm : lv ≤ m) : FF P w K mg base Φ m st ps x k := by
  obtain ⟨f, fd, a, b, c, d⟩ := h.ex
  exact ⟨f, fd, a, b, c.mono hm, d⟩
structure FG (P : Program) (w : World) (K : Fg) (mg : Str → Option Value) (base : Heap) (Φ : Nat → PSp) (lv : Nat) (p : Str × Nat) : Prop where
  ex : ∃ (f : Addr) (fd : FuncData) (ps : List Str), mg p.1 = some (.ref f) ∧ PySem.W.keepIn K (.ref f) = true ∧ FnP P w K mg base lv f fd ps (Φ p.2) ∧ Binds K fd ps []
theorem FF.g {lv m : Nat} {st : Stmt} {ps : List Str} {x : Str} {k : Nat} (h : FF P w K mg base Φ lv st ps x k) (hm : lv ≤ m) : FG P w K mg base Φ m (x, k) := by
  obtain ⟨f, fd, a, b, c, d⟩ := h.ex
  exact ⟨f, fd, ps, a, b.kp, c.mono hm, d⟩
structure FK (P : Program) (w : World) (K : Fg) (mg : Str → Option Value) (base : Heap) (Φ : Nat → PSp) (lv : Nat) (fs : List (Str × Nat)) (p : Str × Nat × List Str × List Nat) : Prop where
  ex : ∀ k, fs.lookup p.1 = some k → ∃ (f : Addr) (fd : FuncData) (ps : List Str), mg p.1 = some (.ref f) ∧ PySem.W.keepIn K (.ref f) = true ∧ FnP P w K mg base lv f fd ps (Φ k) ∧
    ∀ (s : Shared) (us ws : List Value), K.In s.heap → us.length = p.2.1 → ws.length = p.2.2.1.length → BindsTo s fd ⟨us, p.2.2.1.zip ws⟩ (ps.zip (p.2.2.2.filterMap fun i => (us ++ ws)[i]?))
theorem FF.k {lv m n : Nat} {st : Stmt} {ps kn : List Str} {pm : List Nat} {x : Str} {k : Nat} {fs : List (Str × Nat)} (h : FF P w K mg base Φ lv st ps x k) (hm : lv ≤ m) (hk : fs.lookup x = some k)
    (hb : ∀ (kV doc pm' : Value) (an : Option Addr) (cdv ct : Value) (us ws : List Value), us.length = n → ws.length = kn.length → bindArgs (PySem.W.fnOf x x (defArgs st) (defBody st) (defScope st) .none kV doc pm' an cdv ct) ⟨us, kn.zip ws⟩ = pure (ps.zip (pm.filterMap fun i => (us ++ ws)[i]?))) :
    FK P w K mg base Φ m fs (x, n, kn, pm) := by
  obtain ⟨f, fd, a, b, c, d⟩ := h.ex
  refine ⟨fun k' hk' => ?_⟩
  have e : k' = k := Option.some.inj (hk'.symm.trans hk)
  subst e
  refine ⟨f, fd, ps, a, b.kp, c.mono hm, fun s us ws _ h1 h2 => ?_⟩
  obtain ⟨oc, od, kV, doc, pm', an, cdv, ct, osl, rfl, _, _⟩ := b.ex
  exact .of_eq (hb kV doc pm' an cdv ct us ws h1 h2)
theorem glo {lv : Nat} {cc : CC} (hf : ∀ p ∈ cc.fs, FG P w K mg base Φ lv p) (hk : ∀ p ∈ cc.kb, FK P w K mg base Φ lv cc.fs p) (hm : ∀ p ∈ cc.ms, mg p.1 = some (biV p.2.2) ∧ 0 < p.2.1 ∧ ∃ id, biV p.2.2 = .builtin id) (hb : ∀ x ∈ cc.bs, mg x = none) (hgs : ∀ p ∈ cc.gs, ∃ (v : V) (u : Value), mg p.1 = some u ∧ RelV v u ∧ ∀ W : Wd, R K W v p.2) : Glo P w K mg base Φ lv cc :=
  ⟨fun x k h => (hf (x, k) (mem_of_lookup h)).ex, fun p hp k e => (hk p hp).ex k e, fun p hp => (hm p hp).1, hb, fun p hp => (hm p hp).2, fun x d h => hgs (x, d) (PySem.mem_of_lookup h)⟩
theorem ff_of {lv n : Nat} {cc : CC} {x : Str} {st : Stmt} {f : Addr} {fd : FuncData} {ps : List Str} {k : Nat} {rs : RS} (F : Fun K x x st f fd) (hg : mg x = some (.ref f)) (S : FnScope cc.N ps cc.sc) (hsc : defScope st = cc.sc) (hfn : cc.fn = fun _ => true) (G : Glo P w K mg base Φ lv cc)
    (hc : cSs n cc (defBody st) = some rs) (hb : ∀ (kV doc pm : Value) (an : Option Addr) (cdv ct : Value) (us : List Value), us.length = ps.length → bindArgs (PySem.W.fnOf x x (defArgs st) (defBody st) (defScope st) .none kV doc pm an cdv ct) ⟨us, []⟩ = pure (ps.zip us))
    (len : ∀ ds Q, Φ k ds Q → ds.length = ps.length) (sem : ∀ ds Q, Φ k ds Q → wS Φ rs { nx := fun _ => Q (.d .none), rt := Q } (startD cc.N ds)) : FF P w K mg base Φ (lv + 1) st ps x k :=
  ⟨f, fd, hg, F, fnp_of F S hsc hfn G hc len sem, F.binds hb⟩
end
end Pf

namespace Pf
open PySem PySem.Spec PyProof.Rows L2
/-! ### whole numbers -/
abbrev I (z : Int) : DV := .d (.int z)
abbrev B (b : Bool) : DV := .d (.bool b)
abbrev T2 (a b : Int) : DV := .d (.tuple [.int a, .int b])
abbrev T3 (a b c : Int) : DV := .d (.tuple [.int a, .int b, .int c])
def g2 (a b : Int) : Int := ((Nat.gcd a.natAbs b.natAbs : Nat) : Int)
def g3 (a b c : Int) : Int := ((Nat.gcd (Nat.gcd a.natAbs b.natAbs) c.natAbs : Nat) : Int)
/-- below a power of two in size -/
def Sz (k : Nat) (z : Int) : Prop := z.natAbs < 2 ^ k
theorem Sz.mono {j k : Nat} {z : Int} (h : Sz j z) (e : j ≤ k) : Sz k z := Nat.lt_of_lt_of_le h (Nat.pow_le_pow_right (by decide) e)
theorem Sz.mul {j k : Nat} {a b : Int} (h : Sz j a) (e : Sz k b) : Sz (j + k) (a * b) := by
  unfold Sz at *
  rw [Int.natAbs_mul, Nat.pow_add]
  exact Nat.mul_lt_mul_of_lt_of_le h (Nat.le_of_lt e) (Nat.two_pow_pos k)
theorem Sz.add {k : Nat} {a b : Int} (h : Sz k a) (e : Sz k b) : Sz (k + 1) (a + b) := by
  unfold Sz at *
  rw [Nat.pow_succ]
  have := Int.natAbs_add_le a b
  omega
theorem Sz.neg {k : Nat} {a : Int} (h : Sz k a) : Sz k (0 - a) := by
  unfold Sz at *
  omega
theorem Sz.sub {k : Nat} {a b : Int} (h : Sz k a) (e : Sz k b) : Sz (k + 1) (a - b) := by
  have := h.add e.neg
  have z : a + (0 - b) = a - b := by omega
  rw [z] at this
  exact this
theorem Sz.of {k : Nat} {a : Int} (h : -(2 ^ k : Int) < a) (e : a < (2 ^ k : Int)) : Sz k a := by
  unfold Sz
  have : ((2 ^ k : Nat) : Int) = (2 ^ k : Int) := by simp
  omega
theorem Sz.le {k : Nat} {a b : Int} (h : Sz k b) (e : a.natAbs ≤ b.natAbs) : Sz k a := Nat.lt_of_le_of_lt e h
theorem Sz.div {k : Nat} {a g : Int} (h : Sz k a) : Sz k (a / g) := h.le (Int.natAbs_ediv_le_natAbs a g)
theorem Sz.log {k : Nat} {a : Int} (h : Sz k a) (e : 0 < k) : a.natAbs.log2 < k := PySem.Flt.log2_lt_of e h
theorem cmul {j k : Nat} {a b : Int} (h : Sz j a) (e : Sz k b) (hj : 0 < j) (hk : 0 < k) (hs : j + k ≤ 1000000) : CMul a b ∨ CMulW a b := .inr (wide_mul h e hj hk hs)
theorem cdiv {k : Nat} {a b : Int} (h : 0 < b) (e : Sz k b) (hk : 0 < k) (hs : k ≤ 9000) : CDivW a b := wide_div h e hk hs
/-! greatest common divisors -/
theorem g2_nn (a b : Int) : 0 ≤ g2 a b := Int.natCast_nonneg _
theorem g2_pos {a b : Int} (h : b ≠ 0) : 0 < g2 a b := by
  unfold g2
  have := Nat.gcd_pos_of_pos_right a.natAbs (Int.natAbs_pos.mpr h)
  omega
theorem g3_pos {a b c : Int} (h : c ≠ 0) : 0 < g3 a b c := by
  unfold g3
  have := Nat.gcd_pos_of_pos_right (Nat.gcd a.natAbs b.natAbs) (Int.natAbs_pos.mpr h)
  omega
theorem g2_d1 (a b : Int) : g2 a b ∣ a := Int.natAbs_dvd_natAbs.mp (by unfold g2; exact Nat.gcd_dvd_left _ _)
theorem g2_d2 (a b : Int) : g2 a b ∣ b := Int.natAbs_dvd_natAbs.mp (by unfold g2; exact Nat.gcd_dvd_right _ _)
theorem g3_d1 (a b c : Int) : g3 a b c ∣ a := Int.natAbs_dvd_natAbs.mp (by unfold g3; exact Nat.dvd_trans (Nat.gcd_dvd_left _ _) (Nat.gcd_dvd_left _ _))
theorem g3_d2 (a b c : Int) : g3 a b c ∣ b := Int.natAbs_dvd_natAbs.mp (by unfold g3; exact Nat.dvd_trans (Nat.gcd_dvd_left _ _) (Nat.gcd_dvd_right _ _))
theorem g3_d3 (a b c : Int) : g3 a b c ∣ c := Int.natAbs_dvd_natAbs.mp (by unfold g3; exact Nat.gcd_dvd_right _ _)
theorem g2_le {a b : Int} (h : b ≠ 0) : (g2 a b).natAbs ≤ b.natAbs := Nat.le_of_dvd (Int.natAbs_pos.mpr h) (Int.natAbs_dvd_natAbs.mpr (g2_d2 a b))
theorem g3_le {a b c : Int} (h : c ≠ 0) : (g3 a b c).natAbs ≤ c.natAbs := Nat.le_of_dvd (Int.natAbs_pos.mpr h) (Int.natAbs_dvd_natAbs.mpr (g3_d3 a b c))
theorem g2_mul {k a b : Int} (h : 0 < k) : g2 (k * a) (k * b) = k * g2 a b := by
  unfold g2
  rw [Int.natAbs_mul, Int.natAbs_mul, Nat.gcd_mul_left, Int.natCast_mul, Int.natAbs_of_nonneg (Int.le_of_lt h)]
theorem g3_mul {k a b c : Int} (h : 0 < k) : g3 (k * a) (k * b) (k * c) = k * g3 a b c := by
  unfold g3
  rw [Int.natAbs_mul, Int.natAbs_mul, Int.natAbs_mul, Nat.gcd_mul_left, Nat.gcd_mul_left, Int.natCast_mul, Int.natAbs_of_nonneg (Int.le_of_lt h)]
/-- a pair, a triple, reduced -/
def rd (a b : Int) : Int × Int := (a / g2 a b, b / g2 a b)
def rt (a b c : Int) : Int × Int × Int := (a / g3 a b c, b / g3 a b c, c / g3 a b c)
theorem rd_eq (a b : Int) : a = g2 a b * (rd a b).1 ∧ b = g2 a b * (rd a b).2 := ⟨(Int.mul_ediv_cancel' (g2_d1 a b)).symm, (Int.mul_ediv_cancel' (g2_d2 a b)).symm⟩
theorem rt_eq (a b c : Int) : a = g3 a b c * (rt a b c).1 ∧ b = g3 a b c * (rt a b c).2.1 ∧ c = g3 a b c * (rt a b c).2.2 := ⟨(Int.mul_ediv_cancel' (g3_d1 a b c)).symm, (Int.mul_ediv_cancel' (g3_d2 a b c)).symm, (Int.mul_ediv_cancel' (g3_d3 a b c)).symm⟩
theorem rd_smul {k a b : Int} (h : 0 < k) : rd (k * a) (k * b) = rd a b := by
  unfold rd
  rw [g2_mul h, Int.mul_ediv_mul_of_pos _ _ h, Int.mul_ediv_mul_of_pos _ _ h]
theorem rt_smul {k a b c : Int} (h : 0 < k) : rt (k * a) (k * b) (k * c) = rt a b c := by
  unfold rt
  rw [g3_mul h, Int.mul_ediv_mul_of_pos _ _ h, Int.mul_ediv_mul_of_pos _ _ h, Int.mul_ediv_mul_of_pos _ _ h]
/-- two pairs that are multiples of one another -/
theorem rd_ext {k l a b c d : Int} (hk : 0 < k) (hl : 0 < l) (h1 : k * a = l * c) (h2 : k * b = l * d) : rd a b = rd c d := by
  rw [← rd_smul (a := a) (b := b) hk, ← rd_smul (a := c) (b := d) hl, h1, h2]
theorem rt_ext {k l a b c d e f : Int} (hk : 0 < k) (hl : 0 < l) (h1 : k * a = l * d) (h2 : k * b = l * e) (h3 : k * c = l * f) : rt a b c = rt d e f := by
  rw [← rt_smul (a := a) (b := b) (c := c) hk, ← rt_smul (a := d) (b := e) (c := f) hl, h1, h2, h3]
theorem rd_cop {a b : Int} (h : b ≠ 0) : g2 (rd a b).1 (rd a b).2 = 1 := by
  have hp := g2_pos (a := a) h
  obtain ⟨e1, e2⟩ := rd_eq a b
  have := g2_mul (a := (rd a b).1) (b := (rd a b).2) hp
  rw [← e1, ← e2] at this
  have z : g2 a b * g2 (rd a b).1 (rd a b).2 = g2 a b * 1 := by rw [← this, Int.mul_one]
  exact Int.eq_of_mul_eq_mul_left (Int.ne_of_gt hp) z
theorem rt_cop {a b c : Int} (h : c ≠ 0) : g3 (rt a b c).1 (rt a b c).2.1 (rt a b c).2.2 = 1 := by
  have hp := g3_pos (a := a) (b := b) h
  obtain ⟨e1, e2, e3⟩ := rt_eq a b c
  have := g3_mul (a := (rt a b c).1) (b := (rt a b c).2.1) (c := (rt a b c).2.2) hp
  rw [← e1, ← e2, ← e3] at this
  have z : g3 a b c * g3 (rt a b c).1 (rt a b c).2.1 (rt a b c).2.2 = g3 a b c * 1 := by rw [← this, Int.mul_one]
  exact Int.eq_of_mul_eq_mul_left (Int.ne_of_gt hp) z
theorem rd_one {a b : Int} (h : g2 a b = 1) : rd a b = (a, b) := by
  unfold rd
  rw [h, Int.ediv_one, Int.ediv_one]
theorem rt_one {a b c : Int} (h : g3 a b c = 1) : rt a b c = (a, b, c) := by
  unfold rt
  rw [h, Int.ediv_one, Int.ediv_one, Int.ediv_one]
theorem pos_of_mul {g x : Int} (hg : 0 < g) (h : 0 < g * x) : 0 < x := by
  rcases Int.lt_trichotomy x 0 with z | z | z
  · have := Int.mul_neg_of_pos_of_neg hg z
    omega
  · rw [z] at h
    simp at h
  · exact z
theorem rd_pos {a b : Int} (h : 0 < b) : 0 < (rd a b).2 := pos_of_mul (g2_pos (a := a) (Int.ne_of_gt h)) (by rw [← (rd_eq a b).2]; exact h)
theorem rt_pos {a b c : Int} (h : 0 < c) : 0 < (rt a b c).2.2 := pos_of_mul (g3_pos (a := a) (b := b) (Int.ne_of_gt h)) (by rw [← (rt_eq a b c).2.2]; exact h)
theorem rd_pos1 {a b : Int} (h : 0 < a) (h' : b ≠ 0) : 0 < (rd a b).1 := pos_of_mul (g2_pos (a := a) h') (by rw [← (rd_eq a b).1]; exact h)
theorem rt_pos1 {a b c : Int} (h : 0 < a) (h' : c ≠ 0) : 0 < (rt a b c).1 := pos_of_mul (g3_pos (a := a) (b := b) h') (by rw [← (rt_eq a b c).1]; exact h)
theorem rd_sz {a b : Int} {k : Nat} (h : Sz k a) (h' : Sz k b) : Sz k (rd a b).1 ∧ Sz k (rd a b).2 := ⟨h.div, h'.div⟩
theorem rt_sz {a b c : Int} {k : Nat} (h : Sz k a) (h' : Sz k b) (h'' : Sz k c) : Sz k (rt a b c).1 ∧ Sz k (rt a b c).2.1 ∧ Sz k (rt a b c).2.2 := ⟨h.div, h'.div, h''.div⟩
/-- the fraction of two numbers, the second one not 0 -/
def fr (a b : Int) : Int × Int := if 0 < b then rd a b else rd (0 - a) (0 - b)
theorem fr_pos' {a b : Int} (h : 0 < b) : fr a b = rd a b := if_pos h
/-! ### fractions as rational numbers -/
def F (q : Rat) : PyData := .tuple [.int q.num, .int (q.den : Int)]
abbrev FD (q : Rat) : DV := .d (F q)
theorem den_pos (q : Rat) : (0 : Int) < (q.den : Int) := by have := q.den_nz; omega
theorem denR_pos (q : Rat) : (0 : Rat) < ((q.den : Int) : Rat) := Rat.intCast_pos.mpr (den_pos q)
theorem numR (q : Rat) : (q.num : Rat) = q * ((q.den : Int) : Rat) := by
  have h := Rat.num_divInt_den q
  rw [Rat.divInt_eq_div] at h
  have hp := denR_pos q
  have := Rat.div_mul_cancel (a := (q.num : Rat)) (b := ((q.den : Int) : Rat)) (by grind)
  rw [h] at this
  exact this.symm
theorem divInt_of {a b : Int} {q : Rat} (hb : 0 < b) (h : (a : Rat) = q * (b : Rat)) : Rat.divInt a b = q := by
  rw [Rat.divInt_eq_div, h]
  exact Rat.mul_div_cancel (by have : (0 : Rat) < (b : Rat) := Rat.intCast_pos.mpr hb; grind)
theorem rd_divInt {a b : Int} (hb : 0 < b) : rd a b = ((Rat.divInt a b).num, ((Rat.divInt a b).den : Int)) := by
  unfold rd g2
  rw [Rat.num_divInt, Rat.den_divInt, if_neg (Int.ne_of_gt hb), Int.sign_eq_one_of_pos hb, Int.one_mul]
  have e : b.gcd a = Nat.gcd a.natAbs b.natAbs := by rw [Int.gcd_comm]; rfl
  rw [e]
  congr 1
  rw [Int.natCast_ediv]
  congr 1
  omega
theorem rd_rat {a b : Int} {q : Rat} (hb : 0 < b) (h : (a : Rat) = q * (b : Rat)) : rd a b = (q.num, (q.den : Int)) := by
  rw [rd_divInt hb, divInt_of hb h]
theorem F_rd {a b : Int} {q : Rat} (hb : 0 < b) (h : (a : Rat) = q * (b : Rat)) : (.tuple [.int (rd a b).1, .int (rd a b).2] : PyData) = F q := by
  rw [rd_rat hb h]
  rfl
theorem g2_rat (q : Rat) : g2 q.num (q.den : Int) = 1 := by
  unfold g2
  rw [Int.natAbs_natCast, q.reduced]
  rfl
theorem F_of {a b : Int} (hb : 0 < b) (h : g2 a b = 1) : (.tuple [.int a, .int b] : PyData) = F ((a : Rat) / (b : Rat)) := by
  have e := F_rd (a := a) (b := b) (q := (a : Rat) / (b : Rat)) hb (Rat.div_mul_cancel (by have : (0 : Rat) < (b : Rat) := Rat.intCast_pos.mpr hb; grind)).symm
  rw [rd_one h] at e
  exact e
theorem F_inj {x y : Rat} (h : F x = F y) : x = y := by
  unfold F at h
  simp only [PyData.tuple.injEq, List.cons.injEq, PyData.int.injEq, and_true] at h
  exact Rat.ext h.1 (by omega)
theorem F_eq {x y : Rat} : (F x = F y) = (x = y) := propext ⟨F_inj, fun h => by rw [h]⟩
/-! signs -/
theorem num_pos {q : Rat} : (0 < q.num) = (0 < q) := propext (by
  have h1 := Rat.num_nonneg (q := q)
  have h2 := Rat.num_eq_zero (q := q)
  constructor
  · intro h
    have a := h1.mp (by omega)
    have b : q ≠ 0 := fun z => by rw [h2.mpr z] at h; omega
    grind
  · intro h
    have a := h1.mpr (by grind)
    have b : q.num ≠ 0 := fun z => by rw [h2.mp z] at h; grind
    omega)
theorem num_neg {q : Rat} : (q.num < 0) = (q < 0) := propext (by
  have h1 := Rat.num_nonneg (q := q)
  constructor
  · intro h
    have a : ¬ 0 ≤ q := fun z => by have := h1.mpr z; omega
    grind
  · intro h
    have a : ¬ 0 ≤ q.num := fun z => by have := h1.mp z; grind
    omega)
theorem num_le {q : Rat} : (q.num ≤ 0) = (q ≤ 0) := propext (by
  have := num_pos (q := q)
  constructor
  · intro h
    have a : ¬ 0 < q := fun z => by rw [← this] at z; omega
    grind
  · intro h
    have a : ¬ 0 < q.num := fun z => by rw [this] at z; grind
    omega)
theorem num_ge {q : Rat} : (0 ≤ q.num) = (0 ≤ q) := propext Rat.num_nonneg
theorem num_zero {q : Rat} : (q.num = 0) = (q = 0) := propext Rat.num_eq_zero
theorem lt_cross {x y : Rat} : (x.num * (y.den : Int) < y.num * (x.den : Int)) = (x < y) := propext (Rat.lt_iff x y).symm
theorem le_cross {x y : Rat} : (x.num * (y.den : Int) ≤ y.num * (x.den : Int)) = (x ≤ y) := propext (Rat.le_iff x y).symm
/-! sizes -/
structure Zf (k : Nat) (q : Rat) : Prop where
  n : Sz k q.num
  d : Sz k (q.den : Int)
theorem Zf.mono {j k : Nat} {q : Rat} (h : Zf j q) (e : j ≤ k) : Zf k q := ⟨h.n.mono e, h.d.mono e⟩
theorem Zf.of {k : Nat} {a b : Int} {q : Rat} (hb : 0 < b) (h : (a : Rat) = q * (b : Rat)) (h1 : Sz k a) (h2 : Sz k b) : Zf k q := by
  have := rd_rat hb h
  have s := rd_sz h1 h2
  rw [this] at s
  exact ⟨s.1, s.2⟩
theorem mulR (x y : Rat) : (((x.num * y.num : Int)) : Rat) = (x * y) * (((x.den : Int) * (y.den : Int) : Int) : Rat) := by
  rw [Rat.intCast_mul, Rat.intCast_mul, numR x, numR y]
  grind
theorem addR (x y : Rat) : (((x.num * (y.den : Int) + y.num * (x.den : Int) : Int)) : Rat) = (x + y) * (((x.den : Int) * (y.den : Int) : Int) : Rat) := by
  rw [Rat.intCast_add, Rat.intCast_mul, Rat.intCast_mul, Rat.intCast_mul, numR x, numR y]
  grind
theorem subR (x y : Rat) : (((x.num * (y.den : Int) - y.num * (x.den : Int) : Int)) : Rat) = (x - y) * (((x.den : Int) * (y.den : Int) : Int) : Rat) := by
  rw [Rat.intCast_sub, Rat.intCast_mul, Rat.intCast_mul, Rat.intCast_mul, numR x, numR y]
  grind
theorem divR (x y : Rat) (h : y ≠ 0) : (((x.num * (y.den : Int) : Int)) : Rat) = (x / y) * (((x.den : Int) * y.num : Int) : Rat) := by
  rw [Rat.intCast_mul, Rat.intCast_mul, numR x, numR y]
  grind
theorem dd_pos (x y : Rat) : (0 : Int) < (x.den : Int) * (y.den : Int) := Int.mul_pos (den_pos x) (den_pos y)
theorem Zf.mul {j k : Nat} {x y : Rat} (h : Zf j x) (e : Zf k y) : Zf (j + k) (x * y) := Zf.of (dd_pos x y) (mulR x y) (h.n.mul e.n) (h.d.mul e.d)
theorem Zf.add {j k : Nat} {x y : Rat} (h : Zf j x) (e : Zf k y) : Zf (j + k + 1) (x + y) := Zf.of (dd_pos x y) (addR x y) ((h.n.mul e.d).add ((e.n.mul h.d).mono (by omega))) ((h.d.mul e.d).mono (by omega))
theorem Zf.sub {j k : Nat} {x y : Rat} (h : Zf j x) (e : Zf k y) : Zf (j + k + 1) (x - y) := Zf.of (dd_pos x y) (subR x y) ((h.n.mul e.d).sub ((e.n.mul h.d).mono (by omega))) ((h.d.mul e.d).mono (by omega))
theorem Zf.neg {k : Nat} {x : Rat} (h : Zf k x) : Zf k (-x) := ⟨by
  have := h.n
  rw [Rat.neg_num]
  unfold Sz at *
  omega, h.d⟩
theorem Zf.inv {k : Nat} {x : Rat} (h : Zf k x) (k0 : 0 < k) : Zf k x⁻¹ := by
  refine ⟨?_, ?_⟩
  · rw [Rat.num_inv]
    have := h.d
    unfold Sz at *
    rw [Int.natAbs_mul]
    have : x.num.sign.natAbs ≤ 1 := by
      rcases Int.lt_trichotomy x.num 0 with z | z | z
      · rw [Int.sign_eq_neg_one_of_neg z]; decide
      · rw [z]; decide
      · rw [Int.sign_eq_one_of_pos z]; decide
    have := Nat.mul_le_mul_right (x.den : Int).natAbs this
    omega
  · rw [Rat.den_inv]
    have := h.n
    unfold Sz at *
    split
    · have := Nat.one_lt_two_pow (n := k) (by omega)
      simp
      omega
    · simpa using this
theorem Zf.div {j k : Nat} {x y : Rat} (h : Zf j x) (e : Zf k y) (k0 : 0 < k) : Zf (j + k) (x / y) := by
  rw [Rat.div_def]
  exact h.mul (e.inv k0)
theorem Zf.int {k : Nat} {z : Int} (h : Sz k z) (k0 : 0 < k) : Zf k (z : Rat) := ⟨by rw [Rat.num_intCast]; exact h, by
  rw [Rat.den_intCast]
  unfold Sz
  have := Nat.one_lt_two_pow (n := k) (by omega)
  simpa using this⟩
theorem Zf.lit (n : Nat) (k : Nat) (h : (n : Int).natAbs < 2 ^ k) (k0 : 0 < k) : Zf k (n : Rat) := ⟨by rw [Rat.num_natCast]; exact h, by
  rw [Rat.den_natCast]
  unfold Sz
  have := Nat.one_lt_two_pow (n := k) (by omega)
  simpa using this⟩
/-! ### places and points by their two numbers -/
/-- the reduced triple of a point -/
def pt (x y : Rat) : Int × Int × Int := rt (x.num * (y.den : Int)) (y.num * (x.den : Int)) ((x.den : Int) * (y.den : Int))
def P3 (x y : Rat) : PyData := .tuple [.int (pt x y).1, .int (pt x y).2.1, .int (pt x y).2.2]
abbrev PD3 (x y : Rat) : DV := .d (P3 x y)
theorem rt_rat {a b c : Int} {x y : Rat} (hc : 0 < c) (h1 : (a : Rat) = x * (c : Rat)) (h2 : (b : Rat) = y * (c : Rat)) : rt a b c = pt x y := by
  have k0 := dd_pos x y
  have e1 : (x.den : Int) * (y.den : Int) * a = c * (x.num * (y.den : Int)) := by
    have : (((x.den : Int) * (y.den : Int) * a : Int) : Rat) = ((c * (x.num * (y.den : Int)) : Int) : Rat) := by
      rw [Rat.intCast_mul, Rat.intCast_mul, Rat.intCast_mul, Rat.intCast_mul, numR x, h1]
      grind
    exact_mod_cast this
  have e2 : (x.den : Int) * (y.den : Int) * b = c * (y.num * (x.den : Int)) := by
    have : (((x.den : Int) * (y.den : Int) * b : Int) : Rat) = ((c * (y.num * (x.den : Int)) : Int) : Rat) := by
      rw [Rat.intCast_mul, Rat.intCast_mul, Rat.intCast_mul, Rat.intCast_mul, numR y, h2]
      grind
    exact_mod_cast this
  exact rt_ext k0 hc e1 e2 (by rw [Int.mul_comm])
theorem P3_rt {a b c : Int} {x y : Rat} (hc : 0 < c) (h1 : (a : Rat) = x * (c : Rat)) (h2 : (b : Rat) = y * (c : Rat)) : (.tuple [.int (rt a b c).1, .int (rt a b c).2.1, .int (rt a b c).2.2] : PyData) = P3 x y := by
  rw [rt_rat hc h1 h2]
  rfl
theorem pt_pos (x y : Rat) : 0 < (pt x y).2.2 := rt_pos (dd_pos x y)
theorem pt_cop (x y : Rat) : g3 (pt x y).1 (pt x y).2.1 (pt x y).2.2 = 1 := rt_cop (Int.ne_of_gt (dd_pos x y))
theorem cancL {g a b x d e : Rat} (hg : 0 < g) (h1 : x * d * e = g * a) (h3 : d * e = g * b) : a = x * b := by
  have h : g * a = g * (x * b) := by grind
  have n : g ≠ 0 := by grind
  have := congrArg (fun z => g⁻¹ * z) h
  simp only [← Rat.mul_assoc, Rat.inv_mul_cancel g n, Rat.one_mul] at this
  grind
theorem pt_x (x y : Rat) : (((pt x y).1 : Int) : Rat) = x * (((pt x y).2.2 : Int) : Rat) := by
  obtain ⟨e1, e2, e3⟩ := rt_eq (x.num * (y.den : Int)) (y.num * (x.den : Int)) ((x.den : Int) * (y.den : Int))
  have hg := g3_pos (a := x.num * (y.den : Int)) (b := y.num * (x.den : Int)) (Int.ne_of_gt (dd_pos x y))
  have hg' : (0 : Rat) < ((g3 (x.num * (y.den : Int)) (y.num * (x.den : Int)) ((x.den : Int) * (y.den : Int)) : Int) : Rat) := Rat.intCast_pos.mpr hg
  have e1' := congrArg (fun z : Int => (z : Rat)) e1
  have e3' := congrArg (fun z : Int => (z : Rat)) e3
  simp only [Rat.intCast_mul] at e1' e3'
  rw [numR x] at e1'
  exact cancL hg' e1' e3'
theorem pt_y (x y : Rat) : (((pt x y).2.1 : Int) : Rat) = y * (((pt x y).2.2 : Int) : Rat) := by
  obtain ⟨e1, e2, e3⟩ := rt_eq (x.num * (y.den : Int)) (y.num * (x.den : Int)) ((x.den : Int) * (y.den : Int))
  have hg := g3_pos (a := x.num * (y.den : Int)) (b := y.num * (x.den : Int)) (Int.ne_of_gt (dd_pos x y))
  have hg' : (0 : Rat) < ((g3 (x.num * (y.den : Int)) (y.num * (x.den : Int)) ((x.den : Int) * (y.den : Int)) : Int) : Rat) := Rat.intCast_pos.mpr hg
  have e1' := congrArg (fun z : Int => (z : Rat)) e2
  have e3' := congrArg (fun z : Int => (z : Rat)) e3
  simp only [Rat.intCast_mul] at e1' e3'
  rw [numR y] at e1'
  exact cancL hg' e1' ((Rat.mul_comm _ _).trans e3')
theorem castInj {a b : Int} (h : (a : Rat) = (b : Rat)) : a = b := by exact_mod_cast h
theorem pt_wR (x y : Rat) : (0 : Rat) < (((pt x y).2.2 : Int) : Rat) := Rat.intCast_pos.mpr (pt_pos x y)
theorem pt_x0 {x y : Rat} : (0 < (pt x y).1) = (0 < x) := propext (by
  have h1 := pt_x x y
  have h2 := pt_wR x y
  rw [← Rat.intCast_pos, h1]
  constructor
  · intro h
    exact (Rat.mul_pos_iff_of_pos_right h2).mp h
  · intro h
    exact Rat.mul_pos h h2)
theorem P3_inj {x y u v : Rat} (h : P3 x y = P3 u v) : x = u ∧ y = v := by
  unfold P3 at h
  simp only [PyData.tuple.injEq, List.cons.injEq, PyData.int.injEq, and_true] at h
  obtain ⟨h1, h2, h3⟩ := h
  have a1 := pt_x x y
  have a2 := pt_x u v
  have b1 := pt_y x y
  have b2 := pt_y u v
  have c := pt_wR x y
  rw [h1, h3] at a1
  rw [h2, h3] at b1
  rw [h3] at c
  rw [a2] at a1
  rw [b2] at b1
  generalize (((pt u v).2.2 : Int) : Rat) = w at *
  have key : ∀ p q : Rat, p * w = q * w → p = q := fun p q h => by
    have n : w ≠ 0 := by grind
    have := congrArg (fun z => z * w⁻¹) h
    simp only [Rat.mul_assoc, Rat.mul_inv_cancel w n, Rat.mul_one] at this
    exact this
  exact ⟨(key _ _ a1).symm, (key _ _ b1).symm⟩
theorem P3_of {a b c : Int} (hc : 0 < c) (h : g3 a b c = 1) : (.tuple [.int a, .int b, .int c] : PyData) = P3 ((a : Rat) / (c : Rat)) ((b : Rat) / (c : Rat)) := by
  have n : (c : Rat) ≠ 0 := by have : (0 : Rat) < (c : Rat) := Rat.intCast_pos.mpr hc; grind
  have e := P3_rt (a := a) (b := b) (c := c) (x := (a : Rat) / (c : Rat)) (y := (b : Rat) / (c : Rat)) hc (Rat.div_mul_cancel n).symm (Rat.div_mul_cancel n).symm
  rw [rt_one h] at e
  exact e
/-! sizes -/
structure Zp (k : Nat) (x y : Rat) : Prop where
  a : Sz k (pt x y).1
  b : Sz k (pt x y).2.1
  c : Sz k (pt x y).2.2
theorem Zp.mono {j k : Nat} {x y : Rat} (h : Zp j x y) (e : j ≤ k) : Zp k x y := ⟨h.a.mono e, h.b.mono e, h.c.mono e⟩
theorem Zf.pt {j k : Nat} {x y : Rat} (h : Zf j x) (e : Zf k y) : Zp (j + k) x y := by
  have := rt_sz (h.n.mul e.d) ((e.n.mul h.d).mono (by omega)) (h.d.mul e.d)
  exact ⟨this.1, this.2.1, this.2.2⟩
theorem Zp.x {k : Nat} {x y : Rat} (h : Zp k x y) : Zf k x := Zf.of (pt_pos x y) (pt_x x y) h.a h.c
theorem Zp.y {k : Nat} {x y : Rat} (h : Zp k x y) : Zf k y := Zf.of (pt_pos x y) (pt_y x y) h.b h.c
/-! jets -/
def J (s b : Rat) : PyData := .tuple [F s, F b]
abbrev JD (s b : Rat) : DV := .d (J s b)
theorem J_inj {s b s' b' : Rat} (h : J s b = J s' b') : s = s' ∧ b = b' := by
  unfold J at h
  simp only [PyData.tuple.injEq, List.cons.injEq, and_true] at h
  exact ⟨F_inj h.1, F_inj h.2⟩
/-! ### evaluation, by form -/
section
variable {Q : DV → Prop} {i j : Int}
theorem ev_add : wBin .add (.d (.int i)) (.d (.int j)) Q = Q (.d (.int (i + j))) := rfl
theorem ev_sub : wBin .sub (.d (.int i)) (.d (.int j)) Q = Q (.d (.int (i - j))) := rfl
theorem ev_mul : wBin .mul (.d (.int i)) (.d (.int j)) Q = ((CMul i j ∨ CMulW i j) ∧ Q (.d (.int (i * j)))) := rfl
theorem ev_div : wBin .div (.d (.int i)) (.d (.int j)) Q = (CDivW i j ∧ Q (.d (.int (i / j)))) := rfl
theorem ev_mod : wBin .mod (.d (.int i)) (.d (.int j)) Q = (0 < j ∧ Q (.d (.int (i % j)))) := rfl
theorem ev_pow : wBin .pow (.d (.int i)) (.d (.int j)) Q = (CPow i j ∧ Q (.d (.int (i ^ j.toNat)))) := rfl
theorem ev_cat {xs ys : List PyData} : wBin .add (.d (.list xs)) (.d (.list ys)) Q = (xs.length + ys.length ≤ mx ∧ Q (.d (.list (xs ++ ys)))) := rfl
theorem ev_catT {xs ys : List PyData} : wBin .add (.d (.tuple xs)) (.d (.tuple ys)) Q = (xs ≠ [] ∧ xs.length + ys.length ≤ mx ∧ Q (.d (.tuple (xs ++ ys)))) := rfl
theorem ev_lt : wCmp .lt (.d (.int i)) (.d (.int j)) Q = Q (.d (.bool (decide (i < j)))) := rfl
theorem ev_le : wCmp .le (.d (.int i)) (.d (.int j)) Q = Q (.d (.bool (decide (i ≤ j)))) := rfl
theorem ev_gt : wCmp .gt (.d (.int i)) (.d (.int j)) Q = Q (.d (.bool (decide (j < i)))) := rfl
theorem ev_ge : wCmp .ge (.d (.int i)) (.d (.int j)) Q = Q (.d (.bool (decide (j ≤ i)))) := rfl
theorem ev_eq : wCmp .eq (.d (.int i)) (.d (.int j)) Q = Q (.d (.bool (decide (i = j)))) := rfl
theorem ev_ne : wCmp .ne (.d (.int i)) (.d (.int j)) Q = Q (.d (.bool (!decide (i = j)))) := rfl
theorem ev_eqs {x y : Str} : wCmp .eq (.d (.str x)) (.d (.str y)) Q = Q (.d (.bool (decide (x = y)))) := rfl
theorem ev_nes {x y : Str} : wCmp .ne (.d (.str x)) (.d (.str y)) Q = Q (.d (.bool (!decide (x = y)))) := rfl
/-! items by place -/
theorem at0 {α : Type} {x : α} {l : List α} : atI (x :: l) 0 = some x := atI_nat (j := 0) rfl
theorem at1 {α : Type} {x y : α} {l : List α} : atI (x :: y :: l) 1 = some y := atI_nat (j := 1) rfl
theorem at2 {α : Type} {x y z : α} {l : List α} : atI (x :: y :: z :: l) 2 = some z := atI_nat (j := 2) rfl
theorem at3 {α : Type} {x y z u : α} {l : List α} : atI (x :: y :: z :: u :: l) 3 = some u := atI_nat (j := 3) rfl
theorem ix_t {xs : List PyData} {v : PyData} (h : atI xs i = some v) : wIdx (.d (.tuple xs)) (.d (.int i)) Q = Q (.d v) := propext ⟨fun ⟨w, e, k⟩ => by rw [h] at e; cases e; exact k, fun k => ⟨_, h, k⟩⟩
theorem ix_l {xs : List PyData} {v : PyData} (h : atI xs i = some v) : wIdx (.d (.list xs)) (.d (.int i)) Q = Q (.d v) := propext ⟨fun ⟨w, e, k⟩ => by rw [h] at e; cases e; exact k, fun k => ⟨_, h, k⟩⟩
theorem ix_t0 {x : PyData} {l : List PyData} : wIdx (.d (.tuple (x :: l))) (.d (.int 0)) Q = Q (.d x) := ix_t at0
theorem ix_t1 {x y : PyData} {l : List PyData} : wIdx (.d (.tuple (x :: y :: l))) (.d (.int 1)) Q = Q (.d y) := ix_t at1
theorem ix_t2 {x y z : PyData} {l : List PyData} : wIdx (.d (.tuple (x :: y :: z :: l))) (.d (.int 2)) Q = Q (.d z) := ix_t at2
theorem ix_l0 {x : PyData} {l : List PyData} : wIdx (.d (.list (x :: l))) (.d (.int 0)) Q = Q (.d x) := ix_l at0
theorem ix_l1 {x y : PyData} {l : List PyData} : wIdx (.d (.list (x :: y :: l))) (.d (.int 1)) Q = Q (.d y) := ix_l at1
theorem ix_l2 {x y z : PyData} {l : List PyData} : wIdx (.d (.list (x :: y :: z :: l))) (.d (.int 2)) Q = Q (.d z) := ix_l at2
theorem ix_l3 {x y z u : PyData} {l : List PyData} : wIdx (.d (.list (x :: y :: z :: u :: l))) (.d (.int 3)) Q = Q (.d u) := ix_l at3
theorem ix_F0 {q : Rat} : wIdx (.d (F q)) (.d (.int 0)) Q = Q (.d (.int q.num)) := ix_t0
theorem ix_F1 {q : Rat} : wIdx (.d (F q)) (.d (.int 1)) Q = Q (.d (.int (q.den : Int))) := ix_t1
theorem ix_J0 {s b : Rat} : wIdx (.d (J s b)) (.d (.int 0)) Q = Q (.d (F s)) := ix_t0
theorem ix_J1 {s b : Rat} : wIdx (.d (J s b)) (.d (.int 1)) Q = Q (.d (F b)) := ix_t1
theorem ix_P0 {x y : Rat} : wIdx (.d (P3 x y)) (.d (.int 0)) Q = Q (.d (.int (pt x y).1)) := ix_t0
theorem ix_P1 {x y : Rat} : wIdx (.d (P3 x y)) (.d (.int 1)) Q = Q (.d (.int (pt x y).2.1)) := ix_t1
theorem ix_P2 {x y : Rat} : wIdx (.d (P3 x y)) (.d (.int 2)) Q = Q (.d (.int (pt x y).2.2)) := ix_t2
/-! targets -/
variable {τ : SDs} {R : SDs → Prop}
theorem tg_1 {a : Nat} {x : DV} : wTg (.one a) x τ R = R (τ.set a (some (.val x))) := rfl
theorem tg_2 {a b : Nat} {x y : PyData} : wTg (.many [a, b]) (.d (.tuple [x, y])) τ R = R ((τ.set a (some (.val (.d x)))).set b (some (.val (.d y)))) := propext ⟨fun h => h.2, fun h => ⟨rfl, h⟩⟩
theorem tg_3 {a b c : Nat} {x y z : PyData} : wTg (.many [a, b, c]) (.d (.tuple [x, y, z])) τ R = R (((τ.set a (some (.val (.d x)))).set b (some (.val (.d y)))).set c (some (.val (.d z)))) := propext ⟨fun h => h.2, fun h => ⟨rfl, h⟩⟩
theorem tg_4 {a b c e : Nat} {x y z u : PyData} : wTg (.many [a, b, c, e]) (.d (.tuple [x, y, z, u])) τ R = R ((((τ.set a (some (.val (.d x)))).set b (some (.val (.d y)))).set c (some (.val (.d z)))).set e (some (.val (.d u)))) := propext ⟨fun h => h.2, fun h => ⟨rfl, h⟩⟩
theorem tg_F {a b : Nat} {q : Rat} : wTg (.many [a, b]) (.d (F q)) τ R = R ((τ.set a (some (.val (.d (.int q.num))))).set b (some (.val (.d (.int (q.den : Int)))))) := tg_2
theorem tg_J {a b : Nat} {s t : Rat} : wTg (.many [a, b]) (.d (J s t)) τ R = R ((τ.set a (some (.val (.d (F s))))).set b (some (.val (.d (F t))))) := tg_2
theorem tg_P {a b c : Nat} {x y : Rat} : wTg (.many [a, b, c]) (.d (P3 x y)) τ R = R (((τ.set a (some (.val (.d (.int (pt x y).1))))).set b (some (.val (.d (.int (pt x y).2.1))))).set c (some (.val (.d (.int (pt x y).2.2))))) := tg_3
theorem fold_J {s b : Rat} : (PyData.tuple [F s, F b]) = J s b := rfl
theorem fold_F {q : Rat} : (PyData.tuple [.int q.num, .int (q.den : Int)]) = F q := rfl
/-! equal or not -/
theorem shapedF (x : Rat) : SeqAt.shaped (F x) = true := by
  simp [F, SeqAt.shaped, PyData.canLay0, PyData.canLayAll0, PyData.depth, PyData.depthAll]
theorem eqvF (x y : Rat) : PyData.eqv (F x) (F y) = decide (x = y) := by
  by_cases h : x = y
  · subst h
    simp [F, PyData.eqv, PyData.eqvAll]
  · rw [decide_eq_false h]
    have n : ¬ (x.num = y.num ∧ (x.den : Int) = (y.den : Int)) := fun z => h (Rat.ext z.1 (by omega))
    simp only [F, PyData.eqv, PyData.eqvAll, Bool.and_true]
    by_cases a : x.num = y.num
    · have b : ¬ (x.den : Int) = (y.den : Int) := fun z => n ⟨a, z⟩
      simp [a, b]
    · simp [a]
theorem eq_F {x y : Rat} : wCmp .eq (.d (F x)) (.d (F y)) Q = Q (.d (.bool (decide (x = y)))) := by
  have : wCmp .eq (.d (F x)) (.d (F y)) Q = (SeqAt.shaped (F x) = true ∧ SeqAt.shaped (F y) = true ∧ Q (.d (.bool (PyData.eqv (F x) (F y))))) := rfl
  rw [this, eqvF, shapedF, shapedF]
  simp
theorem ne_F {x y : Rat} : wCmp .ne (.d (F x)) (.d (F y)) Q = Q (.d (.bool (!decide (x = y)))) := by
  have : wCmp .ne (.d (F x)) (.d (F y)) Q = (SeqAt.shaped (F x) = true ∧ SeqAt.shaped (F y) = true ∧ Q (.d (.bool (!PyData.eqv (F x) (F y))))) := rfl
  rw [this, eqvF, shapedF, shapedF]
  simp
theorem eqvJ (s b t c : Rat) : PyData.eqv (J s b) (J t c) = decide (s = t ∧ b = c) := by
  have : PyData.eqv (J s b) (J t c) = (PyData.eqv (F s) (F t) && (PyData.eqv (F b) (F c) && true)) := by
    simp only [J, PyData.eqv, PyData.eqvAll]
  rw [this, eqvF, eqvF]
  simp
theorem shapedJ (s b : Rat) : SeqAt.shaped (J s b) = true := by
  simp [J, F, SeqAt.shaped, PyData.canLay0, PyData.canLayAll0, PyData.depth, PyData.depthAll]
theorem eq_J {s b t c : Rat} : wCmp .eq (.d (J s b)) (.d (J t c)) Q = Q (.d (.bool (decide (s = t ∧ b = c)))) := by
  have : wCmp .eq (.d (J s b)) (.d (J t c)) Q = (SeqAt.shaped (J s b) = true ∧ SeqAt.shaped (J t c) = true ∧ Q (.d (.bool (PyData.eqv (J s b) (J t c))))) := rfl
  rw [this, eqvJ, shapedJ, shapedJ]
  simp
theorem ne_J {s b t c : Rat} : wCmp .ne (.d (J s b)) (.d (J t c)) Q = Q (.d (.bool (!decide (s = t ∧ b = c)))) := by
  have : wCmp .ne (.d (J s b)) (.d (J t c)) Q = (SeqAt.shaped (J s b) = true ∧ SeqAt.shaped (J t c) = true ∧ Q (.d (.bool (!PyData.eqv (J s b) (J t c))))) := rfl
  rw [this, eqvJ, shapedJ, shapedJ]
  simp
theorem shapedP (x y : Rat) : SeqAt.shaped (P3 x y) = true := by
  simp [P3, SeqAt.shaped, PyData.canLay0, PyData.canLayAll0, PyData.depth, PyData.depthAll]
theorem eqvP (x y u v : Rat) : PyData.eqv (P3 x y) (P3 u v) = decide (x = u ∧ y = v) := by
  by_cases h : x = u ∧ y = v
  · obtain ⟨rfl, rfl⟩ := h
    simp [P3, PyData.eqv, PyData.eqvAll]
  · rw [decide_eq_false h]
    have n : ¬ ((pt x y).1 = (pt u v).1 ∧ (pt x y).2.1 = (pt u v).2.1 ∧ (pt x y).2.2 = (pt u v).2.2) := fun z => h (P3_inj (by unfold P3; rw [z.1, z.2.1, z.2.2]))
    simp only [P3, PyData.eqv, PyData.eqvAll, Bool.and_true]
    rw [Bool.eq_false_iff]
    intro hh
    simp only [Bool.and_eq_true, beq_iff_eq] at hh
    exact n hh
theorem eq_P {x y u v : Rat} : wCmp .eq (.d (P3 x y)) (.d (P3 u v)) Q = Q (.d (.bool (decide (x = u ∧ y = v)))) := by
  have : wCmp .eq (.d (P3 x y)) (.d (P3 u v)) Q = (SeqAt.shaped (P3 x y) = true ∧ SeqAt.shaped (P3 u v) = true ∧ Q (.d (.bool (PyData.eqv (P3 x y) (P3 u v))))) := rfl
  rw [this, eqvP, shapedP, shapedP]
  simp
theorem ne_P {x y u v : Rat} : wCmp .ne (.d (P3 x y)) (.d (P3 u v)) Q = Q (.d (.bool (!decide (x = u ∧ y = v)))) := by
  have : wCmp .ne (.d (P3 x y)) (.d (P3 u v)) Q = (SeqAt.shaped (P3 x y) = true ∧ SeqAt.shaped (P3 u v) = true ∧ Q (.d (.bool (!PyData.eqv (P3 x y) (P3 u v))))) := rfl
  rw [this, eqvP, shapedP, shapedP]
  simp
theorem db_ {b : Bool} {G : Bool → Prop} : dbool (.d (.bool b)) G = G b := rfl
theorem di_ {b : Int} {G : Int → Prop} : dint (.d (.int b)) G = G b := rfl
end
def isT : PyData → Bool
  | .tuple _ => true
  | _ => false
theorem isi_by {Q : DV → Prop} {y : PyData} {T : String} {b : Bool} (h : kitB (tyD y) T = some b) : wIsi (.d y) T Q = Q (.d (.bool b)) := propext ⟨fun ⟨c, e, k⟩ => by
  rw [h] at e
  cases e
  exact k, fun k => ⟨_, h, k⟩⟩
theorem isi_tuple {Q : DV → Prop} {y : PyData} : wIsi (.d y) "tuple" Q = Q (.d (.bool (isT y))) := by
  cases y <;> exact isi_by rfl
def isS : PyData → Bool
  | .str _ => true
  | _ => false
theorem isi_str {Q : DV → Prop} {y : PyData} : wIsi (.d y) "str" Q = Q (.d (.bool (isS y))) := by
  cases y <;> exact isi_by rfl
theorem ev_len {Q : DV → Prop} {x : DV} : wBi .len [x] Q = ∃ n, lenD x = some n ∧ Q (.d (.int n)) := by
  cases x <;> rfl
theorem mx_0 : (0 ≤ mx) = True := eq_true (by decide)
theorem mx_1 : (1 ≤ mx) = True := eq_true (by decide)
theorem mx_2 : (2 ≤ mx) = True := eq_true (by decide)
theorem mx_3 : (3 ≤ mx) = True := eq_true (by decide)
theorem mx_4 : (4 ≤ mx) = True := eq_true (by decide)
theorem mx_5 : (5 ≤ mx) = True := eq_true (by decide)
theorem mx_6 : (6 ≤ mx) = True := eq_true (by decide)
theorem mx_7 : (7 ≤ mx) = True := eq_true (by decide)
theorem mx_8 : (8 ≤ mx) = True := eq_true (by decide)
theorem mx_9 : (9 ≤ mx) = True := eq_true (by decide)
theorem mx_10 : (10 ≤ mx) = True := eq_true (by decide)
theorem mx_11 : (11 ≤ mx) = True := eq_true (by decide)
theorem mx_12 : (12 ≤ mx) = True := eq_true (by decide)
theorem mx_13 : (13 ≤ mx) = True := eq_true (by decide)
theorem mx_14 : (14 ≤ mx) = True := eq_true (by decide)
theorem mx_15 : (15 ≤ mx) = True := eq_true (by decide)
theorem mx_16 : (16 ≤ mx) = True := eq_true (by decide)
theorem mx_17 : (17 ≤ mx) = True := eq_true (by decide)
theorem mx_18 : (18 ≤ mx) = True := eq_true (by decide)
theorem mx_19 : (19 ≤ mx) = True := eq_true (by decide)
theorem mx_20 : (20 ≤ mx) = True := eq_true (by decide)
theorem mx_21 : (21 ≤ mx) = True := eq_true (by decide)
theorem mx_22 : (22 ≤ mx) = True := eq_true (by decide)
theorem mx_23 : (23 ≤ mx) = True := eq_true (by decide)
theorem mx_24 : (24 ≤ mx) = True := eq_true (by decide)
theorem ev_reprb {Q : DV → Prop} {b : Bool} : wBi .repr [.d (.bool b)] Q = Q (.d (.str (PyData.bool b).shown)) := rfl
def rs_Lgcd : RS := (.seq (.par [0, 1] (.cons (.bi .abs (.cons (.var 0) .nil)) (.cons (.bi .abs (.cons (.var 1) .nil)) .nil))) (.seq (.whl (.bl (.cmp .gt (.var 1) (.con (.int 0)))) (.par [0, 1] (.cons (.var 1) (.cons (.bin .mod (.bi .int (.cons (.var 0) .nil)) (.var 1)) .nil)))) (.ret (.var 0))))
def rs_Llow : RS := (.seq (.asg 1 (.con (.int 0))) (.seq (.for (.one 2) (.seq (.var 0)) (.asg 1 (.call 3 (.cons (.var 1) (.cons (.var 2) .nil))))) (.ret (.bi .tuple (.cons (.lc [2] (.one 2) (.seq (.var 0)) .yes (.bin .div (.var 2) (.var 1))) .nil)))))
def rs_Lfrac : RS := (.ret (.call 4 (.cons (.ite (.bl (.cmp .gt (.var 1) (.con (.int 0)))) (.tup (.cons (.var 0) (.cons (.var 1) .nil))) (.tup (.cons (.bin .sub (.con (.int 0)) (.var 0)) (.cons (.bin .sub (.con (.int 0)) (.var 1)) .nil)))) .nil)))
def rs_Lmul : RS := (.ret (.call 6 (.cons (.bin .mul (.idx (.var 0) (.con (.int 0))) (.idx (.var 1) (.con (.int 0)))) (.cons (.bin .mul (.idx (.var 0) (.con (.int 1))) (.idx (.var 1) (.con (.int 1)))) .nil))))
def rs_Ldraw : RS := (.seq (.iff (.bl (.cmp .gt (.idx (.var 0) (.con (.int 0))) (.con (.int 0)))) (.seq (.setV2 0 0 2 (.bi .divmod (.cons (.idx (.var 0) (.con (.int 0))) (.cons (.var 1) .nil)))) (.ret (.var 2))) .skip) (.seq (.setV 0 2 (.bin .add (.idx (.var 0) (.con (.int 2))) (.con (.int 1)))) (.seq (.asg 3 (.bin .add (.bin .mod (.bi .int (.cons (.idx (.var 0) (.con (.int 1))) .nil)) (.con (.int 19013))) (.con (.int 21011)))) (.seq (.setV 0 1 (.bin .mod (.bi .int (.cons (.bin .add (.bin .add (.bin .mul (.idx (.var 0) (.con (.int 1))) (.var 3)) (.bin .mul (.con (.int 80021)) (.idx (.var 0) (.con (.int 2))))) (.con (.int 31))) .nil)) (.con (.int 2147483489)))) (.ret (.bin .mod (.bi .int (.cons (.bin .div (.idx (.var 0) (.con (.int 1))) (.con (.int 97))) .nil)) (.var 1)))))))
def rs_Lpick : RS := (.ret (.idx (.var 1) (.call 0 (.cons (.var 0) (.cons (.bi .len (.cons (.var 1) .nil)) .nil)))))
def rs_Lsize : RS := (.ret (.call 1 (.cons (.var 0) (.cons (.lst (.cons (.con (.int 1)) (.cons (.con (.int 2)) (.cons (.con (.int 2)) (.cons (.con (.int 3)) (.cons (.con (.int 5)) (.cons (.con (.int 9)) (.cons (.con (.int 99)) (.cons (.bin .pow (.con (.int 10)) (.con (.int 9))) .nil))))))))) .nil))))
def rs_Labout : RS := (.seq (.iff (.bl (.cmp .lt (.var 1) (.bin .pow (.con (.int 10)) (.con (.int 5))))) (.ret (.bin .sub (.call 0 (.cons (.var 0) (.cons (.bin .add (.bin .mul (.con (.int 2)) (.var 1)) (.con (.int 1))) .nil))) (.var 1))) .skip) (.seq (.asg 2 (.call 0 (.cons (.var 0) (.cons (.con (.int 64007)) .nil)))) (.ret (.bin .sub (.bin .mod (.bi .int (.cons (.bin .add (.bin .mul (.var 2) (.con (.int 64007))) (.call 0 (.cons (.var 0) (.cons (.con (.int 64007)) .nil)))) .nil)) (.bin .add (.bin .mul (.con (.int 2)) (.var 1)) (.con (.int 1)))) (.var 1)))))
def rs_Lsome_frac : RS := (.ret (.call 6 (.cons (.call 7 (.cons (.var 0) (.cons (.var 1) .nil))) (.cons (.bin .add (.con (.int 1)) (.call 0 (.cons (.var 0) (.cons (.call 1 (.cons (.var 0) (.cons (.lst (.cons (.con (.int 1)) (.cons (.con (.int 1)) (.cons (.con (.int 2)) (.cons (.con (.int 3)) (.cons (.con (.int 7)) (.cons (.bi .min2 (.cons (.var 1) (.cons (.bin .pow (.con (.int 10)) (.con (.int 4))) .nil))) .nil))))))) .nil))) .nil)))) .nil))))
def rs_Labove : RS := (.ret (.call 6 (.cons (.bin .add (.con (.int 1)) (.bi .abs (.cons (.call 7 (.cons (.var 0) (.cons (.var 1) .nil))) .nil))) (.cons (.bin .add (.con (.int 1)) (.call 0 (.cons (.var 0) (.cons (.call 1 (.cons (.var 0) (.cons (.lst (.cons (.con (.int 1)) (.cons (.con (.int 1)) (.cons (.con (.int 2)) (.cons (.con (.int 3)) (.cons (.con (.int 7)) .nil)))))) .nil))) .nil)))) .nil))))
def rs_Ljet : RS := (.seq (.asg 1 (.call 2 (.cons (.var 0) .nil))) (.ret (.tup (.cons (.call 9 (.cons (.var 0) (.cons (.var 1) .nil))) (.cons (.call 8 (.cons (.var 0) (.cons (.call 1 (.cons (.var 0) (.cons (.lst (.cons (.con (.int 1)) (.cons (.con (.int 2)) (.cons (.con (.int 9)) (.cons (.var 1) .nil))))) .nil))) .nil))) .nil)))))
def rs_Lbeyond : RS := (.ret (.ite (.bl (.cmp .eq (.call 0 (.cons (.var 0) (.cons (.con (.int 8)) .nil))) (.con (.int 0)))) (.tup (.cons (.con (.int 0)) (.cons (.con (.int 1)) .nil))) (.call 8 (.cons (.var 0) (.cons (.var 1) .nil)))))
def rs_Lsub : RS := (.ret (.call 6 (.cons (.bin .sub (.bin .mul (.idx (.var 0) (.con (.int 0))) (.idx (.var 1) (.con (.int 1)))) (.bin .mul (.idx (.var 1) (.con (.int 0))) (.idx (.var 0) (.con (.int 1))))) (.cons (.bin .mul (.idx (.var 0) (.con (.int 1))) (.idx (.var 1) (.con (.int 1)))) .nil))))
def rs_Lat : RS := (.seq (.asgT (.many [2, 3]) (.var 0)) (.ret (.call 23 (.cons (.call 16 (.cons (.var 2) (.cons (.var 1) .nil))) (.cons (.call 16 (.cons (.var 3) (.cons (.call 16 (.cons (.var 1) (.cons (.var 1) .nil))) .nil))) .nil)))))
def rs_Lrise : RS := (.ret (.call 23 (.cons (.idx (.var 0) (.con (.int 0))) (.cons (.call 16 (.cons (.tup (.cons (.con (.int 2)) (.cons (.con (.int 1)) .nil))) (.cons (.call 16 (.cons (.idx (.var 0) (.con (.int 1))) (.cons (.var 1) .nil))) .nil))) .nil))))
def rs_is_whole : RS := (.ret (.andV (.isi (.var 0) "int") (.notV (.isi (.var 0) "bool"))))
def rs_is_fraction : RS := (.seq (.iff (.or (.not (.val (.isi (.var 0) "tuple"))) (.bl (.cmp .ne (.bi .len (.cons (.var 0) .nil)) (.con (.int 2))))) (.ret (.con (.bool false))) .skip) (.seq (.asgT (.many [1, 2]) (.var 0)) (.seq (.iff (.or (.not (.val (.call 10 (.cons (.var 1) .nil)))) (.not (.val (.call 10 (.cons (.var 2) .nil))))) (.ret (.con (.bool false))) .skip) (.ret (.andV (.cmp .gt (.var 2) (.con (.int 0))) (.cmp .eq (.bi .gcd2 (.cons (.var 1) (.cons (.var 2) .nil))) (.con (.int 1))))))))
def rs_is_jet : RS := (.seq (.iff (.or (.not (.val (.isi (.var 0) "tuple"))) (.bl (.cmp .ne (.bi .len (.cons (.var 0) .nil)) (.con (.int 2))))) (.ret (.con (.bool false))) .skip) (.seq (.asgT (.many [1, 2]) (.var 0)) (.ret (.andV (.call 11 (.cons (.var 1) .nil)) (.andV (.call 11 (.cons (.var 2) .nil)) (.cmp .gt (.idx (.var 2) (.con (.int 0))) (.con (.int 0))))))))
def rs_check_jet : RS := (.iff (.not (.val (.call 72 (.cons (.var 0) .nil)))) .fail .skip)
def rs_check_distance_or_zero : RS := (.iff (.or (.not (.val (.call 11 (.cons (.var 0) .nil)))) (.bl (.cmp .lt (.idx (.var 0) (.con (.int 0))) (.con (.int 0))))) .fail .skip)
def rs_reduced : RS := (.seq (.asg 2 (.bi .gcd2 (.cons (.var 0) (.cons (.var 1) .nil)))) (.ret (.tup (.cons (.bin .div (.var 0) (.var 2)) (.cons (.bin .div (.var 1) (.var 2)) .nil)))))
def rs_plus : RS := (.ret (.call 33 (.cons (.bin .add (.bin .mul (.idx (.var 0) (.con (.int 0))) (.idx (.var 1) (.con (.int 1)))) (.bin .mul (.idx (.var 1) (.con (.int 0))) (.idx (.var 0) (.con (.int 1))))) (.cons (.bin .mul (.idx (.var 0) (.con (.int 1))) (.idx (.var 1) (.con (.int 1)))) .nil))))
def rs_times : RS := (.ret (.call 33 (.cons (.bin .mul (.idx (.var 0) (.con (.int 0))) (.idx (.var 1) (.con (.int 0)))) (.cons (.bin .mul (.idx (.var 0) (.con (.int 1))) (.idx (.var 1) (.con (.int 1)))) .nil))))
def rs_value_at : RS := (.seq (.asgT (.many [2, 3, 4]) (.var 0)) (.ret (.call 48 (.cons (.var 2) (.cons (.call 51 (.cons (.var 1) (.cons (.call 48 (.cons (.var 3) (.cons (.call 51 (.cons (.var 4) (.cons (.var 1) .nil))) .nil))) .nil))) .nil)))))
def rs_negative : RS := (.ret (.tup (.cons (.neg (.idx (.var 0) (.con (.int 0)))) (.cons (.idx (.var 0) (.con (.int 1))) .nil))))
def rs_height_at : RS := (.seq (.exp (.call 73 (.cons (.var 0) .nil))) (.seq (.exp (.call 74 (.cons (.var 1) .nil))) (.seq (.asgT (.many [2, 3]) (.var 0)) (.ret (.call 75 (.cons (.tup (.cons (.con (.tuple [(.int 0), (.int 1)])) (.cons (.var 2) (.cons (.call 76 (.cons (.var 3) .nil)) .nil)))) (.cons (.var 1) .nil)))))))
def rs_minus : RS := (.ret (.call 33 (.cons (.bin .sub (.bin .mul (.idx (.var 0) (.con (.int 0))) (.idx (.var 1) (.con (.int 1)))) (.bin .mul (.idx (.var 1) (.con (.int 0))) (.idx (.var 0) (.con (.int 1))))) (.cons (.bin .mul (.idx (.var 0) (.con (.int 1))) (.idx (.var 1) (.con (.int 1)))) .nil))))
def rs_slope_at : RS := (.seq (.exp (.call 73 (.cons (.var 0) .nil))) (.seq (.exp (.call 74 (.cons (.var 1) .nil))) (.seq (.asgT (.many [2, 3]) (.var 0)) (.ret (.call 65 (.cons (.var 2) (.cons (.call 51 (.cons (.tup (.cons (.con (.int 2)) (.cons (.con (.int 1)) .nil))) (.cons (.call 51 (.cons (.var 3) (.cons (.var 1) .nil))) .nil))) .nil)))))))
def rs_time_square : RS := (.seq (.exp (.call 73 (.cons (.var 0) .nil))) (.seq (.exp (.call 74 (.cons (.var 1) .nil))) (.ret (.call 51 (.cons (.call 51 (.cons (.var 1) (.cons (.var 1) .nil))) (.cons (.idx (.var 0) (.con (.int 1))) .nil))))))
def rs_Ladd : RS := (.ret (.call 6 (.cons (.bin .add (.bin .mul (.idx (.var 0) (.con (.int 0))) (.idx (.var 1) (.con (.int 1)))) (.bin .mul (.idx (.var 1) (.con (.int 0))) (.idx (.var 0) (.con (.int 1))))) (.cons (.bin .mul (.idx (.var 0) (.con (.int 1))) (.idx (.var 1) (.con (.int 1)))) .nil))))
def rs_Lodd_fracs : RS := (.seq (.asg 0 (.lst (.cons (.con .none) (.cons (.con (.int 1)) (.cons (.con (.int 0)) (.cons (.con (.str (Str.ofString "1"))) (.cons (.tup .nil) (.cons (.tup (.cons (.con (.int 1)) .nil)) (.cons (.tup (.cons (.con (.int 2)) (.cons (.con (.int 4)) .nil))) (.cons (.tup (.cons (.con (.int 1)) (.cons (.con (.int 0)) .nil))) (.cons (.tup (.cons (.con (.int 1)) (.cons (.neg (.con (.int 2))) .nil))) (.cons (.tup (.cons (.con (.int 0)) (.cons (.con (.int 3)) .nil))) (.cons (.tup (.cons (.neg (.con (.int 3))) (.cons (.neg (.con (.int 1))) .nil))) (.cons (.lst (.cons (.con (.int 1)) (.cons (.con (.int 2)) .nil))) (.cons (.tup (.cons (.con (.bool true)) (.cons (.con (.int 2)) .nil))) (.cons (.tup (.cons (.con (.int 1)) (.cons (.con (.bool true)) .nil))) (.cons (.tup (.cons (.con (.int 1)) (.cons (.con (.int 2)) (.cons (.con (.int 3)) .nil)))) .nil))))))))))))))))) (.ret (.bin .add (.var 0) (.lst (.cons .dic (.cons (.tup (.cons (.con .none) (.cons (.con (.int 1)) .nil))) (.cons (.tup (.cons (.con (.str (Str.ofString "1"))) (.cons (.con (.int 2)) .nil))) (.cons (.tup (.cons (.tup (.cons (.con (.int 1)) (.cons (.con (.int 2)) .nil))) (.cons (.con (.int 1)) .nil))) (.cons (.con (.bool true)) (.cons (.tup (.cons (.con (.int 0)) (.cons (.con (.int 0)) .nil))) .nil))))))))))
def rs_Lno_distances : RS := (.ret (.lst (.cons (.tup (.cons (.con (.int 0)) (.cons (.con (.int 1)) .nil))) (.cons (.tup (.cons (.neg (.con (.int 1))) (.cons (.con (.int 1)) .nil))) (.cons (.tup (.cons (.neg (.con (.int 7))) (.cons (.con (.int 3)) .nil))) .nil)))))
def rs_Lvat : RS := (.seq (.asg 2 (.ite (.bl (.cmp .lt (.var 1) (.bi .len (.cons (.var 0) .nil)))) (.bi .int (.cons (.idx (.var 0) (.var 1)) .nil)) (.bin .add (.bin .add (.bin .mul (.con (.int 7307)) (.var 1)) (.con (.int 67))) (.bin .mod (.bi .int (.cons (.bi .sum (.cons (.slc (.var 0) .none (.some (.con (.int 6)))) .nil)) .nil)) (.con (.int 1000117)))))) (.seq (.asg 3 (.bin .add (.con (.int 31469)) (.bin .mul (.con (.int 1823)) (.var 1)))) (.seq (.for (.one 4) (.seq (.bin .add (.slc (.var 0) .none (.some (.con (.int 12)))) (.lst (.cons (.var 2) .nil)))) (.asg 3 (.bin .mod (.bi .int (.cons (.bin .add (.bin .add (.bin .mul (.var 3) (.con (.int 46021))) (.bin .mod (.bi .int (.cons (.var 4) .nil)) (.con (.int 2147483489)))) (.con (.int 29))) .nil)) (.con (.int 2147483489))))) (.retV (.cons (.ite (.or (.bl (.cmp .lt (.var 2) (.con (.int 0)))) (.bl (.cmp .ge (.var 2) (.bin .pow (.con (.int 10)) (.con (.int 18)))))) (.bi .abs (.cons (.var 2) .nil)) (.con (.int 0))) (.cons (.var 3) (.cons (.con (.int 0)) .nil)))))))
def rs_law : RS := (.ret (.bi .all (.cons (.lc [1] (.one 1) (.rng (.bi .max2 (.cons (.con (.int 2)) (.cons (.bi .min2 (.cons (.bi .len (.cons (.var 0) .nil)) (.cons (.con (.int 3)) .nil))) .nil)))) .yes (.call 36 (.cons (.call 37 (.cons (.var 0) (.cons (.var 1) .nil))) .nil))) .nil)))
def rs_Ldiv : RS := (.ret (.call 6 (.cons (.bin .mul (.idx (.var 0) (.con (.int 0))) (.idx (.var 1) (.con (.int 1)))) (.cons (.bin .mul (.idx (.var 0) (.con (.int 1))) (.idx (.var 1) (.con (.int 0)))) .nil))))
def rs_Lspot : RS := (.ret (.call 4 (.cons (.tup (.cons (.bin .mul (.idx (.var 0) (.con (.int 0))) (.idx (.var 1) (.con (.int 1)))) (.cons (.bin .mul (.idx (.var 1) (.con (.int 0))) (.idx (.var 0) (.con (.int 1)))) (.cons (.bin .mul (.idx (.var 0) (.con (.int 1))) (.idx (.var 1) (.con (.int 1)))) .nil)))) .nil)))
def rs_Lsgn : RS := (.ret (.ite (.bl (.cmp .gt (.var 0) (.con (.int 0)))) (.con (.int 1)) (.ite (.bl (.cmp .lt (.var 0) (.con (.int 0)))) (.neg (.con (.int 1))) (.con (.int 0)))))
def rs_Lless : RS := (.ret (.cmp .lt (.bin .mul (.idx (.var 0) (.con (.int 0))) (.idx (.var 1) (.con (.int 1)))) (.bin .mul (.idx (.var 1) (.con (.int 0))) (.idx (.var 0) (.con (.int 1))))))
def rs_Lminus : RS := (.ret (.tup (.cons (.bin .sub (.con (.int 0)) (.idx (.var 0) (.con (.int 0)))) (.cons (.idx (.var 0) (.con (.int 1))) .nil))))
def rs_sign : RS := (.seq (.iff (.bl (.cmp .gt (.var 0) (.con (.int 0)))) (.ret (.con (.int 1))) .skip) (.ret (.ite (.bl (.cmp .lt (.var 0) (.con (.int 0)))) (.neg (.con (.int 1))) (.con (.int 0)))))
def rs_quotient : RS := (.seq (.par [2, 3] (.cons (.bin .mul (.idx (.var 0) (.con (.int 0))) (.idx (.var 1) (.con (.int 1)))) (.cons (.bin .mul (.idx (.var 0) (.con (.int 1))) (.idx (.var 1) (.con (.int 0)))) .nil))) (.ret (.ite (.bl (.cmp .gt (.var 3) (.con (.int 0)))) (.call 33 (.cons (.var 2) (.cons (.var 3) .nil))) (.call 33 (.cons (.neg (.var 2)) (.cons (.neg (.var 3)) .nil))))))
def rs_check_distance : RS := (.iff (.or (.not (.val (.call 11 (.cons (.var 0) .nil)))) (.bl (.cmp .le (.idx (.var 0) (.con (.int 0))) (.con (.int 0))))) .fail .skip)
def rs_check_fraction : RS := (.iff (.not (.val (.call 11 (.cons (.var 0) .nil)))) .fail .skip)
def rs_reduced_point : RS := (.seq (.asg 3 (.bi .gcd3 (.cons (.var 0) (.cons (.var 1) (.cons (.var 2) .nil))))) (.ret (.tup (.cons (.bin .div (.var 0) (.var 3)) (.cons (.bin .div (.var 1) (.var 3)) (.cons (.bin .div (.var 2) (.var 3)) .nil))))))
def rs_place_of : RS := (.seq (.exp (.call 12 (.cons (.var 0) .nil))) (.seq (.exp (.call 13 (.cons (.var 1) .nil))) (.ret (.call 14 (.cons (.bin .mul (.idx (.var 0) (.con (.int 0))) (.idx (.var 1) (.con (.int 1)))) (.cons (.bin .mul (.idx (.var 1) (.con (.int 0))) (.idx (.var 0) (.con (.int 1)))) (.cons (.bin .mul (.idx (.var 0) (.con (.int 1))) (.idx (.var 1) (.con (.int 1)))) .nil)))))))
def rs_top_of : RS := (.seq (.exp (.call 73 (.cons (.var 0) .nil))) (.seq (.asgT (.many [1, 2]) (.var 0)) (.seq (.iff (.bl (.cmp .le (.idx (.var 1) (.con (.int 0))) (.con (.int 0)))) (.ret (.con .none)) .skip) (.seq (.asg 3 (.call 82 (.cons (.var 1) (.cons (.call 51 (.cons (.tup (.cons (.con (.int 2)) (.cons (.con (.int 1)) .nil))) (.cons (.var 2) .nil))) .nil)))) (.ret (.call 15 (.cons (.var 3) (.cons (.call 77 (.cons (.var 0) (.cons (.var 3) .nil))) .nil))))))))
def rs_Lhigh : RS := (.ret (.call 6 (.cons (.idx (.var 0) (.con (.int 1))) (.cons (.idx (.var 0) (.con (.int 2))) .nil))))
def rs_Lhead : RS := (.seq (.asgT (.many [1, 2]) (.var 0)) (.ret (.call 31 (.cons (.call 17 (.cons (.tup (.cons (.con (.int 1)) (.cons (.con (.int 1)) .nil))) (.cons (.call 16 (.cons (.var 1) (.cons (.var 1) .nil))) .nil))) (.cons (.call 16 (.cons (.tup (.cons (.con (.int 4)) (.cons (.con (.int 1)) .nil))) (.cons (.var 2) .nil))) .nil)))))
def rs_head_of : RS := (.seq (.exp (.call 73 (.cons (.var 0) .nil))) (.seq (.asgT (.many [1, 2]) (.var 0)) (.ret (.call 82 (.cons (.call 48 (.cons (.con (.tuple [(.int 1), (.int 1)])) (.cons (.call 51 (.cons (.var 1) (.cons (.var 1) .nil))) .nil))) (.cons (.call 51 (.cons (.tup (.cons (.con (.int 4)) (.cons (.con (.int 1)) .nil))) (.cons (.var 2) .nil))) .nil))))))
def rs_head_left : RS := (.ret (.call 65 (.cons (.call 85 (.cons (.var 0) .nil)) (.cons (.call 77 (.cons (.var 0) (.cons (.var 1) .nil))) .nil))))
def rs_Lfar : RS := (.ret (.call 6 (.cons (.idx (.var 0) (.con (.int 0))) (.cons (.idx (.var 0) (.con (.int 2))) .nil))))
def rs_Lwith : RS := (.seq (.par [2, 3] (.cons (.call 24 (.cons (.var 1) .nil)) (.cons (.call 25 (.cons (.var 1) .nil)) .nil))) (.seq (.asg 4 (.call 31 (.cons (.call 23 (.cons (.call 16 (.cons (.var 0) (.cons (.var 2) .nil))) (.cons (.var 3) .nil))) (.cons (.call 16 (.cons (.var 2) (.cons (.var 2) .nil))) .nil)))) (.ret (.ite (.bl (.cmp .gt (.idx (.var 4) (.con (.int 0))) (.con (.int 0)))) (.tup (.cons (.var 0) (.cons (.var 4) .nil))) (.con .none)))))
def rs_Lplace : RS := (.ret (.call 5 (.cons (.call 8 (.cons (.var 0) (.cons (.var 1) .nil))) (.cons (.call 9 (.cons (.var 0) (.cons (.var 1) .nil))) .nil))))
def rs_Lthrough : RS := (.seq (.par [2, 3] (.cons (.call 31 (.cons (.call 25 (.cons (.var 0) .nil)) (.cons (.call 24 (.cons (.var 0) .nil)) .nil))) (.cons (.call 31 (.cons (.call 25 (.cons (.var 1) .nil)) (.cons (.call 24 (.cons (.var 1) .nil)) .nil))) .nil))) (.seq (.asg 4 (.call 31 (.cons (.call 23 (.cons (.var 2) (.cons (.var 3) .nil))) (.cons (.call 23 (.cons (.call 24 (.cons (.var 1) .nil)) (.cons (.call 24 (.cons (.var 0) .nil)) .nil))) .nil)))) (.ret (.ite (.bl (.cmp .gt (.idx (.var 4) (.con (.int 0))) (.con (.int 0)))) (.tup (.cons (.call 17 (.cons (.var 2) (.cons (.call 16 (.cons (.var 4) (.cons (.call 24 (.cons (.var 0) .nil)) .nil))) .nil))) (.cons (.var 4) .nil))) (.con .none)))))
def rs_is_point : RS := (.seq (.iff (.or (.not (.val (.isi (.var 0) "tuple"))) (.bl (.cmp .ne (.bi .len (.cons (.var 0) .nil)) (.con (.int 3))))) (.ret (.con (.bool false))) .skip) (.seq (.asgT (.many [1, 2, 3]) (.var 0)) (.seq (.iff (.or (.not (.val (.call 10 (.cons (.var 1) .nil)))) (.or (.not (.val (.call 10 (.cons (.var 2) .nil)))) (.not (.val (.call 10 (.cons (.var 3) .nil)))))) (.ret (.con (.bool false))) .skip) (.ret (.andV (.cmp .gt (.var 3) (.con (.int 0))) (.cmp .eq (.bi .gcd3 (.cons (.var 1) (.cons (.var 2) (.cons (.var 3) .nil)))) (.con (.int 1))))))))
def rs_is_place : RS := (.ret (.andV (.call 18 (.cons (.var 0) .nil)) (.cmp .gt (.idx (.var 0) (.con (.int 0))) (.con (.int 0)))))
def rs_check_place : RS := (.iff (.not (.val (.call 19 (.cons (.var 0) .nil)))) .fail .skip)
def rs_distance_of : RS := (.seq (.exp (.call 20 (.cons (.var 0) .nil))) (.ret (.call 33 (.cons (.idx (.var 0) (.con (.int 0))) (.cons (.idx (.var 0) (.con (.int 2))) .nil)))))
def rs_height_of : RS := (.seq (.exp (.call 20 (.cons (.var 0) .nil))) (.ret (.call 33 (.cons (.idx (.var 0) (.con (.int 1))) (.cons (.idx (.var 0) (.con (.int 2))) .nil)))))
def rs_jet_with : RS := (.seq (.exp (.call 13 (.cons (.var 0) .nil))) (.seq (.exp (.call 20 (.cons (.var 1) .nil))) (.seq (.asg 2 (.call 34 (.cons (.var 1) .nil))) (.seq (.asg 3 (.call 82 (.cons (.call 65 (.cons (.var 0) (.cons (.call 82 (.cons (.call 35 (.cons (.var 1) .nil)) (.cons (.var 2) .nil))) .nil))) (.cons (.var 2) .nil)))) (.ret (.ite (.bl (.cmp .gt (.idx (.var 3) (.con (.int 0))) (.con (.int 0)))) (.tup (.cons (.var 0) (.cons (.var 3) .nil))) (.con .none)))))))
def rs_is_below : RS := (.ret (.cmp .lt (.bin .mul (.idx (.var 0) (.con (.int 0))) (.idx (.var 1) (.con (.int 1)))) (.bin .mul (.idx (.var 1) (.con (.int 0))) (.idx (.var 0) (.con (.int 1))))))
def rs_jet_through : RS := (.seq (.exp (.call 20 (.cons (.var 0) .nil))) (.seq (.exp (.call 20 (.cons (.var 1) .nil))) (.seq (.par [2, 3] (.cons (.call 34 (.cons (.var 0) .nil)) (.cons (.call 34 (.cons (.var 1) .nil)) .nil))) (.seq (.iff (.not (.val (.call 91 (.cons (.var 2) (.cons (.var 3) .nil))))) .fail .skip) (.seq (.par [4, 5] (.cons (.call 82 (.cons (.call 35 (.cons (.var 0) .nil)) (.cons (.var 2) .nil))) (.cons (.call 82 (.cons (.call 35 (.cons (.var 1) .nil)) (.cons (.var 3) .nil))) .nil))) (.seq (.asg 6 (.call 82 (.cons (.call 65 (.cons (.var 4) (.cons (.var 5) .nil))) (.cons (.call 65 (.cons (.var 3) (.cons (.var 2) .nil))) .nil)))) (.ret (.ite (.bl (.cmp .gt (.idx (.var 6) (.con (.int 0))) (.con (.int 0)))) (.tup (.cons (.call 48 (.cons (.var 4) (.cons (.call 51 (.cons (.var 6) (.cons (.var 2) .nil))) .nil))) (.cons (.var 6) .nil))) (.con .none)))))))))
def rs_Lorder : RS := (.ret (.call 41 (.cons (.idx (.call 23 (.cons (.call 77 (.cons (.var 0) (.cons (.var 2) .nil))) (.cons (.call 77 (.cons (.var 1) (.cons (.var 2) .nil))) .nil))) (.con (.int 0))) .nil)))
def rs_square_root : RS := (.seq (.asg 1 (.bi .isqrt (.cons (.idx (.var 0) (.con (.int 0))) .nil))) (.seq (.asg 2 (.bi .isqrt (.cons (.idx (.var 0) (.con (.int 1))) .nil))) (.seq (.iff (.and (.bl (.cmp .eq (.bin .mul (.var 1) (.var 1)) (.idx (.var 0) (.con (.int 0))))) (.bl (.cmp .eq (.bin .mul (.var 2) (.var 2)) (.idx (.var 0) (.con (.int 1)))))) (.ret (.tup (.cons (.var 1) (.cons (.var 2) .nil)))) .skip) (.ret (.con .none)))))
def rs_surd_of : RS := (.seq (.exp (.call 13 (.cons (.var 0) .nil))) (.seq (.exp (.call 13 (.cons (.var 1) .nil))) (.seq (.exp (.call 13 (.cons (.var 2) .nil))) (.seq (.iff (.bl (.cmp .lt (.idx (.var 2) (.con (.int 0))) (.con (.int 0)))) .fail .skip) (.seq (.asg 3 (.call 45 (.cons (.var 2) .nil))) (.seq (.iff (.bl (.notN (.var 3))) (.ret (.tup (.cons (.call 48 (.cons (.var 0) (.cons (.call 51 (.cons (.var 1) (.cons (.var 3) .nil))) .nil))) (.cons (.con (.int 0)) (.cons (.tup (.cons (.con (.int 0)) (.cons (.con (.int 1)) .nil))) .nil))))) .skip) (.ret (.tup (.cons (.var 0) (.cons (.call 50 (.cons (.idx (.var 1) (.con (.int 0))) .nil)) (.cons (.call 51 (.cons (.call 51 (.cons (.var 1) (.cons (.var 1) .nil))) (.cons (.var 2) .nil))) .nil)))))))))))
def rs_as_surd : RS := (.ret (.tup (.cons (.var 0) (.cons (.con (.int 0)) (.cons (.con (.tuple [(.int 0), (.int 1)])) .nil)))))
def rs_zeros : RS := (.seq (.asgT (.many [1, 2, 3]) (.var 0)) (.seq (.iff (.bl (.cmp .eq (.var 3) (.con (.tuple [(.int 0), (.int 1)])))) (.ret (.ite (.bl (.cmp .eq (.var 2) (.con (.tuple [(.int 0), (.int 1)])))) (.lst .nil) (.lst (.cons (.call 94 (.cons (.call 82 (.cons (.call 76 (.cons (.var 1) .nil)) (.cons (.var 2) .nil))) .nil)) .nil)))) .skip) (.seq (.asg 4 (.call 65 (.cons (.call 51 (.cons (.var 2) (.cons (.var 2) .nil))) (.cons (.call 51 (.cons (.tup (.cons (.con (.int 4)) (.cons (.con (.int 1)) .nil))) (.cons (.call 51 (.cons (.var 3) (.cons (.var 1) .nil))) .nil))) .nil)))) (.seq (.iff (.bl (.cmp .lt (.idx (.var 4) (.con (.int 0))) (.con (.int 0)))) (.ret (.lst .nil)) .skip) (.seq (.asg 5 (.call 82 (.cons (.call 76 (.cons (.var 2) .nil)) (.cons (.call 51 (.cons (.tup (.cons (.con (.int 2)) (.cons (.con (.int 1)) .nil))) (.cons (.var 3) .nil))) .nil)))) (.seq (.iff (.bl (.cmp .eq (.var 4) (.con (.tuple [(.int 0), (.int 1)])))) (.ret (.lst (.cons (.call 94 (.cons (.var 5) .nil)) .nil))) .skip) (.seq (.asg 6 (.call 82 (.cons (.tup (.cons (.call 50 (.cons (.idx (.var 3) (.con (.int 0))) .nil)) (.cons (.con (.int 1)) .nil))) (.cons (.call 51 (.cons (.tup (.cons (.con (.int 2)) (.cons (.con (.int 1)) .nil))) (.cons (.var 3) .nil))) .nil)))) (.ret (.lst (.cons (.call 52 (.cons (.var 5) (.cons (.call 76 (.cons (.var 6) .nil)) (.cons (.var 4) .nil)))) (.cons (.call 52 (.cons (.var 5) (.cons (.var 6) (.cons (.var 4) .nil)))) .nil)))))))))))
def rs_sign_with_root : RS := (.seq (.asg 3 (.call 50 (.cons (.idx (.var 0) (.con (.int 0))) .nil))) (.seq (.asg 4 (.bin .mul (.call 50 (.cons (.idx (.var 1) (.con (.int 0))) .nil)) (.call 50 (.cons (.idx (.var 2) (.con (.int 0))) .nil)))) (.seq (.iff (.bl (.cmp .eq (.var 3) (.con (.int 0)))) (.ret (.var 4)) .skip) (.seq (.iff (.bl (.cmp .ge (.bin .mul (.var 3) (.var 4)) (.con (.int 0)))) (.ret (.var 3)) .skip) (.seq (.asg 5 (.call 51 (.cons (.call 51 (.cons (.var 1) (.cons (.var 1) .nil))) (.cons (.var 2) .nil)))) (.ret (.bin .mul (.var 3) (.call 50 (.cons (.idx (.call 65 (.cons (.call 51 (.cons (.var 0) (.cons (.var 0) .nil))) (.cons (.var 5) .nil))) (.con (.int 0))) .nil)))))))))
def rs_surd_sign : RS := (.seq (.asgT (.many [1, 2, 3]) (.var 0)) (.ret (.call 66 (.cons (.var 1) (.cons (.tup (.cons (.var 2) (.cons (.con (.int 1)) .nil))) (.cons (.var 3) .nil))))))
def rs_distances_at : RS := (.seq (.exp (.call 73 (.cons (.var 0) .nil))) (.seq (.exp (.call 13 (.cons (.var 1) .nil))) (.seq (.asgT (.many [2, 3]) (.var 0)) (.ret (.bi .tuple (.cons (.lc [4] (.one 4) (.seq (.call 95 (.cons (.tup (.cons (.var 1) (.cons (.call 76 (.cons (.var 2) .nil)) (.cons (.var 3) .nil)))) .nil))) (.bl (.cmp .gt (.call 96 (.cons (.var 4) .nil)) (.con (.int 0)))) (.var 4)) .nil))))))
def rs_landing : RS := (.seq (.asg 2 (.call 97 (.cons (.var 0) (.cons (.var 1) .nil)))) (.ret (.ite (.val (.var 2)) (.idx (.var 2) (.neg (.con (.int 1)))) (.con .none))))
def rs_check_above_zero : RS := (.seq (.exp (.call 13 (.cons (.var 0) .nil))) (.iff (.bl (.cmp .le (.idx (.var 0) (.con (.int 0))) (.con (.int 0)))) .fail .skip))
def rs_grown_jet : RS := (.seq (.exp (.call 73 (.cons (.var 0) .nil))) (.seq (.exp (.call 99 (.cons (.var 1) .nil))) (.seq (.asgT (.many [2, 3]) (.var 0)) (.ret (.tup (.cons (.var 2) (.cons (.call 82 (.cons (.var 3) (.cons (.var 1) .nil))) .nil)))))))
def rs_sheared_jet : RS := (.seq (.exp (.call 73 (.cons (.var 0) .nil))) (.seq (.exp (.call 13 (.cons (.var 1) .nil))) (.seq (.asgT (.many [2, 3]) (.var 0)) (.ret (.tup (.cons (.call 48 (.cons (.var 2) (.cons (.var 1) .nil))) (.cons (.var 3) .nil)))))))
def rs_is_surd : RS := (.seq (.iff (.or (.not (.val (.isi (.var 0) "tuple"))) (.bl (.cmp .ne (.bi .len (.cons (.var 0) .nil)) (.con (.int 3))))) (.ret (.con (.bool false))) .skip) (.seq (.asgT (.many [1, 2, 3]) (.var 0)) (.seq (.iff (.or (.not (.val (.call 11 (.cons (.var 1) .nil)))) (.or (.not (.val (.call 10 (.cons (.var 2) .nil)))) (.not (.val (.call 11 (.cons (.var 3) .nil)))))) (.ret (.con (.bool false))) .skip) (.seq (.iff (.bl (.cmp .eq (.var 2) (.con (.int 0)))) (.ret (.cmp .eq (.var 3) (.tup (.cons (.con (.int 0)) (.cons (.con (.int 1)) .nil))))) .skip) (.seq (.iff (.and (.bl (.cmp .ne (.var 2) (.con (.int 1)))) (.bl (.cmp .ne (.var 2) (.neg (.con (.int 1)))))) (.ret (.con (.bool false))) .skip) (.ret (.andV (.cmp .gt (.idx (.var 3) (.con (.int 0))) (.con (.int 0))) (.isN (.call 45 (.cons (.var 3) .nil))))))))))
def rs_check_surd : RS := (.iff (.not (.val (.call 46 (.cons (.var 0) .nil)))) .fail .skip)
def rs_surd_times : RS := (.seq (.exp (.call 47 (.cons (.var 0) .nil))) (.seq (.exp (.call 13 (.cons (.var 1) .nil))) (.seq (.asgT (.many [2, 3, 4]) (.var 0)) (.ret (.call 52 (.cons (.call 51 (.cons (.var 2) (.cons (.var 1) .nil))) (.cons (.call 51 (.cons (.tup (.cons (.var 3) (.cons (.con (.int 1)) .nil))) (.cons (.var 1) .nil))) (.cons (.var 4) .nil))))))))
def rs_grown : RS := (.seq (.exp (.call 20 (.cons (.var 0) .nil))) (.seq (.exp (.call 13 (.cons (.var 1) .nil))) (.seq (.iff (.bl (.cmp .le (.idx (.var 1) (.con (.int 0))) (.con (.int 0)))) .fail .skip) (.seq (.asgT (.many [2, 3]) (.var 1)) (.ret (.call 14 (.cons (.bin .mul (.idx (.var 0) (.con (.int 0))) (.var 2)) (.cons (.bin .mul (.idx (.var 0) (.con (.int 1))) (.var 2)) (.cons (.bin .mul (.idx (.var 0) (.con (.int 2))) (.var 3)) .nil)))))))))
def rs_sheared : RS := (.seq (.exp (.call 20 (.cons (.var 0) .nil))) (.seq (.exp (.call 13 (.cons (.var 1) .nil))) (.seq (.asgT (.many [2, 3]) (.var 1)) (.ret (.call 14 (.cons (.bin .mul (.idx (.var 0) (.con (.int 0))) (.var 3)) (.cons (.bin .add (.bin .mul (.idx (.var 0) (.con (.int 1))) (.var 3)) (.bin .mul (.idx (.var 0) (.con (.int 0))) (.var 2))) (.cons (.bin .mul (.idx (.var 0) (.con (.int 2))) (.var 3)) .nil))))))))
def rs_Lsign_of : RS := (.seq (.par [3, 4] (.cons (.call 41 (.cons (.idx (.var 0) (.con (.int 0))) .nil)) (.cons (.ite (.bl (.cmp .gt (.idx (.var 2) (.con (.int 0))) (.con (.int 0)))) (.call 41 (.cons (.idx (.var 1) (.con (.int 0))) .nil)) (.con (.int 0))) .nil))) (.seq (.iff (.or (.bl (.cmp .eq (.var 4) (.con (.int 0)))) (.bl (.cmp .eq (.var 3) (.var 4)))) (.ret (.ite (.bl (.cmp .eq (.var 4) (.con (.int 0)))) (.var 3) (.var 4))) .skip) (.seq (.iff (.bl (.cmp .eq (.var 3) (.con (.int 0)))) (.ret (.var 4)) .skip) (.seq (.asg 5 (.call 23 (.cons (.call 16 (.cons (.var 0) (.cons (.var 0) .nil))) (.cons (.call 16 (.cons (.call 16 (.cons (.var 1) (.cons (.var 1) .nil))) (.cons (.var 2) .nil))) .nil)))) (.ret (.bin .mul (.call 41 (.cons (.idx (.var 5) (.con (.int 0))) .nil)) (.var 3)))))))
def rs_Lroot : RS := (.seq (.asgT (.many [1, 2]) (.tup (.cons (.con (.int 0)) (.cons (.con (.int 1)) .nil)))) (.seq (.whl (.bl (.cmp .le (.bin .mul (.var 2) (.var 2)) (.var 0))) (.asg 2 (.bin .mul (.con (.int 2)) (.var 2)))) (.seq (.whl (.bl (.cmp .gt (.bin .sub (.var 2) (.var 1)) (.con (.int 1)))) (.seq (.asg 3 (.bin .div (.bin .add (.var 1) (.var 2)) (.con (.int 2)))) (.iff (.bl (.cmp .le (.bin .mul (.var 3) (.var 3)) (.var 0))) (.asg 1 (.var 3)) (.asg 2 (.var 3))))) (.ret (.var 1)))))
def rs_Lsquare_of : RS := (.seq (.par [1, 2] (.cons (.call 39 (.cons (.idx (.var 0) (.con (.int 0))) .nil)) (.cons (.call 39 (.cons (.idx (.var 0) (.con (.int 1))) .nil)) .nil))) (.ret (.ite (.and (.bl (.cmp .eq (.bin .mul (.var 1) (.var 1)) (.idx (.var 0) (.con (.int 0))))) (.bl (.cmp .eq (.bin .mul (.var 2) (.var 2)) (.idx (.var 0) (.con (.int 1)))))) (.tup (.cons (.var 1) (.cons (.var 2) .nil))) (.con .none))))
def rs_Lsurd : RS := (.seq (.asg 3 (.call 16 (.cons (.call 16 (.cons (.var 1) (.cons (.var 1) .nil))) (.cons (.var 2) .nil)))) (.seq (.asg 4 (.call 40 (.cons (.var 3) .nil))) (.seq (.iff (.bl (.notN (.var 4))) (.ret (.tup (.cons (.call 17 (.cons (.var 0) (.cons (.ite (.bl (.cmp .gt (.idx (.var 1) (.con (.int 0))) (.con (.int 0)))) (.var 4) (.call 32 (.cons (.var 4) .nil))) .nil))) (.cons (.con (.int 0)) (.cons (.tup (.cons (.con (.int 0)) (.cons (.con (.int 1)) .nil))) .nil))))) .skip) (.ret (.tup (.cons (.var 0) (.cons (.call 41 (.cons (.idx (.var 1) (.con (.int 0))) .nil)) (.cons (.var 3) .nil))))))))
def rs_Llands : RS := (.seq (.asgT (.many [2, 3]) (.var 0)) (.seq (.asg 4 (.call 23 (.cons (.call 16 (.cons (.var 2) (.cons (.var 2) .nil))) (.cons (.call 16 (.cons (.tup (.cons (.con (.int 4)) (.cons (.con (.int 1)) .nil))) (.cons (.call 16 (.cons (.var 3) (.cons (.var 1) .nil))) .nil))) .nil)))) (.seq (.iff (.bl (.cmp .lt (.idx (.var 4) (.con (.int 0))) (.con (.int 0)))) (.ret (.tup .nil)) .skip) (.seq (.par [5, 6, 7] (.cons (.call 31 (.cons (.var 2) (.cons (.call 16 (.cons (.tup (.cons (.con (.int 2)) (.cons (.con (.int 1)) .nil))) (.cons (.var 3) .nil))) .nil))) (.cons (.call 31 (.cons (.tup (.cons (.con (.int 1)) (.cons (.con (.int 2)) .nil))) (.cons (.var 3) .nil))) (.cons (.lst .nil) .nil)))) (.seq (.for (.one 8) (.seq (.ite (.bl (.cmp .gt (.idx (.var 4) (.con (.int 0))) (.con (.int 0)))) (.lst (.cons (.call 32 (.cons (.var 6) .nil)) (.cons (.var 6) .nil))) (.lst (.cons (.var 6) .nil)))) (.iff (.bl (.cmp .gt (.call 58 (.cons (.var 5) (.cons (.var 8) (.cons (.var 4) .nil)))) (.con (.int 0)))) (.app 7 (.call 42 (.cons (.var 5) (.cons (.var 8) (.cons (.var 4) .nil))))) .skip)) (.frz 7 (.ret (.bi .tuple (.cons (.var 7) .nil)))))))))
def rs_compare : RS := (.seq (.exp (.call 47 (.cons (.var 0) .nil))) (.seq (.exp (.call 47 (.cons (.var 1) .nil))) (.seq (.asgT (.many [2, 3, 4]) (.var 0)) (.seq (.asgT (.many [5, 6, 7]) (.var 1)) (.seq (.asg 8 (.call 65 (.cons (.var 2) (.cons (.var 5) .nil)))) (.seq (.asg 9 (.call 66 (.cons (.var 8) (.cons (.tup (.cons (.var 3) (.cons (.con (.int 1)) .nil))) (.cons (.var 4) .nil))))) (.seq (.iff (.bl (.cmp .ne (.var 9) (.var 6))) (.ret (.call 50 (.cons (.bin .sub (.var 9) (.var 6)) .nil))) .skip) (.seq (.asg 10 (.call 65 (.cons (.call 48 (.cons (.call 51 (.cons (.var 8) (.cons (.var 8) .nil))) (.cons (.var 4) .nil))) (.cons (.var 7) .nil)))) (.ret (.bin .mul (.var 6) (.call 66 (.cons (.var 10) (.cons (.call 51 (.cons (.tup (.cons (.bin .mul (.con (.int 2)) (.var 3)) (.cons (.con (.int 1)) .nil))) (.cons (.var 8) .nil))) (.cons (.var 4) .nil))))))))))))))
def rs_surd_plus : RS := (.seq (.exp (.call 47 (.cons (.var 0) .nil))) (.seq (.exp (.call 13 (.cons (.var 1) .nil))) (.seq (.asgT (.many [2, 3, 4]) (.var 0)) (.ret (.tup (.cons (.call 48 (.cons (.var 2) (.cons (.var 1) .nil))) (.cons (.var 3) (.cons (.var 4) .nil))))))))
def rs_Lall_words : RS := (.ret (.lst (.cons (.con (.str (Str.ofString "over"))) (.cons (.con (.str (Str.ofString "under"))) (.cons (.con (.str (Str.ofString "roof"))) (.cons (.con (.str (Str.ofString "low"))) (.cons (.con (.str (Str.ofString "dives"))) (.cons (.con (.str (Str.ofString "climbs"))) (.cons (.con (.str (Str.ofString "quick"))) (.cons (.con (.str (Str.ofString "slow"))) .nil))))))))))
def rs_Lask : RS := (.seq (.asg 3 (.call 1 (.cons (.var 0) (.cons (.var 1) .nil)))) (.seq (.iff (.bl (.cmp .inn (.var 3) (.lst (.cons (.con (.str (Str.ofString "over"))) (.cons (.con (.str (Str.ofString "under"))) .nil))))) (.ret (.tup (.cons (.var 3) (.cons (.call 88 (.cons (.var 0) (.cons (.var 2) .nil))) .nil)))) .skip) (.seq (.iff (.bl (.cmp .inn (.var 3) (.lst (.cons (.con (.str (Str.ofString "low"))) (.cons (.con (.str (Str.ofString "quick"))) (.cons (.con (.str (Str.ofString "slow"))) .nil)))))) (.ret (.tup (.cons (.var 3) (.cons (.call 8 (.cons (.var 0) (.cons (.var 2) .nil))) .nil)))) .skip) (.seq (.iff (.bl (.cmp .inn (.var 3) (.lst (.cons (.con (.str (Str.ofString "dives"))) (.cons (.con (.str (Str.ofString "climbs"))) .nil))))) (.ret (.tup (.cons (.var 3) (.cons (.call 1 (.cons (.var 0) (.cons (.lst (.cons (.tup (.cons (.con (.int 0)) (.cons (.con (.int 1)) .nil))) (.cons (.call 8 (.cons (.var 0) (.cons (.var 2) .nil))) (.cons (.call 8 (.cons (.var 0) (.cons (.con (.int 3)) .nil))) .nil)))) .nil))) (.cons (.call 9 (.cons (.var 0) (.cons (.var 2) .nil))) .nil))))) .skip) (.seq (.asg 4 (.call 88 (.cons (.var 0) (.cons (.var 2) .nil)))) (.seq (.asg 5 (.call 5 (.cons (.call 17 (.cons (.call 24 (.cons (.var 4) .nil)) (.cons (.call 8 (.cons (.var 0) (.cons (.var 2) .nil))) .nil))) (.cons (.call 1 (.cons (.var 0) (.cons (.lst (.cons (.call 25 (.cons (.var 4) .nil)) (.cons (.call 9 (.cons (.var 0) (.cons (.var 2) .nil))) .nil))) .nil))) .nil)))) (.ret (.tup (.cons (.var 3) (.cons (.var 4) (.cons (.var 5) .nil)))))))))))
def rs_Lodd_points : RS := (.seq (.asg 0 (.lst (.cons (.con .none) (.cons (.con (.int 5)) (.cons (.con (.str (Str.ofString "abc"))) (.cons (.tup .nil) (.cons (.tup (.cons (.con (.int 1)) (.cons (.con (.int 2)) .nil))) (.cons (.tup (.cons (.con (.int 0)) (.cons (.con (.int 0)) (.cons (.con (.int 0)) .nil)))) (.cons (.tup (.cons (.con (.int 2)) (.cons (.con (.int 0)) (.cons (.con (.int 2)) .nil)))) (.cons (.tup (.cons (.con (.int 1)) (.cons (.con (.int 1)) (.cons (.neg (.con (.int 1))) .nil)))) (.cons (.lst (.cons (.con (.int 1)) (.cons (.con (.int 0)) (.cons (.con (.int 1)) .nil)))) (.cons (.tup (.cons (.con (.int 1)) (.cons (.con (.int 0)) (.cons (.con (.int 1)) (.cons (.con (.int 1)) .nil))))) (.cons (.tup (.cons (.con (.bool true)) (.cons (.con (.int 0)) (.cons (.con (.int 1)) .nil)))) (.cons (.tup (.cons (.con (.int 1)) (.cons (.con .none) (.cons (.con (.int 1)) .nil)))) .nil)))))))))))))) (.ret (.bin .add (.var 0) (.lst (.cons (.tup (.cons (.tup (.cons (.con (.int 1)) (.cons (.con (.int 0)) (.cons (.con (.int 1)) .nil)))) .nil)) (.cons .dic (.cons (.tup (.cons (.con (.str (Str.ofString "1"))) (.cons (.con (.str (Str.ofString "0"))) (.cons (.con (.str (Str.ofString "1"))) .nil)))) (.cons (.tup (.cons (.con (.int 1)) (.cons (.con (.int 0)) (.cons (.con (.int 0)) .nil)))) (.cons (.tup (.cons (.con (.int 3)) (.cons (.con (.int 3)) (.cons (.con (.int 6)) .nil)))) (.cons (.tup (.cons (.con (.int 1)) (.cons (.con (.int 0)) (.cons (.con (.bool true)) .nil)))) .nil))))))))))
def rs_Lodd_places : RS := (.ret (.bin .add (.call 29 .nil) (.lst (.cons (.tup (.cons (.con (.int 0)) (.cons (.con (.int 0)) (.cons (.con (.int 1)) .nil)))) (.cons (.tup (.cons (.neg (.con (.int 1))) (.cons (.con (.int 0)) (.cons (.con (.int 1)) .nil)))) (.cons (.tup (.cons (.con (.int 0)) (.cons (.con (.int 3)) (.cons (.con (.int 1)) .nil)))) (.cons (.tup (.cons (.neg (.con (.int 5))) (.cons (.con (.int 2)) (.cons (.con (.int 3)) .nil)))) .nil)))))))
def rs_Lodd_asks : RS := (.seq (.par [1, 2, 3] (.cons (.call 88 (.cons (.var 0) (.cons (.con (.int 3)) .nil))) (.cons (.tup (.cons (.con (.int 1)) (.cons (.con (.int 2)) .nil))) (.cons (.call 1 (.cons (.var 0) (.cons (.call 56 .nil) .nil))) .nil)))) (.seq (.par [4, 5] (.cons (.call 5 (.cons (.call 17 (.cons (.call 24 (.cons (.var 1) .nil)) (.cons (.var 2) .nil))) (.cons (.var 2) .nil))) (.cons (.call 1 (.cons (.var 0) (.cons (.call 30 .nil) .nil))) .nil))) (.seq (.asg 6 (.lst (.cons (.con .none) (.cons (.con (.int 3)) (.cons (.con (.str (Str.ofString "over"))) (.cons (.tup .nil) (.cons (.tup (.cons (.con (.str (Str.ofString "over"))) .nil)) (.cons (.tup (.cons (.con (.str (Str.ofString "under"))) (.cons (.var 5) .nil))) (.cons (.tup (.cons (.con (.str (Str.ofString "over"))) (.cons (.var 1) (.cons (.var 4) .nil)))) (.cons (.lst (.cons (.con (.str (Str.ofString "over"))) (.cons (.var 1) .nil))) (.cons (.tup (.cons (.con (.str (Str.ofString "Over"))) (.cons (.var 1) .nil))) (.cons (.tup (.cons (.con (.str (Str.ofString "roof"))) (.cons (.var 1) .nil))) .nil)))))))))))) (.seq (.asg 6 (.bin .add (.var 6) (.lst (.cons (.tup (.cons (.con (.str (Str.ofString "roof"))) (.cons (.var 4) (.cons (.var 1) .nil)))) (.cons (.tup (.cons (.con (.str (Str.ofString "roof"))) (.cons (.var 1) (.cons (.var 1) .nil)))) (.cons (.tup (.cons (.con (.str (Str.ofString "roof"))) (.cons (.var 1) (.cons (.var 5) .nil)))) (.cons (.tup (.cons (.con (.str (Str.ofString "roof"))) (.cons (.var 5) (.cons (.var 4) .nil)))) (.cons (.tup (.cons (.con (.str (Str.ofString "low"))) (.cons (.var 3) .nil))) (.cons (.tup (.cons (.con (.str (Str.ofString "low"))) (.cons (.tup (.cons (.con (.int 0)) (.cons (.con (.int 1)) .nil))) .nil))) .nil))))))))) (.seq (.asg 6 (.bin .add (.var 6) (.lst (.cons (.tup (.cons (.con (.str (Str.ofString "low"))) (.cons (.tup (.cons (.neg (.con (.int 1))) (.cons (.con (.int 2)) .nil))) .nil))) (.cons (.tup (.cons (.con (.str (Str.ofString "dives"))) (.cons (.var 2) .nil))) (.cons (.tup (.cons (.con (.str (Str.ofString "dives"))) (.cons (.tup (.cons (.neg (.con (.int 1))) (.cons (.con (.int 2)) .nil))) (.cons (.var 2) .nil)))) (.cons (.tup (.cons (.con (.str (Str.ofString "climbs"))) (.cons (.var 3) (.cons (.var 2) .nil)))) (.cons (.tup (.cons (.con (.str (Str.ofString "climbs"))) (.cons (.var 2) (.cons (.var 3) .nil)))) (.cons .dic .nil))))))))) (.seq (.asg 6 (.bin .add (.var 6) (.lst (.cons (.tup (.cons (.con (.str (Str.ofString "quick"))) (.cons (.tup (.cons (.con (.int 0)) (.cons (.con (.int 1)) .nil))) .nil))) (.cons (.tup (.cons (.con (.str (Str.ofString "slow"))) (.cons (.tup (.cons (.neg (.con (.int 1))) (.cons (.con (.int 3)) .nil))) .nil))) (.cons (.tup (.cons (.con (.str (Str.ofString "slow"))) (.cons (.var 3) .nil))) (.cons (.tup (.cons (.con (.str (Str.ofString "quick"))) (.cons (.var 2) (.cons (.var 2) .nil)))) (.cons (.tup (.cons (.con (.str (Str.ofString "dives"))) (.cons (.var 2) (.cons (.var 2) (.cons (.var 2) .nil))))) (.cons (.tup (.cons (.var 1) (.cons (.con (.str (Str.ofString "over"))) .nil))) .nil))))))))) (.ret (.call 1 (.cons (.var 0) (.cons (.bin .add (.var 6) (.lst (.cons (.tup (.cons (.con (.str (Str.ofString "wall"))) (.cons (.var 1) .nil))) (.cons (.tup (.cons (.con .none) (.cons (.var 1) .nil))) (.cons (.tup (.cons (.con (.str (Str.ofString "low"))) (.cons (.var 1) .nil))) (.cons (.tup (.cons (.con (.str (Str.ofString "over"))) (.cons (.var 2) .nil))) .nil)))))) .nil))))))))))
def rs_Lis_frac : RS := (.seq (.iff (.or (.not (.val (.isi (.var 0) "tuple"))) (.bl (.cmp .ne (.bi .len (.cons (.var 0) .nil)) (.con (.int 2))))) (.ret (.con (.bool false))) .skip) (.seq (.iff (.bl (.cmp .ne (.lc [1] (.one 1) (.seq (.var 0)) (.or (.not (.val (.isi (.var 1) "int"))) (.val (.isi (.var 1) "bool"))) (.var 1)) (.lst .nil))) (.ret (.con (.bool false))) .skip) (.ret (.andV (.cmp .gt (.idx (.var 0) (.con (.int 1))) (.con (.int 0))) (.cmp .eq (.call 3 (.cons (.idx (.var 0) (.con (.int 0))) (.cons (.idx (.var 0) (.con (.int 1))) .nil))) (.con (.int 1)))))))
def rs_Lis_place : RS := (.seq (.iff (.or (.not (.val (.isi (.var 0) "tuple"))) (.bl (.cmp .ne (.bi .len (.cons (.var 0) .nil)) (.con (.int 3))))) (.ret (.con (.bool false))) .skip) (.seq (.iff (.bl (.cmp .ne (.lc [1] (.one 1) (.seq (.var 0)) (.or (.not (.val (.isi (.var 1) "int"))) (.val (.isi (.var 1) "bool"))) (.var 1)) (.lst .nil))) (.ret (.con (.bool false))) .skip) (.ret (.andV (.cmp .gt (.idx (.var 0) (.con (.int 0))) (.con (.int 0))) (.andV (.cmp .gt (.idx (.var 0) (.con (.int 2))) (.con (.int 0))) (.cmp .eq (.call 3 (.cons (.call 3 (.cons (.idx (.var 0) (.con (.int 0))) (.cons (.idx (.var 0) (.con (.int 1))) .nil))) (.cons (.idx (.var 0) (.con (.int 2))) .nil))) (.con (.int 1))))))))
def rs_Lis_ask : RS := (.seq (.par [1, 2] (.cons (.idx (.var 0) (.con (.int 0))) (.cons (.bi .len (.cons (.var 0) .nil)) .nil))) (.seq (.iff (.bl (.cmp .inn (.var 1) (.lst (.cons (.con (.str (Str.ofString "over"))) (.cons (.con (.str (Str.ofString "under"))) .nil))))) (.ret (.andV (.cmp .eq (.var 2) (.con (.int 2))) (.call 106 (.cons (.idx (.var 0) (.con (.int 1))) .nil)))) .skip) (.seq (.iff (.bl (.cmp .eq (.var 1) (.con (.str (Str.ofString "roof"))))) (.ret (.andV (.cmp .eq (.var 2) (.con (.int 3))) (.andV (.call 106 (.cons (.idx (.var 0) (.con (.int 1))) .nil)) (.andV (.call 106 (.cons (.idx (.var 0) (.con (.int 2))) .nil)) (.call 59 (.cons (.call 24 (.cons (.idx (.var 0) (.con (.int 1))) .nil)) (.cons (.call 24 (.cons (.idx (.var 0) (.con (.int 2))) .nil)) .nil))))))) .skip) (.seq (.iff (.bl (.cmp .inn (.var 1) (.lst (.cons (.con (.str (Str.ofString "dives"))) (.cons (.con (.str (Str.ofString "climbs"))) .nil))))) (.ret (.andV (.cmp .eq (.var 2) (.con (.int 3))) (.andV (.call 54 (.cons (.idx (.var 0) (.con (.int 1))) .nil)) (.andV (.cmp .ge (.idx (.idx (.var 0) (.con (.int 1))) (.con (.int 0))) (.con (.int 0))) (.call 54 (.cons (.idx (.var 0) (.con (.int 2))) .nil)))))) .skip) (.ret (.andV (.cmp .inn (.var 1) (.lst (.cons (.con (.str (Str.ofString "low"))) (.cons (.con (.str (Str.ofString "quick"))) (.cons (.con (.str (Str.ofString "slow"))) .nil))))) (.andV (.cmp .eq (.var 2) (.con (.int 2))) (.andV (.call 54 (.cons (.idx (.var 0) (.con (.int 1))) .nil)) (.cmp .gt (.idx (.idx (.var 0) (.con (.int 1))) (.con (.int 0))) (.con (.int 0)))))))))))
def rs_is_ask_of_two : RS := (.seq (.iff (.bl (.cmp .eq (.var 0) (.con (.str (Str.ofString "roof"))))) (.ret (.andV (.call 19 (.cons (.var 1) .nil)) (.andV (.call 19 (.cons (.var 2) .nil)) (.call 91 (.cons (.call 34 (.cons (.var 1) .nil)) (.cons (.call 34 (.cons (.var 2) .nil)) .nil)))))) .skip) (.ret (.andV (.cmp .inn (.var 0) (.tup (.cons (.con (.str (Str.ofString "dives"))) (.cons (.con (.str (Str.ofString "climbs"))) .nil)))) (.andV (.call 11 (.cons (.var 1) .nil)) (.andV (.cmp .ge (.idx (.var 1) (.con (.int 0))) (.con (.int 0))) (.call 11 (.cons (.var 2) .nil)))))))
def rs_is_above_zero : RS := (.ret (.andV (.call 11 (.cons (.var 0) .nil)) (.cmp .gt (.idx (.var 0) (.con (.int 0))) (.con (.int 0)))))
def rs_is_ask_of_one : RS := (.seq (.iff (.bl (.cmp .inn (.var 0) (.tup (.cons (.con (.str (Str.ofString "over"))) (.cons (.con (.str (Str.ofString "under"))) .nil))))) (.ret (.call 19 (.cons (.var 1) .nil))) .skip) (.ret (.andV (.cmp .inn (.var 0) (.tup (.cons (.con (.str (Str.ofString "low"))) (.cons (.con (.str (Str.ofString "quick"))) (.cons (.con (.str (Str.ofString "slow"))) .nil))))) (.call 109 (.cons (.var 1) .nil)))))
def rs_is_ask : RS := (.seq (.iff (.or (.not (.val (.isi (.var 0) "tuple"))) (.or (.bl (.cmp .notin (.bi .len (.cons (.var 0) .nil)) (.tup (.cons (.con (.int 2)) (.cons (.con (.int 3)) .nil))))) (.not (.val (.isi (.idx (.var 0) (.con (.int 0))) "str"))))) (.ret (.con (.bool false))) .skip) (.seq (.iff (.bl (.cmp .eq (.bi .len (.cons (.var 0) .nil)) (.con (.int 2)))) (.ret (.call 110 (.cons (.idx (.var 0) (.con (.int 0))) (.cons (.idx (.var 0) (.con (.int 1))) .nil)))) .skip) (.ret (.call 108 (.cons (.idx (.var 0) (.con (.int 0))) (.cons (.idx (.var 0) (.con (.int 1))) (.cons (.idx (.var 0) (.con (.int 2))) .nil)))))))
def rs_Lnear_ask : RS := (.seq (.par [3, 4] (.cons (.call 1 (.cons (.var 0) (.cons (.var 2) .nil))) (.cons (.call 1 (.cons (.var 0) (.cons (.lst (.cons (.con (.int 2)) (.cons (.con (.int 3)) (.cons (.con (.int 9)) .nil)))) .nil))) .nil))) (.seq (.par [5, 6] (.cons (.call 8 (.cons (.var 0) (.cons (.var 4) .nil))) (.cons (.call 1 (.cons (.var 0) (.cons (.lst (.cons (.tup (.cons (.con (.int 0)) (.cons (.con (.int 1)) .nil))) (.cons (.tup (.cons (.con (.int 0)) (.cons (.con (.int 1)) .nil))) (.cons (.tup (.cons (.con (.int 1)) (.cons (.con (.int 7)) .nil))) (.cons (.tup (.cons (.neg (.con (.int 1))) (.cons (.con (.int 7)) .nil))) (.cons (.call 9 (.cons (.var 0) (.cons (.var 4) .nil))) .nil)))))) .nil))) .nil))) (.seq (.iff (.bl (.cmp .inn (.var 3) (.lst (.cons (.con (.str (Str.ofString "over"))) (.cons (.con (.str (Str.ofString "under"))) .nil))))) (.ret (.tup (.cons (.var 3) (.cons (.call 5 (.cons (.var 5) (.cons (.call 17 (.cons (.call 70 (.cons (.var 1) (.cons (.var 5) .nil))) (.cons (.var 6) .nil))) .nil))) .nil)))) .skip) (.seq (.iff (.bl (.cmp .inn (.var 3) (.lst (.cons (.con (.str (Str.ofString "dives"))) (.cons (.con (.str (Str.ofString "climbs"))) .nil))))) (.seq (.asg 7 (.call 1 (.cons (.var 0) (.cons (.lst (.cons (.var 5) (.cons (.tup (.cons (.con (.int 0)) (.cons (.con (.int 1)) .nil))) .nil))) .nil)))) (.ret (.tup (.cons (.var 3) (.cons (.var 7) (.cons (.call 17 (.cons (.call 71 (.cons (.var 1) (.cons (.var 7) .nil))) (.cons (.var 6) .nil))) .nil)))))) .skip) (.seq (.iff (.bl (.cmp .inn (.var 3) (.lst (.cons (.con (.str (Str.ofString "quick"))) (.cons (.con (.str (Str.ofString "slow"))) .nil))))) (.seq (.asg 8 (.call 17 (.cons (.idx (.var 1) (.con (.int 1))) (.cons (.var 6) .nil)))) (.ret (.tup (.cons (.var 3) (.cons (.ite (.bl (.cmp .gt (.idx (.var 8) (.con (.int 0))) (.con (.int 0)))) (.var 8) (.idx (.var 1) (.con (.int 1)))) .nil))))) .skip) (.seq (.iff (.bl (.cmp .eq (.var 3) (.con (.str (Str.ofString "low"))))) (.seq (.asg 9 (.call 17 (.cons (.call 31 (.cons (.call 16 (.cons (.idx (.var 1) (.con (.int 0))) (.cons (.idx (.var 1) (.con (.int 0))) .nil))) (.cons (.call 16 (.cons (.tup (.cons (.con (.int 4)) (.cons (.con (.int 1)) .nil))) (.cons (.idx (.var 1) (.con (.int 1))) .nil))) .nil))) (.cons (.var 6) .nil)))) (.ret (.tup (.cons (.var 3) (.cons (.ite (.bl (.cmp .gt (.idx (.var 9) (.con (.int 0))) (.con (.int 0)))) (.var 9) (.var 5)) .nil))))) .skip) (.seq (.asg 10 (.call 17 (.cons (.var 5) (.cons (.call 8 (.cons (.var 0) (.cons (.var 4) .nil))) .nil)))) (.seq (.asg 11 (.call 1 (.cons (.var 0) (.cons (.lst (.cons (.var 5) (.cons (.var 10) (.cons (.call 16 (.cons (.call 17 (.cons (.var 5) (.cons (.var 10) .nil))) (.cons (.tup (.cons (.con (.int 1)) (.cons (.con (.int 2)) .nil))) .nil))) (.cons (.call 17 (.cons (.var 5) (.cons (.call 16 (.cons (.call 23 (.cons (.var 10) (.cons (.var 5) .nil))) (.cons (.tup (.cons (.con (.int 1)) (.cons (.con (.int 3)) .nil))) .nil))) .nil))) .nil))))) .nil)))) (.seq (.asgT (.many [12, 13]) (.tup (.cons (.call 71 (.cons (.var 1) (.cons (.var 11) .nil))) (.cons (.call 17 (.cons (.call 70 (.cons (.var 1) (.cons (.var 11) .nil))) (.cons (.var 6) .nil))) .nil)))) (.seq (.asg 14 (.lc [15] (.one 15) (.seq (.lst (.cons (.var 5) (.cons (.var 10) .nil)))) .yes (.call 17 (.cons (.var 13) (.cons (.call 16 (.cons (.var 12) (.cons (.call 23 (.cons (.var 15) (.cons (.var 11) .nil))) .nil))) .nil))))) (.ret (.tup (.cons (.var 3) (.cons (.call 5 (.cons (.var 5) (.cons (.idx (.var 14) (.con (.int 0))) .nil))) (.cons (.call 5 (.cons (.var 10) (.cons (.idx (.var 14) (.con (.int 1))) .nil))) .nil)))))))))))))))
def rs_Lasks : RS := (.seq (.own 4 .nil) (.seq (.for (.one 5) (.rng (.call 0 (.cons (.var 0) (.cons (.bin .add (.var 3) (.con (.int 1))) .nil)))) (.seq (.par [6, 7] (.cons (.call 112 (.cons (.var 0) (.cons (.var 1) (.cons (.var 2) .nil)))) (.cons (.call 104 (.cons (.var 0) (.cons (.var 2) (.cons (.call 1 (.cons (.var 0) (.cons (.lst (.cons (.con (.int 1)) (.cons (.con (.int 2)) (.cons (.con (.int 5)) .nil)))) .nil))) .nil)))) .nil))) (.app 4 (.ite (.bl (.cmp .gt (.call 0 (.cons (.var 0) (.cons (.con (.int 4)) .nil))) (.con (.int 0)))) (.var 6) (.var 7))))) (.frz 4 (.ret (.bi .tuple (.cons (.var 4) .nil))))))
def rs_Lworth : RS := (.ret (.call 17 (.cons (.call 17 (.cons (.call 16 (.cons (.idx (.var 0) (.con (.int 0))) (.cons (.idx (.var 1) (.con (.int 0))) .nil))) (.cons (.call 16 (.cons (.idx (.var 0) (.con (.int 1))) (.cons (.idx (.var 1) (.con (.int 1))) .nil))) .nil))) (.cons (.idx (.var 0) (.con (.int 2))) .nil))))
def rs_Llevel : RS := (.seq (.iff (.bl (.cmp .eq (.idx (.var 0) (.con (.int 0))) (.con (.str (Str.ofString "low"))))) (.ret (.idx (.var 0) (.con (.int 1)))) .skip) (.seq (.par [2, 3] (.cons (.call 24 (.cons (.idx (.var 0) (.con (.int 1))) .nil)) (.cons (.call 24 (.cons (.idx (.var 0) (.con (.int 2))) .nil)) .nil))) (.seq (.asg 4 (.call 31 (.cons (.call 23 (.cons (.call 25 (.cons (.idx (.var 0) (.con (.int 2))) .nil)) (.cons (.call 25 (.cons (.idx (.var 0) (.con (.int 1))) .nil)) .nil))) (.cons (.call 23 (.cons (.var 3) (.cons (.var 2) .nil))) .nil)))) (.ret (.call 17 (.cons (.call 25 (.cons (.idx (.var 0) (.con (.int 1))) .nil)) (.cons (.call 16 (.cons (.var 4) (.cons (.call 23 (.cons (.var 1) (.cons (.var 2) .nil))) .nil))) .nil)))))))
def rs_Lrow : RS := (.seq (.asg 2 (.idx (.var 0) (.con (.int 0)))) (.seq (.iff (.bl (.cmp .eq (.var 2) (.con (.str (Str.ofString "quick"))))) (.ret (.tup (.cons (.tup (.cons (.con (.int 0)) (.cons (.con (.int 1)) .nil))) (.cons (.tup (.cons (.neg (.con (.int 1))) (.cons (.con (.int 1)) .nil))) (.cons (.idx (.var 0) (.con (.int 1))) .nil))))) .skip) (.seq (.iff (.bl (.cmp .eq (.var 2) (.con (.str (Str.ofString "slow"))))) (.ret (.tup (.cons (.tup (.cons (.con (.int 0)) (.cons (.con (.int 1)) .nil))) (.cons (.tup (.cons (.con (.int 1)) (.cons (.con (.int 1)) .nil))) (.cons (.call 32 (.cons (.idx (.var 0) (.con (.int 1))) .nil)) .nil))))) .skip) (.seq (.iff (.bl (.cmp .inn (.var 2) (.lst (.cons (.con (.str (Str.ofString "dives"))) (.cons (.con (.str (Str.ofString "climbs"))) .nil))))) (.asg 3 (.lst (.cons (.tup (.cons (.neg (.con (.int 1))) (.cons (.con (.int 1)) .nil))) (.cons (.call 16 (.cons (.tup (.cons (.con (.int 2)) (.cons (.con (.int 1)) .nil))) (.cons (.idx (.var 0) (.con (.int 1))) .nil))) (.cons (.idx (.var 0) (.con (.int 2))) .nil))))) (.seq (.asgT (.many [4, 5]) (.ite (.bl (.cmp .inn (.var 2) (.lst (.cons (.con (.str (Str.ofString "over"))) (.cons (.con (.str (Str.ofString "under"))) .nil))))) (.tup (.cons (.call 24 (.cons (.idx (.var 0) (.con (.int 1))) .nil)) (.cons (.call 25 (.cons (.idx (.var 0) (.con (.int 1))) .nil)) .nil))) (.tup (.cons (.var 1) (.cons (.call 115 (.cons (.var 0) (.cons (.var 1) .nil))) .nil))))) (.asg 3 (.lst (.cons (.call 32 (.cons (.var 4) .nil)) (.cons (.call 16 (.cons (.var 4) (.cons (.var 4) .nil))) (.cons (.var 5) .nil))))))) (.ret (.bi .tuple (.cons (.ite (.bl (.cmp .inn (.var 2) (.lst (.cons (.con (.str (Str.ofString "over"))) (.cons (.con (.str (Str.ofString "climbs"))) .nil))))) (.lc [6] (.one 6) (.seq (.var 3)) .yes (.call 32 (.cons (.var 6) .nil))) (.var 3)) .nil)))))))
def rs_check_ask : RS := (.iff (.not (.val (.call 111 (.cons (.var 0) .nil)))) .fail .skip)
def rs_kind_of : RS := (.seq (.asg 1 (.idx (.var 0) (.con (.int 0)))) (.seq (.iff (.and (.bl (.cmp .inn (.var 1) (.tup (.cons (.con (.str (Str.ofString "dives"))) (.cons (.con (.str (Str.ofString "climbs"))) .nil))))) (.bl (.cmp .eq (.idx (.var 0) (.con (.int 1))) (.con (.tuple [(.int 0), (.int 1)]))))) (.ret (.con (.str (Str.ofString "upright")))) .skip) (.ret (.ite (.bl (.cmp .inn (.var 1) (.tup (.cons (.con (.str (Str.ofString "over"))) (.cons (.con (.str (Str.ofString "climbs"))) (.cons (.con (.str (Str.ofString "quick"))) .nil)))))) (.con (.str (Str.ofString "upper"))) (.con (.str (Str.ofString "lower")))))))
def rs_straight_way : RS := (.seq (.par [2, 3] (.cons (.call 34 (.cons (.var 0) .nil)) (.cons (.call 35 (.cons (.var 0) .nil)) .nil))) (.seq (.asg 4 (.call 82 (.cons (.call 65 (.cons (.call 35 (.cons (.var 1) .nil)) (.cons (.var 3) .nil))) (.cons (.call 65 (.cons (.call 34 (.cons (.var 1) .nil)) (.cons (.var 2) .nil))) .nil)))) (.ret (.tup (.cons (.call 65 (.cons (.var 3) (.cons (.call 51 (.cons (.var 4) (.cons (.var 2) .nil))) .nil))) (.cons (.var 4) .nil))))))
def rs_line_at : RS := (.ret (.tup (.cons (.call 76 (.cons (.call 82 (.cons (.var 1) (.cons (.call 51 (.cons (.var 0) (.cons (.var 0) .nil))) .nil))) .nil)) (.cons (.call 82 (.cons (.con (.tuple [(.int 1), (.int 1)])) (.cons (.var 0) .nil))) (.cons (.con (.tuple [(.int 0), (.int 1)])) .nil)))))
def rs_roof_parts : RS := (.seq (.asgT (.many [2, 3]) (.call 119 (.cons (.var 0) (.cons (.var 1) .nil)))) (.seq (.par [4, 5] (.cons (.call 34 (.cons (.var 0) .nil)) (.cons (.call 34 (.cons (.var 1) .nil)) .nil))) (.seq (.asg 6 (.call 120 (.cons (.var 5) (.cons (.call 35 (.cons (.var 1) .nil)) .nil)))) (.seq (.asg 7 (.call 120 (.cons (.var 4) (.cons (.call 35 (.cons (.var 0) .nil)) .nil)))) (.seq (.iff (.bl (.cmp .le (.idx (.var 2) (.con (.int 0))) (.con (.int 0)))) (.seq (.asg 8 (.call 48 (.cons (.var 3) (.cons (.call 48 (.cons (.call 82 (.cons (.var 2) (.cons (.var 4) .nil))) (.cons (.call 82 (.cons (.var 2) (.cons (.var 5) .nil))) .nil))) .nil)))) (.ret (.tup (.cons (.tup (.cons (.con .none) (.cons (.var 8) (.cons (.var 6) .nil)))) (.cons (.tup (.cons (.var 8) (.cons (.con .none) (.cons (.var 7) .nil)))) .nil))))) .skip) (.seq (.asg 9 (.call 51 (.cons (.tup (.cons (.con (.int 2)) (.cons (.con (.int 1)) .nil))) (.cons (.var 2) .nil)))) (.seq (.par [10, 11] (.cons (.call 48 (.cons (.var 3) (.cons (.call 82 (.cons (.var 9) (.cons (.var 5) .nil))) .nil))) (.cons (.call 48 (.cons (.var 3) (.cons (.call 82 (.cons (.var 9) (.cons (.var 4) .nil))) .nil))) .nil))) (.seq (.asg 12 (.call 82 (.cons (.con (.tuple [(.int 1), (.int 1)])) (.cons (.call 51 (.cons (.tup (.cons (.con (.int 2)) (.cons (.con (.int 1)) .nil))) (.cons (.var 9) .nil))) .nil)))) (.seq (.asg 13 (.tup (.cons (.call 51 (.cons (.var 12) (.cons (.call 51 (.cons (.var 3) (.cons (.var 3) .nil))) .nil))) (.cons (.call 76 (.cons (.call 82 (.cons (.var 3) (.cons (.var 9) .nil))) .nil)) (.cons (.var 12) .nil))))) (.ret (.tup (.cons (.tup (.cons (.con .none) (.cons (.var 10) (.cons (.var 6) .nil)))) (.cons (.tup (.cons (.var 10) (.cons (.var 11) (.cons (.var 13) .nil)))) (.cons (.tup (.cons (.var 11) (.cons (.con .none) (.cons (.var 7) .nil)))) .nil))))))))))))))
def rs_low_parts : RS := (.ret (.tup (.cons (.tup (.cons (.con .none) (.cons (.con (.tuple [(.int 0), (.int 1)])) (.cons (.con (.tuple [(.tuple [(.int 0), (.int 1)]), (.tuple [(.int 0), (.int 1)]), (.tuple [(.int 0), (.int 1)])])) .nil)))) (.cons (.tup (.cons (.con (.tuple [(.int 0), (.int 1)])) (.cons (.con .none) (.cons (.tup (.cons (.con (.tuple [(.int 0), (.int 1)])) (.cons (.con (.tuple [(.int 0), (.int 1)])) (.cons (.call 82 (.cons (.tup (.cons (.con (.int 1)) (.cons (.con (.int 4)) .nil))) (.cons (.var 0) .nil))) .nil)))) .nil)))) .nil))))
def rs_parts_of : RS := (.seq (.asg 1 (.idx (.var 0) (.con (.int 0)))) (.seq (.iff (.bl (.cmp .eq (.var 1) (.con (.str (Str.ofString "roof"))))) (.ret (.call 121 (.cons (.idx (.var 0) (.con (.int 1))) (.cons (.idx (.var 0) (.con (.int 2))) .nil)))) .skip) (.seq (.iff (.bl (.cmp .eq (.var 1) (.con (.str (Str.ofString "low"))))) (.ret (.call 122 (.cons (.idx (.var 0) (.con (.int 1))) .nil))) .skip) (.seq (.iff (.bl (.cmp .inn (.var 1) (.tup (.cons (.con (.str (Str.ofString "over"))) (.cons (.con (.str (Str.ofString "under"))) .nil))))) (.asg 2 (.call 120 (.cons (.call 34 (.cons (.idx (.var 0) (.con (.int 1))) .nil)) (.cons (.call 35 (.cons (.idx (.var 0) (.con (.int 1))) .nil)) .nil)))) (.iff (.bl (.cmp .inn (.var 1) (.tup (.cons (.con (.str (Str.ofString "quick"))) (.cons (.con (.str (Str.ofString "slow"))) .nil))))) (.asg 2 (.tup (.cons (.idx (.var 0) (.con (.int 1))) (.cons (.con (.tuple [(.int 0), (.int 1)])) (.cons (.con (.tuple [(.int 0), (.int 1)])) .nil))))) (.iff (.bl (.cmp .eq (.idx (.var 0) (.con (.int 1))) (.con (.tuple [(.int 0), (.int 1)])))) (.ret (.tup .nil)) (.seq (.asg 3 (.call 82 (.cons (.tup (.cons (.con (.int 1)) (.cons (.con (.int 2)) .nil))) (.cons (.idx (.var 0) (.con (.int 1))) .nil)))) (.asg 2 (.tup (.cons (.call 76 (.cons (.call 51 (.cons (.var 3) (.cons (.idx (.var 0) (.con (.int 2))) .nil))) .nil)) (.cons (.var 3) (.cons (.con (.tuple [(.int 0), (.int 1)])) .nil))))))))) (.ret (.tup (.cons (.tup (.cons (.con .none) (.cons (.con .none) (.cons (.var 2) .nil)))) .nil)))))))
def rs_bound_value : RS := (.seq (.asg 2 (.call 123 (.cons (.var 0) .nil))) (.seq (.asg 3 (.con (.int 0))) (.seq (.whl (.and (.bl (.notN (.idx (.idx (.var 2) (.var 3)) (.con (.int 1))))) (.val (.call 91 (.cons (.idx (.idx (.var 2) (.var 3)) (.con (.int 1))) (.cons (.var 1) .nil))))) (.aug 3 (.con (.int 1)))) (.ret (.call 75 (.cons (.idx (.idx (.var 2) (.var 3)) (.con (.int 2))) (.cons (.var 1) .nil)))))))
def rs_keeps_upright : RS := (.ret (.ite (.bl (.cmp .eq (.idx (.var 0) (.con (.int 0))) (.con (.str (Str.ofString "dives"))))) (.notV (.call 91 (.cons (.idx (.var 0) (.con (.int 2))) (.cons (.var 1) .nil)))) (.notV (.call 91 (.cons (.var 1) (.cons (.idx (.var 0) (.con (.int 2))) .nil))))))
def rs_keeps : RS := (.seq (.asgT (.many [2, 3]) (.var 0)) (.seq (.asg 4 (.call 118 (.cons (.var 1) .nil))) (.seq (.iff (.bl (.cmp .eq (.var 4) (.con (.str (Str.ofString "upright"))))) (.ret (.call 125 (.cons (.var 1) (.cons (.var 2) .nil)))) .skip) (.seq (.asg 5 (.call 124 (.cons (.var 1) (.cons (.var 2) .nil)))) (.ret (.ite (.bl (.cmp .eq (.var 4) (.con (.str (Str.ofString "lower"))))) (.notV (.call 91 (.cons (.var 3) (.cons (.var 5) .nil)))) (.notV (.call 91 (.cons (.var 5) (.cons (.var 3) .nil))))))))))
def rs_does : RS := (.seq (.exp (.call 73 (.cons (.var 0) .nil))) (.seq (.exp (.call 117 (.cons (.var 1) .nil))) (.ret (.call 126 (.cons (.var 0) (.cons (.var 1) .nil))))))
def rs_does_all : RS := (.seq (.exp (.call 73 (.cons (.var 0) .nil))) (.seq (.exp (.call 128 (.cons (.var 1) .nil))) (.ret (.bi .all (.cons (.lc [2] (.one 2) (.seq (.var 1)) .yes (.call 126 (.cons (.var 0) (.cons (.var 2) .nil)))) .nil)))))
def rs_check_head : RS := (.iff (.or (.not (.val (.call 11 (.cons (.var 0) .nil)))) (.bl (.cmp .le (.idx (.var 0) (.con (.int 0))) (.con (.int 0))))) .fail .skip)
def rs_is_good : RS := (.seq (.exp (.call 73 (.cons (.var 0) .nil))) (.seq (.exp (.call 130 (.cons (.var 1) .nil))) (.ret (.andV (.call 129 (.cons (.var 0) (.cons (.var 2) .nil))) (.notV (.call 91 (.cons (.var 1) (.cons (.call 85 (.cons (.var 0) .nil)) .nil))))))))
def rs_Ldoes : RS := (.seq (.asgT (.many [2, 3]) (.var 0)) (.seq (.iff (.bl (.cmp .eq (.idx (.var 1) (.con (.int 0))) (.con (.str (Str.ofString "low"))))) (.ret (.orV (.cmp .le (.idx (.var 2) (.con (.int 0))) (.con (.int 0))) (.notV (.call 59 (.cons (.idx (.var 1) (.con (.int 1))) (.cons (.call 31 (.cons (.call 16 (.cons (.var 2) (.cons (.var 2) .nil))) (.cons (.call 16 (.cons (.tup (.cons (.con (.int 4)) (.cons (.con (.int 1)) .nil))) (.cons (.var 3) .nil))) .nil))) .nil)))))) .skip) (.seq (.iff (.bl (.cmp .ne (.idx (.var 1) (.con (.int 0))) (.con (.str (Str.ofString "roof"))))) (.ret (.cmp .ge (.idx (.call 114 (.cons (.call 116 (.cons (.var 1) (.cons (.tup (.cons (.con (.int 0)) (.cons (.con (.int 1)) .nil))) .nil))) (.cons (.var 0) .nil))) (.con (.int 0))) (.con (.int 0)))) .skip) (.seq (.par [4, 5] (.cons (.call 24 (.cons (.idx (.var 1) (.con (.int 1))) .nil)) (.cons (.call 24 (.cons (.idx (.var 1) (.con (.int 2))) .nil)) .nil))) (.seq (.asg 6 (.call 31 (.cons (.call 23 (.cons (.call 25 (.cons (.idx (.var 1) (.con (.int 2))) .nil)) (.cons (.call 25 (.cons (.idx (.var 1) (.con (.int 1))) .nil)) .nil))) (.cons (.call 23 (.cons (.var 5) (.cons (.var 4) .nil))) .nil)))) (.seq (.asg 7 (.call 31 (.cons (.call 23 (.cons (.var 2) (.cons (.var 6) .nil))) (.cons (.call 16 (.cons (.tup (.cons (.con (.int 2)) (.cons (.con (.int 1)) .nil))) (.cons (.var 3) .nil))) .nil)))) (.seq (.asg 8 (.bin .add (.lst (.cons (.var 4) (.cons (.var 5) .nil))) (.ite (.and (.val (.call 59 (.cons (.var 4) (.cons (.var 7) .nil)))) (.val (.call 59 (.cons (.var 7) (.cons (.var 5) .nil))))) (.lst (.cons (.var 7) .nil)) (.lst .nil)))) (.ret (.cmp .eq (.lc [9] (.one 9) (.seq (.var 8)) (.val (.call 59 (.cons (.call 115 (.cons (.var 1) (.cons (.var 9) .nil))) (.cons (.call 70 (.cons (.var 0) (.cons (.var 9) .nil))) .nil)))) (.var 9)) (.lst .nil))))))))))
def rs_Lmiss : RS := (.seq (.par [2, 3] (.cons (.call 24 (.cons (.idx (.var 1) (.con (.int 1))) .nil)) (.cons (.call 24 (.cons (.idx (.var 1) (.con (.int 2))) .nil)) .nil))) (.seq (.asg 4 (.call 31 (.cons (.call 23 (.cons (.call 115 (.cons (.var 1) (.cons (.var 3) .nil))) (.cons (.call 115 (.cons (.var 1) (.cons (.var 2) .nil))) .nil))) (.cons (.call 23 (.cons (.var 3) (.cons (.var 2) .nil))) .nil)))) (.seq (.asg 5 (.call 31 (.cons (.call 23 (.cons (.idx (.var 0) (.con (.int 0))) (.cons (.var 4) .nil))) (.cons (.call 16 (.cons (.tup (.cons (.con (.int 2)) (.cons (.con (.int 1)) .nil))) (.cons (.idx (.var 0) (.con (.int 1))) .nil))) .nil)))) (.seq (.asg 6 (.call 23 (.cons (.call 70 (.cons (.var 0) (.cons (.var 2) .nil))) (.cons (.call 115 (.cons (.var 1) (.cons (.var 2) .nil))) .nil)))) (.seq (.for (.one 7) (.seq (.ite (.and (.val (.call 59 (.cons (.var 2) (.cons (.var 5) .nil)))) (.val (.call 59 (.cons (.var 5) (.cons (.var 3) .nil))))) (.lst (.cons (.var 3) (.cons (.var 5) .nil))) (.lst (.cons (.var 3) .nil)))) (.seq (.asg 8 (.call 23 (.cons (.call 70 (.cons (.var 0) (.cons (.var 7) .nil))) (.cons (.call 115 (.cons (.var 1) (.cons (.var 7) .nil))) .nil)))) (.asg 6 (.ite (.val (.call 59 (.cons (.var 6) (.cons (.var 8) .nil)))) (.var 8) (.var 6))))) (.ret (.var 6)))))))
def rs_Lway : RS := (.ret (.call 15 (.cons (.var 1) (.cons (.call 115 (.cons (.var 0) (.cons (.var 1) .nil))) .nil))))
def rs_Lbound : RS := (.seq (.par [2, 3] (.cons (.idx (.var 0) (.con (.int 0))) (.cons (.ite (.bl (.cmp .inn (.idx (.var 0) (.con (.int 0))) (.lst (.cons (.con (.str (Str.ofString "under"))) (.cons (.con (.str (Str.ofString "roof"))) (.cons (.con (.str (Str.ofString "low"))) (.cons (.con (.str (Str.ofString "dives"))) (.cons (.con (.str (Str.ofString "slow"))) .nil)))))))) (.con (.str (Str.ofString "least"))) (.con (.str (Str.ofString "most")))) .nil))) (.seq (.iff (.bl (.cmp .inn (.var 2) (.lst (.cons (.con (.str (Str.ofString "quick"))) (.cons (.con (.str (Str.ofString "slow"))) .nil))))) (.ret (.tup (.cons (.var 3) (.cons (.idx (.var 0) (.con (.int 1))) .nil)))) .skip) (.seq (.iff (.bl (.cmp .inn (.var 2) (.lst (.cons (.con (.str (Str.ofString "dives"))) (.cons (.con (.str (Str.ofString "climbs"))) .nil))))) (.seq (.asg 4 (.call 23 (.cons (.var 1) (.cons (.idx (.var 0) (.con (.int 2))) .nil)))) (.seq (.iff (.bl (.cmp .eq (.idx (.idx (.var 0) (.con (.int 1))) (.con (.int 0))) (.con (.int 0)))) (.ret (.tup (.cons (.ite (.or (.bl (.cmp .eq (.idx (.var 4) (.con (.int 0))) (.con (.int 0)))) (.bl (.cmp .eq (.cmp .lt (.idx (.var 4) (.con (.int 0))) (.con (.int 0))) (.cmp .eq (.var 2) (.con (.str (Str.ofString "dives"))))))) (.con (.str (Str.ofString "all"))) (.con (.str (Str.ofString "none")))) (.cons (.con .none) .nil)))) .skip) (.ret (.tup (.cons (.var 3) (.cons (.call 31 (.cons (.var 4) (.cons (.call 16 (.cons (.tup (.cons (.con (.int 2)) (.cons (.con (.int 1)) .nil))) (.cons (.idx (.var 0) (.con (.int 1))) .nil))) .nil))) .nil)))))) .skip) (.seq (.iff (.bl (.cmp .eq (.var 2) (.con (.str (Str.ofString "low"))))) (.ret (.tup (.cons (.var 3) (.cons (.ite (.bl (.cmp .gt (.idx (.var 1) (.con (.int 0))) (.con (.int 0)))) (.call 31 (.cons (.call 16 (.cons (.var 1) (.cons (.var 1) .nil))) (.cons (.call 16 (.cons (.tup (.cons (.con (.int 4)) (.cons (.con (.int 1)) .nil))) (.cons (.idx (.var 0) (.con (.int 1))) .nil))) .nil))) (.tup (.cons (.con (.int 0)) (.cons (.con (.int 1)) .nil)))) .nil)))) .skip) (.seq (.iff (.bl (.cmp .inn (.var 2) (.lst (.cons (.con (.str (Str.ofString "over"))) (.cons (.con (.str (Str.ofString "under"))) .nil))))) (.seq (.asg 5 (.call 24 (.cons (.idx (.var 0) (.con (.int 1))) .nil))) (.ret (.tup (.cons (.var 3) (.cons (.call 31 (.cons (.call 23 (.cons (.call 16 (.cons (.var 1) (.cons (.var 5) .nil))) (.cons (.call 25 (.cons (.idx (.var 0) (.con (.int 1))) .nil)) .nil))) (.cons (.call 16 (.cons (.var 5) (.cons (.var 5) .nil))) .nil))) .nil))))) .skip) (.seq (.par [6, 5] (.cons (.call 24 (.cons (.idx (.var 0) (.con (.int 1))) .nil)) (.cons (.call 24 (.cons (.idx (.var 0) (.con (.int 2))) .nil)) .nil))) (.seq (.asg 7 (.call 31 (.cons (.call 23 (.cons (.call 25 (.cons (.idx (.var 0) (.con (.int 2))) .nil)) (.cons (.call 25 (.cons (.idx (.var 0) (.con (.int 1))) .nil)) .nil))) (.cons (.call 23 (.cons (.var 5) (.cons (.var 6) .nil))) .nil)))) (.seq (.par [8, 9] (.cons (.call 23 (.cons (.call 25 (.cons (.idx (.var 0) (.con (.int 1))) .nil)) (.cons (.call 16 (.cons (.var 7) (.cons (.var 6) .nil))) .nil))) (.cons (.con .none) .nil))) (.seq (.asg 10 (.call 23 (.cons (.var 1) (.cons (.var 7) .nil)))) (.seq (.asg 11 (.lst (.cons (.call 31 (.cons (.tup (.cons (.con (.int 1)) (.cons (.con (.int 1)) .nil))) (.cons (.var 6) .nil))) (.cons (.call 31 (.cons (.tup (.cons (.con (.int 1)) (.cons (.con (.int 1)) .nil))) (.cons (.var 5) .nil))) .nil)))) (.seq (.iff (.bl (.cmp .gt (.idx (.var 8) (.con (.int 0))) (.con (.int 0)))) (.seq (.asg 12 (.call 31 (.cons (.var 10) (.cons (.call 16 (.cons (.tup (.cons (.con (.int 2)) (.cons (.con (.int 1)) .nil))) (.cons (.var 8) .nil))) .nil)))) (.asg 11 (.bin .add (.var 11) (.ite (.and (.val (.call 59 (.cons (.idx (.var 11) (.con (.int 1))) (.cons (.var 12) .nil)))) (.val (.call 59 (.cons (.var 12) (.cons (.idx (.var 11) (.con (.int 0))) .nil))))) (.lst (.cons (.var 12) .nil)) (.lst .nil))))) .skip) (.seq (.for (.one 13) (.seq (.var 11)) (.seq (.asg 14 (.call 23 (.cons (.call 16 (.cons (.var 10) (.cons (.var 13) .nil))) (.cons (.call 16 (.cons (.var 8) (.cons (.call 16 (.cons (.var 13) (.cons (.var 13) .nil))) .nil))) .nil)))) (.asg 9 (.ite (.or (.bl (.isN (.var 9))) (.val (.call 59 (.cons (.var 9) (.cons (.var 14) .nil))))) (.var 14) (.var 9))))) (.ret (.tup (.cons (.var 3) (.cons (.var 9) .nil))))))))))))))))
def rs_bound_at : RS := (.seq (.exp (.call 117 (.cons (.var 0) .nil))) (.seq (.exp (.call 13 (.cons (.var 1) .nil))) (.seq (.asg 2 (.call 118 (.cons (.var 0) .nil))) (.seq (.iff (.bl (.cmp .eq (.var 2) (.con (.str (Str.ofString "upright"))))) (.ret (.ite (.val (.call 125 (.cons (.var 0) (.cons (.var 1) .nil)))) (.tup (.cons (.con (.str (Str.ofString "all"))) (.cons (.con .none) .nil))) (.tup (.cons (.con (.str (Str.ofString "none"))) (.cons (.con .none) .nil))))) .skip) (.ret (.tup (.cons (.ite (.bl (.cmp .eq (.var 2) (.con (.str (Str.ofString "lower"))))) (.con (.str (Str.ofString "least"))) (.con (.str (Str.ofString "most")))) (.cons (.call 124 (.cons (.var 0) (.cons (.var 1) .nil))) .nil))))))))
def rs_Lparts : RS := (.seq (.par [1, 2] (.cons (.idx (.var 0) (.con (.int 0))) (.cons (.tup (.cons (.con (.int 0)) (.cons (.con (.int 1)) .nil))) .nil))) (.seq (.iff (.bl (.cmp .inn (.var 1) (.lst (.cons (.con (.str (Str.ofString "dives"))) (.cons (.con (.str (Str.ofString "climbs"))) .nil))))) (.seq (.iff (.bl (.cmp .eq (.idx (.idx (.var 0) (.con (.int 1))) (.con (.int 0))) (.con (.int 0)))) (.ret (.tup .nil)) .skip) (.seq (.asg 3 (.call 31 (.cons (.tup (.cons (.con (.int 1)) (.cons (.con (.int 2)) .nil))) (.cons (.idx (.var 0) (.con (.int 1))) .nil)))) (.ret (.tup (.cons (.tup (.cons (.con .none) (.cons (.con .none) (.cons (.tup (.cons (.call 32 (.cons (.call 16 (.cons (.idx (.var 0) (.con (.int 2))) (.cons (.var 3) .nil))) .nil)) (.cons (.var 3) (.cons (.var 2) .nil)))) .nil)))) .nil))))) .skip) (.seq (.iff (.bl (.cmp .inn (.var 1) (.lst (.cons (.con (.str (Str.ofString "quick"))) (.cons (.con (.str (Str.ofString "slow"))) .nil))))) (.ret (.tup (.cons (.tup (.cons (.con .none) (.cons (.con .none) (.cons (.tup (.cons (.idx (.var 0) (.con (.int 1))) (.cons (.var 2) (.cons (.var 2) .nil)))) .nil)))) .nil))) .skip) (.seq (.iff (.bl (.cmp .eq (.var 1) (.con (.str (Str.ofString "low"))))) (.ret (.tup (.cons (.tup (.cons (.con .none) (.cons (.var 2) (.cons (.tup (.cons (.var 2) (.cons (.var 2) (.cons (.var 2) .nil)))) .nil)))) (.cons (.tup (.cons (.var 2) (.cons (.con .none) (.cons (.tup (.cons (.var 2) (.cons (.var 2) (.cons (.call 31 (.cons (.tup (.cons (.con (.int 1)) (.cons (.con (.int 4)) .nil))) (.cons (.idx (.var 0) (.con (.int 1))) .nil))) .nil)))) .nil)))) .nil)))) .skip) (.seq (.iff (.bl (.cmp .inn (.var 1) (.lst (.cons (.con (.str (Str.ofString "over"))) (.cons (.con (.str (Str.ofString "under"))) .nil))))) (.seq (.asg 4 (.call 24 (.cons (.idx (.var 0) (.con (.int 1))) .nil))) (.ret (.tup (.cons (.tup (.cons (.con .none) (.cons (.con .none) (.cons (.tup (.cons (.call 32 (.cons (.call 31 (.cons (.call 25 (.cons (.idx (.var 0) (.con (.int 1))) .nil)) (.cons (.call 16 (.cons (.var 4) (.cons (.var 4) .nil))) .nil))) .nil)) (.cons (.call 31 (.cons (.tup (.cons (.con (.int 1)) (.cons (.con (.int 1)) .nil))) (.cons (.var 4) .nil))) (.cons (.var 2) .nil)))) .nil)))) .nil)))) .skip) (.seq (.par [5, 4] (.cons (.call 24 (.cons (.idx (.var 0) (.con (.int 1))) .nil)) (.cons (.call 24 (.cons (.idx (.var 0) (.con (.int 2))) .nil)) .nil))) (.seq (.asg 6 (.call 31 (.cons (.call 23 (.cons (.call 25 (.cons (.idx (.var 0) (.con (.int 2))) .nil)) (.cons (.call 25 (.cons (.idx (.var 0) (.con (.int 1))) .nil)) .nil))) (.cons (.call 23 (.cons (.var 4) (.cons (.var 5) .nil))) .nil)))) (.seq (.asg 7 (.call 23 (.cons (.call 25 (.cons (.idx (.var 0) (.con (.int 1))) .nil)) (.cons (.call 16 (.cons (.var 6) (.cons (.var 5) .nil))) .nil)))) (.seq (.own 8 .nil) (.seq (.for (.one 9) (.seq (.lst (.cons (.var 4) (.cons (.var 5) .nil)))) (.seq (.asg 10 (.call 31 (.cons (.tup (.cons (.con (.int 1)) (.cons (.con (.int 1)) .nil))) (.cons (.var 9) .nil)))) (.app 8 (.tup (.cons (.call 32 (.cons (.call 17 (.cons (.call 16 (.cons (.var 6) (.cons (.var 10) .nil))) (.cons (.call 16 (.cons (.var 7) (.cons (.call 16 (.cons (.var 10) (.cons (.var 10) .nil))) .nil))) .nil))) .nil)) (.cons (.var 10) (.cons (.var 2) .nil))))))) (.seq (.iff (.bl (.cmp .le (.idx (.var 7) (.con (.int 0))) (.con (.int 0)))) (.seq (.frz 8 (.asg 11 (.call 17 (.cons (.var 6) (.cons (.call 16 (.cons (.var 7) (.cons (.call 17 (.cons (.idx (.idx (.var 8) (.con (.int 0))) (.con (.int 1))) (.cons (.idx (.idx (.var 8) (.con (.int 1))) (.con (.int 1))) .nil))) .nil))) .nil))))) (.frz 8 (.ret (.tup (.cons (.tup (.cons (.con .none) (.cons (.var 11) (.cons (.idx (.var 8) (.con (.int 0))) .nil)))) (.cons (.tup (.cons (.var 11) (.cons (.con .none) (.cons (.idx (.var 8) (.con (.int 1))) .nil)))) .nil)))))) .skip) (.seq (.frz 8 (.asgT (.many [12, 13]) (.lc [9] (.one 9) (.seq (.var 8)) .yes (.call 17 (.cons (.var 6) (.cons (.call 16 (.cons (.tup (.cons (.con (.int 2)) (.cons (.con (.int 1)) .nil))) (.cons (.call 16 (.cons (.var 7) (.cons (.idx (.var 9) (.con (.int 1))) .nil))) .nil))) .nil)))))) (.seq (.asg 14 (.call 31 (.cons (.tup (.cons (.con (.int 1)) (.cons (.con (.int 4)) .nil))) (.cons (.var 7) .nil)))) (.seq (.asg 15 (.tup (.cons (.call 16 (.cons (.var 14) (.cons (.call 16 (.cons (.var 6) (.cons (.var 6) .nil))) .nil))) (.cons (.call 32 (.cons (.call 16 (.cons (.tup (.cons (.con (.int 2)) (.cons (.con (.int 1)) .nil))) (.cons (.call 16 (.cons (.var 14) (.cons (.var 6) .nil))) .nil))) .nil)) (.cons (.var 14) .nil))))) (.frz 8 (.ret (.tup (.cons (.tup (.cons (.con .none) (.cons (.var 12) (.cons (.idx (.var 8) (.con (.int 0))) .nil)))) (.cons (.tup (.cons (.var 12) (.cons (.var 13) (.cons (.var 15) .nil)))) (.cons (.tup (.cons (.var 13) (.cons (.con .none) (.cons (.idx (.var 8) (.con (.int 1))) .nil)))) .nil))))))))))))))))))))
def rs_bound_parts : RS := (.seq (.exp (.call 117 (.cons (.var 0) .nil))) (.ret (.call 123 (.cons (.var 0) .nil))))
def rs_Lpart_at : RS := (.ret (.call 17 (.cons (.idx (.var 0) (.con (.int 0))) (.cons (.call 16 (.cons (.var 1) (.cons (.call 17 (.cons (.idx (.var 0) (.con (.int 1))) (.cons (.call 16 (.cons (.var 1) (.cons (.idx (.var 0) (.con (.int 2))) .nil))) .nil))) .nil))) .nil))))
def rs_lower_row : RS := (.seq (.asg 2 (.idx (.var 0) (.con (.int 0)))) (.seq (.iff (.bl (.cmp .inn (.var 2) (.tup (.cons (.con (.str (Str.ofString "dives"))) (.cons (.con (.str (Str.ofString "climbs"))) .nil))))) (.ret (.tup (.cons (.tup (.cons (.neg (.con (.int 1))) (.cons (.con (.int 1)) .nil))) (.cons (.call 51 (.cons (.tup (.cons (.con (.int 2)) (.cons (.con (.int 1)) .nil))) (.cons (.idx (.var 0) (.con (.int 1))) .nil))) (.cons (.idx (.var 0) (.con (.int 2))) .nil))))) .skip) (.seq (.iff (.bl (.cmp .inn (.var 2) (.tup (.cons (.con (.str (Str.ofString "quick"))) (.cons (.con (.str (Str.ofString "slow"))) .nil))))) (.ret (.tup (.cons (.con (.tuple [(.int 0), (.int 1)])) (.cons (.con (.tuple [(.int 1), (.int 1)])) (.cons (.call 76 (.cons (.idx (.var 0) (.con (.int 1))) .nil)) .nil))))) .skip) (.seq (.iff (.bl (.cmp .eq (.var 2) (.con (.str (Str.ofString "roof"))))) (.seq (.asgT (.many [3, 4]) (.call 119 (.cons (.idx (.var 0) (.con (.int 1))) (.cons (.idx (.var 0) (.con (.int 2))) .nil)))) (.asg 5 (.call 48 (.cons (.var 3) (.cons (.call 51 (.cons (.var 4) (.cons (.var 1) .nil))) .nil))))) (.iff (.bl (.cmp .eq (.var 2) (.con (.str (Str.ofString "low"))))) (.asg 5 (.idx (.var 0) (.con (.int 1)))) (.par [1, 5] (.cons (.call 34 (.cons (.idx (.var 0) (.con (.int 1))) .nil)) (.cons (.call 35 (.cons (.idx (.var 0) (.con (.int 1))) .nil)) .nil))))) (.ret (.tup (.cons (.call 76 (.cons (.var 1) .nil)) (.cons (.call 51 (.cons (.var 1) (.cons (.var 1) .nil))) (.cons (.var 5) .nil)))))))))
def rs_row_at : RS := (.seq (.asg 2 (.call 140 (.cons (.var 0) (.cons (.var 1) .nil)))) (.seq (.iff (.bl (.cmp .inn (.idx (.var 0) (.con (.int 0))) (.tup (.cons (.con (.str (Str.ofString "over"))) (.cons (.con (.str (Str.ofString "climbs"))) (.cons (.con (.str (Str.ofString "quick"))) .nil)))))) (.ret (.tup (.cons (.call 76 (.cons (.idx (.var 2) (.con (.int 0))) .nil)) (.cons (.call 76 (.cons (.idx (.var 2) (.con (.int 1))) .nil)) (.cons (.call 76 (.cons (.idx (.var 2) (.con (.int 2))) .nil)) .nil))))) .skip) (.ret (.var 2))))
def rs_is_row_distance : RS := (.seq (.iff (.not (.val (.call 11 (.cons (.var 1) .nil)))) (.ret (.con (.bool false))) .skip) (.seq (.iff (.bl (.cmp .eq (.idx (.var 0) (.con (.int 0))) (.con (.str (Str.ofString "roof"))))) (.ret (.andV (.notV (.call 91 (.cons (.var 1) (.cons (.call 34 (.cons (.idx (.var 0) (.con (.int 1))) .nil)) .nil)))) (.notV (.call 91 (.cons (.call 34 (.cons (.idx (.var 0) (.con (.int 2))) .nil)) (.cons (.var 1) .nil)))))) .skip) (.seq (.iff (.bl (.cmp .eq (.idx (.var 0) (.con (.int 0))) (.con (.str (Str.ofString "low"))))) (.ret (.cmp .gt (.idx (.var 1) (.con (.int 0))) (.con (.int 0)))) .skip) (.ret (.cmp .eq (.var 1) (.con (.tuple [(.int 0), (.int 1)])))))))
def rs_row_of : RS := (.seq (.exp (.call 117 (.cons (.var 0) .nil))) (.seq (.iff (.not (.val (.call 142 (.cons (.var 0) (.cons (.var 1) .nil))))) .fail .skip) (.ret (.call 141 (.cons (.var 0) (.cons (.var 1) .nil))))))
def rs_Lbetween : RS := (.ret (.call 17 (.cons (.var 0) (.cons (.call 16 (.cons (.var 2) (.cons (.call 23 (.cons (.var 1) (.cons (.var 0) .nil))) .nil))) .nil))))
def rs_Lbig : RS := (.seq (.asg 2 (.idx (.var 0) (.con (.int 0)))) (.seq (.iff (.bl (.cmp .inn (.var 2) (.lst (.cons (.con (.str (Str.ofString "dives"))) (.cons (.con (.str (Str.ofString "climbs"))) .nil))))) (.ret (.tup (.cons (.var 2) (.cons (.call 16 (.cons (.idx (.var 0) (.con (.int 1))) (.cons (.var 1) .nil))) (.cons (.idx (.var 0) (.con (.int 2))) .nil))))) .skip) (.seq (.iff (.bl (.cmp .inn (.var 2) (.lst (.cons (.con (.str (Str.ofString "quick"))) (.cons (.con (.str (Str.ofString "slow"))) .nil))))) (.ret (.tup (.cons (.var 2) (.cons (.call 31 (.cons (.idx (.var 0) (.con (.int 1))) (.cons (.var 1) .nil))) .nil)))) .skip) (.seq (.iff (.bl (.cmp .eq (.var 2) (.con (.str (Str.ofString "low"))))) (.ret (.tup (.cons (.var 2) (.cons (.call 16 (.cons (.idx (.var 0) (.con (.int 1))) (.cons (.var 1) .nil))) .nil)))) .skip) (.ret (.bin .add (.tup (.cons (.var 2) .nil)) (.bi .tuple (.cons (.lc [3] (.one 3) (.seq (.slc (.var 0) (.some (.con (.int 1))) .none)) .yes (.call 5 (.cons (.call 16 (.cons (.call 24 (.cons (.var 3) .nil)) (.cons (.var 1) .nil))) (.cons (.call 16 (.cons (.call 25 (.cons (.var 3) .nil)) (.cons (.var 1) .nil))) .nil)))) .nil))))))))
def rs_grown_ask : RS := (.seq (.exp (.call 117 (.cons (.var 0) .nil))) (.seq (.exp (.call 99 (.cons (.var 1) .nil))) (.seq (.asg 2 (.idx (.var 0) (.con (.int 0)))) (.seq (.iff (.bl (.cmp .inn (.var 2) (.tup (.cons (.con (.str (Str.ofString "over"))) (.cons (.con (.str (Str.ofString "under"))) (.cons (.con (.str (Str.ofString "roof"))) .nil)))))) (.ret (.bin .add (.tup (.cons (.var 2) .nil)) (.bi .tuple (.cons (.lc [3] (.one 3) (.seq (.slc (.var 0) (.some (.con (.int 1))) .none)) .yes (.call 21 (.cons (.var 3) (.cons (.var 1) .nil)))) .nil)))) .skip) (.seq (.iff (.bl (.cmp .inn (.var 2) (.tup (.cons (.con (.str (Str.ofString "dives"))) (.cons (.con (.str (Str.ofString "climbs"))) .nil))))) (.ret (.tup (.cons (.var 2) (.cons (.call 51 (.cons (.idx (.var 0) (.con (.int 1))) (.cons (.var 1) .nil))) (.cons (.idx (.var 0) (.con (.int 2))) .nil))))) .skip) (.ret (.tup (.cons (.var 2) (.cons (.ite (.bl (.cmp .eq (.var 2) (.con (.str (Str.ofString "low"))))) (.call 51 (.cons (.idx (.var 0) (.con (.int 1))) (.cons (.var 1) .nil))) (.call 82 (.cons (.idx (.var 0) (.con (.int 1))) (.cons (.var 1) .nil)))) .nil)))))))))
def rs_Lbent : RS := (.seq (.asg 2 (.idx (.var 0) (.con (.int 0)))) (.seq (.iff (.bl (.cmp .inn (.var 2) (.lst (.cons (.con (.str (Str.ofString "dives"))) (.cons (.con (.str (Str.ofString "climbs"))) .nil))))) (.ret (.tup (.cons (.var 2) (.cons (.idx (.var 0) (.con (.int 1))) (.cons (.call 17 (.cons (.idx (.var 0) (.con (.int 2))) (.cons (.var 1) .nil))) .nil))))) .skip) (.seq (.iff (.bl (.cmp .inn (.var 2) (.lst (.cons (.con (.str (Str.ofString "quick"))) (.cons (.con (.str (Str.ofString "slow"))) .nil))))) (.ret (.var 0)) .skip) (.ret (.bin .add (.tup (.cons (.var 2) .nil)) (.bi .tuple (.cons (.lc [3] (.one 3) (.seq (.slc (.var 0) (.some (.con (.int 1))) .none)) .yes (.call 22 (.cons (.var 3) (.cons (.var 1) .nil)))) .nil)))))))
def rs_sheared_ask : RS := (.seq (.exp (.call 117 (.cons (.var 0) .nil))) (.seq (.exp (.call 13 (.cons (.var 1) .nil))) (.seq (.asg 2 (.idx (.var 0) (.con (.int 0)))) (.seq (.iff (.bl (.cmp .eq (.var 2) (.con (.str (Str.ofString "low"))))) .fail .skip) (.seq (.iff (.bl (.cmp .inn (.var 2) (.tup (.cons (.con (.str (Str.ofString "over"))) (.cons (.con (.str (Str.ofString "under"))) (.cons (.con (.str (Str.ofString "roof"))) .nil)))))) (.ret (.bin .add (.tup (.cons (.var 2) .nil)) (.bi .tuple (.cons (.lc [3] (.one 3) (.seq (.slc (.var 0) (.some (.con (.int 1))) .none)) .yes (.call 22 (.cons (.var 3) (.cons (.var 1) .nil)))) .nil)))) .skip) (.seq (.iff (.bl (.cmp .inn (.var 2) (.tup (.cons (.con (.str (Str.ofString "dives"))) (.cons (.con (.str (Str.ofString "climbs"))) .nil))))) (.ret (.tup (.cons (.var 2) (.cons (.idx (.var 0) (.con (.int 1))) (.cons (.call 48 (.cons (.idx (.var 0) (.con (.int 2))) (.cons (.var 1) .nil))) .nil))))) .skip) (.ret (.var 0))))))))
def rs_Lsome_square : RS := (.seq (.asg 1 (.call 0 (.cons (.var 0) (.cons (.con (.int 6)) .nil)))) (.seq (.iff (.bl (.cmp .eq (.var 1) (.con (.int 0)))) (.seq (.asg 2 (.call 9 (.cons (.var 0) (.cons (.con (.int 9)) .nil)))) (.ret (.call 16 (.cons (.var 2) (.cons (.var 2) .nil))))) .skip) (.seq (.iff (.bl (.cmp .lt (.var 1) (.con (.int 4)))) (.ret (.tup (.cons (.call 0 (.cons (.var 0) (.cons (.con (.int 13)) .nil))) (.cons (.con (.int 1)) .nil)))) .skip) (.ret (.call 6 (.cons (.call 0 (.cons (.var 0) (.cons (.call 1 (.cons (.var 0) (.cons (.lst (.cons (.con (.int 9)) (.cons (.con (.int 99)) (.cons (.bin .pow (.con (.int 10)) (.con (.int 6))) .nil)))) .nil))) .nil))) (.cons (.bin .add (.con (.int 1)) (.call 0 (.cons (.var 0) (.cons (.con (.int 9)) .nil)))) .nil)))))))
def rs_Lsome_surd : RS := (.seq (.asg 1 (.call 2 (.cons (.var 0) .nil))) (.seq (.asg 2 (.call 1 (.cons (.var 0) (.cons (.lst (.cons (.tup (.cons (.con (.int 1)) (.cons (.con (.int 1)) .nil))) (.cons (.tup (.cons (.neg (.con (.int 1))) (.cons (.con (.int 1)) .nil))) (.cons (.call 9 (.cons (.var 0) (.cons (.con (.int 5)) .nil))) (.cons (.tup (.cons (.con (.int 0)) (.cons (.con (.int 1)) .nil))) .nil))))) .nil)))) (.ret (.call 42 (.cons (.call 9 (.cons (.var 0) (.cons (.var 1) .nil))) (.cons (.var 2) (.cons (.call 43 (.cons (.var 0) .nil)) .nil)))))))
def rs_Lbeside : RS := (.seq (.asg 2 (.call 39 (.cons (.bin .add (.bin .mul (.bin .pow (.con (.int 10)) (.con (.int 12))) (.bi .abs (.cons (.bin .mul (.idx (.idx (.var 1) (.con (.int 2))) (.con (.int 0))) (.idx (.idx (.var 1) (.con (.int 2))) (.con (.int 1)))) .nil))) (.con (.int 1))) .nil))) (.seq (.asg 3 (.call 6 (.cons (.var 2) (.cons (.bin .mul (.bin .pow (.con (.int 10)) (.con (.int 6))) (.idx (.idx (.var 1) (.con (.int 2))) (.con (.int 1)))) .nil)))) (.seq (.asg 4 (.call 0 (.cons (.var 0) (.cons (.con (.int 3)) .nil)))) (.seq (.iff (.bl (.cmp .eq (.var 4) (.con (.int 0)))) (.ret (.tup (.cons (.call 17 (.cons (.idx (.var 1) (.con (.int 0))) (.cons (.ite (.bl (.cmp .gt (.idx (.var 1) (.con (.int 1))) (.con (.int 0)))) (.var 3) (.call 32 (.cons (.var 3) .nil))) .nil))) (.cons (.con (.int 0)) (.cons (.tup (.cons (.con (.int 0)) (.cons (.con (.int 1)) .nil))) .nil))))) .skip) (.seq (.iff (.bl (.cmp .eq (.var 4) (.con (.int 1)))) (.ret (.call 52 (.cons (.call 17 (.cons (.idx (.var 1) (.con (.int 0))) (.cons (.call 32 (.cons (.var 3) .nil)) .nil))) (.cons (.tup (.cons (.con (.int 1)) (.cons (.con (.int 1)) .nil))) (.cons (.call 17 (.cons (.idx (.var 1) (.con (.int 2))) (.cons (.call 16 (.cons (.tup (.cons (.con (.int 1)) (.cons (.con (.int 3)) .nil))) (.cons (.var 3) .nil))) .nil))) .nil))))) .skip) (.ret (.tup (.cons (.call 17 (.cons (.idx (.var 1) (.con (.int 0))) (.cons (.call 6 (.cons (.call 7 (.cons (.var 0) (.cons (.con (.int 1)) .nil))) (.cons (.bin .pow (.con (.int 10)) (.con (.int 9))) .nil))) .nil))) (.cons (.idx (.var 1) (.con (.int 1))) (.cons (.idx (.var 1) (.con (.int 2))) .nil))))))))))
def rs_Lcompared : RS := (.seq (.par [2, 3, 4] (.cons (.call 23 (.cons (.idx (.var 0) (.con (.int 0))) (.cons (.idx (.var 1) (.con (.int 0))) .nil))) (.cons (.idx (.var 0) (.con (.int 1))) (.cons (.bin .sub (.con (.int 0)) (.idx (.var 1) (.con (.int 1)))) .nil)))) (.seq (.par [5, 6] (.cons (.idx (.var 0) (.con (.int 2))) (.cons (.idx (.var 1) (.con (.int 2))) .nil))) (.seq (.iff (.or (.bl (.cmp .eq (.var 3) (.con (.int 0)))) (.bl (.cmp .eq (.var 4) (.con (.int 0))))) (.ret (.call 58 (.cons (.var 2) (.cons (.tup (.cons (.bin .add (.var 3) (.var 4)) (.cons (.con (.int 1)) .nil))) (.cons (.ite (.bl (.cmp .ne (.var 3) (.con (.int 0)))) (.var 5) (.var 6)) .nil))))) .skip) (.seq (.iff (.bl (.cmp .eq (.var 5) (.var 6))) (.ret (.call 58 (.cons (.var 2) (.cons (.tup (.cons (.bin .add (.var 3) (.var 4)) (.cons (.con (.int 1)) .nil))) (.cons (.var 5) .nil))))) .skip) (.seq (.asg 7 (.ite (.bl (.cmp .eq (.var 3) (.var 4))) (.var 3) (.ite (.val (.call 59 (.cons (.var 6) (.cons (.var 5) .nil)))) (.var 3) (.var 4)))) (.seq (.iff (.or (.bl (.cmp .eq (.idx (.var 2) (.con (.int 0))) (.con (.int 0)))) (.bl (.cmp .eq (.call 41 (.cons (.idx (.var 2) (.con (.int 0))) .nil)) (.var 7)))) (.ret (.var 7)) .skip) (.seq (.asg 8 (.call 23 (.cons (.call 17 (.cons (.var 5) (.cons (.var 6) .nil))) (.cons (.call 16 (.cons (.var 2) (.cons (.var 2) .nil))) .nil)))) (.ret (.bin .mul (.var 7) (.call 58 (.cons (.var 8) (.cons (.tup (.cons (.bin .mul (.bin .mul (.con (.int 2)) (.var 3)) (.var 4)) (.cons (.con (.int 1)) .nil))) (.cons (.call 16 (.cons (.var 5) (.cons (.var 6) .nil))) .nil)))))))))))))
def rs_Lall_said : RS := (.ret (.lc [1] (.one 1) (.seq (.var 0)) .yes (.call 208 (.cons (.var 1) .nil))))
def rs_Lodd_surds : RS := (.seq (.asgT (.many [0, 1, 2]) (.tup (.cons (.tup (.cons (.con (.int 1)) (.cons (.con (.int 2)) .nil))) (.cons (.tup (.cons (.con (.int 2)) (.cons (.con (.int 1)) .nil))) (.cons (.tup (.cons (.con (.int 0)) (.cons (.con (.int 1)) .nil))) .nil))))) (.seq (.asg 3 (.lst (.cons (.con .none) (.cons (.con (.int 5)) (.cons (.con (.str (Str.ofString "abc"))) (.cons (.tup .nil) (.cons (.var 0) (.cons (.tup (.cons (.var 0) (.cons (.con (.int 0)) .nil))) (.cons (.tup (.cons (.var 0) (.cons (.con (.int 0)) (.cons (.var 2) (.cons (.var 2) .nil))))) (.cons (.lst (.cons (.var 0) (.cons (.con (.int 0)) (.cons (.var 2) .nil)))) (.cons (.tup (.cons (.var 0) (.cons (.con (.int 0)) (.cons (.var 1) .nil)))) (.cons (.tup (.cons (.var 0) (.cons (.con (.int 1)) (.cons (.var 2) .nil)))) (.cons (.tup (.cons (.var 0) (.cons (.con (.int 1)) (.cons (.tup (.cons (.con (.int 4)) (.cons (.con (.int 1)) .nil))) .nil)))) .nil))))))))))))) (.seq (.asg 3 (.bin .add (.var 3) (.lst (.cons (.tup (.cons (.var 0) (.cons (.neg (.con (.int 1))) (.cons (.tup (.cons (.con (.int 9)) (.cons (.con (.int 4)) .nil))) .nil)))) (.cons (.tup (.cons (.var 0) (.cons (.con (.int 1)) (.cons (.tup (.cons (.neg (.con (.int 2))) (.cons (.con (.int 1)) .nil))) .nil)))) (.cons (.tup (.cons (.var 0) (.cons (.con (.int 2)) (.cons (.var 1) .nil)))) (.cons (.tup (.cons (.var 0) (.cons (.con (.bool true)) (.cons (.var 1) .nil)))) (.cons (.tup (.cons (.var 0) (.cons (.con (.bool false)) (.cons (.var 2) .nil)))) (.cons (.tup (.cons (.var 0) (.cons (.con .none) (.cons (.var 2) .nil)))) .nil))))))))) (.ret (.bin .add (.var 3) (.lst (.cons (.tup (.cons (.tup (.cons (.con (.int 2)) (.cons (.con (.int 4)) .nil))) (.cons (.con (.int 0)) (.cons (.var 2) .nil)))) (.cons (.tup (.cons (.var 0) (.cons (.con (.int 1)) (.cons (.tup (.cons (.con (.int 4)) (.cons (.con (.int 2)) .nil))) .nil)))) (.cons (.tup (.cons (.con (.int 1)) (.cons (.con (.int 0)) (.cons (.var 2) .nil)))) (.cons (.tup (.cons (.var 0) (.cons (.con (.int 0)) (.cons (.con (.int 0)) .nil)))) (.cons (.tup (.cons (.var 0) (.cons (.con (.int 0)) (.cons (.tup (.cons (.con (.int 0)) (.cons (.con (.int 2)) .nil))) .nil)))) (.cons (.tup (.cons (.tup (.cons (.con (.int 1)) (.cons (.con (.int 0)) .nil))) (.cons (.con (.int 1)) (.cons (.var 1) .nil)))) (.cons .dic (.cons (.tup (.cons (.var 0) (.cons (.tup (.cons (.con (.int 1)) (.cons (.con (.int 1)) .nil))) (.cons (.var 1) .nil)))) .nil))))))))))))))
def rs_Lodd_numbers : RS := (.ret (.lst (.cons (.con .none) (.cons (.con (.int 0)) (.cons (.neg (.con (.int 1))) (.cons (.con (.bool true)) (.cons (.con (.str (Str.ofString "7"))) (.cons (.tup (.cons (.con (.int 1)) .nil)) (.cons (.bin .add (.bin .pow (.con (.int 10)) (.con (.int 12))) (.con (.int 1))) (.cons (.bin .pow (.con (.int 10)) (.con (.int 40))) (.cons (.lst .nil) (.cons .dic (.cons (.con (.bool false)) .nil)))))))))))))
def rs_check_many : RS := (.iff (.or (.not (.val (.call 10 (.cons (.var 0) .nil)))) (.or (.bl (.cmp .lt (.var 0) (.con (.int 1)))) (.bl (.cmp .gt (.var 0) (.bin .pow (.con (.int 10)) (.con (.int 12))))))) .fail .skip)
def rs_near : RS := (.seq (.exp (.call 47 (.cons (.var 0) .nil))) (.seq (.exp (.call 62 (.cons (.var 1) .nil))) (.seq (.asgT (.many [2, 3, 4]) (.var 0)) (.seq (.iff (.bl (.cmp .eq (.var 3) (.con (.int 0)))) (.ret (.tup (.cons (.bin .div (.bin .mul (.var 1) (.idx (.var 2) (.con (.int 0)))) (.idx (.var 2) (.con (.int 1)))) (.cons (.cmp .eq (.bin .mod (.var 1) (.idx (.var 2) (.con (.int 1)))) (.con (.int 0))) .nil)))) .skip) (.seq (.asg 5 (.bin .mul (.bin .mul (.var 1) (.idx (.var 2) (.con (.int 0)))) (.idx (.var 4) (.con (.int 1))))) (.seq (.asg 6 (.bin .mul (.bin .mul (.bin .mul (.bin .mul (.bin .mul (.var 1) (.var 1)) (.idx (.var 2) (.con (.int 1)))) (.idx (.var 2) (.con (.int 1)))) (.idx (.var 4) (.con (.int 0)))) (.idx (.var 4) (.con (.int 1))))) (.seq (.asg 7 (.bin .mul (.idx (.var 2) (.con (.int 1))) (.idx (.var 4) (.con (.int 1))))) (.seq (.asg 8 (.ite (.bl (.cmp .eq (.var 3) (.con (.int 1)))) (.bi .isqrt (.cons (.var 6) .nil)) (.bin .sub (.neg (.bi .isqrt (.cons (.var 6) .nil))) (.con (.int 1))))) (.ret (.tup (.cons (.bin .div (.bin .add (.var 5) (.var 8)) (.var 7)) (.cons (.con (.bool false)) .nil))))))))))))
def rs_check_point : RS := (.iff (.not (.val (.call 18 (.cons (.var 0) .nil)))) .fail .skip)
def rs_seen_from : RS := (.seq (.exp (.call 26 (.cons (.var 0) .nil))) (.seq (.iff (.or (.not (.val (.call 10 (.cons (.var 1) .nil)))) (.and (.bl (.cmp .ne (.var 1) (.con (.int 1)))) (.bl (.cmp .ne (.var 1) (.neg (.con (.int 1))))))) .fail .skip) (.seq (.exp (.call 26 (.cons (.var 2) .nil))) (.seq (.asgT (.many [3, 4, 5]) (.var 0)) (.seq (.asg 6 (.bin .mul (.var 1) (.bin .sub (.bin .mul (.idx (.var 2) (.con (.int 0))) (.var 5)) (.bin .mul (.var 3) (.idx (.var 2) (.con (.int 2))))))) (.seq (.iff (.bl (.cmp .le (.var 6) (.con (.int 0)))) (.ret (.con .none)) .skip) (.ret (.call 14 (.cons (.var 6) (.cons (.bin .sub (.bin .mul (.idx (.var 2) (.con (.int 1))) (.var 5)) (.bin .mul (.var 4) (.idx (.var 2) (.con (.int 2))))) (.cons (.bin .mul (.var 5) (.idx (.var 2) (.con (.int 2)))) .nil)))))))))))
def rs_Lodd_jets : RS := (.seq (.asgT (.many [0, 1]) (.tup (.cons (.tup (.cons (.con (.int 1)) (.cons (.con (.int 2)) .nil))) (.cons (.tup (.cons (.con (.int 0)) (.cons (.con (.int 1)) .nil))) .nil)))) (.seq (.asg 2 (.lst (.cons (.con .none) (.cons (.con (.int 3)) (.cons (.con (.str (Str.ofString "ab"))) (.cons (.tup .nil) (.cons (.var 0) (.cons (.tup (.cons (.var 0) .nil)) (.cons (.lst (.cons (.var 0) (.cons (.var 0) .nil))) (.cons (.tup (.cons (.var 0) (.cons (.var 0) (.cons (.var 0) .nil)))) (.cons (.tup (.cons (.var 0) (.cons (.var 1) .nil))) (.cons (.tup (.cons (.var 0) (.cons (.tup (.cons (.neg (.con (.int 1))) (.cons (.con (.int 2)) .nil))) .nil))) (.cons (.tup (.cons (.tup (.cons (.con (.int 2)) (.cons (.con (.int 4)) .nil))) (.cons (.var 0) .nil))) .nil))))))))))))) (.ret (.bin .add (.var 2) (.lst (.cons (.tup (.cons (.var 0) (.cons (.tup (.cons (.con (.int 2)) (.cons (.con (.int 4)) .nil))) .nil))) (.cons (.tup (.cons (.con .none) (.cons (.var 0) .nil))) (.cons (.tup (.cons (.var 0) (.cons (.con .none) .nil))) (.cons (.tup (.cons (.con (.int 1)) (.cons (.con (.int 2)) .nil))) (.cons .dic (.cons (.tup (.cons (.var 0) (.cons (.con (.int 1)) .nil))) (.cons (.tup (.cons (.tup (.cons (.con (.int 1)) (.cons (.con (.int 0)) .nil))) (.cons (.var 0) .nil))) (.cons (.tup (.cons (.var 0) (.cons (.tup (.cons (.con (.int 1)) (.cons (.con (.int 2)) (.cons (.con (.int 3)) .nil)))) .nil))) .nil)))))))))))))
def rs_Lright : RS := (.seq (.par [1, 2] (.cons (.call 103 .nil) (.cons (.call 6 (.cons (.con (.int 1)) (.cons (.bin .add (.con (.int 1)) (.call 0 (.cons (.var 0) (.cons (.con (.int 99)) .nil)))) .nil))) .nil))) (.seq (.for (.one 3) (.seq (.var 1)) (.seq (.asg 4 (.call 2 (.cons (.var 0) .nil))) (.seq (.par [5, 6] (.cons (.call 104 (.cons (.var 0) (.cons (.lst (.cons (.var 3) .nil)) (.cons (.var 4) .nil)))) (.cons (.call 9 (.cons (.var 0) (.cons (.var 4) .nil))) .nil))) (.seq (.iff (.and (.bl (.cmp .inn (.var 3) (.lst (.cons (.con (.str (Str.ofString "dives"))) (.cons (.con (.str (Str.ofString "climbs"))) .nil))))) (.bl (.cmp .eq (.call 0 (.cons (.var 0) (.cons (.con (.int 3)) .nil))) (.con (.int 0))))) (.asg 6 (.idx (.var 5) (.con (.int 2)))) .skip) (.seq (.asg 7 (.call 135 (.cons (.var 5) (.cons (.var 6) .nil)))) (.seq (.iff (.bl (.cmp .ne (.bi .repr (.cons (.lst (.cons (.call 136 (.cons (.var 5) (.cons (.var 6) .nil))) (.cons (.callK 136 0 2 [1, 0] .nil (.cons (.var 6) (.cons (.var 5) .nil))) .nil))) .nil)) (.bi .repr (.cons (.lst (.cons (.var 7) (.cons (.var 7) .nil))) .nil)))) (.ret (.con (.bool false))) .skip) (.iff (.bl (.isN (.idx (.var 7) (.con (.int 1))))) (.iff (.bl (.cmp .ne (.call 127 (.cons (.tup (.cons (.var 6) (.cons (.var 2) .nil))) (.cons (.var 5) .nil))) (.cmp .eq (.idx (.var 7) (.con (.int 0))) (.con (.str (Str.ofString "all")))))) (.ret (.con (.bool false))) .skip) (.for (.many [8, 9]) (.seq (.lst (.cons (.tup (.cons (.idx (.var 7) (.con (.int 1))) (.cons (.con (.bool true)) .nil))) (.cons (.tup (.cons (.call 17 (.cons (.idx (.var 7) (.con (.int 1))) (.cons (.var 2) .nil))) (.cons (.cmp .eq (.idx (.var 7) (.con (.int 0))) (.con (.str (Str.ofString "least")))) .nil))) (.cons (.tup (.cons (.call 23 (.cons (.idx (.var 7) (.con (.int 1))) (.cons (.var 2) .nil))) (.cons (.cmp .eq (.idx (.var 7) (.con (.int 0))) (.con (.str (Str.ofString "most")))) .nil))) .nil))))) (.iff (.and (.bl (.cmp .gt (.idx (.var 8) (.con (.int 0))) (.con (.int 0)))) (.bl (.cmp .ne (.bi .repr (.cons (.call 127 (.cons (.tup (.cons (.var 6) (.cons (.var 8) .nil))) (.cons (.var 5) .nil))) .nil)) (.bi .repr (.cons (.var 9) .nil))))) (.ret (.con (.bool false))) .skip))))))))) (.ret (.con (.bool true)))))
/-! ### what the helpers promise -/
def sp_Ldraw : PSp := fun ds Q => ∃ m, ds = [.vat, I m] ∧ 0 < m ∧ m < 1073741824 ∧ ∀ r, 0 ≤ r → r < m → Q (I r)
def sp_Lpick : PSp := fun ds Q => ∃ xs, ds = [.vat, .d (.list xs)] ∧ xs ≠ [] ∧ xs.length < 1000 ∧ ∀ x ∈ xs, Q (.d x)
def sp_Lsize : PSp := fun ds Q => ds = [.vat] ∧ ∀ z, 1 ≤ z → z ≤ 1000000000 → Q (I z)
def sp_Lgcd : PSp := fun ds Q => ∃ a b, ds = [I a, I b] ∧ Q (I (g2 a b))
def sp_Llow : PSp := fun ds Q => (∃ a b, ds = [T2 a b] ∧ b ≠ 0 ∧ Sz 8000 b ∧ Q (T2 (rd a b).1 (rd a b).2)) ∨ (∃ a b c, ds = [T3 a b c] ∧ c ≠ 0 ∧ Sz 8000 c ∧ Q (T3 (rt a b c).1 (rt a b c).2.1 (rt a b c).2.2))
def sp_Lfrac : PSp := fun ds Q => ∃ a b, ds = [I a, I b] ∧ b ≠ 0 ∧ Sz 8000 b ∧ Q (.d (F ((a : Rat) / (b : Rat))))
def sp_Labout : PSp := fun ds Q => ∃ w, ds = [.vat, I w] ∧ 0 ≤ w ∧ w ≤ 1000000000 ∧ ∀ z, -w ≤ z → z ≤ w → Q (I z)
def sp_Labove : PSp := fun ds Q => ∃ w, ds = [.vat, I w] ∧ 0 ≤ w ∧ w ≤ 1000000000 ∧ ∀ q : Rat, 0 < q → Zf 31 q → Q (.d (F q))
def sp_Lsome_frac : PSp := fun ds Q => ∃ w, ds = [.vat, I w] ∧ 1 ≤ w ∧ w ≤ 1000000000 ∧ ∀ q : Rat, Zf 31 q → Q (.d (F q))
def sp_Lmul : PSp := fun ds Q => ∃ x y, ds = [.d (F x), .d (F y)] ∧ Zf 3000 x ∧ Zf 3000 y ∧ Q (.d (F (x * y)))
def sp_Ladd : PSp := fun ds Q => ∃ x y, ds = [.d (F x), .d (F y)] ∧ Zf 3000 x ∧ Zf 3000 y ∧ Q (.d (F (x + y)))
def sp_Lsub : PSp := fun ds Q => ∃ x y, ds = [.d (F x), .d (F y)] ∧ Zf 3000 x ∧ Zf 3000 y ∧ Q (.d (F (x - y)))
def sp_Ldiv : PSp := fun ds Q => ∃ x y, ds = [.d (F x), .d (F y)] ∧ y ≠ 0 ∧ Zf 3000 x ∧ Zf 3000 y ∧ Q (.d (F (x / y)))
def sp_Lminus : PSp := fun ds Q => ∃ x, ds = [.d (F x)] ∧ Q (.d (F (-x)))
def sp_Lless : PSp := fun ds Q => ∃ x y, ds = [.d (F x), .d (F y)] ∧ Zf 3000 x ∧ Zf 3000 y ∧ Q (B (decide (x < y)))
def sp_Lspot : PSp := fun ds Q => ∃ x y, ds = [.d (F x), .d (F y)] ∧ Zf 2000 x ∧ Zf 2000 y ∧ Q (.d (P3 x y))
def sp_Lfar : PSp := fun ds Q => ∃ x y, ds = [.d (P3 x y)] ∧ Zp 8000 x y ∧ Q (.d (F x))
def sp_Lhigh : PSp := fun ds Q => ∃ x y, ds = [.d (P3 x y)] ∧ Zp 8000 x y ∧ Q (.d (F y))
def sp_Lvat : PSp := fun ds Q => ∃ ns n, ds = [.scr ns, I n] ∧ 0 ≤ n ∧ n ≤ 10 ∧ Q .vat
def sp_Lright : PSp := fun ds Q => ds = [.vat] ∧ Q (B true)
def sp_law : PSp := fun ds Q => ∃ ns, ds = [.scr ns] ∧ Q (B true)
theorem law_true (ns : List Int) (_h : ns.length ≤ 63) : sp_law [.scr ns] fun r => r = .d (.bool true) := ⟨ns, rfl, rfl⟩
/-! as equations -/
theorem l2e {x y u v : Rat} : ([DV.d (F x), .d (F y)] = [.d (F u), .d (F v)]) = (x = u ∧ y = v) := propext ⟨fun h => by
  simp only [List.cons.injEq, DV.d.injEq, and_true] at h
  exact ⟨F_inj h.1, F_inj h.2⟩, fun h => by rw [h.1, h.2]⟩
theorem l1e {x u : Rat} : ([DV.d (F x)] = [.d (F u)]) = (x = u) := propext ⟨fun h => by
  simp only [List.cons.injEq, DV.d.injEq, and_true] at h
  exact F_inj h, fun h => by rw [h]⟩
theorem lPe {x u y v : Rat} : ([DV.d (P3 x y)] = [.d (P3 u v)]) = (x = u ∧ y = v) := propext ⟨fun h => by
  simp only [List.cons.injEq, DV.d.injEq, and_true] at h
  exact P3_inj h, fun h => by rw [h.1, h.2]⟩
theorem lJe {x u y v : Rat} : ([DV.d (J x y)] = [.d (J u v)]) = (x = u ∧ y = v) := propext ⟨fun h => by
  simp only [List.cons.injEq, DV.d.injEq, and_true] at h
  exact J_inj h, fun h => by rw [h.1, h.2]⟩
theorem lJFe {x y u v d e : Rat} : ([DV.d (J x y), .d (F d)] = [.d (J u v), .d (F e)]) = (x = u ∧ y = v ∧ d = e) := propext ⟨fun h => by
  simp only [List.cons.injEq, DV.d.injEq, and_true] at h
  exact ⟨(J_inj h.1).1, (J_inj h.1).2, F_inj h.2⟩, fun h => by rw [h.1, h.2.1, h.2.2]⟩
theorem lFPe {x y u v d e : Rat} : ([DV.d (F d), .d (P3 x y)] = [.d (F e), .d (P3 u v)]) = (d = e ∧ x = u ∧ y = v) := propext ⟨fun h => by
  simp only [List.cons.injEq, DV.d.injEq, and_true] at h
  exact ⟨F_inj h.1, P3_inj h.2⟩, fun h => by rw [h.1, h.2.1, h.2.2]⟩
theorem lPFe {x y u v d e : Rat} : ([DV.d (P3 x y), .d (F d)] = [.d (P3 u v), .d (F e)]) = (x = u ∧ y = v ∧ d = e) := propext ⟨fun h => by
  simp only [List.cons.injEq, DV.d.injEq, and_true] at h
  exact ⟨(P3_inj h.1).1, (P3_inj h.1).2, F_inj h.2⟩, fun h => by rw [h.1, h.2.1, h.2.2]⟩
theorem lPPe {x y u v x' y' u' v' : Rat} : ([DV.d (P3 x y), .d (P3 x' y')] = [.d (P3 u v), .d (P3 u' v')]) = (x = u ∧ y = v ∧ x' = u' ∧ y' = v') := propext ⟨fun h => by
  simp only [List.cons.injEq, DV.d.injEq, and_true] at h
  exact ⟨(P3_inj h.1).1, (P3_inj h.1).2, (P3_inj h.2).1, (P3_inj h.2).2⟩, fun h => by rw [h.1, h.2.1, h.2.2.1, h.2.2.2]⟩
section
variable {Q : DV → Prop} {x y : Rat}
theorem ap_Lmul : sp_Lmul [.d (F x), .d (F y)] Q = (Zf 3000 x ∧ Zf 3000 y ∧ Q (.d (F (x * y)))) := propext ⟨fun ⟨a, b, e, r⟩ => by
  rw [l2e] at e
  obtain ⟨rfl, rfl⟩ := e
  exact r, fun r => ⟨_, _, rfl, r⟩⟩
theorem ap_Ladd : sp_Ladd [.d (F x), .d (F y)] Q = (Zf 3000 x ∧ Zf 3000 y ∧ Q (.d (F (x + y)))) := propext ⟨fun ⟨a, b, e, r⟩ => by
  rw [l2e] at e
  obtain ⟨rfl, rfl⟩ := e
  exact r, fun r => ⟨_, _, rfl, r⟩⟩
theorem ap_Lsub : sp_Lsub [.d (F x), .d (F y)] Q = (Zf 3000 x ∧ Zf 3000 y ∧ Q (.d (F (x - y)))) := propext ⟨fun ⟨a, b, e, r⟩ => by
  rw [l2e] at e
  obtain ⟨rfl, rfl⟩ := e
  exact r, fun r => ⟨_, _, rfl, r⟩⟩
theorem ap_Ldiv : sp_Ldiv [.d (F x), .d (F y)] Q = (y ≠ 0 ∧ Zf 3000 x ∧ Zf 3000 y ∧ Q (.d (F (x / y)))) := propext ⟨fun ⟨a, b, e, r⟩ => by
  rw [l2e] at e
  obtain ⟨rfl, rfl⟩ := e
  exact r, fun r => ⟨_, _, rfl, r⟩⟩
theorem ap_Lminus : sp_Lminus [.d (F x)] Q = Q (.d (F (-x))) := propext ⟨fun ⟨a, e, r⟩ => by
  rw [l1e] at e
  subst e
  exact r, fun r => ⟨_, rfl, r⟩⟩
theorem ap_Lless : sp_Lless [.d (F x), .d (F y)] Q = (Zf 3000 x ∧ Zf 3000 y ∧ Q (.d (.bool (decide (x < y))))) := propext ⟨fun ⟨a, b, e, r⟩ => by
  rw [l2e] at e
  obtain ⟨rfl, rfl⟩ := e
  exact r, fun r => ⟨_, _, rfl, r⟩⟩
theorem ap_Lspot : sp_Lspot [.d (F x), .d (F y)] Q = (Zf 2000 x ∧ Zf 2000 y ∧ Q (.d (P3 x y))) := propext ⟨fun ⟨a, b, e, r⟩ => by
  rw [l2e] at e
  obtain ⟨rfl, rfl⟩ := e
  exact r, fun r => ⟨_, _, rfl, r⟩⟩
theorem ap_Lfar : sp_Lfar [.d (P3 x y)] Q = (Zp 8000 x y ∧ Q (.d (F x))) := propext ⟨fun ⟨a, b, e, r⟩ => by
  rw [lPe] at e
  obtain ⟨rfl, rfl⟩ := e
  exact r, fun r => ⟨_, _, rfl, r⟩⟩
theorem ap_Lhigh : sp_Lhigh [.d (P3 x y)] Q = (Zp 8000 x y ∧ Q (.d (F y))) := propext ⟨fun ⟨a, b, e, r⟩ => by
  rw [lPe] at e
  obtain ⟨rfl, rfl⟩ := e
  exact r, fun r => ⟨_, _, rfl, r⟩⟩
end
section
variable {Φ : Nat → PSp}
theorem sem_Ldraw : ∀ ds Q, sp_Ldraw ds Q → wS Φ rs_Ldraw { nx := fun _ => Q (.d .none), rt := Q } (startD ["a", "b", "c", "d"] ds) := by
  rintro ds Q ⟨m, rfl, h1, h2, hq⟩
  show wS Φ rs_Ldraw _ [some (.val .vat), some (.val (I m)), none, none]
  simp only [rs_Ldraw, wS, wE, wA, wT, wI, wO, wTg, wIdx, wSlc, wBin, wCmp, wBi, wIsi, tyD, dbool, dint, setVals, setAll, datas, itemsD, truD, List.getElem?_cons_zero, List.getElem?_cons_succ, List.set_cons_zero, List.set_cons_succ, Option.map_some, Option.map_none]
  refine ⟨by omega, by omega, fun c hc => ?_⟩
  have hc := hc.1
  split
  · exact ⟨by omega, by omega, by omega, fun z hz => ⟨⟨h1, h2⟩, ⟨Int.ediv_nonneg hz.1 (by omega), fun h => by omega⟩, hq _ (Int.emod_nonneg _ (by omega)) (Int.emod_lt_of_pos _ h1)⟩⟩
  · refine ⟨by omega, by omega, by omega, fun z hz => ⟨⟨by have := hz.1; omega, fun h => by omega⟩, by omega, by omega, fun x hx => ⟨by omega, by omega, by omega, by omega, fun y hy => ?_⟩⟩⟩
    have hx1 := hx.2 rfl
    have hy1 := hy.2 rfl
    have hx0 := hx.1
    have hy0 := hy.1
    refine ⟨.inl (.inl ⟨by omega, by omega⟩), by omega, by omega, fun u hu => ⟨.inl (.inl ⟨by omega, by omega⟩), by omega, ⟨Int.emod_nonneg _ (by omega), fun _ => Int.emod_lt_of_pos _ (by omega)⟩, by omega, by omega, fun v hv => ⟨?_, h1, hq _ (Int.emod_nonneg _ (by omega)) (Int.emod_lt_of_pos _ h1)⟩⟩⟩
    exact ⟨by omega, by decide⟩
theorem atI_mem {α : Type} {xs : List α} {i : Int} (h0 : 0 ≤ i) (h1 : i < (xs.length : Int)) : ∃ x, atI xs i = some x ∧ x ∈ xs := by
  have hl : i.toNat < xs.length := by omega
  refine ⟨xs[i.toNat], ?_, List.getElem_mem hl⟩
  have := atI_nat (xs := xs) (j := i.toNat) (v := xs[i.toNat]) (List.getElem?_eq_getElem hl)
  rw [Int.toNat_of_nonneg h0] at this
  exact this
theorem sem_Lpick (e : Φ 0 = sp_Ldraw) : ∀ ds Q, sp_Lpick ds Q → wS Φ rs_Lpick { nx := fun _ => Q (.d .none), rt := Q } (startD ["a", "b"] ds) := by
  rintro ds Q ⟨xs, rfl, h1, h2, hq⟩
  show wS Φ rs_Lpick _ [some (.val .vat), some (.val (.d (.list xs)))]
  simp only [rs_Lpick, wS, wE, wA, wT, wI, wO, wTg, wIdx, wSlc, wBin, wCmp, wBi, wIsi, tyD, dbool, dint, setVals, setAll, datas, itemsD, truD, List.getElem?_cons_zero, List.getElem?_cons_succ, List.set_cons_zero, List.set_cons_succ, Option.map_some, Option.map_none, e, lenD]
  have hl : 0 < xs.length := List.length_pos_iff.mpr h1
  refine ⟨xs.length, rfl, xs.length, rfl, by omega, by omega, fun r r0 r1 => ?_⟩
  obtain ⟨x, hx, hm⟩ := atI_mem r0 r1
  exact ⟨x, hx, hq x hm⟩
theorem sem_Lsize (e : Φ 1 = sp_Lpick) : ∀ ds Q, sp_Lsize ds Q → wS Φ rs_Lsize { nx := fun _ => Q (.d .none), rt := Q } (startD ["a"] ds) := by
  rintro ds Q ⟨rfl, hq⟩
  show wS Φ rs_Lsize _ [some (.val .vat)]
  simp only [rs_Lsize, wS, wE, wA, wT, wI, wO, wTg, wIdx, wSlc, wBin, wCmp, wBi, wIsi, tyD, dbool, dint, setVals, setAll, datas, itemsD, truD, List.getElem?_cons_zero, List.getElem?_cons_succ, List.set_cons_zero, List.set_cons_succ, Option.map_some, Option.map_none, e]
  refine ⟨⟨by omega, by omega, by decide⟩, _, rfl, by decide, _, rfl, by simp, by simp, ?_⟩
  intro x hx
  simp only [List.mem_cons, List.not_mem_nil, or_false] at hx
  rcases hx with rfl | rfl | rfl | rfl | rfl | rfl | rfl | rfl
  all_goals exact hq _ (by decide) (by decide)
theorem g2_step {a b : Int} (h : 0 < b) (ha : 0 ≤ a) : g2 b (a % b) = g2 a b := by
  unfold g2
  congr 1
  have : (a % b).natAbs = a.natAbs % b.natAbs := by
    have := Int.natAbs_emod_of_nonneg (b := b) ha
    exact this
  rw [this, Nat.gcd_comm b.natAbs, ← Nat.gcd_rec, Nat.gcd_comm]
theorem wh_gcd {turn : SDs → (SDs → Prop) → Prop} {g : Int} {Q : DV → Prop} (hq : Q (I g))
    (ht : ∀ (k : SDs → Prop) (x y : Int), 0 ≤ x → 0 ≤ y → (0 < y → k [some (.val (I y)), some (.val (I (x % y)))]) → (¬ 0 < y → Q (I x)) → turn [some (.val (I x)), some (.val (I y))] k) :
    ∀ (n : Nat) (x y : Int), 0 ≤ x → 0 ≤ y → y.toNat < n → g2 x y = g → goWh turn n [some (.val (I x)), some (.val (I y))] := by
  intro n
  induction n with
  | zero => intro x y _ _ h; omega
  | succ n ih =>
    intro x y x0 y0 hn hg
    refine ht _ x y x0 y0 (fun hp => ?_) fun hp => ?_
    · refine ih y (x % y) y0 (Int.emod_nonneg _ (by omega)) ?_ (by rw [g2_step hp x0]; exact hg)
      have := Int.emod_lt_of_pos x hp
      omega
    · have : y = 0 := by omega
      subst this
      have hx : g2 x 0 = x := by
        unfold g2
        rw [Int.natAbs_zero, Nat.gcd_zero_right]
        omega
      rw [hx] at hg
      rw [hg]
      exact hq
theorem sem_Lgcd : ∀ ds Q, sp_Lgcd ds Q → wS Φ rs_Lgcd { nx := fun _ => Q (.d .none), rt := Q } (startD ["a", "b"] ds) := by
  rintro ds Q ⟨a, b, rfl, hq⟩
  show wS Φ rs_Lgcd _ [some (.val (I a)), some (.val (I b))]
  simp only [rs_Lgcd, wS, wE, wA, wT, wI, wO, wTg, wIdx, wSlc, wBin, wCmp, wBi, wIsi, tyD, dbool, dint, setVals, setAll, datas, itemsD, truD, List.getElem?_cons_zero, List.getElem?_cons_succ, List.set_cons_zero, List.set_cons_succ, Option.map_some, Option.map_none, List.length_cons, List.length_nil]
  refine ⟨trivial, ?_⟩
  generalize hx : (if a < 0 then -a else a) = x
  generalize hy : (if b < 0 then -b else b) = y
  have x0 : 0 ≤ x := by rw [← hx]; split <;> omega
  have y0 : 0 ≤ y := by rw [← hy]; split <;> omega
  have hg : g2 x y = g2 a b := by
    unfold g2
    congr 2
    · rw [← hx]; split <;> omega
    · rw [← hy]; split <;> omega
  refine ⟨y.toNat + 1, wh_gcd hq (fun k x y x0 y0 h1 h2 => ?_) (y.toNat + 1) x y x0 y0 (by omega) hg⟩
  simp only [wS, wE, wA, wT, wI, wO, wTg, wIdx, wSlc, wBin, wCmp, wBi, wIsi, tyD, dbool, dint, setVals, setAll, datas, itemsD, truD, List.getElem?_cons_zero, List.getElem?_cons_succ, List.set_cons_zero, List.set_cons_succ, Option.map_some, Option.map_none, List.length_cons, List.length_nil, decide_eq_true_eq]
  split
  · rename_i hp
    exact ⟨hp, trivial, h1 hp⟩
  · rename_i hp
    exact h2 hp
end
section
variable {Φ : Nat → PSp}
theorem g2_abs (a b : Int) : g2 (g2 0 a) b = g2 a b := by
  unfold g2
  simp
theorem g3_abs (a b c : Int) : g2 (g2 a b) c = g3 a b c := by
  unfold g2 g3
  simp
theorem sem_Llow (e : Φ 3 = sp_Lgcd) : ∀ ds Q, sp_Llow ds Q → wS Φ rs_Llow { nx := fun _ => Q (.d .none), rt := Q } (startD ["a", "b", "c"] ds) := by
  rintro ds Q (⟨a, b, rfl, h1, h2, hq⟩ | ⟨a, b, c, rfl, h1, h2, hq⟩)
  · show wS Φ rs_Llow _ [some (.val (T2 a b)), none, none]
    simp only [rs_Llow, wS, wE, wA, wT, wI, wO, wTg, wIdx, wSlc, wBin, wCmp, wBi, wIsi, tyD, dbool, dint, setVals, setAll, datas, itemsD, truD, List.getElem?_cons_zero, List.getElem?_cons_succ, List.set_cons_zero, List.set_cons_succ, Option.map_some, Option.map_none, e]
    refine ⟨_, rfl, ?_⟩
    simp only [List.map, goFor, wS, wE, wA, wT, wI, wO, wTg, wIdx, wSlc, wBin, wCmp, wBi, wIsi, tyD, dbool, dint, setVals, setAll, datas, itemsD, truD, List.getElem?_cons_zero, List.getElem?_cons_succ, List.set_cons_zero, List.set_cons_succ, Option.map_some, Option.map_none]
    refine ⟨_, _, rfl, ?_⟩
    refine ⟨_, _, rfl, ?_⟩
    rw [g2_abs]
    refine ⟨_, rfl, by simp [mx], ?_⟩
    simp only [List.map, goLc, wS, wE, wA, wT, wI, wO, wTg, wIdx, wSlc, wBin, wCmp, wBi, wIsi, tyD, dbool, dint, setVals, setAll, datas, itemsD, truD, List.getElem?_cons_zero, List.getElem?_cons_succ, List.set_cons_zero, List.set_cons_succ, Option.map_some, Option.map_none, wipeD]
    have hd : CDivW a (g2 a b) := cdiv (g2_pos h1) (h2.le (g2_le h1)) (by decide) (by decide)
    have hd' : CDivW b (g2 a b) := cdiv (g2_pos h1) (h2.le (g2_le h1)) (by decide) (by decide)
    exact ⟨hd, hd', hq⟩
  · show wS Φ rs_Llow _ [some (.val (T3 a b c)), none, none]
    simp only [rs_Llow, wS, wE, wA, wT, wI, wO, wTg, wIdx, wSlc, wBin, wCmp, wBi, wIsi, tyD, dbool, dint, setVals, setAll, datas, itemsD, truD, List.getElem?_cons_zero, List.getElem?_cons_succ, List.set_cons_zero, List.set_cons_succ, Option.map_some, Option.map_none, e]
    refine ⟨_, rfl, ?_⟩
    simp only [List.map, goFor, wS, wE, wA, wT, wI, wO, wTg, wIdx, wSlc, wBin, wCmp, wBi, wIsi, tyD, dbool, dint, setVals, setAll, datas, itemsD, truD, List.getElem?_cons_zero, List.getElem?_cons_succ, List.set_cons_zero, List.set_cons_succ, Option.map_some, Option.map_none]
    refine ⟨_, _, rfl, ?_⟩
    refine ⟨_, _, rfl, ?_⟩
    refine ⟨_, _, rfl, ?_⟩
    rw [g2_abs, g3_abs]
    refine ⟨_, rfl, by simp [mx], ?_⟩
    simp only [List.map, goLc, wS, wE, wA, wT, wI, wO, wTg, wIdx, wSlc, wBin, wCmp, wBi, wIsi, tyD, dbool, dint, setVals, setAll, datas, itemsD, truD, List.getElem?_cons_zero, List.getElem?_cons_succ, List.set_cons_zero, List.set_cons_succ, Option.map_some, Option.map_none, wipeD]
    have hp : 0 < g3 a b c := g3_pos h1
    have hs : Sz 8000 (g3 a b c) := h2.le (g3_le h1)
    exact ⟨cdiv hp hs (by decide) (by decide), cdiv hp hs (by decide) (by decide), cdiv hp hs (by decide) (by decide), hq⟩
theorem sem_Labout (e : Φ 0 = sp_Ldraw) : ∀ ds Q, sp_Labout ds Q → wS Φ rs_Labout { nx := fun _ => Q (.d .none), rt := Q } (startD ["a", "b", "c"] ds) := by
  rintro ds Q ⟨w, rfl, h0, h1, hq⟩
  show wS Φ rs_Labout _ [some (.val .vat), some (.val (I w)), none]
  simp only [rs_Labout, wS, wE, wA, wT, wI, wO, wTg, wIdx, wSlc, wBin, wCmp, wBi, wIsi, tyD, dbool, dint, setVals, setAll, datas, itemsD, truD, List.getElem?_cons_zero, List.getElem?_cons_succ, List.set_cons_zero, List.set_cons_succ, Option.map_some, Option.map_none, e, decide_eq_true_eq]
  refine ⟨⟨by omega, by omega, by decide⟩, ?_⟩
  split
  · rename_i hw
    have hw : w < 100000 := hw
    refine ⟨.inl (.inl ⟨by omega, by omega⟩), _, rfl, by omega, by omega, fun r r0 r1 => hq _ (by omega) (by omega)⟩
  · refine ⟨_, rfl, by decide, by decide, fun r r0 r1 => ⟨.inl (.inl ⟨by omega, by omega⟩), _, rfl, by decide, by decide, fun q q0 q1 => ⟨.inl (.inl ⟨by omega, by omega⟩), by omega, ?_⟩⟩⟩
    have z0 := Int.emod_nonneg (r * 64007 + q) (b := 2 * w + 1) (by omega)
    have z1 := Int.emod_lt_of_pos (r * 64007 + q) (b := 2 * w + 1) (by omega)
    exact hq _ (by omega) (by omega)
end
theorem sz31 {a : Int} (h : -2000000000 ≤ a) (e : a ≤ 2000000000) : Sz 31 a := Sz.of (by omega) (by omega)
theorem cm3 {a b : Int} (h : Sz 3000 a) (e : Sz 3000 b) : CMul a b ∨ CMulW a b := cmul h e (by decide) (by decide) (by decide)
theorem ratNe {b : Int} (h : b ≠ 0) : (b : Rat) ≠ 0 := by exact_mod_cast h
theorem ratD {a b : Int} (h : b ≠ 0) : (a : Rat) = ((a : Rat) / (b : Rat)) * (b : Rat) := (Rat.div_mul_cancel (ratNe h)).symm
theorem F_fr {a b : Int} (h : b ≠ 0) : (.tuple [.int (fr a b).1, .int (fr a b).2] : PyData) = F ((a : Rat) / (b : Rat)) := by
  unfold fr
  split
  · rename_i hp
    exact F_rd hp (ratD h)
  · refine F_rd (by omega) ?_
    rw [Int.zero_sub, Int.zero_sub, Rat.intCast_neg, Rat.intCast_neg]
    have := ratD (a := a) h
    grind
section
variable {Φ : Nat → PSp}
theorem sem_Lfrac (e : Φ 4 = sp_Llow) : ∀ ds Q, sp_Lfrac ds Q → wS Φ rs_Lfrac { nx := fun _ => Q (.d .none), rt := Q } (startD ["a", "b"] ds) := by
  rintro ds Q ⟨a, b, rfl, h0, h1, hq⟩
  show wS Φ rs_Lfrac _ [some (.val (I a)), some (.val (I b))]
  simp only [rs_Lfrac, wS, wE, wA, wT, wI, wO, wTg, wIdx, wSlc, wBin, wCmp, wBi, wIsi, tyD, dbool, dint, setVals, setAll, datas, itemsD, truD, List.getElem?_cons_zero, List.getElem?_cons_succ, List.set_cons_zero, List.set_cons_succ, Option.map_some, Option.map_none, e, decide_eq_true_eq]
  rw [← F_fr h0] at hq
  by_cases hb : 0 < b
  · rw [if_pos hb]
    rw [fr_pos' hb] at hq
    exact ⟨_, rfl, by simp [mx], .inl ⟨_, _, rfl, h0, h1, hq⟩⟩
  · rw [if_neg hb]
    unfold fr at hq
    rw [if_neg hb] at hq
    exact ⟨_, rfl, by simp [mx], .inl ⟨_, _, rfl, by omega, h1.neg, hq⟩⟩
theorem zf31 {a b : Int} (hb : b ≠ 0) (h1 : Sz 31 a) (h2 : Sz 31 b) : Zf 31 ((a : Rat) / (b : Rat)) := by
  by_cases h : 0 < b
  · exact Zf.of h (ratD hb) h1 h2
  · have e : (a : Rat) / (b : Rat) = ((0 - a : Int) : Rat) / ((0 - b : Int) : Rat) := by
      rw [Int.zero_sub, Int.zero_sub, Rat.intCast_neg, Rat.intCast_neg]
      have : (b : Rat) ≠ 0 := ratNe hb
      grind
    rw [e]
    exact Zf.of (by omega) (ratD (by omega)) h1.neg h2.neg
theorem div_pos {a b : Rat} (h : 0 < a) (e : 0 < b) : 0 < a / b := by
  rw [Rat.div_def]
  exact Rat.mul_pos h (Rat.inv_pos.mpr e)
theorem sem_Labove (e0 : Φ 0 = sp_Ldraw) (e1 : Φ 1 = sp_Lpick) (e6 : Φ 6 = sp_Lfrac) (e7 : Φ 7 = sp_Labout) : ∀ ds Q, sp_Labove ds Q → wS Φ rs_Labove { nx := fun _ => Q (.d .none), rt := Q } (startD ["a", "b"] ds) := by
  rintro ds Q ⟨w, rfl, h0, h1, hq⟩
  show wS Φ rs_Labove _ [some (.val .vat), some (.val (I w))]
  simp only [rs_Labove, wS, wE, wA, wT, wI, wO, wTg, wIdx, wSlc, wBin, wCmp, wBi, wIsi, tyD, dbool, dint, setVals, setAll, datas, itemsD, truD, List.getElem?_cons_zero, List.getElem?_cons_succ, List.set_cons_zero, List.set_cons_succ, Option.map_some, Option.map_none, e0, e1, e6, e7]
  refine ⟨_, rfl, h0, h1, fun z z0 z1 => ⟨_, rfl, by decide, _, rfl, by simp, by simp, ?_⟩⟩
  generalize hn : (if z < 0 then -z else z) = n
  have n0 : 0 ≤ n ∧ n ≤ 1000000000 := by rw [← hn]; split <;> omega
  have key : ∀ m : Int, 0 < m → m ≤ 7 → ∀ r, 0 ≤ r → r < m → 1 + r ≠ 0 ∧ Sz 8000 (1 + r) ∧ Q (.d (F (((1 + n : Int) : Rat) / ((1 + r : Int) : Rat)))) := by
    intro m m0 m1 r r0 r1
    have s1 : Sz 31 (1 + n) := sz31 (by omega) (by omega)
    have s2 : Sz 31 (1 + r) := sz31 (by omega) (by omega)
    refine ⟨by omega, (sz31 (by omega) (by omega)).mono (by decide), hq _ ?_ (zf31 (by omega) s1 s2)⟩
    exact div_pos (Rat.intCast_pos.mpr (by omega)) (Rat.intCast_pos.mpr (by omega))
  intro x hx
  simp only [List.mem_cons, List.not_mem_nil, or_false] at hx
  rcases hx with rfl | rfl | rfl | rfl | rfl
  all_goals exact ⟨_, rfl, by decide, by decide, fun r r0 r1 => ⟨_, _, rfl, key _ (by decide) (by decide) r r0 r1⟩⟩
theorem sem_Lsome_frac (e0 : Φ 0 = sp_Ldraw) (e1 : Φ 1 = sp_Lpick) (e6 : Φ 6 = sp_Lfrac) (e7 : Φ 7 = sp_Labout) : ∀ ds Q, sp_Lsome_frac ds Q → wS Φ rs_Lsome_frac { nx := fun _ => Q (.d .none), rt := Q } (startD ["a", "b"] ds) := by
  rintro ds Q ⟨w, rfl, h0, h1, hq⟩
  show wS Φ rs_Lsome_frac _ [some (.val .vat), some (.val (I w))]
  simp only [rs_Lsome_frac, wS, wE, wA, wT, wI, wO, wTg, wIdx, wSlc, wBin, wCmp, wBi, wIsi, tyD, dbool, dint, setVals, setAll, datas, itemsD, truD, List.getElem?_cons_zero, List.getElem?_cons_succ, List.set_cons_zero, List.set_cons_succ, Option.map_some, Option.map_none, e0, e1, e6, e7]
  refine ⟨_, rfl, by omega, h1, fun z z0 z1 => ⟨⟨by omega, by omega, by decide⟩, _, rfl, by simp [mx], _, rfl, by simp, by simp, ?_⟩⟩
  have key : ∀ m : Int, 0 < m → m ≤ 10000 → ∀ r, 0 ≤ r → r < m → 1 + r ≠ 0 ∧ Sz 8000 (1 + r) ∧ Q (.d (F ((z : Rat) / ((1 + r : Int) : Rat)))) := by
    intro m m0 m1 r r0 r1
    have s1 : Sz 31 z := sz31 (by omega) (by omega)
    have s2 : Sz 31 (1 + r) := sz31 (by omega) (by omega)
    exact ⟨by omega, (sz31 (by omega) (by omega)).mono (by decide), hq _ (zf31 (by omega) s1 s2)⟩
  intro x hx
  simp only [List.mem_cons, List.not_mem_nil, or_false] at hx
  rcases hx with rfl | rfl | rfl | rfl | rfl | rfl
  all_goals first
    | exact ⟨_, rfl, by decide, by decide, fun r r0 r1 => ⟨_, _, rfl, key _ (by decide) (by decide) r r0 r1⟩⟩
    | skip
  have hm : (0 : Int) < (if (10 : Int) ^ (4 : Int).toNat < w then (10 : Int) ^ (4 : Int).toNat else w) ∧ (if (10 : Int) ^ (4 : Int).toNat < w then (10 : Int) ^ (4 : Int).toNat else w) ≤ 10000 := by
    have : (10 : Int) ^ (4 : Int).toNat = 10000 := by decide
    rw [this]
    split <;> omega
  exact ⟨_, rfl, hm.1, by omega, fun r r0 r1 => ⟨_, _, rfl, key _ hm.1 hm.2 r r0 r1⟩⟩
theorem ddne (x y : Rat) : (x.den : Int) * (y.den : Int) ≠ 0 := Int.ne_of_gt (dd_pos x y)
theorem divE' {a b : Int} {q : Rat} (hb : b ≠ 0) (h : (a : Rat) = q * (b : Rat)) : (a : Rat) / (b : Rat) = q := by
  rw [h]
  exact Rat.mul_div_cancel (ratNe hb)
theorem divE {a b : Int} {q : Rat} (hb : 0 < b) (h : (a : Rat) = q * (b : Rat)) : (a : Rat) / (b : Rat) = q := divE' (by omega) h
theorem sem_Lmul (e : Φ 6 = sp_Lfrac) : ∀ ds Q, sp_Lmul ds Q → wS Φ rs_Lmul { nx := fun _ => Q (.d .none), rt := Q } (startD ["a", "b"] ds) := by
  rintro ds Q ⟨x, y, rfl, h1, h2, hq⟩
  show wS Φ rs_Lmul _ [some (.val (.d (F x))), some (.val (.d (F y)))]
  simp only [rs_Lmul, wS, wE, wA, wT, wI, wO, ev_add, ev_sub, ev_mul, ev_div, ev_mod, ev_pow, ev_cat, ev_lt, ev_le, ev_gt, ev_ge, ev_eq, ev_ne, ev_eqs, ev_nes, ix_F0, ix_F1, ix_J0, ix_J1, ix_P0, ix_P1, ix_P2, ix_t0, ix_t1, ix_t2, ix_l0, ix_l1, ix_l2, tg_1, tg_F, tg_J, tg_P, tg_2, tg_3, tg_4, fold_J, eq_F, ne_F, eq_J, ne_J, eq_P, ne_P, db_, di_, setVals, setAll, datas, itemsD, truD, List.getElem?_cons_zero, List.getElem?_cons_succ, List.set_cons_zero, List.set_cons_succ, Option.map_some, Option.map_none, Option.some.injEq, exists_eq_left', decide_eq_true_eq, Bool.not_true, Bool.not_false, Bool.false_eq_true, if_false, if_true, true_and, and_true, decide_true, decide_false, List.length_cons, List.length_nil, mx_0, mx_1, mx_2, mx_3, mx_4, mx_5, mx_6, mx_7, mx_8, mx_9, mx_10, mx_11, mx_12, mx_13, mx_14, mx_15, mx_16, mx_17, mx_18, mx_19, mx_20, mx_21, mx_22, mx_23, mx_24, Nat.reduceAdd, Nat.reduceLeDiff, Nat.zero_add, Bool.not_eq_true', decide_eq_false_iff_not, reduceIte, ev_reprb, e]
  rw [← divE (dd_pos x y) (mulR x y)] at hq
  exact ⟨cm3 h1.n h2.n, cm3 h1.d h2.d, _, _, rfl, ddne x y, (h1.d.mul h2.d).mono (by decide), hq⟩
theorem sem_Ladd (e : Φ 6 = sp_Lfrac) : ∀ ds Q, sp_Ladd ds Q → wS Φ rs_Ladd { nx := fun _ => Q (.d .none), rt := Q } (startD ["a", "b"] ds) := by
  rintro ds Q ⟨x, y, rfl, h1, h2, hq⟩
  show wS Φ rs_Ladd _ [some (.val (.d (F x))), some (.val (.d (F y)))]
  simp only [rs_Ladd, wS, wE, wA, wT, wI, wO, ev_add, ev_sub, ev_mul, ev_div, ev_mod, ev_pow, ev_cat, ev_lt, ev_le, ev_gt, ev_ge, ev_eq, ev_ne, ev_eqs, ev_nes, ix_F0, ix_F1, ix_J0, ix_J1, ix_P0, ix_P1, ix_P2, ix_t0, ix_t1, ix_t2, ix_l0, ix_l1, ix_l2, tg_1, tg_F, tg_J, tg_P, tg_2, tg_3, tg_4, fold_J, eq_F, ne_F, eq_J, ne_J, eq_P, ne_P, db_, di_, setVals, setAll, datas, itemsD, truD, List.getElem?_cons_zero, List.getElem?_cons_succ, List.set_cons_zero, List.set_cons_succ, Option.map_some, Option.map_none, Option.some.injEq, exists_eq_left', decide_eq_true_eq, Bool.not_true, Bool.not_false, Bool.false_eq_true, if_false, if_true, true_and, and_true, decide_true, decide_false, List.length_cons, List.length_nil, mx_0, mx_1, mx_2, mx_3, mx_4, mx_5, mx_6, mx_7, mx_8, mx_9, mx_10, mx_11, mx_12, mx_13, mx_14, mx_15, mx_16, mx_17, mx_18, mx_19, mx_20, mx_21, mx_22, mx_23, mx_24, Nat.reduceAdd, Nat.reduceLeDiff, Nat.zero_add, Bool.not_eq_true', decide_eq_false_iff_not, reduceIte, ev_reprb, e]
  rw [← divE (dd_pos x y) (addR x y)] at hq
  exact ⟨cm3 h1.n h2.d, cm3 h2.n h1.d, cm3 h1.d h2.d, _, _, rfl, ddne x y, (h1.d.mul h2.d).mono (by decide), hq⟩
theorem sem_Lsub (e : Φ 6 = sp_Lfrac) : ∀ ds Q, sp_Lsub ds Q → wS Φ rs_Lsub { nx := fun _ => Q (.d .none), rt := Q } (startD ["a", "b"] ds) := by
  rintro ds Q ⟨x, y, rfl, h1, h2, hq⟩
  show wS Φ rs_Lsub _ [some (.val (.d (F x))), some (.val (.d (F y)))]
  simp only [rs_Lsub, wS, wE, wA, wT, wI, wO, ev_add, ev_sub, ev_mul, ev_div, ev_mod, ev_pow, ev_cat, ev_lt, ev_le, ev_gt, ev_ge, ev_eq, ev_ne, ev_eqs, ev_nes, ix_F0, ix_F1, ix_J0, ix_J1, ix_P0, ix_P1, ix_P2, ix_t0, ix_t1, ix_t2, ix_l0, ix_l1, ix_l2, tg_1, tg_F, tg_J, tg_P, tg_2, tg_3, tg_4, fold_J, eq_F, ne_F, eq_J, ne_J, eq_P, ne_P, db_, di_, setVals, setAll, datas, itemsD, truD, List.getElem?_cons_zero, List.getElem?_cons_succ, List.set_cons_zero, List.set_cons_succ, Option.map_some, Option.map_none, Option.some.injEq, exists_eq_left', decide_eq_true_eq, Bool.not_true, Bool.not_false, Bool.false_eq_true, if_false, if_true, true_and, and_true, decide_true, decide_false, List.length_cons, List.length_nil, mx_0, mx_1, mx_2, mx_3, mx_4, mx_5, mx_6, mx_7, mx_8, mx_9, mx_10, mx_11, mx_12, mx_13, mx_14, mx_15, mx_16, mx_17, mx_18, mx_19, mx_20, mx_21, mx_22, mx_23, mx_24, Nat.reduceAdd, Nat.reduceLeDiff, Nat.zero_add, Bool.not_eq_true', decide_eq_false_iff_not, reduceIte, ev_reprb, e]
  rw [← divE (dd_pos x y) (subR x y)] at hq
  exact ⟨cm3 h1.n h2.d, cm3 h2.n h1.d, cm3 h1.d h2.d, _, _, rfl, ddne x y, (h1.d.mul h2.d).mono (by decide), hq⟩
theorem dn_ne (x : Rat) {y : Rat} (h : y ≠ 0) : (x.den : Int) * y.num ≠ 0 := by
  have h1 := den_pos x
  have h2 : y.num ≠ 0 := fun z => h (Rat.num_eq_zero.mp z)
  exact Int.mul_ne_zero (by omega) h2
theorem sem_Ldiv (e : Φ 6 = sp_Lfrac) : ∀ ds Q, sp_Ldiv ds Q → wS Φ rs_Ldiv { nx := fun _ => Q (.d .none), rt := Q } (startD ["a", "b"] ds) := by
  rintro ds Q ⟨x, y, rfl, h0, h1, h2, hq⟩
  show wS Φ rs_Ldiv _ [some (.val (.d (F x))), some (.val (.d (F y)))]
  simp only [rs_Ldiv, wS, wE, wA, wT, wI, wO, ev_add, ev_sub, ev_mul, ev_div, ev_mod, ev_pow, ev_cat, ev_lt, ev_le, ev_gt, ev_ge, ev_eq, ev_ne, ev_eqs, ev_nes, ix_F0, ix_F1, ix_J0, ix_J1, ix_P0, ix_P1, ix_P2, ix_t0, ix_t1, ix_t2, ix_l0, ix_l1, ix_l2, tg_1, tg_F, tg_J, tg_P, tg_2, tg_3, tg_4, fold_J, eq_F, ne_F, eq_J, ne_J, eq_P, ne_P, db_, di_, setVals, setAll, datas, itemsD, truD, List.getElem?_cons_zero, List.getElem?_cons_succ, List.set_cons_zero, List.set_cons_succ, Option.map_some, Option.map_none, Option.some.injEq, exists_eq_left', decide_eq_true_eq, Bool.not_true, Bool.not_false, Bool.false_eq_true, if_false, if_true, true_and, and_true, decide_true, decide_false, List.length_cons, List.length_nil, mx_0, mx_1, mx_2, mx_3, mx_4, mx_5, mx_6, mx_7, mx_8, mx_9, mx_10, mx_11, mx_12, mx_13, mx_14, mx_15, mx_16, mx_17, mx_18, mx_19, mx_20, mx_21, mx_22, mx_23, mx_24, Nat.reduceAdd, Nat.reduceLeDiff, Nat.zero_add, Bool.not_eq_true', decide_eq_false_iff_not, reduceIte, ev_reprb, e]
  rw [← divE' (dn_ne x h0) (divR x y h0)] at hq
  exact ⟨cm3 h1.n h2.d, cm3 h1.d h2.n, _, _, rfl, dn_ne x h0, (h1.d.mul h2.n).mono (by decide), hq⟩
theorem F_neg {x : Rat} : (PyData.tuple [.int (0 - x.num), .int (x.den : Int)]) = F (-x) := by unfold F; rw [Rat.neg_num, Rat.neg_den, Int.zero_sub]
theorem F_neg' {x : Rat} : (PyData.tuple [.int (-x.num), .int (x.den : Int)]) = F (-x) := by unfold F; rw [Rat.neg_num, Rat.neg_den]
theorem sem_Lminus : ∀ ds Q, sp_Lminus ds Q → wS Φ rs_Lminus { nx := fun _ => Q (.d .none), rt := Q } (startD ["a"] ds) := by
  rintro ds Q ⟨x, rfl, hq⟩
  show wS Φ rs_Lminus _ [some (.val (.d (F x)))]
  simp only [rs_Lminus, wS, wE, wA, wT, wI, wO, ev_add, ev_sub, ev_mul, ev_div, ev_mod, ev_pow, ev_cat, ev_lt, ev_le, ev_gt, ev_ge, ev_eq, ev_ne, ev_eqs, ev_nes, ix_F0, ix_F1, ix_J0, ix_J1, ix_P0, ix_P1, ix_P2, ix_t0, ix_t1, ix_t2, ix_l0, ix_l1, ix_l2, tg_1, tg_F, tg_J, tg_P, tg_2, tg_3, tg_4, fold_J, eq_F, ne_F, eq_J, ne_J, eq_P, ne_P, db_, di_, setVals, setAll, datas, itemsD, truD, List.getElem?_cons_zero, List.getElem?_cons_succ, List.set_cons_zero, List.set_cons_succ, Option.map_some, Option.map_none, Option.some.injEq, exists_eq_left', decide_eq_true_eq, Bool.not_true, Bool.not_false, Bool.false_eq_true, if_false, if_true, true_and, and_true, decide_true, decide_false, List.length_cons, List.length_nil, mx_0, mx_1, mx_2, mx_3, mx_4, mx_5, mx_6, mx_7, mx_8, mx_9, mx_10, mx_11, mx_12, mx_13, mx_14, mx_15, mx_16, mx_17, mx_18, mx_19, mx_20, mx_21, mx_22, mx_23, mx_24, Nat.reduceAdd, Nat.reduceLeDiff, Nat.zero_add, Bool.not_eq_true', decide_eq_false_iff_not, reduceIte, ev_reprb, F_neg]
  exact hq
theorem sem_Lless : ∀ ds Q, sp_Lless ds Q → wS Φ rs_Lless { nx := fun _ => Q (.d .none), rt := Q } (startD ["a", "b"] ds) := by
  rintro ds Q ⟨x, y, rfl, h1, h2, hq⟩
  show wS Φ rs_Lless _ [some (.val (.d (F x))), some (.val (.d (F y)))]
  simp only [rs_Lless, wS, wE, wA, wT, wI, wO, ev_add, ev_sub, ev_mul, ev_div, ev_mod, ev_pow, ev_cat, ev_lt, ev_le, ev_gt, ev_ge, ev_eq, ev_ne, ev_eqs, ev_nes, ix_F0, ix_F1, ix_J0, ix_J1, ix_P0, ix_P1, ix_P2, ix_t0, ix_t1, ix_t2, ix_l0, ix_l1, ix_l2, tg_1, tg_F, tg_J, tg_P, tg_2, tg_3, tg_4, fold_J, eq_F, ne_F, eq_J, ne_J, eq_P, ne_P, db_, di_, setVals, setAll, datas, itemsD, truD, List.getElem?_cons_zero, List.getElem?_cons_succ, List.set_cons_zero, List.set_cons_succ, Option.map_some, Option.map_none, Option.some.injEq, exists_eq_left', decide_eq_true_eq, Bool.not_true, Bool.not_false, Bool.false_eq_true, if_false, if_true, true_and, and_true, decide_true, decide_false, List.length_cons, List.length_nil, mx_0, mx_1, mx_2, mx_3, mx_4, mx_5, mx_6, mx_7, mx_8, mx_9, mx_10, mx_11, mx_12, mx_13, mx_14, mx_15, mx_16, mx_17, mx_18, mx_19, mx_20, mx_21, mx_22, mx_23, mx_24, Nat.reduceAdd, Nat.reduceLeDiff, Nat.zero_add, Bool.not_eq_true', decide_eq_false_iff_not, reduceIte, ev_reprb, lt_cross]
  exact ⟨cm3 h1.n h2.d, cm3 h2.n h1.d, hq⟩
theorem sem_Lspot (e : Φ 4 = sp_Llow) : ∀ ds Q, sp_Lspot ds Q → wS Φ rs_Lspot { nx := fun _ => Q (.d .none), rt := Q } (startD ["a", "b"] ds) := by
  rintro ds Q ⟨x, y, rfl, h1, h2, hq⟩
  show wS Φ rs_Lspot _ [some (.val (.d (F x))), some (.val (.d (F y)))]
  simp only [rs_Lspot, wS, wE, wA, wT, wI, wO, ev_add, ev_sub, ev_mul, ev_div, ev_mod, ev_pow, ev_cat, ev_lt, ev_le, ev_gt, ev_ge, ev_eq, ev_ne, ev_eqs, ev_nes, ix_F0, ix_F1, ix_J0, ix_J1, ix_P0, ix_P1, ix_P2, ix_t0, ix_t1, ix_t2, ix_l0, ix_l1, ix_l2, tg_1, tg_F, tg_J, tg_P, tg_2, tg_3, tg_4, fold_J, eq_F, ne_F, eq_J, ne_J, eq_P, ne_P, db_, di_, setVals, setAll, datas, itemsD, truD, List.getElem?_cons_zero, List.getElem?_cons_succ, List.set_cons_zero, List.set_cons_succ, Option.map_some, Option.map_none, Option.some.injEq, exists_eq_left', decide_eq_true_eq, Bool.not_true, Bool.not_false, Bool.false_eq_true, if_false, if_true, true_and, and_true, decide_true, decide_false, List.length_cons, List.length_nil, mx_0, mx_1, mx_2, mx_3, mx_4, mx_5, mx_6, mx_7, mx_8, mx_9, mx_10, mx_11, mx_12, mx_13, mx_14, mx_15, mx_16, mx_17, mx_18, mx_19, mx_20, mx_21, mx_22, mx_23, mx_24, Nat.reduceAdd, Nat.reduceLeDiff, Nat.zero_add, Bool.not_eq_true', decide_eq_false_iff_not, reduceIte, ev_reprb, e]
  have m := fun {a b : Int} (h : Sz 2000 a) (e : Sz 2000 b) => cm3 (h.mono (k := 3000) (by decide)) (e.mono (k := 3000) (by decide))
  exact ⟨m h1.n h2.d, m h2.n h1.d, m h1.d h2.d, .inr ⟨_, _, _, rfl, ddne x y, (h1.d.mul h2.d).mono (by decide), hq⟩⟩
theorem sem_Lfar (e : Φ 6 = sp_Lfrac) : ∀ ds Q, sp_Lfar ds Q → wS Φ rs_Lfar { nx := fun _ => Q (.d .none), rt := Q } (startD ["a"] ds) := by
  rintro ds Q ⟨x, y, rfl, h, hq⟩
  show wS Φ rs_Lfar _ [some (.val (.d (P3 x y)))]
  simp only [rs_Lfar, wS, wE, wA, wT, wI, wO, ev_add, ev_sub, ev_mul, ev_div, ev_mod, ev_pow, ev_cat, ev_lt, ev_le, ev_gt, ev_ge, ev_eq, ev_ne, ev_eqs, ev_nes, ix_F0, ix_F1, ix_J0, ix_J1, ix_P0, ix_P1, ix_P2, ix_t0, ix_t1, ix_t2, ix_l0, ix_l1, ix_l2, tg_1, tg_F, tg_J, tg_P, tg_2, tg_3, tg_4, fold_J, eq_F, ne_F, eq_J, ne_J, eq_P, ne_P, db_, di_, setVals, setAll, datas, itemsD, truD, List.getElem?_cons_zero, List.getElem?_cons_succ, List.set_cons_zero, List.set_cons_succ, Option.map_some, Option.map_none, Option.some.injEq, exists_eq_left', decide_eq_true_eq, Bool.not_true, Bool.not_false, Bool.false_eq_true, if_false, if_true, true_and, and_true, decide_true, decide_false, List.length_cons, List.length_nil, mx_0, mx_1, mx_2, mx_3, mx_4, mx_5, mx_6, mx_7, mx_8, mx_9, mx_10, mx_11, mx_12, mx_13, mx_14, mx_15, mx_16, mx_17, mx_18, mx_19, mx_20, mx_21, mx_22, mx_23, mx_24, Nat.reduceAdd, Nat.reduceLeDiff, Nat.zero_add, Bool.not_eq_true', decide_eq_false_iff_not, reduceIte, ev_reprb, e]
  rw [← divE (pt_pos x y) (pt_x x y)] at hq
  exact ⟨_, _, rfl, Int.ne_of_gt (pt_pos x y), h.c, hq⟩
theorem sem_Lhigh (e : Φ 6 = sp_Lfrac) : ∀ ds Q, sp_Lhigh ds Q → wS Φ rs_Lhigh { nx := fun _ => Q (.d .none), rt := Q } (startD ["a"] ds) := by
  rintro ds Q ⟨x, y, rfl, h, hq⟩
  show wS Φ rs_Lhigh _ [some (.val (.d (P3 x y)))]
  simp only [rs_Lhigh, wS, wE, wA, wT, wI, wO, ev_add, ev_sub, ev_mul, ev_div, ev_mod, ev_pow, ev_cat, ev_lt, ev_le, ev_gt, ev_ge, ev_eq, ev_ne, ev_eqs, ev_nes, ix_F0, ix_F1, ix_J0, ix_J1, ix_P0, ix_P1, ix_P2, ix_t0, ix_t1, ix_t2, ix_l0, ix_l1, ix_l2, tg_1, tg_F, tg_J, tg_P, tg_2, tg_3, tg_4, fold_J, eq_F, ne_F, eq_J, ne_J, eq_P, ne_P, db_, di_, setVals, setAll, datas, itemsD, truD, List.getElem?_cons_zero, List.getElem?_cons_succ, List.set_cons_zero, List.set_cons_succ, Option.map_some, Option.map_none, Option.some.injEq, exists_eq_left', decide_eq_true_eq, Bool.not_true, Bool.not_false, Bool.false_eq_true, if_false, if_true, true_and, and_true, decide_true, decide_false, List.length_cons, List.length_nil, mx_0, mx_1, mx_2, mx_3, mx_4, mx_5, mx_6, mx_7, mx_8, mx_9, mx_10, mx_11, mx_12, mx_13, mx_14, mx_15, mx_16, mx_17, mx_18, mx_19, mx_20, mx_21, mx_22, mx_23, mx_24, Nat.reduceAdd, Nat.reduceLeDiff, Nat.zero_add, Bool.not_eq_true', decide_eq_false_iff_not, reduceIte, ev_reprb, e]
  rw [← divE (pt_pos x y) (pt_y x y)] at hq
  exact ⟨_, _, rfl, Int.ne_of_gt (pt_pos x y), h.c, hq⟩
end
/-! ### jets' numbers -/
def hgt (s b d : Rat) : Rat := s * d - b * (d * d)
def slp (s b d : Rat) : Rat := s - 2 * (b * d)
def hed (s b : Rat) : Rat := (1 + s * s) / (4 * b)
theorem zl0 : Zf 4 0 := ⟨by unfold Sz; decide, by unfold Sz; decide⟩
theorem zl1 : Zf 4 1 := ⟨by unfold Sz; decide, by unfold Sz; decide⟩
theorem zl2 : Zf 4 2 := ⟨by unfold Sz; decide, by unfold Sz; decide⟩
theorem zl3 : Zf 4 3 := ⟨by unfold Sz; decide, by unfold Sz; decide⟩
theorem zl4 : Zf 4 4 := ⟨by unfold Sz; decide, by unfold Sz; decide⟩
theorem zl5 : Zf 4 5 := ⟨by unfold Sz; decide, by unfold Sz; decide⟩
theorem zl7 : Zf 4 7 := ⟨by unfold Sz; decide, by unfold Sz; decide⟩
theorem zf_hgt {i j k : Nat} {s b d : Rat} (h1 : Zf i s) (h2 : Zf j b) (h3 : Zf k d) : Zf (i + k + (j + (k + k)) + 1) (hgt s b d) := (h1.mul h3).sub (h2.mul (h3.mul h3))
theorem zf_slp {i j k : Nat} {s b d : Rat} (h1 : Zf i s) (h2 : Zf j b) (h3 : Zf k d) : Zf (i + (4 + (j + k)) + 1) (slp s b d) := h1.sub (zl2.mul (h2.mul h3))
theorem zf_hed {i j : Nat} {s b : Rat} (h1 : Zf i s) (h2 : Zf j b) : Zf (4 + (i + i) + 1 + (4 + j)) (hed s b) := (zl1.add (h1.mul h1)).div (zl4.mul h2) (by omega)
theorem qF {Q : DV → Prop} {x y : Rat} (e : x = y) (h : Q (.d (F x))) : Q (.d (F y)) := e ▸ h
theorem J_eq {s b s' b' : Rat} : (J s b = J s' b') = (s = s' ∧ b = b') := propext ⟨J_inj, fun h => by rw [h.1, h.2]⟩
theorem P3_eq {s b s' b' : Rat} : (P3 s b = P3 s' b') = (s = s' ∧ b = b') := propext ⟨P3_inj, fun h => by rw [h.1, h.2]⟩
theorem T_eq {a b c a' b' c' : Rat} : (PyData.tuple [F a, F b, F c] = PyData.tuple [F a', F b', F c']) = (a = a' ∧ b = b' ∧ c = c') := by
  simp only [PyData.tuple.injEq, List.cons.injEq, and_true, F_eq]
theorem lit_0 : (PyData.tuple [.int 0, .int 1]) = F 0 := rfl
theorem lit_1 : (PyData.tuple [.int 1, .int 1]) = F 1 := rfl
theorem lit_2 : (PyData.tuple [.int 2, .int 1]) = F 2 := rfl
theorem lit_4 : (PyData.tuple [.int 4, .int 1]) = F 4 := rfl
theorem lit_of {a b : Int} (hb : 0 < b) (h : g2 a b = 1) : (PyData.tuple [.int a, .int b]) = F ((a : Rat) / (b : Rat)) := F_of hb h
theorem lit_12 : (PyData.tuple [.int 1, .int 2]) = F (1 / 2) := by rw [lit_of (by decide) (by decide)]; rfl
theorem lit_14 : (PyData.tuple [.int 1, .int 4]) = F (1 / 4) := by rw [lit_of (by decide) (by decide)]; rfl
theorem lit_13 : (PyData.tuple [.int 1, .int 3]) = F (1 / 3) := by rw [lit_of (by decide) (by decide)]; rfl
theorem lit_23 : (PyData.tuple [.int 2, .int 3]) = F (2 / 3) := by rw [lit_of (by decide) (by decide)]; rfl
theorem lit_72 : (PyData.tuple [.int 7, .int 2]) = F (7 / 2) := by rw [lit_of (by decide) (by decide)]; rfl
theorem lit_m1 : (PyData.tuple [.int (-1), .int 1]) = F (-1) := rfl
theorem lit_m2 : (PyData.tuple [.int (-2), .int 1]) = F (-2) := rfl
theorem lit_m73 : (PyData.tuple [.int (-7), .int 3]) = F (-7 / 3) := by rw [lit_of (by decide) (by decide)]; rfl
/-! is it one -/
def isW : PyData → Bool
  | .int _ => true
  | _ => false
def isF : PyData → Bool
  | .tuple [.int a, .int b] => decide (0 < b) && decide (g2 a b = 1)
  | _ => false
def isP : PyData → Bool
  | .tuple [.int a, .int b, .int c] => decide (0 < c) && decide (g3 a b c = 1)
  | _ => false
def isPl : PyData → Bool
  | .tuple [.int a, .int b, .int c] => decide (0 < c) && decide (g3 a b c = 1) && decide (0 < a)
  | _ => false
def topPos : PyData → Bool
  | .tuple (.int n :: _) => decide (0 < n)
  | _ => false
def isJ : PyData → Bool
  | .tuple [s, b] => isF s && (isF b && topPos b)
  | _ => false
theorem isF_F (q : Rat) : isF (F q) = true := by
  unfold F isF
  simp [q.den_pos, g2_rat q]
theorem isP_P (x y : Rat) : isP (P3 x y) = true := by
  unfold P3 isP
  simp [pt_pos x y, pt_cop x y]
theorem isPl_P (x y : Rat) : isPl (P3 x y) = decide (0 < x) := by
  unfold P3 isPl
  simp [pt_pos x y, pt_cop x y, pt_x0]
theorem topPos_F (q : Rat) : topPos (F q) = decide (0 < q) := by
  unfold F topPos
  simp [num_pos]
theorem isJ_J (s b : Rat) : isJ (J s b) = decide (0 < b) := by
  show (isF (F s) && (isF (F b) && topPos (F b))) = _
  rw [isF_F, isF_F, topPos_F]
  simp
theorem isF_ex {x : PyData} (h : isF x = true) : ∃ q, x = F q := by
  unfold isF at h
  split at h
  · simp only [Bool.and_eq_true, decide_eq_true_eq] at h
    exact ⟨_, F_of h.1 h.2⟩
  · cases h
theorem isJ_ex {x : PyData} (h : isJ x = true) : ∃ s b, x = J s b ∧ 0 < b := by
  unfold isJ at h
  split at h
  · rename_i u v
    simp only [Bool.and_eq_true] at h
    obtain ⟨h1, h2, h3⟩ := h
    obtain ⟨s, rfl⟩ := isF_ex h1
    obtain ⟨b, rfl⟩ := isF_ex h2
    rw [topPos_F, decide_eq_true_eq] at h3
    exact ⟨s, b, rfl, h3⟩
  · cases h
theorem isP_ex {x : PyData} (h : isP x = true) : ∃ u v, x = P3 u v := by
  unfold isP at h
  split at h
  · simp only [Bool.and_eq_true, decide_eq_true_eq] at h
    exact ⟨_, _, P3_of h.1 h.2⟩
  · cases h
theorem isPl_ex {x : PyData} (h : isPl x = true) : ∃ u v, x = P3 u v ∧ 0 < u := by
  have h' := h
  unfold isPl at h'
  split at h'
  · simp only [Bool.and_eq_true, decide_eq_true_eq] at h'
    have e := P3_of h'.1.1 h'.1.2
    rw [e, isPl_P, decide_eq_true_eq] at h
    exact ⟨_, _, e, h⟩
  · cases h'
local macro_rules | `(tactic| walk_at "szc") => `(tactic| first
  | assumption
  | exact zl0 | exact zl1 | exact zl2 | exact zl3 | exact zl4 | exact zl5 | exact zl7
  | exact Zf.add (by walk_at "szc") (by walk_at "szc")
  | exact Zf.sub (by walk_at "szc") (by walk_at "szc")
  | exact Zf.mul (by walk_at "szc") (by walk_at "szc")
  | exact Zf.neg (by walk_at "szc")
  | exact Zf.div (by walk_at "szc") (by walk_at "szc") (by decide)
  | exact zf_hgt (by walk_at "szc") (by walk_at "szc") (by walk_at "szc")
  | exact zf_slp (by walk_at "szc") (by walk_at "szc") (by walk_at "szc")
  | exact zf_hed (by walk_at "szc") (by walk_at "szc"))
local macro_rules | `(tactic| walk_at "sz") => `(tactic| first
  | exact Zf.mono (by walk_at "szc") (by decide)
  | exact Zp.mono (Zf.pt (by walk_at "szc") (by walk_at "szc")) (by decide))
local macro_rules | `(tactic| walk_at "fin") => `(tactic| first
  | assumption
  | (refine And.intro ?_ ?_ <;> walk_at "fin")
  | walk_at "sz"
  | (refine qF ?_ (by assumption); grind [hgt, slp, hed])
  | skip)
def sp_is_whole : PSp := fun ds Q => ∃ x, ds = [.d x] ∧ Q (.d (.bool (isW x)))
theorem ap_is_whole {Q : DV → Prop} {x : PyData} : sp_is_whole [DV.d x] Q = (Q (DV.d (.bool (isW x)))) := propext ⟨fun ⟨_, e, r⟩ => by
  simp only [List.cons.injEq, DV.d.injEq, and_true, true_and, F_eq, J_eq, P3_eq, T_eq, PyData.int.injEq, PyData.str.injEq, PyData.list.injEq, PyData.tuple.injEq] at e
  obtain rfl := e
  exact r, fun r => ⟨_, rfl, r⟩⟩
def sp_is_fraction : PSp := fun ds Q => ∃ x, ds = [.d x] ∧ Q (.d (.bool (isF x)))
theorem ap_is_fraction {Q : DV → Prop} {x : PyData} : sp_is_fraction [DV.d x] Q = (Q (DV.d (.bool (isF x)))) := propext ⟨fun ⟨_, e, r⟩ => by
  simp only [List.cons.injEq, DV.d.injEq, and_true, true_and, F_eq, J_eq, P3_eq, T_eq, PyData.int.injEq, PyData.str.injEq, PyData.list.injEq, PyData.tuple.injEq] at e
  obtain rfl := e
  exact r, fun r => ⟨_, rfl, r⟩⟩
def sp_is_point : PSp := fun ds Q => ∃ x, ds = [.d x] ∧ Q (.d (.bool (isP x)))
theorem ap_is_point {Q : DV → Prop} {x : PyData} : sp_is_point [DV.d x] Q = (Q (DV.d (.bool (isP x)))) := propext ⟨fun ⟨_, e, r⟩ => by
  simp only [List.cons.injEq, DV.d.injEq, and_true, true_and, F_eq, J_eq, P3_eq, T_eq, PyData.int.injEq, PyData.str.injEq, PyData.list.injEq, PyData.tuple.injEq] at e
  obtain rfl := e
  exact r, fun r => ⟨_, rfl, r⟩⟩
def sp_is_place : PSp := fun ds Q => ∃ x, ds = [.d x] ∧ Q (.d (.bool (isPl x)))
theorem ap_is_place {Q : DV → Prop} {x : PyData} : sp_is_place [DV.d x] Q = (Q (DV.d (.bool (isPl x)))) := propext ⟨fun ⟨_, e, r⟩ => by
  simp only [List.cons.injEq, DV.d.injEq, and_true, true_and, F_eq, J_eq, P3_eq, T_eq, PyData.int.injEq, PyData.str.injEq, PyData.list.injEq, PyData.tuple.injEq] at e
  obtain rfl := e
  exact r, fun r => ⟨_, rfl, r⟩⟩
def sp_is_jet : PSp := fun ds Q => ∃ x, ds = [.d x] ∧ Q (.d (.bool (isJ x)))
theorem ap_is_jet {Q : DV → Prop} {x : PyData} : sp_is_jet [DV.d x] Q = (Q (DV.d (.bool (isJ x)))) := propext ⟨fun ⟨_, e, r⟩ => by
  simp only [List.cons.injEq, DV.d.injEq, and_true, true_and, F_eq, J_eq, P3_eq, T_eq, PyData.int.injEq, PyData.str.injEq, PyData.list.injEq, PyData.tuple.injEq] at e
  obtain rfl := e
  exact r, fun r => ⟨_, rfl, r⟩⟩
def sp_check_fraction : PSp := fun ds Q => ∃ x, ds = [.d x] ∧ isF x = true ∧ Q (.d (.none))
theorem ap_check_fraction {Q : DV → Prop} {x : PyData} : sp_check_fraction [DV.d x] Q = (isF x = true ∧ Q (DV.d (.none))) := propext ⟨fun ⟨_, e, r⟩ => by
  simp only [List.cons.injEq, DV.d.injEq, and_true, true_and, F_eq, J_eq, P3_eq, T_eq, PyData.int.injEq, PyData.str.injEq, PyData.list.injEq, PyData.tuple.injEq] at e
  obtain rfl := e
  exact r, fun r => ⟨_, rfl, r⟩⟩
def sp_check_point : PSp := fun ds Q => ∃ x, ds = [.d x] ∧ isP x = true ∧ Q (.d (.none))
theorem ap_check_point {Q : DV → Prop} {x : PyData} : sp_check_point [DV.d x] Q = (isP x = true ∧ Q (DV.d (.none))) := propext ⟨fun ⟨_, e, r⟩ => by
  simp only [List.cons.injEq, DV.d.injEq, and_true, true_and, F_eq, J_eq, P3_eq, T_eq, PyData.int.injEq, PyData.str.injEq, PyData.list.injEq, PyData.tuple.injEq] at e
  obtain rfl := e
  exact r, fun r => ⟨_, rfl, r⟩⟩
def sp_check_place : PSp := fun ds Q => ∃ x, ds = [.d x] ∧ isPl x = true ∧ Q (.d (.none))
theorem ap_check_place {Q : DV → Prop} {x : PyData} : sp_check_place [DV.d x] Q = (isPl x = true ∧ Q (DV.d (.none))) := propext ⟨fun ⟨_, e, r⟩ => by
  simp only [List.cons.injEq, DV.d.injEq, and_true, true_and, F_eq, J_eq, P3_eq, T_eq, PyData.int.injEq, PyData.str.injEq, PyData.list.injEq, PyData.tuple.injEq] at e
  obtain rfl := e
  exact r, fun r => ⟨_, rfl, r⟩⟩
def sp_check_jet : PSp := fun ds Q => ∃ x, ds = [.d x] ∧ isJ x = true ∧ Q (.d (.none))
theorem ap_check_jet {Q : DV → Prop} {x : PyData} : sp_check_jet [DV.d x] Q = (isJ x = true ∧ Q (DV.d (.none))) := propext ⟨fun ⟨_, e, r⟩ => by
  simp only [List.cons.injEq, DV.d.injEq, and_true, true_and, F_eq, J_eq, P3_eq, T_eq, PyData.int.injEq, PyData.str.injEq, PyData.list.injEq, PyData.tuple.injEq] at e
  obtain rfl := e
  exact r, fun r => ⟨_, rfl, r⟩⟩
def sp_check_distance : PSp := fun ds Q => ∃ d, ds = [.d (F d)] ∧ 0 < d ∧ Q (.d (.none))
theorem ap_check_distance {Q : DV → Prop} {d : Rat} : sp_check_distance [DV.d (F d)] Q = (0 < d ∧ Q (DV.d (.none))) := propext ⟨fun ⟨_, e, r⟩ => by
  simp only [List.cons.injEq, DV.d.injEq, and_true, true_and, F_eq, J_eq, P3_eq, T_eq, PyData.int.injEq, PyData.str.injEq, PyData.list.injEq, PyData.tuple.injEq] at e
  obtain rfl := e
  exact r, fun r => ⟨_, rfl, r⟩⟩
def sp_check_distance_or_zero : PSp := fun ds Q => ∃ d, ds = [.d (F d)] ∧ 0 ≤ d ∧ Q (.d (.none))
theorem ap_check_distance_or_zero {Q : DV → Prop} {d : Rat} : sp_check_distance_or_zero [DV.d (F d)] Q = (0 ≤ d ∧ Q (DV.d (.none))) := propext ⟨fun ⟨_, e, r⟩ => by
  simp only [List.cons.injEq, DV.d.injEq, and_true, true_and, F_eq, J_eq, P3_eq, T_eq, PyData.int.injEq, PyData.str.injEq, PyData.list.injEq, PyData.tuple.injEq] at e
  obtain rfl := e
  exact r, fun r => ⟨_, rfl, r⟩⟩
def sp_check_above_zero : PSp := fun ds Q => ∃ d, ds = [.d (F d)] ∧ 0 < d ∧ Q (.d (.none))
theorem ap_check_above_zero {Q : DV → Prop} {d : Rat} : sp_check_above_zero [DV.d (F d)] Q = (0 < d ∧ Q (DV.d (.none))) := propext ⟨fun ⟨_, e, r⟩ => by
  simp only [List.cons.injEq, DV.d.injEq, and_true, true_and, F_eq, J_eq, P3_eq, T_eq, PyData.int.injEq, PyData.str.injEq, PyData.list.injEq, PyData.tuple.injEq] at e
  obtain rfl := e
  exact r, fun r => ⟨_, rfl, r⟩⟩
def sp_plus : PSp := fun ds Q => ∃ x y, ds = [.d (F x), .d (F y)] ∧ Zf 3000 x ∧ Zf 3000 y ∧ Q (.d (F (x + y)))
theorem ap_plus {Q : DV → Prop} {x : Rat} {y : Rat} : sp_plus [DV.d (F x), DV.d (F y)] Q = (Zf 3000 x ∧ Zf 3000 y ∧ Q (DV.d (F (x + y)))) := propext ⟨fun ⟨_, _, e, r⟩ => by
  simp only [List.cons.injEq, DV.d.injEq, and_true, true_and, F_eq, J_eq, P3_eq, T_eq, PyData.int.injEq, PyData.str.injEq, PyData.list.injEq, PyData.tuple.injEq] at e
  obtain ⟨rfl, rfl⟩ := e
  exact r, fun r => ⟨_, _, rfl, r⟩⟩
def sp_pminus : PSp := fun ds Q => ∃ x y, ds = [.d (F x), .d (F y)] ∧ Zf 3000 x ∧ Zf 3000 y ∧ Q (.d (F (x - y)))
theorem ap_pminus {Q : DV → Prop} {x : Rat} {y : Rat} : sp_pminus [DV.d (F x), DV.d (F y)] Q = (Zf 3000 x ∧ Zf 3000 y ∧ Q (DV.d (F (x - y)))) := propext ⟨fun ⟨_, _, e, r⟩ => by
  simp only [List.cons.injEq, DV.d.injEq, and_true, true_and, F_eq, J_eq, P3_eq, T_eq, PyData.int.injEq, PyData.str.injEq, PyData.list.injEq, PyData.tuple.injEq] at e
  obtain ⟨rfl, rfl⟩ := e
  exact r, fun r => ⟨_, _, rfl, r⟩⟩
def sp_times : PSp := fun ds Q => ∃ x y, ds = [.d (F x), .d (F y)] ∧ Zf 3000 x ∧ Zf 3000 y ∧ Q (.d (F (x * y)))
theorem ap_times {Q : DV → Prop} {x : Rat} {y : Rat} : sp_times [DV.d (F x), DV.d (F y)] Q = (Zf 3000 x ∧ Zf 3000 y ∧ Q (DV.d (F (x * y)))) := propext ⟨fun ⟨_, _, e, r⟩ => by
  simp only [List.cons.injEq, DV.d.injEq, and_true, true_and, F_eq, J_eq, P3_eq, T_eq, PyData.int.injEq, PyData.str.injEq, PyData.list.injEq, PyData.tuple.injEq] at e
  obtain ⟨rfl, rfl⟩ := e
  exact r, fun r => ⟨_, _, rfl, r⟩⟩
def sp_quotient : PSp := fun ds Q => ∃ x y, ds = [.d (F x), .d (F y)] ∧ y ≠ 0 ∧ Zf 3000 x ∧ Zf 3000 y ∧ Q (.d (F (x / y)))
theorem ap_quotient {Q : DV → Prop} {x : Rat} {y : Rat} : sp_quotient [DV.d (F x), DV.d (F y)] Q = (y ≠ 0 ∧ Zf 3000 x ∧ Zf 3000 y ∧ Q (DV.d (F (x / y)))) := propext ⟨fun ⟨_, _, e, r⟩ => by
  simp only [List.cons.injEq, DV.d.injEq, and_true, true_and, F_eq, J_eq, P3_eq, T_eq, PyData.int.injEq, PyData.str.injEq, PyData.list.injEq, PyData.tuple.injEq] at e
  obtain ⟨rfl, rfl⟩ := e
  exact r, fun r => ⟨_, _, rfl, r⟩⟩
def sp_negative : PSp := fun ds Q => ∃ x, ds = [.d (F x)] ∧ Q (.d (F (-x)))
theorem ap_negative {Q : DV → Prop} {x : Rat} : sp_negative [DV.d (F x)] Q = (Q (DV.d (F (-x)))) := propext ⟨fun ⟨_, e, r⟩ => by
  simp only [List.cons.injEq, DV.d.injEq, and_true, true_and, F_eq, J_eq, P3_eq, T_eq, PyData.int.injEq, PyData.str.injEq, PyData.list.injEq, PyData.tuple.injEq] at e
  obtain rfl := e
  exact r, fun r => ⟨_, rfl, r⟩⟩
def sp_is_below : PSp := fun ds Q => ∃ x y, ds = [.d (F x), .d (F y)] ∧ Zf 3000 x ∧ Zf 3000 y ∧ Q (.d (.bool (decide (x < y))))
theorem ap_is_below {Q : DV → Prop} {x : Rat} {y : Rat} : sp_is_below [DV.d (F x), DV.d (F y)] Q = (Zf 3000 x ∧ Zf 3000 y ∧ Q (DV.d (.bool (decide (x < y))))) := propext ⟨fun ⟨_, _, e, r⟩ => by
  simp only [List.cons.injEq, DV.d.injEq, and_true, true_and, F_eq, J_eq, P3_eq, T_eq, PyData.int.injEq, PyData.str.injEq, PyData.list.injEq, PyData.tuple.injEq] at e
  obtain ⟨rfl, rfl⟩ := e
  exact r, fun r => ⟨_, _, rfl, r⟩⟩
def sp_value_at : PSp := fun ds Q => ∃ a b c x, ds = [.d (.tuple [F a, F b, F c]), .d (F x)] ∧ Zf 1500 a ∧ Zf 900 b ∧ Zf 700 c ∧ Zf 300 x ∧ Q (.d (F (a + x * (b + c * x))))
theorem ap_value_at {Q : DV → Prop} {a : Rat} {b : Rat} {c : Rat} {x : Rat} : sp_value_at [DV.d (.tuple [F a, F b, F c]), DV.d (F x)] Q = (Zf 1500 a ∧ Zf 900 b ∧ Zf 700 c ∧ Zf 300 x ∧ Q (DV.d (F (a + x * (b + c * x))))) := propext ⟨fun ⟨_, _, _, _, e, r⟩ => by
  simp only [List.cons.injEq, DV.d.injEq, and_true, true_and, F_eq, J_eq, P3_eq, T_eq, PyData.int.injEq, PyData.str.injEq, PyData.list.injEq, PyData.tuple.injEq] at e
  obtain ⟨⟨rfl, rfl, rfl⟩, rfl⟩ := e
  exact r, fun r => ⟨_, _, _, _, rfl, r⟩⟩
def sp_height_at : PSp := fun ds Q => ∃ s b d, ds = [.d (J s b), .d (F d)] ∧ 0 < b ∧ 0 ≤ d ∧ Zf 900 s ∧ Zf 700 b ∧ Zf 300 d ∧ Q (.d (F (hgt s b d)))
theorem ap_height_at {Q : DV → Prop} {s : Rat} {b : Rat} {d : Rat} : sp_height_at [DV.d (J s b), DV.d (F d)] Q = (0 < b ∧ 0 ≤ d ∧ Zf 900 s ∧ Zf 700 b ∧ Zf 300 d ∧ Q (DV.d (F (hgt s b d)))) := propext ⟨fun ⟨_, _, _, e, r⟩ => by
  simp only [List.cons.injEq, DV.d.injEq, and_true, true_and, F_eq, J_eq, P3_eq, T_eq, PyData.int.injEq, PyData.str.injEq, PyData.list.injEq, PyData.tuple.injEq] at e
  obtain ⟨⟨rfl, rfl⟩, rfl⟩ := e
  exact r, fun r => ⟨_, _, _, rfl, r⟩⟩
def sp_slope_at : PSp := fun ds Q => ∃ s b d, ds = [.d (J s b), .d (F d)] ∧ 0 < b ∧ 0 ≤ d ∧ Zf 700 s ∧ Zf 700 b ∧ Zf 700 d ∧ Q (.d (F (slp s b d)))
theorem ap_slope_at {Q : DV → Prop} {s : Rat} {b : Rat} {d : Rat} : sp_slope_at [DV.d (J s b), DV.d (F d)] Q = (0 < b ∧ 0 ≤ d ∧ Zf 700 s ∧ Zf 700 b ∧ Zf 700 d ∧ Q (DV.d (F (slp s b d)))) := propext ⟨fun ⟨_, _, _, e, r⟩ => by
  simp only [List.cons.injEq, DV.d.injEq, and_true, true_and, F_eq, J_eq, P3_eq, T_eq, PyData.int.injEq, PyData.str.injEq, PyData.list.injEq, PyData.tuple.injEq] at e
  obtain ⟨⟨rfl, rfl⟩, rfl⟩ := e
  exact r, fun r => ⟨_, _, _, rfl, r⟩⟩
def sp_time_square : PSp := fun ds Q => ∃ s b d, ds = [.d (J s b), .d (F d)] ∧ 0 < b ∧ 0 ≤ d ∧ Zf 700 b ∧ Zf 700 d ∧ Q (.d (F (b * (d * d))))
theorem ap_time_square {Q : DV → Prop} {s : Rat} {b : Rat} {d : Rat} : sp_time_square [DV.d (J s b), DV.d (F d)] Q = (0 < b ∧ 0 ≤ d ∧ Zf 700 b ∧ Zf 700 d ∧ Q (DV.d (F (b * (d * d))))) := propext ⟨fun ⟨_, _, _, e, r⟩ => by
  simp only [List.cons.injEq, DV.d.injEq, and_true, true_and, F_eq, J_eq, P3_eq, T_eq, PyData.int.injEq, PyData.str.injEq, PyData.list.injEq, PyData.tuple.injEq] at e
  obtain ⟨⟨rfl, rfl⟩, rfl⟩ := e
  exact r, fun r => ⟨_, _, _, rfl, r⟩⟩
def sp_head_of : PSp := fun ds Q => ∃ s b, ds = [.d (J s b)] ∧ 0 < b ∧ Zf 700 s ∧ Zf 700 b ∧ Q (.d (F (hed s b)))
theorem ap_head_of {Q : DV → Prop} {s : Rat} {b : Rat} : sp_head_of [DV.d (J s b)] Q = (0 < b ∧ Zf 700 s ∧ Zf 700 b ∧ Q (DV.d (F (hed s b)))) := propext ⟨fun ⟨_, _, e, r⟩ => by
  simp only [List.cons.injEq, DV.d.injEq, and_true, true_and, F_eq, J_eq, P3_eq, T_eq, PyData.int.injEq, PyData.str.injEq, PyData.list.injEq, PyData.tuple.injEq] at e
  obtain ⟨rfl, rfl⟩ := e
  exact r, fun r => ⟨_, _, rfl, r⟩⟩
def sp_head_left : PSp := fun ds Q => ∃ s b d, ds = [.d (J s b), .d (F d)] ∧ 0 < b ∧ 0 ≤ d ∧ Zf 300 s ∧ Zf 300 b ∧ Zf 300 d ∧ Q (.d (F (hed s b - hgt s b d)))
theorem ap_head_left {Q : DV → Prop} {s : Rat} {b : Rat} {d : Rat} : sp_head_left [DV.d (J s b), DV.d (F d)] Q = (0 < b ∧ 0 ≤ d ∧ Zf 300 s ∧ Zf 300 b ∧ Zf 300 d ∧ Q (DV.d (F (hed s b - hgt s b d)))) := propext ⟨fun ⟨_, _, _, e, r⟩ => by
  simp only [List.cons.injEq, DV.d.injEq, and_true, true_and, F_eq, J_eq, P3_eq, T_eq, PyData.int.injEq, PyData.str.injEq, PyData.list.injEq, PyData.tuple.injEq] at e
  obtain ⟨⟨rfl, rfl⟩, rfl⟩ := e
  exact r, fun r => ⟨_, _, _, rfl, r⟩⟩
def sp_distance_of : PSp := fun ds Q => ∃ x y, ds = [.d (P3 x y)] ∧ 0 < x ∧ Zp 8000 x y ∧ Q (.d (F x))
theorem ap_distance_of {Q : DV → Prop} {x : Rat} {y : Rat} : sp_distance_of [DV.d (P3 x y)] Q = (0 < x ∧ Zp 8000 x y ∧ Q (DV.d (F x))) := propext ⟨fun ⟨_, _, e, r⟩ => by
  simp only [List.cons.injEq, DV.d.injEq, and_true, true_and, F_eq, J_eq, P3_eq, T_eq, PyData.int.injEq, PyData.str.injEq, PyData.list.injEq, PyData.tuple.injEq] at e
  obtain ⟨rfl, rfl⟩ := e
  exact r, fun r => ⟨_, _, rfl, r⟩⟩
def sp_height_of : PSp := fun ds Q => ∃ x y, ds = [.d (P3 x y)] ∧ 0 < x ∧ Zp 8000 x y ∧ Q (.d (F y))
theorem ap_height_of {Q : DV → Prop} {x : Rat} {y : Rat} : sp_height_of [DV.d (P3 x y)] Q = (0 < x ∧ Zp 8000 x y ∧ Q (DV.d (F y))) := propext ⟨fun ⟨_, _, e, r⟩ => by
  simp only [List.cons.injEq, DV.d.injEq, and_true, true_and, F_eq, J_eq, P3_eq, T_eq, PyData.int.injEq, PyData.str.injEq, PyData.list.injEq, PyData.tuple.injEq] at e
  obtain ⟨rfl, rfl⟩ := e
  exact r, fun r => ⟨_, _, rfl, r⟩⟩
def sp_place_of : PSp := fun ds Q => ∃ x y, ds = [.d (F x), .d (F y)] ∧ 0 < x ∧ Zf 2000 x ∧ Zf 2000 y ∧ Q (.d (P3 x y))
theorem ap_place_of {Q : DV → Prop} {x : Rat} {y : Rat} : sp_place_of [DV.d (F x), DV.d (F y)] Q = (0 < x ∧ Zf 2000 x ∧ Zf 2000 y ∧ Q (DV.d (P3 x y))) := propext ⟨fun ⟨_, _, e, r⟩ => by
  simp only [List.cons.injEq, DV.d.injEq, and_true, true_and, F_eq, J_eq, P3_eq, T_eq, PyData.int.injEq, PyData.str.injEq, PyData.list.injEq, PyData.tuple.injEq] at e
  obtain ⟨rfl, rfl⟩ := e
  exact r, fun r => ⟨_, _, rfl, r⟩⟩

def sp_reduced : PSp := fun ds Q => ∃ a b, ds = [.d (.int a), .d (.int b)] ∧ 0 < b ∧ Sz 8000 b ∧ Q (.d (.tuple [.int (rd a b).1, .int (rd a b).2]))
theorem ap_reduced {Q : DV → Prop} {a b : Int} : sp_reduced [DV.d (.int a), DV.d (.int b)] Q = (0 < b ∧ Sz 8000 b ∧ Q (.d (.tuple [.int (rd a b).1, .int (rd a b).2]))) := propext ⟨fun ⟨_, _, e, r⟩ => by
  simp only [List.cons.injEq, DV.d.injEq, and_true, PyData.int.injEq] at e
  obtain ⟨rfl, rfl⟩ := e
  exact r, fun r => ⟨_, _, rfl, r⟩⟩
def sp_reduced_point : PSp := fun ds Q => ∃ a b c, ds = [.d (.int a), .d (.int b), .d (.int c)] ∧ 0 < c ∧ Sz 8000 c ∧ Q (.d (.tuple [.int (rt a b c).1, .int (rt a b c).2.1, .int (rt a b c).2.2]))
theorem ap_reduced_point {Q : DV → Prop} {a b c : Int} : sp_reduced_point [DV.d (.int a), DV.d (.int b), DV.d (.int c)] Q = (0 < c ∧ Sz 8000 c ∧ Q (.d (.tuple [.int (rt a b c).1, .int (rt a b c).2.1, .int (rt a b c).2.2]))) := propext ⟨fun ⟨_, _, _, e, r⟩ => by
  simp only [List.cons.injEq, DV.d.injEq, and_true, PyData.int.injEq] at e
  obtain ⟨rfl, rfl, rfl⟩ := e
  exact r, fun r => ⟨_, _, _, rfl, r⟩⟩
section
variable {Φ : Nat → PSp}
theorem sem_reduced_point : ∀ ds Q, sp_reduced_point ds Q → wS Φ rs_reduced_point { nx := fun _ => Q (.d .none), rt := Q } (startD ["a", "b", "c", "d"] ds) := by
  rintro ds Q ⟨a, b, c, rfl, h1, h2, hq⟩
  show wS Φ rs_reduced_point _ [some (.val (I a)), some (.val (I b)), some (.val (I c)), none]
  simp only [rs_reduced_point, wS, wE, wA, wT, wI, wO, wTg, wIdx, wSlc, wBin, wCmp, wBi, wIsi, tyD, dbool, dint, setVals, setAll, datas, itemsD, truD, List.getElem?_cons_zero, List.getElem?_cons_succ, List.set_cons_zero, List.set_cons_succ, Option.map_some, Option.map_none]
  have hp : 0 < g3 a b c := g3_pos (Int.ne_of_gt h1)
  have hs : Sz 8000 (g3 a b c) := h2.le (g3_le (Int.ne_of_gt h1))
  exact ⟨cdiv hp hs (by decide) (by decide), cdiv hp hs (by decide) (by decide), cdiv hp hs (by decide) (by decide), _, rfl, by simp [mx], hq⟩
theorem sem_reduced : ∀ ds Q, sp_reduced ds Q → wS Φ rs_reduced { nx := fun _ => Q (.d .none), rt := Q } (startD ["a", "b", "c"] ds) := by
  rintro ds Q ⟨a, b, rfl, h1, h2, hq⟩
  show wS Φ rs_reduced _ [some (.val (I a)), some (.val (I b)), none]
  simp only [rs_reduced, wS, wE, wA, wT, wI, wO, wTg, wIdx, wSlc, wBin, wCmp, wBi, wIsi, tyD, dbool, dint, setVals, setAll, datas, itemsD, truD, List.getElem?_cons_zero, List.getElem?_cons_succ, List.set_cons_zero, List.set_cons_succ, Option.map_some, Option.map_none]
  have hp : 0 < g2 a b := g2_pos (Int.ne_of_gt h1)
  have hs : Sz 8000 (g2 a b) := h2.le (g2_le (Int.ne_of_gt h1))
  exact ⟨cdiv hp hs (by decide) (by decide), cdiv hp hs (by decide) (by decide), _, rfl, by simp [mx], hq⟩
end
section
variable {Φ : Nat → PSp}
theorem sem_is_whole : ∀ ds Q, sp_is_whole ds Q → wS Φ rs_is_whole { nx := fun _ => Q (.d .none), rt := Q } (startD ["x0"] ds) := by
  rintro ds Q ⟨x, rfl, hq⟩
  show wS Φ rs_is_whole _ [some (.val (.d x))]
  cases x
  all_goals
    simp only [rs_is_whole, wS, wE, wA, wT, wI, wO, wTg, wIdx, wSlc, wBin, wCmp, wBi, wIsi, tyD, dbool, dint, setVals, setAll, datas, itemsD, truD, List.getElem?_cons_zero, List.getElem?_cons_succ, List.set_cons_zero, List.set_cons_succ, Option.map_some, Option.map_none, kitB]
    first
      | exact ⟨_, rfl, ⟨_, rfl, hq⟩⟩
      | exact ⟨_, rfl, hq⟩
theorem isF_len {xs : List PyData} (h : xs.length ≠ 2) : isF (.tuple xs) = false := by
  unfold isF
  split
  · rename_i he
    cases he
    exact absurd rfl h
  · rfl
theorem isP_len {xs : List PyData} (h : xs.length ≠ 3) : isP (.tuple xs) = false := by
  unfold isP
  split
  · rename_i he
    cases he
    exact absurd rfl h
  · rfl
theorem isJ_len {xs : List PyData} (h : xs.length ≠ 2) : isJ (.tuple xs) = false := by
  unfold isJ
  split
  · rename_i he
    cases he
    exact absurd rfl h
  · rfl
theorem isPl_of (x : PyData) : isPl x = (isP x && topPos x) := by
  unfold isPl isP topPos
  split <;> rfl
theorem sem_is_fraction (e_is_whole : Φ 10 = sp_is_whole) : ∀ ds Q, sp_is_fraction ds Q → wS Φ rs_is_fraction { nx := fun _ => Q (.d .none), rt := Q } (startD ["x0", "x1", "x2"] ds) := by
  rintro ds Q ⟨x, rfl, hq⟩
  show wS Φ rs_is_fraction _ [some (.val (.d x)), none, none]
  cases x with
  | tuple xs =>
    rcases xs with _ | ⟨u, _ | ⟨l, _ | ⟨m, r⟩⟩⟩
    · simp only [rs_is_fraction, wS, wE, wA, wT, wI, wO, wTg, wIdx, wSlc, wBin, wCmp, wBi, wIsi, tyD, dbool, dint, setVals, setAll, datas, itemsD, truD, List.getElem?_cons_zero, List.getElem?_cons_succ, List.set_cons_zero, List.set_cons_succ, Option.map_some, Option.map_none, kitB, e_is_whole, ap_is_whole]
      refine ⟨_, rfl, _, rfl, _, rfl, ?_⟩
      rw [if_pos (by simp)]
      rw [isF_len (by simp)] at hq
      exact hq
    · simp only [rs_is_fraction, wS, wE, wA, wT, wI, wO, wTg, wIdx, wSlc, wBin, wCmp, wBi, wIsi, tyD, dbool, dint, setVals, setAll, datas, itemsD, truD, List.getElem?_cons_zero, List.getElem?_cons_succ, List.set_cons_zero, List.set_cons_succ, Option.map_some, Option.map_none, kitB, e_is_whole, ap_is_whole]
      refine ⟨_, rfl, _, rfl, _, rfl, ?_⟩
      rw [if_pos (by simp)]
      rw [isF_len (by simp)] at hq
      exact hq
    · simp only [rs_is_fraction, wS, wE, wA, wT, wI, wO, wTg, wIdx, wSlc, wBin, wCmp, wBi, wIsi, tyD, dbool, dint, setVals, setAll, datas, itemsD, truD, List.getElem?_cons_zero, List.getElem?_cons_succ, List.set_cons_zero, List.set_cons_succ, Option.map_some, Option.map_none, kitB, e_is_whole, ap_is_whole]
      refine ⟨_, rfl, _, rfl, _, rfl, rfl, ?_⟩
      cases u with
      | int z =>
        refine ⟨_, rfl, ?_⟩
        cases l with
        | int w =>
          refine ⟨_, rfl, ?_⟩
          simp only [isW, isF] at hq ⊢
          simp only [Bool.not_true, Bool.false_eq_true, if_false, wS, wE, wA, wT, wI, wO, wTg, wIdx, wSlc, wBin, wCmp, wBi, wIsi, tyD, dbool, dint, setVals, setAll, datas, itemsD, truD, List.getElem?_cons_zero, List.getElem?_cons_succ, List.set_cons_zero, List.set_cons_succ, Option.map_some, Option.map_none]
          by_cases h : 0 < w
          · simp only [h, decide_true, if_true, wS, wE, wA, wT, wI, wO, wTg, wIdx, wSlc, wBin, wCmp, wBi, wIsi, tyD, dbool, dint, setVals, setAll, datas, itemsD, truD, List.getElem?_cons_zero, List.getElem?_cons_succ, List.set_cons_zero, List.set_cons_succ, Option.map_some, Option.map_none, Bool.true_and] at hq ⊢
            exact hq
          · simp only [h, decide_false, if_false, wS, wE, wA, wT, wI, wO, wTg, wIdx, wSlc, wBin, wCmp, wBi, wIsi, tyD, dbool, dint, setVals, setAll, datas, itemsD, truD, List.getElem?_cons_zero, List.getElem?_cons_succ, List.set_cons_zero, List.set_cons_succ, Option.map_some, Option.map_none, Bool.false_and, Bool.false_eq_true] at hq ⊢
            exact hq
        | _ => exact ⟨_, rfl, hq⟩
      | _ => exact ⟨_, rfl, hq⟩
    · simp only [rs_is_fraction, wS, wE, wA, wT, wI, wO, wTg, wIdx, wSlc, wBin, wCmp, wBi, wIsi, tyD, dbool, dint, setVals, setAll, datas, itemsD, truD, List.getElem?_cons_zero, List.getElem?_cons_succ, List.set_cons_zero, List.set_cons_succ, Option.map_some, Option.map_none, kitB, e_is_whole, ap_is_whole]
      refine ⟨_, rfl, _, rfl, _, rfl, ?_⟩
      have : (!decide (((List.length (u :: l :: m :: r) : Nat) : Int) = 2)) = true := by
        simp only [List.length_cons, Bool.not_eq_true', decide_eq_false_iff_not]
        omega
      rw [if_pos this]
      rw [isF_len (by simp)] at hq
      exact hq
  | _ =>
    simp only [rs_is_fraction, wS, wE, wA, wT, wI, wO, wTg, wIdx, wSlc, wBin, wCmp, wBi, wIsi, tyD, dbool, dint, setVals, setAll, datas, itemsD, truD, List.getElem?_cons_zero, List.getElem?_cons_succ, List.set_cons_zero, List.set_cons_succ, Option.map_some, Option.map_none, kitB, e_is_whole, ap_is_whole]
    exact ⟨_, rfl, _, rfl, hq⟩
theorem sem_is_jet (e_is_fraction : Φ 11 = sp_is_fraction) : ∀ ds Q, sp_is_jet ds Q → wS Φ rs_is_jet { nx := fun _ => Q (.d .none), rt := Q } (startD ["x0", "x1", "x2"] ds) := by
  rintro ds Q ⟨x, rfl, hq⟩
  show wS Φ rs_is_jet _ [some (.val (.d x)), none, none]
  cases x with
  | tuple xs =>
    rcases xs with _ | ⟨u, _ | ⟨l, _ | ⟨m, r⟩⟩⟩
    · simp only [rs_is_jet, wS, wE, wA, wT, wI, wO, wTg, wIdx, wSlc, wBin, wCmp, wBi, wIsi, tyD, dbool, dint, setVals, setAll, datas, itemsD, truD, List.getElem?_cons_zero, List.getElem?_cons_succ, List.set_cons_zero, List.set_cons_succ, Option.map_some, Option.map_none, kitB, e_is_fraction, ap_is_fraction]
      refine ⟨_, rfl, _, rfl, _, rfl, ?_⟩
      rw [if_pos (by simp)]
      rw [isJ_len (by simp)] at hq
      exact hq
    · simp only [rs_is_jet, wS, wE, wA, wT, wI, wO, wTg, wIdx, wSlc, wBin, wCmp, wBi, wIsi, tyD, dbool, dint, setVals, setAll, datas, itemsD, truD, List.getElem?_cons_zero, List.getElem?_cons_succ, List.set_cons_zero, List.set_cons_succ, Option.map_some, Option.map_none, kitB, e_is_fraction, ap_is_fraction]
      refine ⟨_, rfl, _, rfl, _, rfl, ?_⟩
      rw [if_pos (by simp)]
      rw [isJ_len (by simp)] at hq
      exact hq
    · simp only [rs_is_jet, wS, wE, wA, wT, wI, wO, ev_add, ev_sub, ev_mul, ev_div, ev_mod, ev_pow, ev_cat, ev_lt, ev_le, ev_gt, ev_ge, ev_eq, ev_ne, ev_eqs, ev_nes, ix_F0, ix_F1, ix_J0, ix_J1, ix_P0, ix_P1, ix_P2, ix_t0, ix_t1, ix_t2, ix_l0, ix_l1, ix_l2, tg_1, tg_F, tg_J, tg_P, tg_2, tg_3, tg_4, fold_J, eq_F, ne_F, eq_J, ne_J, eq_P, ne_P, db_, di_, setVals, setAll, datas, itemsD, truD, List.getElem?_cons_zero, List.getElem?_cons_succ, List.set_cons_zero, List.set_cons_succ, Option.map_some, Option.map_none, Option.some.injEq, exists_eq_left', decide_eq_true_eq, Bool.not_true, Bool.not_false, Bool.false_eq_true, if_false, if_true, true_and, and_true, decide_true, decide_false, List.length_cons, List.length_nil, mx_0, mx_1, mx_2, mx_3, mx_4, mx_5, mx_6, mx_7, mx_8, mx_9, mx_10, mx_11, mx_12, mx_13, mx_14, mx_15, mx_16, mx_17, mx_18, mx_19, mx_20, mx_21, mx_22, mx_23, mx_24, Nat.reduceAdd, Nat.reduceLeDiff, Nat.zero_add, Bool.not_eq_true', decide_eq_false_iff_not, reduceIte, ev_reprb, isi_tuple, isT, ev_len, lenD, e_is_fraction, ap_is_fraction, Int.cast_ofNat_Int]
      rw [if_neg (by decide), if_neg (by decide)]
      have hJ : isJ (.tuple [u, l]) = (isF u && (isF l && topPos l)) := rfl
      rw [hJ] at hq
      by_cases h1 : isF u = true
      · rw [if_pos h1]
        rw [h1, Bool.true_and] at hq
        by_cases h2 : isF l = true
        · rw [if_pos h2]
          rw [h2, Bool.true_and] at hq
          obtain ⟨q, rfl⟩ := isF_ex h2
          rw [topPos_F] at hq
          rw [ix_F0]
          simp only [ev_gt, num_pos]
          exact hq
        · rw [if_neg h2]
          rw [Bool.not_eq_true] at h2
          rw [h2, Bool.false_and] at hq
          exact hq
      · rw [if_neg h1]
        rw [Bool.not_eq_true] at h1
        rw [h1, Bool.false_and] at hq
        exact hq
    · simp only [rs_is_jet, wS, wE, wA, wT, wI, wO, wTg, wIdx, wSlc, wBin, wCmp, wBi, wIsi, tyD, dbool, dint, setVals, setAll, datas, itemsD, truD, List.getElem?_cons_zero, List.getElem?_cons_succ, List.set_cons_zero, List.set_cons_succ, Option.map_some, Option.map_none, kitB, e_is_fraction, ap_is_fraction]
      refine ⟨_, rfl, _, rfl, _, rfl, ?_⟩
      have : (!decide (((List.length (u :: l :: m :: r) : Nat) : Int) = 2)) = true := by
        simp only [List.length_cons, Bool.not_eq_true', decide_eq_false_iff_not]
        omega
      rw [if_pos this]
      rw [isJ_len (by simp)] at hq
      exact hq
  | _ =>
    simp only [rs_is_jet, wS, wE, wA, wT, wI, wO, wTg, wIdx, wSlc, wBin, wCmp, wBi, wIsi, tyD, dbool, dint, setVals, setAll, datas, itemsD, truD, List.getElem?_cons_zero, List.getElem?_cons_succ, List.set_cons_zero, List.set_cons_succ, Option.map_some, Option.map_none, kitB, e_is_fraction, ap_is_fraction]
    exact ⟨_, rfl, _, rfl, hq⟩
theorem sem_is_point (e_is_whole : Φ 10 = sp_is_whole) : ∀ ds Q, sp_is_point ds Q → wS Φ rs_is_point { nx := fun _ => Q (.d .none), rt := Q } (startD ["x0", "x1", "x2", "x3"] ds) := by
  rintro ds Q ⟨x, rfl, hq⟩
  show wS Φ rs_is_point _ [some (.val (.d x)), none, none, none]
  cases x with
  | tuple xs =>
    rcases xs with _ | ⟨u, _ | ⟨l, _ | ⟨m, _ | ⟨n, r⟩⟩⟩⟩
    · simp only [rs_is_point, wS, wE, wA, wT, wI, wO, wTg, wIdx, wSlc, wBin, wCmp, wBi, wIsi, tyD, dbool, dint, setVals, setAll, datas, itemsD, truD, List.getElem?_cons_zero, List.getElem?_cons_succ, List.set_cons_zero, List.set_cons_succ, Option.map_some, Option.map_none, kitB, e_is_whole, ap_is_whole]
      refine ⟨_, rfl, _, rfl, _, rfl, ?_⟩
      rw [if_pos (by simp)]
      rw [isP_len (by simp)] at hq
      exact hq
    · simp only [rs_is_point, wS, wE, wA, wT, wI, wO, wTg, wIdx, wSlc, wBin, wCmp, wBi, wIsi, tyD, dbool, dint, setVals, setAll, datas, itemsD, truD, List.getElem?_cons_zero, List.getElem?_cons_succ, List.set_cons_zero, List.set_cons_succ, Option.map_some, Option.map_none, kitB, e_is_whole, ap_is_whole]
      refine ⟨_, rfl, _, rfl, _, rfl, ?_⟩
      rw [if_pos (by simp)]
      rw [isP_len (by simp)] at hq
      exact hq
    · simp only [rs_is_point, wS, wE, wA, wT, wI, wO, wTg, wIdx, wSlc, wBin, wCmp, wBi, wIsi, tyD, dbool, dint, setVals, setAll, datas, itemsD, truD, List.getElem?_cons_zero, List.getElem?_cons_succ, List.set_cons_zero, List.set_cons_succ, Option.map_some, Option.map_none, kitB, e_is_whole, ap_is_whole]
      refine ⟨_, rfl, _, rfl, _, rfl, ?_⟩
      rw [if_pos (by simp)]
      rw [isP_len (by simp)] at hq
      exact hq
    · simp only [rs_is_point, wS, wE, wA, wT, wI, wO, wTg, wIdx, wSlc, wBin, wCmp, wBi, wIsi, tyD, dbool, dint, setVals, setAll, datas, itemsD, truD, List.getElem?_cons_zero, List.getElem?_cons_succ, List.set_cons_zero, List.set_cons_succ, Option.map_some, Option.map_none, kitB, e_is_whole, ap_is_whole]
      refine ⟨_, rfl, _, rfl, _, rfl, rfl, ?_⟩
      cases u with
      | int z =>
        refine ⟨_, rfl, ?_⟩
        cases l with
        | int w =>
          refine ⟨_, rfl, ?_⟩
          cases m with
          | int v =>
            refine ⟨_, rfl, ?_⟩
            simp only [isW, isP] at hq ⊢
            simp only [Bool.not_true, Bool.false_eq_true, if_false, wS, wE, wA, wT, wI, wO, wTg, wIdx, wSlc, wBin, wCmp, wBi, wIsi, tyD, dbool, dint, setVals, setAll, datas, itemsD, truD, List.getElem?_cons_zero, List.getElem?_cons_succ, List.set_cons_zero, List.set_cons_succ, Option.map_some, Option.map_none]
            by_cases h : 0 < v
            · simp only [h, decide_true, if_true, wS, wE, wA, wT, wI, wO, wTg, wIdx, wSlc, wBin, wCmp, wBi, wIsi, tyD, dbool, dint, setVals, setAll, datas, itemsD, truD, List.getElem?_cons_zero, List.getElem?_cons_succ, List.set_cons_zero, List.set_cons_succ, Option.map_some, Option.map_none, Bool.true_and] at hq ⊢
              exact hq
            · simp only [h, decide_false, if_false, wS, wE, wA, wT, wI, wO, wTg, wIdx, wSlc, wBin, wCmp, wBi, wIsi, tyD, dbool, dint, setVals, setAll, datas, itemsD, truD, List.getElem?_cons_zero, List.getElem?_cons_succ, List.set_cons_zero, List.set_cons_succ, Option.map_some, Option.map_none, Bool.false_and, Bool.false_eq_true] at hq ⊢
              exact hq
          | _ => exact ⟨_, rfl, hq⟩
        | _ => exact ⟨_, rfl, hq⟩
      | _ => exact ⟨_, rfl, hq⟩
    · simp only [rs_is_point, wS, wE, wA, wT, wI, wO, wTg, wIdx, wSlc, wBin, wCmp, wBi, wIsi, tyD, dbool, dint, setVals, setAll, datas, itemsD, truD, List.getElem?_cons_zero, List.getElem?_cons_succ, List.set_cons_zero, List.set_cons_succ, Option.map_some, Option.map_none, kitB, e_is_whole, ap_is_whole]
      refine ⟨_, rfl, _, rfl, _, rfl, ?_⟩
      have : (!decide (((List.length (u :: l :: m :: n :: r) : Nat) : Int) = 3)) = true := by
        simp only [List.length_cons, Bool.not_eq_true', decide_eq_false_iff_not]
        omega
      rw [if_pos this]
      rw [isP_len (by simp)] at hq
      exact hq
  | _ =>
    simp only [rs_is_point, wS, wE, wA, wT, wI, wO, wTg, wIdx, wSlc, wBin, wCmp, wBi, wIsi, tyD, dbool, dint, setVals, setAll, datas, itemsD, truD, List.getElem?_cons_zero, List.getElem?_cons_succ, List.set_cons_zero, List.set_cons_succ, Option.map_some, Option.map_none, kitB, e_is_whole, ap_is_whole]
    exact ⟨_, rfl, _, rfl, hq⟩
theorem sem_is_place (e_is_point : Φ 18 = sp_is_point) : ∀ ds Q, sp_is_place ds Q → wS Φ rs_is_place { nx := fun _ => Q (.d .none), rt := Q } (startD ["x0"] ds) := by
  rintro ds Q ⟨x, rfl, hq⟩
  show wS Φ rs_is_place _ [some (.val (.d x))]
  simp only [rs_is_place, wS, wE, wA, wT, wI, wO, ev_add, ev_sub, ev_mul, ev_div, ev_mod, ev_pow, ev_cat, ev_lt, ev_le, ev_gt, ev_ge, ev_eq, ev_ne, ev_eqs, ev_nes, ix_F0, ix_F1, ix_J0, ix_J1, ix_P0, ix_P1, ix_P2, ix_t0, ix_t1, ix_t2, ix_l0, ix_l1, ix_l2, tg_1, tg_F, tg_J, tg_P, tg_2, tg_3, tg_4, fold_J, eq_F, ne_F, eq_J, ne_J, eq_P, ne_P, db_, di_, setVals, setAll, datas, itemsD, truD, List.getElem?_cons_zero, List.getElem?_cons_succ, List.set_cons_zero, List.set_cons_succ, Option.map_some, Option.map_none, Option.some.injEq, exists_eq_left', decide_eq_true_eq, Bool.not_true, Bool.not_false, Bool.false_eq_true, if_false, if_true, true_and, and_true, decide_true, decide_false, List.length_cons, List.length_nil, mx_0, mx_1, mx_2, mx_3, mx_4, mx_5, mx_6, mx_7, mx_8, mx_9, mx_10, mx_11, mx_12, mx_13, mx_14, mx_15, mx_16, mx_17, mx_18, mx_19, mx_20, mx_21, mx_22, mx_23, mx_24, Nat.reduceAdd, Nat.reduceLeDiff, Nat.zero_add, Bool.not_eq_true', decide_eq_false_iff_not, reduceIte, ev_reprb, e_is_point, ap_is_point]
  rw [isPl_of] at hq
  by_cases h : isP x = true
  · rw [if_pos h]
    rw [h, Bool.true_and] at hq
    obtain ⟨u, v, rfl⟩ := isP_ex h
    rw [ix_P0]
    simp only [ev_gt]
    have e : topPos (P3 u v) = decide (0 < (pt u v).1) := rfl
    rw [e] at hq
    exact hq
  · rw [if_neg h]
    rw [Bool.not_eq_true] at h
    rw [h, Bool.false_and] at hq
    exact hq
theorem sem_check_fraction (e_is_fraction : Φ 11 = sp_is_fraction) : ∀ ds Q, sp_check_fraction ds Q → wS Φ rs_check_fraction { nx := fun _ => Q (.d .none), rt := Q } (startD ["x0"] ds) := by
  rintro ds Q ⟨x, rfl, h1, hq⟩
  show wS Φ rs_check_fraction _ [some (.val (.d x))]
  simp only [rs_check_fraction, wS, wE, wA, wT, wI, wO, ev_add, ev_sub, ev_mul, ev_div, ev_mod, ev_pow, ev_cat, ev_lt, ev_le, ev_gt, ev_ge, ev_eq, ev_ne, ev_eqs, ev_nes, ix_F0, ix_F1, ix_J0, ix_J1, ix_P0, ix_P1, ix_P2, ix_t0, ix_t1, ix_t2, ix_l0, ix_l1, ix_l2, tg_1, tg_F, tg_J, tg_P, tg_2, tg_3, tg_4, fold_J, eq_F, ne_F, eq_J, ne_J, eq_P, ne_P, db_, di_, setVals, setAll, datas, itemsD, truD, List.getElem?_cons_zero, List.getElem?_cons_succ, List.set_cons_zero, List.set_cons_succ, Option.map_some, Option.map_none, Option.some.injEq, exists_eq_left', decide_eq_true_eq, Bool.not_true, Bool.not_false, Bool.false_eq_true, if_false, if_true, true_and, and_true, decide_true, decide_false, List.length_cons, List.length_nil, mx_0, mx_1, mx_2, mx_3, mx_4, mx_5, mx_6, mx_7, mx_8, mx_9, mx_10, mx_11, mx_12, mx_13, mx_14, mx_15, mx_16, mx_17, mx_18, mx_19, mx_20, mx_21, mx_22, mx_23, mx_24, Nat.reduceAdd, Nat.reduceLeDiff, Nat.zero_add, Bool.not_eq_true', decide_eq_false_iff_not, reduceIte, ev_reprb, e_is_fraction, ap_is_fraction]
  rw [if_neg (by rw [h1]; decide)]
  exact hq
theorem sem_check_point (e_is_point : Φ 18 = sp_is_point) : ∀ ds Q, sp_check_point ds Q → wS Φ rs_check_point { nx := fun _ => Q (.d .none), rt := Q } (startD ["x0"] ds) := by
  rintro ds Q ⟨x, rfl, h1, hq⟩
  show wS Φ rs_check_point _ [some (.val (.d x))]
  simp only [rs_check_point, wS, wE, wA, wT, wI, wO, ev_add, ev_sub, ev_mul, ev_div, ev_mod, ev_pow, ev_cat, ev_lt, ev_le, ev_gt, ev_ge, ev_eq, ev_ne, ev_eqs, ev_nes, ix_F0, ix_F1, ix_J0, ix_J1, ix_P0, ix_P1, ix_P2, ix_t0, ix_t1, ix_t2, ix_l0, ix_l1, ix_l2, tg_1, tg_F, tg_J, tg_P, tg_2, tg_3, tg_4, fold_J, eq_F, ne_F, eq_J, ne_J, eq_P, ne_P, db_, di_, setVals, setAll, datas, itemsD, truD, List.getElem?_cons_zero, List.getElem?_cons_succ, List.set_cons_zero, List.set_cons_succ, Option.map_some, Option.map_none, Option.some.injEq, exists_eq_left', decide_eq_true_eq, Bool.not_true, Bool.not_false, Bool.false_eq_true, if_false, if_true, true_and, and_true, decide_true, decide_false, List.length_cons, List.length_nil, mx_0, mx_1, mx_2, mx_3, mx_4, mx_5, mx_6, mx_7, mx_8, mx_9, mx_10, mx_11, mx_12, mx_13, mx_14, mx_15, mx_16, mx_17, mx_18, mx_19, mx_20, mx_21, mx_22, mx_23, mx_24, Nat.reduceAdd, Nat.reduceLeDiff, Nat.zero_add, Bool.not_eq_true', decide_eq_false_iff_not, reduceIte, ev_reprb, e_is_point, ap_is_point]
  rw [if_neg (by rw [h1]; decide)]
  exact hq
theorem sem_check_place (e_is_place : Φ 19 = sp_is_place) : ∀ ds Q, sp_check_place ds Q → wS Φ rs_check_place { nx := fun _ => Q (.d .none), rt := Q } (startD ["x0"] ds) := by
  rintro ds Q ⟨x, rfl, h1, hq⟩
  show wS Φ rs_check_place _ [some (.val (.d x))]
  simp only [rs_check_place, wS, wE, wA, wT, wI, wO, ev_add, ev_sub, ev_mul, ev_div, ev_mod, ev_pow, ev_cat, ev_lt, ev_le, ev_gt, ev_ge, ev_eq, ev_ne, ev_eqs, ev_nes, ix_F0, ix_F1, ix_J0, ix_J1, ix_P0, ix_P1, ix_P2, ix_t0, ix_t1, ix_t2, ix_l0, ix_l1, ix_l2, tg_1, tg_F, tg_J, tg_P, tg_2, tg_3, tg_4, fold_J, eq_F, ne_F, eq_J, ne_J, eq_P, ne_P, db_, di_, setVals, setAll, datas, itemsD, truD, List.getElem?_cons_zero, List.getElem?_cons_succ, List.set_cons_zero, List.set_cons_succ, Option.map_some, Option.map_none, Option.some.injEq, exists_eq_left', decide_eq_true_eq, Bool.not_true, Bool.not_false, Bool.false_eq_true, if_false, if_true, true_and, and_true, decide_true, decide_false, List.length_cons, List.length_nil, mx_0, mx_1, mx_2, mx_3, mx_4, mx_5, mx_6, mx_7, mx_8, mx_9, mx_10, mx_11, mx_12, mx_13, mx_14, mx_15, mx_16, mx_17, mx_18, mx_19, mx_20, mx_21, mx_22, mx_23, mx_24, Nat.reduceAdd, Nat.reduceLeDiff, Nat.zero_add, Bool.not_eq_true', decide_eq_false_iff_not, reduceIte, ev_reprb, e_is_place, ap_is_place]
  rw [if_neg (by rw [h1]; decide)]
  exact hq
theorem sem_check_jet (e_is_jet : Φ 72 = sp_is_jet) : ∀ ds Q, sp_check_jet ds Q → wS Φ rs_check_jet { nx := fun _ => Q (.d .none), rt := Q } (startD ["x0"] ds) := by
  rintro ds Q ⟨x, rfl, h1, hq⟩
  show wS Φ rs_check_jet _ [some (.val (.d x))]
  simp only [rs_check_jet, wS, wE, wA, wT, wI, wO, ev_add, ev_sub, ev_mul, ev_div, ev_mod, ev_pow, ev_cat, ev_lt, ev_le, ev_gt, ev_ge, ev_eq, ev_ne, ev_eqs, ev_nes, ix_F0, ix_F1, ix_J0, ix_J1, ix_P0, ix_P1, ix_P2, ix_t0, ix_t1, ix_t2, ix_l0, ix_l1, ix_l2, tg_1, tg_F, tg_J, tg_P, tg_2, tg_3, tg_4, fold_J, eq_F, ne_F, eq_J, ne_J, eq_P, ne_P, db_, di_, setVals, setAll, datas, itemsD, truD, List.getElem?_cons_zero, List.getElem?_cons_succ, List.set_cons_zero, List.set_cons_succ, Option.map_some, Option.map_none, Option.some.injEq, exists_eq_left', decide_eq_true_eq, Bool.not_true, Bool.not_false, Bool.false_eq_true, if_false, if_true, true_and, and_true, decide_true, decide_false, List.length_cons, List.length_nil, mx_0, mx_1, mx_2, mx_3, mx_4, mx_5, mx_6, mx_7, mx_8, mx_9, mx_10, mx_11, mx_12, mx_13, mx_14, mx_15, mx_16, mx_17, mx_18, mx_19, mx_20, mx_21, mx_22, mx_23, mx_24, Nat.reduceAdd, Nat.reduceLeDiff, Nat.zero_add, Bool.not_eq_true', decide_eq_false_iff_not, reduceIte, ev_reprb, e_is_jet, ap_is_jet]
  rw [if_neg (by rw [h1]; decide)]
  exact hq
theorem sem_check_distance (e_is_fraction : Φ 11 = sp_is_fraction) : ∀ ds Q, sp_check_distance ds Q → wS Φ rs_check_distance { nx := fun _ => Q (.d .none), rt := Q } (startD ["x0"] ds) := by
  rintro ds Q ⟨d, rfl, h1, hq⟩
  show wS Φ rs_check_distance _ [some (.val (.d (F d)))]
  simp only [rs_check_distance, wS, wE, wA, wT, wI, wO, ev_add, ev_sub, ev_mul, ev_div, ev_mod, ev_pow, ev_cat, ev_lt, ev_le, ev_gt, ev_ge, ev_eq, ev_ne, ev_eqs, ev_nes, ix_F0, ix_F1, ix_J0, ix_J1, ix_P0, ix_P1, ix_P2, ix_t0, ix_t1, ix_t2, ix_l0, ix_l1, ix_l2, tg_1, tg_F, tg_J, tg_P, tg_2, tg_3, tg_4, fold_J, eq_F, ne_F, eq_J, ne_J, eq_P, ne_P, db_, di_, setVals, setAll, datas, itemsD, truD, List.getElem?_cons_zero, List.getElem?_cons_succ, List.set_cons_zero, List.set_cons_succ, Option.map_some, Option.map_none, Option.some.injEq, exists_eq_left', decide_eq_true_eq, Bool.not_true, Bool.not_false, Bool.false_eq_true, if_false, if_true, true_and, and_true, decide_true, decide_false, List.length_cons, List.length_nil, mx_0, mx_1, mx_2, mx_3, mx_4, mx_5, mx_6, mx_7, mx_8, mx_9, mx_10, mx_11, mx_12, mx_13, mx_14, mx_15, mx_16, mx_17, mx_18, mx_19, mx_20, mx_21, mx_22, mx_23, mx_24, Nat.reduceAdd, Nat.reduceLeDiff, Nat.zero_add, Bool.not_eq_true', decide_eq_false_iff_not, reduceIte, ev_reprb, e_is_fraction, ap_is_fraction, isF_F, num_le]
  rw [if_neg (by decide), if_neg (by grind)]
  exact hq
theorem sem_check_distance_or_zero (e_is_fraction : Φ 11 = sp_is_fraction) : ∀ ds Q, sp_check_distance_or_zero ds Q → wS Φ rs_check_distance_or_zero { nx := fun _ => Q (.d .none), rt := Q } (startD ["x0"] ds) := by
  rintro ds Q ⟨d, rfl, h1, hq⟩
  show wS Φ rs_check_distance_or_zero _ [some (.val (.d (F d)))]
  simp only [rs_check_distance_or_zero, wS, wE, wA, wT, wI, wO, ev_add, ev_sub, ev_mul, ev_div, ev_mod, ev_pow, ev_cat, ev_lt, ev_le, ev_gt, ev_ge, ev_eq, ev_ne, ev_eqs, ev_nes, ix_F0, ix_F1, ix_J0, ix_J1, ix_P0, ix_P1, ix_P2, ix_t0, ix_t1, ix_t2, ix_l0, ix_l1, ix_l2, tg_1, tg_F, tg_J, tg_P, tg_2, tg_3, tg_4, fold_J, eq_F, ne_F, eq_J, ne_J, eq_P, ne_P, db_, di_, setVals, setAll, datas, itemsD, truD, List.getElem?_cons_zero, List.getElem?_cons_succ, List.set_cons_zero, List.set_cons_succ, Option.map_some, Option.map_none, Option.some.injEq, exists_eq_left', decide_eq_true_eq, Bool.not_true, Bool.not_false, Bool.false_eq_true, if_false, if_true, true_and, and_true, decide_true, decide_false, List.length_cons, List.length_nil, mx_0, mx_1, mx_2, mx_3, mx_4, mx_5, mx_6, mx_7, mx_8, mx_9, mx_10, mx_11, mx_12, mx_13, mx_14, mx_15, mx_16, mx_17, mx_18, mx_19, mx_20, mx_21, mx_22, mx_23, mx_24, Nat.reduceAdd, Nat.reduceLeDiff, Nat.zero_add, Bool.not_eq_true', decide_eq_false_iff_not, reduceIte, ev_reprb, e_is_fraction, ap_is_fraction, isF_F, num_neg]
  rw [if_neg (by decide), if_neg (by grind)]
  exact hq
theorem sem_check_above_zero (e_check_fraction : Φ 13 = sp_check_fraction) : ∀ ds Q, sp_check_above_zero ds Q → wS Φ rs_check_above_zero { nx := fun _ => Q (.d .none), rt := Q } (startD ["x0"] ds) := by
  rintro ds Q ⟨d, rfl, h1, hq⟩
  show wS Φ rs_check_above_zero _ [some (.val (.d (F d)))]
  simp only [rs_check_above_zero, wS, wE, wA, wT, wI, wO, ev_add, ev_sub, ev_mul, ev_div, ev_mod, ev_pow, ev_cat, ev_lt, ev_le, ev_gt, ev_ge, ev_eq, ev_ne, ev_eqs, ev_nes, ix_F0, ix_F1, ix_J0, ix_J1, ix_P0, ix_P1, ix_P2, ix_t0, ix_t1, ix_t2, ix_l0, ix_l1, ix_l2, tg_1, tg_F, tg_J, tg_P, tg_2, tg_3, tg_4, fold_J, eq_F, ne_F, eq_J, ne_J, eq_P, ne_P, db_, di_, setVals, setAll, datas, itemsD, truD, List.getElem?_cons_zero, List.getElem?_cons_succ, List.set_cons_zero, List.set_cons_succ, Option.map_some, Option.map_none, Option.some.injEq, exists_eq_left', decide_eq_true_eq, Bool.not_true, Bool.not_false, Bool.false_eq_true, if_false, if_true, true_and, and_true, decide_true, decide_false, List.length_cons, List.length_nil, mx_0, mx_1, mx_2, mx_3, mx_4, mx_5, mx_6, mx_7, mx_8, mx_9, mx_10, mx_11, mx_12, mx_13, mx_14, mx_15, mx_16, mx_17, mx_18, mx_19, mx_20, mx_21, mx_22, mx_23, mx_24, Nat.reduceAdd, Nat.reduceLeDiff, Nat.zero_add, Bool.not_eq_true', decide_eq_false_iff_not, reduceIte, ev_reprb, e_check_fraction, ap_check_fraction, isF_F, num_le]
  rw [if_neg (by grind)]
  exact hq
theorem sem_plus (e_reduced : Φ 33 = sp_reduced) : ∀ ds Q, sp_plus ds Q → wS Φ rs_plus { nx := fun _ => Q (.d .none), rt := Q } (startD ["x0", "x1"] ds) := by
  rintro ds Q ⟨x, y, rfl, h1, h2, hq⟩
  show wS Φ rs_plus _ [some (.val (.d (F x))), some (.val (.d (F y)))]
  simp only [rs_plus, wS, wE, wA, wT, wI, wO, ev_add, ev_sub, ev_mul, ev_div, ev_mod, ev_pow, ev_cat, ev_lt, ev_le, ev_gt, ev_ge, ev_eq, ev_ne, ev_eqs, ev_nes, ix_F0, ix_F1, ix_J0, ix_J1, ix_P0, ix_P1, ix_P2, ix_t0, ix_t1, ix_t2, ix_l0, ix_l1, ix_l2, tg_1, tg_F, tg_J, tg_P, tg_2, tg_3, tg_4, fold_J, eq_F, ne_F, eq_J, ne_J, eq_P, ne_P, db_, di_, setVals, setAll, datas, itemsD, truD, List.getElem?_cons_zero, List.getElem?_cons_succ, List.set_cons_zero, List.set_cons_succ, Option.map_some, Option.map_none, Option.some.injEq, exists_eq_left', decide_eq_true_eq, Bool.not_true, Bool.not_false, Bool.false_eq_true, if_false, if_true, true_and, and_true, decide_true, decide_false, List.length_cons, List.length_nil, mx_0, mx_1, mx_2, mx_3, mx_4, mx_5, mx_6, mx_7, mx_8, mx_9, mx_10, mx_11, mx_12, mx_13, mx_14, mx_15, mx_16, mx_17, mx_18, mx_19, mx_20, mx_21, mx_22, mx_23, mx_24, Nat.reduceAdd, Nat.reduceLeDiff, Nat.zero_add, Bool.not_eq_true', decide_eq_false_iff_not, reduceIte, ev_reprb, e_reduced, ap_reduced]
  rw [← F_rd (dd_pos x y) (addR x y)] at hq
  exact ⟨cm3 h1.n h2.d, cm3 h2.n h1.d, cm3 h1.d h2.d, dd_pos x y, (h1.d.mul h2.d).mono (by decide), hq⟩
theorem sem_pminus (e_reduced : Φ 33 = sp_reduced) : ∀ ds Q, sp_pminus ds Q → wS Φ rs_minus { nx := fun _ => Q (.d .none), rt := Q } (startD ["x0", "x1"] ds) := by
  rintro ds Q ⟨x, y, rfl, h1, h2, hq⟩
  show wS Φ rs_minus _ [some (.val (.d (F x))), some (.val (.d (F y)))]
  simp only [rs_minus, wS, wE, wA, wT, wI, wO, ev_add, ev_sub, ev_mul, ev_div, ev_mod, ev_pow, ev_cat, ev_lt, ev_le, ev_gt, ev_ge, ev_eq, ev_ne, ev_eqs, ev_nes, ix_F0, ix_F1, ix_J0, ix_J1, ix_P0, ix_P1, ix_P2, ix_t0, ix_t1, ix_t2, ix_l0, ix_l1, ix_l2, tg_1, tg_F, tg_J, tg_P, tg_2, tg_3, tg_4, fold_J, eq_F, ne_F, eq_J, ne_J, eq_P, ne_P, db_, di_, setVals, setAll, datas, itemsD, truD, List.getElem?_cons_zero, List.getElem?_cons_succ, List.set_cons_zero, List.set_cons_succ, Option.map_some, Option.map_none, Option.some.injEq, exists_eq_left', decide_eq_true_eq, Bool.not_true, Bool.not_false, Bool.false_eq_true, if_false, if_true, true_and, and_true, decide_true, decide_false, List.length_cons, List.length_nil, mx_0, mx_1, mx_2, mx_3, mx_4, mx_5, mx_6, mx_7, mx_8, mx_9, mx_10, mx_11, mx_12, mx_13, mx_14, mx_15, mx_16, mx_17, mx_18, mx_19, mx_20, mx_21, mx_22, mx_23, mx_24, Nat.reduceAdd, Nat.reduceLeDiff, Nat.zero_add, Bool.not_eq_true', decide_eq_false_iff_not, reduceIte, ev_reprb, e_reduced, ap_reduced]
  rw [← F_rd (dd_pos x y) (subR x y)] at hq
  exact ⟨cm3 h1.n h2.d, cm3 h2.n h1.d, cm3 h1.d h2.d, dd_pos x y, (h1.d.mul h2.d).mono (by decide), hq⟩
theorem sem_times (e_reduced : Φ 33 = sp_reduced) : ∀ ds Q, sp_times ds Q → wS Φ rs_times { nx := fun _ => Q (.d .none), rt := Q } (startD ["x0", "x1"] ds) := by
  rintro ds Q ⟨x, y, rfl, h1, h2, hq⟩
  show wS Φ rs_times _ [some (.val (.d (F x))), some (.val (.d (F y)))]
  simp only [rs_times, wS, wE, wA, wT, wI, wO, ev_add, ev_sub, ev_mul, ev_div, ev_mod, ev_pow, ev_cat, ev_lt, ev_le, ev_gt, ev_ge, ev_eq, ev_ne, ev_eqs, ev_nes, ix_F0, ix_F1, ix_J0, ix_J1, ix_P0, ix_P1, ix_P2, ix_t0, ix_t1, ix_t2, ix_l0, ix_l1, ix_l2, tg_1, tg_F, tg_J, tg_P, tg_2, tg_3, tg_4, fold_J, eq_F, ne_F, eq_J, ne_J, eq_P, ne_P, db_, di_, setVals, setAll, datas, itemsD, truD, List.getElem?_cons_zero, List.getElem?_cons_succ, List.set_cons_zero, List.set_cons_succ, Option.map_some, Option.map_none, Option.some.injEq, exists_eq_left', decide_eq_true_eq, Bool.not_true, Bool.not_false, Bool.false_eq_true, if_false, if_true, true_and, and_true, decide_true, decide_false, List.length_cons, List.length_nil, mx_0, mx_1, mx_2, mx_3, mx_4, mx_5, mx_6, mx_7, mx_8, mx_9, mx_10, mx_11, mx_12, mx_13, mx_14, mx_15, mx_16, mx_17, mx_18, mx_19, mx_20, mx_21, mx_22, mx_23, mx_24, Nat.reduceAdd, Nat.reduceLeDiff, Nat.zero_add, Bool.not_eq_true', decide_eq_false_iff_not, reduceIte, ev_reprb, e_reduced, ap_reduced]
  rw [← F_rd (dd_pos x y) (mulR x y)] at hq
  exact ⟨cm3 h1.n h2.n, cm3 h1.d h2.d, dd_pos x y, (h1.d.mul h2.d).mono (by decide), hq⟩
theorem sem_quotient (e_reduced : Φ 33 = sp_reduced) : ∀ ds Q, sp_quotient ds Q → wS Φ rs_quotient { nx := fun _ => Q (.d .none), rt := Q } (startD ["x0", "x1", "x2", "x3"] ds) := by
  rintro ds Q ⟨x, y, rfl, h1, h2, h3, hq⟩
  show wS Φ rs_quotient _ [some (.val (.d (F x))), some (.val (.d (F y))), none, none]
  simp only [rs_quotient, wS, wE, wA, wT, wI, wO, ev_add, ev_sub, ev_mul, ev_div, ev_mod, ev_pow, ev_cat, ev_lt, ev_le, ev_gt, ev_ge, ev_eq, ev_ne, ev_eqs, ev_nes, ix_F0, ix_F1, ix_J0, ix_J1, ix_P0, ix_P1, ix_P2, ix_t0, ix_t1, ix_t2, ix_l0, ix_l1, ix_l2, tg_1, tg_F, tg_J, tg_P, tg_2, tg_3, tg_4, fold_J, eq_F, ne_F, eq_J, ne_J, eq_P, ne_P, db_, di_, setVals, setAll, datas, itemsD, truD, List.getElem?_cons_zero, List.getElem?_cons_succ, List.set_cons_zero, List.set_cons_succ, Option.map_some, Option.map_none, Option.some.injEq, exists_eq_left', decide_eq_true_eq, Bool.not_true, Bool.not_false, Bool.false_eq_true, if_false, if_true, true_and, and_true, decide_true, decide_false, List.length_cons, List.length_nil, mx_0, mx_1, mx_2, mx_3, mx_4, mx_5, mx_6, mx_7, mx_8, mx_9, mx_10, mx_11, mx_12, mx_13, mx_14, mx_15, mx_16, mx_17, mx_18, mx_19, mx_20, mx_21, mx_22, mx_23, mx_24, Nat.reduceAdd, Nat.reduceLeDiff, Nat.zero_add, Bool.not_eq_true', decide_eq_false_iff_not, reduceIte, ev_reprb, e_reduced, ap_reduced]
  refine ⟨cm3 h2.n h3.d, cm3 h2.d h3.n, ?_⟩
  by_cases h : 0 < (x.den : Int) * y.num
  · rw [if_pos h]
    rw [← F_rd h (divR x y h1)] at hq
    exact ⟨h, (h2.d.mul h3.n).mono (by decide), hq⟩
  · rw [if_neg h]
    have hn := dn_ne x h1
    have h' : 0 < -((x.den : Int) * y.num) := by omega
    have e : ((-(x.num * (y.den : Int)) : Int) : Rat) = x / y * ((-((x.den : Int) * y.num) : Int) : Rat) := by
      rw [Rat.intCast_neg, Rat.intCast_neg, divR x y h1]
      grind
    rw [← F_rd h' e] at hq
    refine ⟨h', ?_, hq⟩
    have := (h2.d.mul h3.n).mono (k := 8000) (by decide)
    unfold Sz at this ⊢
    rw [Int.natAbs_neg]
    exact this
theorem sem_negative : ∀ ds Q, sp_negative ds Q → wS Φ rs_negative { nx := fun _ => Q (.d .none), rt := Q } (startD ["x0"] ds) := by
  rintro ds Q ⟨x, rfl, hq⟩
  show wS Φ rs_negative _ [some (.val (.d (F x)))]
  simp only [rs_negative, wS, wE, wA, wT, wI, wO, ev_add, ev_sub, ev_mul, ev_div, ev_mod, ev_pow, ev_cat, ev_lt, ev_le, ev_gt, ev_ge, ev_eq, ev_ne, ev_eqs, ev_nes, ix_F0, ix_F1, ix_J0, ix_J1, ix_P0, ix_P1, ix_P2, ix_t0, ix_t1, ix_t2, ix_l0, ix_l1, ix_l2, tg_1, tg_F, tg_J, tg_P, tg_2, tg_3, tg_4, fold_J, eq_F, ne_F, eq_J, ne_J, eq_P, ne_P, db_, di_, setVals, setAll, datas, itemsD, truD, List.getElem?_cons_zero, List.getElem?_cons_succ, List.set_cons_zero, List.set_cons_succ, Option.map_some, Option.map_none, Option.some.injEq, exists_eq_left', decide_eq_true_eq, Bool.not_true, Bool.not_false, Bool.false_eq_true, if_false, if_true, true_and, and_true, decide_true, decide_false, List.length_cons, List.length_nil, mx_0, mx_1, mx_2, mx_3, mx_4, mx_5, mx_6, mx_7, mx_8, mx_9, mx_10, mx_11, mx_12, mx_13, mx_14, mx_15, mx_16, mx_17, mx_18, mx_19, mx_20, mx_21, mx_22, mx_23, mx_24, Nat.reduceAdd, Nat.reduceLeDiff, Nat.zero_add, Bool.not_eq_true', decide_eq_false_iff_not, reduceIte, ev_reprb, F_neg']
  exact hq
theorem sem_is_below : ∀ ds Q, sp_is_below ds Q → wS Φ rs_is_below { nx := fun _ => Q (.d .none), rt := Q } (startD ["x0", "x1"] ds) := by
  rintro ds Q ⟨x, y, rfl, h1, h2, hq⟩
  show wS Φ rs_is_below _ [some (.val (.d (F x))), some (.val (.d (F y)))]
  simp only [rs_is_below, wS, wE, wA, wT, wI, wO, ev_add, ev_sub, ev_mul, ev_div, ev_mod, ev_pow, ev_cat, ev_lt, ev_le, ev_gt, ev_ge, ev_eq, ev_ne, ev_eqs, ev_nes, ix_F0, ix_F1, ix_J0, ix_J1, ix_P0, ix_P1, ix_P2, ix_t0, ix_t1, ix_t2, ix_l0, ix_l1, ix_l2, tg_1, tg_F, tg_J, tg_P, tg_2, tg_3, tg_4, fold_J, eq_F, ne_F, eq_J, ne_J, eq_P, ne_P, db_, di_, setVals, setAll, datas, itemsD, truD, List.getElem?_cons_zero, List.getElem?_cons_succ, List.set_cons_zero, List.set_cons_succ, Option.map_some, Option.map_none, Option.some.injEq, exists_eq_left', decide_eq_true_eq, Bool.not_true, Bool.not_false, Bool.false_eq_true, if_false, if_true, true_and, and_true, decide_true, decide_false, List.length_cons, List.length_nil, mx_0, mx_1, mx_2, mx_3, mx_4, mx_5, mx_6, mx_7, mx_8, mx_9, mx_10, mx_11, mx_12, mx_13, mx_14, mx_15, mx_16, mx_17, mx_18, mx_19, mx_20, mx_21, mx_22, mx_23, mx_24, Nat.reduceAdd, Nat.reduceLeDiff, Nat.zero_add, Bool.not_eq_true', decide_eq_false_iff_not, reduceIte, ev_reprb, lt_cross]
  exact ⟨cm3 h1.n h2.d, cm3 h2.n h1.d, hq⟩
theorem sem_value_at (e_plus : Φ 48 = sp_plus) (e_times : Φ 51 = sp_times) : ∀ ds Q, sp_value_at ds Q → wS Φ rs_value_at { nx := fun _ => Q (.d .none), rt := Q } (startD ["x0", "x1", "x2", "x3", "x4"] ds) := by
  rintro ds Q ⟨a, b, c, x, rfl, h1, h2, h3, h4, hq⟩
  show wS Φ rs_value_at _ [some (.val (.d (.tuple [F a, F b, F c]))), some (.val (.d (F x))), none, none, none]
  simp only [rs_value_at, wS, wE, wA, wT, wI, wO, ev_add, ev_sub, ev_mul, ev_div, ev_mod, ev_pow, ev_cat, ev_lt, ev_le, ev_gt, ev_ge, ev_eq, ev_ne, ev_eqs, ev_nes, ix_F0, ix_F1, ix_J0, ix_J1, ix_P0, ix_P1, ix_P2, ix_t0, ix_t1, ix_t2, ix_l0, ix_l1, ix_l2, tg_1, tg_F, tg_J, tg_P, tg_2, tg_3, tg_4, fold_J, eq_F, ne_F, eq_J, ne_J, eq_P, ne_P, db_, di_, setVals, setAll, datas, itemsD, truD, List.getElem?_cons_zero, List.getElem?_cons_succ, List.set_cons_zero, List.set_cons_succ, Option.map_some, Option.map_none, Option.some.injEq, exists_eq_left', decide_eq_true_eq, Bool.not_true, Bool.not_false, Bool.false_eq_true, if_false, if_true, true_and, and_true, decide_true, decide_false, List.length_cons, List.length_nil, mx_0, mx_1, mx_2, mx_3, mx_4, mx_5, mx_6, mx_7, mx_8, mx_9, mx_10, mx_11, mx_12, mx_13, mx_14, mx_15, mx_16, mx_17, mx_18, mx_19, mx_20, mx_21, mx_22, mx_23, mx_24, Nat.reduceAdd, Nat.reduceLeDiff, Nat.zero_add, Bool.not_eq_true', decide_eq_false_iff_not, reduceIte, ev_reprb, e_plus, e_times, ap_plus, ap_times]
  walk_at "fin"
theorem sem_height_at (e_check_jet : Φ 73 = sp_check_jet) (e_check_distance_or_zero : Φ 74 = sp_check_distance_or_zero) (e_value_at : Φ 75 = sp_value_at) (e_negative : Φ 76 = sp_negative) : ∀ ds Q, sp_height_at ds Q → wS Φ rs_height_at { nx := fun _ => Q (.d .none), rt := Q } (startD ["x0", "x1", "x2", "x3"] ds) := by
  rintro ds Q ⟨s, b, d, rfl, h1, h2, h3, h4, h5, hq⟩
  show wS Φ rs_height_at _ [some (.val (.d (J s b))), some (.val (.d (F d))), none, none]
  simp only [rs_height_at, wS, wE, wA, wT, wI, wO, ev_add, ev_sub, ev_mul, ev_div, ev_mod, ev_pow, ev_cat, ev_lt, ev_le, ev_gt, ev_ge, ev_eq, ev_ne, ev_eqs, ev_nes, ix_F0, ix_F1, ix_J0, ix_J1, ix_P0, ix_P1, ix_P2, ix_t0, ix_t1, ix_t2, ix_l0, ix_l1, ix_l2, tg_1, tg_F, tg_J, tg_P, tg_2, tg_3, tg_4, fold_J, eq_F, ne_F, eq_J, ne_J, eq_P, ne_P, db_, di_, setVals, setAll, datas, itemsD, truD, List.getElem?_cons_zero, List.getElem?_cons_succ, List.set_cons_zero, List.set_cons_succ, Option.map_some, Option.map_none, Option.some.injEq, exists_eq_left', decide_eq_true_eq, Bool.not_true, Bool.not_false, Bool.false_eq_true, if_false, if_true, true_and, and_true, decide_true, decide_false, List.length_cons, List.length_nil, mx_0, mx_1, mx_2, mx_3, mx_4, mx_5, mx_6, mx_7, mx_8, mx_9, mx_10, mx_11, mx_12, mx_13, mx_14, mx_15, mx_16, mx_17, mx_18, mx_19, mx_20, mx_21, mx_22, mx_23, mx_24, Nat.reduceAdd, Nat.reduceLeDiff, Nat.zero_add, Bool.not_eq_true', decide_eq_false_iff_not, reduceIte, ev_reprb, e_check_jet, e_check_distance_or_zero, e_value_at, e_negative, ap_check_jet, ap_check_distance_or_zero, ap_value_at, ap_negative, isJ_J, lit_0]
  walk_at "fin"
theorem sem_slope_at (e_check_jet : Φ 73 = sp_check_jet) (e_check_distance_or_zero : Φ 74 = sp_check_distance_or_zero) (e_pminus : Φ 65 = sp_pminus) (e_times : Φ 51 = sp_times) : ∀ ds Q, sp_slope_at ds Q → wS Φ rs_slope_at { nx := fun _ => Q (.d .none), rt := Q } (startD ["x0", "x1", "x2", "x3"] ds) := by
  rintro ds Q ⟨s, b, d, rfl, h1, h2, h3, h4, h5, hq⟩
  show wS Φ rs_slope_at _ [some (.val (.d (J s b))), some (.val (.d (F d))), none, none]
  simp only [rs_slope_at, wS, wE, wA, wT, wI, wO, ev_add, ev_sub, ev_mul, ev_div, ev_mod, ev_pow, ev_cat, ev_lt, ev_le, ev_gt, ev_ge, ev_eq, ev_ne, ev_eqs, ev_nes, ix_F0, ix_F1, ix_J0, ix_J1, ix_P0, ix_P1, ix_P2, ix_t0, ix_t1, ix_t2, ix_l0, ix_l1, ix_l2, tg_1, tg_F, tg_J, tg_P, tg_2, tg_3, tg_4, fold_J, eq_F, ne_F, eq_J, ne_J, eq_P, ne_P, db_, di_, setVals, setAll, datas, itemsD, truD, List.getElem?_cons_zero, List.getElem?_cons_succ, List.set_cons_zero, List.set_cons_succ, Option.map_some, Option.map_none, Option.some.injEq, exists_eq_left', decide_eq_true_eq, Bool.not_true, Bool.not_false, Bool.false_eq_true, if_false, if_true, true_and, and_true, decide_true, decide_false, List.length_cons, List.length_nil, mx_0, mx_1, mx_2, mx_3, mx_4, mx_5, mx_6, mx_7, mx_8, mx_9, mx_10, mx_11, mx_12, mx_13, mx_14, mx_15, mx_16, mx_17, mx_18, mx_19, mx_20, mx_21, mx_22, mx_23, mx_24, Nat.reduceAdd, Nat.reduceLeDiff, Nat.zero_add, Bool.not_eq_true', decide_eq_false_iff_not, reduceIte, ev_reprb, e_check_jet, e_check_distance_or_zero, e_pminus, e_times, ap_check_jet, ap_check_distance_or_zero, ap_pminus, ap_times, isJ_J, lit_2]
  walk_at "fin"
theorem sem_time_square (e_check_jet : Φ 73 = sp_check_jet) (e_check_distance_or_zero : Φ 74 = sp_check_distance_or_zero) (e_times : Φ 51 = sp_times) : ∀ ds Q, sp_time_square ds Q → wS Φ rs_time_square { nx := fun _ => Q (.d .none), rt := Q } (startD ["x0", "x1"] ds) := by
  rintro ds Q ⟨s, b, d, rfl, h1, h2, h3, h4, hq⟩
  show wS Φ rs_time_square _ [some (.val (.d (J s b))), some (.val (.d (F d)))]
  simp only [rs_time_square, wS, wE, wA, wT, wI, wO, ev_add, ev_sub, ev_mul, ev_div, ev_mod, ev_pow, ev_cat, ev_lt, ev_le, ev_gt, ev_ge, ev_eq, ev_ne, ev_eqs, ev_nes, ix_F0, ix_F1, ix_J0, ix_J1, ix_P0, ix_P1, ix_P2, ix_t0, ix_t1, ix_t2, ix_l0, ix_l1, ix_l2, tg_1, tg_F, tg_J, tg_P, tg_2, tg_3, tg_4, fold_J, eq_F, ne_F, eq_J, ne_J, eq_P, ne_P, db_, di_, setVals, setAll, datas, itemsD, truD, List.getElem?_cons_zero, List.getElem?_cons_succ, List.set_cons_zero, List.set_cons_succ, Option.map_some, Option.map_none, Option.some.injEq, exists_eq_left', decide_eq_true_eq, Bool.not_true, Bool.not_false, Bool.false_eq_true, if_false, if_true, true_and, and_true, decide_true, decide_false, List.length_cons, List.length_nil, mx_0, mx_1, mx_2, mx_3, mx_4, mx_5, mx_6, mx_7, mx_8, mx_9, mx_10, mx_11, mx_12, mx_13, mx_14, mx_15, mx_16, mx_17, mx_18, mx_19, mx_20, mx_21, mx_22, mx_23, mx_24, Nat.reduceAdd, Nat.reduceLeDiff, Nat.zero_add, Bool.not_eq_true', decide_eq_false_iff_not, reduceIte, ev_reprb, e_check_jet, e_check_distance_or_zero, e_times, ap_check_jet, ap_check_distance_or_zero, ap_times, isJ_J]
  walk_at "fin"
theorem sem_head_of (e_check_jet : Φ 73 = sp_check_jet) (e_plus : Φ 48 = sp_plus) (e_times : Φ 51 = sp_times) (e_quotient : Φ 82 = sp_quotient) : ∀ ds Q, sp_head_of ds Q → wS Φ rs_head_of { nx := fun _ => Q (.d .none), rt := Q } (startD ["x0", "x1", "x2"] ds) := by
  rintro ds Q ⟨s, b, rfl, h1, h2, h3, hq⟩
  show wS Φ rs_head_of _ [some (.val (.d (J s b))), none, none]
  simp only [rs_head_of, wS, wE, wA, wT, wI, wO, ev_add, ev_sub, ev_mul, ev_div, ev_mod, ev_pow, ev_cat, ev_lt, ev_le, ev_gt, ev_ge, ev_eq, ev_ne, ev_eqs, ev_nes, ix_F0, ix_F1, ix_J0, ix_J1, ix_P0, ix_P1, ix_P2, ix_t0, ix_t1, ix_t2, ix_l0, ix_l1, ix_l2, tg_1, tg_F, tg_J, tg_P, tg_2, tg_3, tg_4, fold_J, eq_F, ne_F, eq_J, ne_J, eq_P, ne_P, db_, di_, setVals, setAll, datas, itemsD, truD, List.getElem?_cons_zero, List.getElem?_cons_succ, List.set_cons_zero, List.set_cons_succ, Option.map_some, Option.map_none, Option.some.injEq, exists_eq_left', decide_eq_true_eq, Bool.not_true, Bool.not_false, Bool.false_eq_true, if_false, if_true, true_and, and_true, decide_true, decide_false, List.length_cons, List.length_nil, mx_0, mx_1, mx_2, mx_3, mx_4, mx_5, mx_6, mx_7, mx_8, mx_9, mx_10, mx_11, mx_12, mx_13, mx_14, mx_15, mx_16, mx_17, mx_18, mx_19, mx_20, mx_21, mx_22, mx_23, mx_24, Nat.reduceAdd, Nat.reduceLeDiff, Nat.zero_add, Bool.not_eq_true', decide_eq_false_iff_not, reduceIte, ev_reprb, e_check_jet, e_plus, e_times, e_quotient, ap_check_jet, ap_plus, ap_times, ap_quotient, isJ_J, lit_1, lit_4]
  refine ⟨h1, by walk_at "sz", by walk_at "sz", by walk_at "sz", by walk_at "sz", by walk_at "sz", by walk_at "sz", ?_, by walk_at "sz", by walk_at "sz", hq⟩
  grind
theorem sem_head_left (e_head_of : Φ 85 = sp_head_of) (e_height_at : Φ 77 = sp_height_at) (e_pminus : Φ 65 = sp_pminus) : ∀ ds Q, sp_head_left ds Q → wS Φ rs_head_left { nx := fun _ => Q (.d .none), rt := Q } (startD ["x0", "x1"] ds) := by
  rintro ds Q ⟨s, b, d, rfl, h1, h2, h3, h4, h5, hq⟩
  show wS Φ rs_head_left _ [some (.val (.d (J s b))), some (.val (.d (F d)))]
  simp only [rs_head_left, wS, wE, wA, wT, wI, wO, ev_add, ev_sub, ev_mul, ev_div, ev_mod, ev_pow, ev_cat, ev_lt, ev_le, ev_gt, ev_ge, ev_eq, ev_ne, ev_eqs, ev_nes, ix_F0, ix_F1, ix_J0, ix_J1, ix_P0, ix_P1, ix_P2, ix_t0, ix_t1, ix_t2, ix_l0, ix_l1, ix_l2, tg_1, tg_F, tg_J, tg_P, tg_2, tg_3, tg_4, fold_J, eq_F, ne_F, eq_J, ne_J, eq_P, ne_P, db_, di_, setVals, setAll, datas, itemsD, truD, List.getElem?_cons_zero, List.getElem?_cons_succ, List.set_cons_zero, List.set_cons_succ, Option.map_some, Option.map_none, Option.some.injEq, exists_eq_left', decide_eq_true_eq, Bool.not_true, Bool.not_false, Bool.false_eq_true, if_false, if_true, true_and, and_true, decide_true, decide_false, List.length_cons, List.length_nil, mx_0, mx_1, mx_2, mx_3, mx_4, mx_5, mx_6, mx_7, mx_8, mx_9, mx_10, mx_11, mx_12, mx_13, mx_14, mx_15, mx_16, mx_17, mx_18, mx_19, mx_20, mx_21, mx_22, mx_23, mx_24, Nat.reduceAdd, Nat.reduceLeDiff, Nat.zero_add, Bool.not_eq_true', decide_eq_false_iff_not, reduceIte, ev_reprb, e_head_of, e_height_at, e_pminus, ap_head_of, ap_height_at, ap_pminus]
  walk_at "fin"
theorem sem_distance_of (e_check_place : Φ 20 = sp_check_place) (e_reduced : Φ 33 = sp_reduced) : ∀ ds Q, sp_distance_of ds Q → wS Φ rs_distance_of { nx := fun _ => Q (.d .none), rt := Q } (startD ["x0"] ds) := by
  rintro ds Q ⟨x, y, rfl, h1, h2, hq⟩
  show wS Φ rs_distance_of _ [some (.val (.d (P3 x y)))]
  simp only [rs_distance_of, wS, wE, wA, wT, wI, wO, ev_add, ev_sub, ev_mul, ev_div, ev_mod, ev_pow, ev_cat, ev_lt, ev_le, ev_gt, ev_ge, ev_eq, ev_ne, ev_eqs, ev_nes, ix_F0, ix_F1, ix_J0, ix_J1, ix_P0, ix_P1, ix_P2, ix_t0, ix_t1, ix_t2, ix_l0, ix_l1, ix_l2, tg_1, tg_F, tg_J, tg_P, tg_2, tg_3, tg_4, fold_J, eq_F, ne_F, eq_J, ne_J, eq_P, ne_P, db_, di_, setVals, setAll, datas, itemsD, truD, List.getElem?_cons_zero, List.getElem?_cons_succ, List.set_cons_zero, List.set_cons_succ, Option.map_some, Option.map_none, Option.some.injEq, exists_eq_left', decide_eq_true_eq, Bool.not_true, Bool.not_false, Bool.false_eq_true, if_false, if_true, true_and, and_true, decide_true, decide_false, List.length_cons, List.length_nil, mx_0, mx_1, mx_2, mx_3, mx_4, mx_5, mx_6, mx_7, mx_8, mx_9, mx_10, mx_11, mx_12, mx_13, mx_14, mx_15, mx_16, mx_17, mx_18, mx_19, mx_20, mx_21, mx_22, mx_23, mx_24, Nat.reduceAdd, Nat.reduceLeDiff, Nat.zero_add, Bool.not_eq_true', decide_eq_false_iff_not, reduceIte, ev_reprb, e_check_place, e_reduced, ap_check_place, ap_reduced, isPl_P]
  rw [← F_rd (pt_pos x y) (pt_x x y)] at hq
  exact ⟨h1, pt_pos x y, h2.c, hq⟩
theorem sem_height_of (e_check_place : Φ 20 = sp_check_place) (e_reduced : Φ 33 = sp_reduced) : ∀ ds Q, sp_height_of ds Q → wS Φ rs_height_of { nx := fun _ => Q (.d .none), rt := Q } (startD ["x0"] ds) := by
  rintro ds Q ⟨x, y, rfl, h1, h2, hq⟩
  show wS Φ rs_height_of _ [some (.val (.d (P3 x y)))]
  simp only [rs_height_of, wS, wE, wA, wT, wI, wO, ev_add, ev_sub, ev_mul, ev_div, ev_mod, ev_pow, ev_cat, ev_lt, ev_le, ev_gt, ev_ge, ev_eq, ev_ne, ev_eqs, ev_nes, ix_F0, ix_F1, ix_J0, ix_J1, ix_P0, ix_P1, ix_P2, ix_t0, ix_t1, ix_t2, ix_l0, ix_l1, ix_l2, tg_1, tg_F, tg_J, tg_P, tg_2, tg_3, tg_4, fold_J, eq_F, ne_F, eq_J, ne_J, eq_P, ne_P, db_, di_, setVals, setAll, datas, itemsD, truD, List.getElem?_cons_zero, List.getElem?_cons_succ, List.set_cons_zero, List.set_cons_succ, Option.map_some, Option.map_none, Option.some.injEq, exists_eq_left', decide_eq_true_eq, Bool.not_true, Bool.not_false, Bool.false_eq_true, if_false, if_true, true_and, and_true, decide_true, decide_false, List.length_cons, List.length_nil, mx_0, mx_1, mx_2, mx_3, mx_4, mx_5, mx_6, mx_7, mx_8, mx_9, mx_10, mx_11, mx_12, mx_13, mx_14, mx_15, mx_16, mx_17, mx_18, mx_19, mx_20, mx_21, mx_22, mx_23, mx_24, Nat.reduceAdd, Nat.reduceLeDiff, Nat.zero_add, Bool.not_eq_true', decide_eq_false_iff_not, reduceIte, ev_reprb, e_check_place, e_reduced, ap_check_place, ap_reduced, isPl_P]
  rw [← F_rd (pt_pos x y) (pt_y x y)] at hq
  exact ⟨h1, pt_pos x y, h2.c, hq⟩
theorem sem_place_of (e_check_distance : Φ 12 = sp_check_distance) (e_check_fraction : Φ 13 = sp_check_fraction) (e_reduced_point : Φ 14 = sp_reduced_point) : ∀ ds Q, sp_place_of ds Q → wS Φ rs_place_of { nx := fun _ => Q (.d .none), rt := Q } (startD ["x0", "x1"] ds) := by
  rintro ds Q ⟨x, y, rfl, h1, h2, h3, hq⟩
  show wS Φ rs_place_of _ [some (.val (.d (F x))), some (.val (.d (F y)))]
  simp only [rs_place_of, wS, wE, wA, wT, wI, wO, ev_add, ev_sub, ev_mul, ev_div, ev_mod, ev_pow, ev_cat, ev_lt, ev_le, ev_gt, ev_ge, ev_eq, ev_ne, ev_eqs, ev_nes, ix_F0, ix_F1, ix_J0, ix_J1, ix_P0, ix_P1, ix_P2, ix_t0, ix_t1, ix_t2, ix_l0, ix_l1, ix_l2, tg_1, tg_F, tg_J, tg_P, tg_2, tg_3, tg_4, fold_J, eq_F, ne_F, eq_J, ne_J, eq_P, ne_P, db_, di_, setVals, setAll, datas, itemsD, truD, List.getElem?_cons_zero, List.getElem?_cons_succ, List.set_cons_zero, List.set_cons_succ, Option.map_some, Option.map_none, Option.some.injEq, exists_eq_left', decide_eq_true_eq, Bool.not_true, Bool.not_false, Bool.false_eq_true, if_false, if_true, true_and, and_true, decide_true, decide_false, List.length_cons, List.length_nil, mx_0, mx_1, mx_2, mx_3, mx_4, mx_5, mx_6, mx_7, mx_8, mx_9, mx_10, mx_11, mx_12, mx_13, mx_14, mx_15, mx_16, mx_17, mx_18, mx_19, mx_20, mx_21, mx_22, mx_23, mx_24, Nat.reduceAdd, Nat.reduceLeDiff, Nat.zero_add, Bool.not_eq_true', decide_eq_false_iff_not, reduceIte, ev_reprb, e_check_distance, e_check_fraction, e_reduced_point, ap_check_distance, ap_check_fraction, ap_reduced_point, isF_F]
  have m := fun {a b : Int} (h : Sz 2000 a) (e : Sz 2000 b) => cm3 (h.mono (k := 3000) (by decide)) (e.mono (k := 3000) (by decide))
  exact ⟨h1, m h2.n h3.d, m h3.n h2.d, m h2.d h3.d, dd_pos x y, (h2.d.mul h3.d).mono (by decide), hq⟩
end
/-! ### what a repr asks -/
def Shw (n k : Nat) (d : PyData) : Prop := d.showable = true ∧ d.hasDict = false ∧ d.depth ≤ k ∧ d.shown.length ≤ n
theorem shownAll_map : ∀ xs : List PyData, PyData.shownAll xs = xs.map PyData.shown
  | [] => by simp only [PyData.shownAll, List.map]
  | x :: xs => by simp only [PyData.shownAll, List.map, shownAll_map xs]
theorem showableAll_of : ∀ xs : List PyData, (∀ x ∈ xs, x.showable = true) → PyData.showableAll xs = true
  | [], _ => by simp only [PyData.showableAll]
  | x :: xs, h => by
    simp only [PyData.showableAll, h x (List.mem_cons_self ..), showableAll_of xs fun y hy => h y (List.mem_cons_of_mem _ hy), Bool.and_self]
theorem hasDictAll_of : ∀ xs : List PyData, (∀ x ∈ xs, x.hasDict = false) → PyData.hasDictAll xs = false
  | [], _ => by simp only [PyData.hasDictAll]
  | x :: xs, h => by
    simp only [PyData.hasDictAll, h x (List.mem_cons_self ..), hasDictAll_of xs fun y hy => h y (List.mem_cons_of_mem _ hy), Bool.or_self]
theorem depthAll_of {k : Nat} : ∀ xs : List PyData, (∀ x ∈ xs, x.depth ≤ k) → PyData.depthAll xs ≤ k
  | [], _ => by simp only [PyData.depthAll]; omega
  | x :: xs, h => by
    have h1 := h x (List.mem_cons_self ..)
    have h2 := depthAll_of xs fun y hy => h y (List.mem_cons_of_mem _ hy)
    simp only [PyData.depthAll]
    omega
theorem piled_of {n : Nat} : ∀ xs : List PyData, (∀ x ∈ xs, x.shown.length ≤ n) → piled (xs.map PyData.shown) ≤ xs.length * (n + 2)
  | [], _ => by simp [piled]
  | x :: xs, h => by
    have h1 := h x (List.mem_cons_self ..)
    have h2 := piled_of xs fun y hy => h y (List.mem_cons_of_mem _ hy)
    rw [List.map_cons, piled_cons, List.length_cons, Nat.succ_mul]
    omega
theorem listText_le : ∀ ts : List Str, (listText ts).length ≤ 2 + piled ts
  | [] => by decide
  | t :: r => by
    have h := textFrom_length_pos r 1 (("[" : Str) ++ (if (0 : Nat) > 0 then ", " else "" : String) ++ t) (Nat.succ_pos 0)
    have e : ((("[" : Str) ++ (if (0 : Nat) > 0 then ", " else "" : String) ++ t)).length = 1 + t.length := by
      simp only [strLen_append]
      rfl
    have hX : (listText (t :: r)).length = (textFrom 1 (("[" : Str) ++ (if (0 : Nat) > 0 then ", " else "" : String) ++ t) r).length + 1 := by
      show (textFrom 0 "[" (t :: r) ++ "]").length = _
      rw [strLen_append]
      rfl
    rw [hX, h, e, piled_cons]
    omega
theorem tupleText_le (ts : List Str) : (tupleText ts).length ≤ 3 + piled ts := by
  unfold tupleText
  simp only [strLen_append]
  have e1 : ((("(" : String) : Str)).length = 1 := rfl
  have e3 : (((if ts.length == 1 then ",)" else ")" : String) : Str)).length ≤ 2 := by split <;> decide
  rw [e1]
  by_cases h : ts = []
  · subst h
    have : (Str.join ", " []).length = 0 := rfl
    simp [piled] at e3 ⊢
    omega
  · have := join_length_add ts h
    omega
theorem shw_list {n k : Nat} {xs : List PyData} (h : ∀ x ∈ xs, Shw n k x) : Shw (2 + xs.length * (n + 2)) (k + 1) (.list xs) := by
  refine ⟨?_, ?_, ?_, ?_⟩
  · simp only [PyData.showable]
    exact showableAll_of xs fun x hx => (h x hx).1
  · simp only [PyData.hasDict]
    exact hasDictAll_of xs fun x hx => (h x hx).2.1
  · simp only [PyData.depth]
    have := depthAll_of xs fun x hx => (h x hx).2.2.1
    omega
  · simp only [PyData.shown, shownAll_map]
    have := piled_of xs fun x hx => (h x hx).2.2.2
    have := listText_le (xs.map PyData.shown)
    omega
theorem shw_tuple {n k : Nat} {xs : List PyData} (h : ∀ x ∈ xs, Shw n k x) : Shw (3 + xs.length * (n + 2)) (k + 1) (.tuple xs) := by
  refine ⟨?_, ?_, ?_, ?_⟩
  · simp only [PyData.showable]
    exact showableAll_of xs fun x hx => (h x hx).1
  · simp only [PyData.hasDict]
    exact hasDictAll_of xs fun x hx => (h x hx).2.1
  · simp only [PyData.depth]
    have := depthAll_of xs fun x hx => (h x hx).2.2.1
    omega
  · simp only [PyData.shown, shownAll_map]
    have := piled_of xs fun x hx => (h x hx).2.2.2
    have := tupleText_le (xs.map PyData.shown)
    omega
theorem shw_int {z : Int} (h : Sz 1920 z) : Shw 1921 0 (.int z) := by
  have hl := h.log (by decide)
  refine ⟨?_, ?_, ?_, ?_⟩
  · simp only [PyData.showable]
    exact decide_eq_true hl
  · simp only [PyData.hasDict]
  · simp only [PyData.depth]; omega
  · simp only [PyData.shown]
    have := int_text_length_le (by decide) hl
    rw [PySem.ofString_length]
    omega
theorem shw_bool (b : Bool) : Shw 5 0 (.bool b) := by
  refine ⟨?_, ?_, ?_, ?_⟩
  · simp only [PyData.showable]
  · simp only [PyData.hasDict]
  · simp only [PyData.depth]; omega
  · simp only [PyData.shown]
    cases b <;> decide
theorem shw_none : Shw 4 0 .none := by
  refine ⟨?_, ?_, ?_, ?_⟩
  · simp only [PyData.showable]
  · simp only [PyData.hasDict]
  · simp only [PyData.depth]; omega
  · simp only [PyData.shown]
    decide
theorem Shw.mono {n k n' k' : Nat} {d : PyData} (h : Shw n k d) (e : n ≤ n') (e' : k ≤ k') : Shw n' k' d := ⟨h.1, h.2.1, Nat.le_trans h.2.2.1 e', Nat.le_trans h.2.2.2 e⟩
/-- a value that is small to tell -/
def Tl (d : PyData) : Prop := Shw 16000 2 d
theorem tl_int {z : Int} (h : Sz 1920 z) : Tl (.int z) := (shw_int h).mono (by decide) (by decide)
theorem tl_bool (b : Bool) : Tl (.bool b) := (shw_bool b).mono (by decide) (by decide)
theorem tl_none : Tl .none := shw_none.mono (by decide) (by decide)
theorem shwF {q : Rat} (h : Zf 1920 q) : Shw 4000 1 (F q) := by
  refine Shw.mono (shw_tuple (n := 1921) (k := 0) (xs := [.int q.num, .int (q.den : Int)]) ?_) (by simp) (by decide)
  intro x hx
  simp only [List.mem_cons, List.not_mem_nil, or_false] at hx
  rcases hx with rfl | rfl
  · exact shw_int h.n
  · exact shw_int h.d
theorem tlF {q : Rat} (h : Zf 1920 q) : Tl (F q) := (shwF h).mono (by decide) (by decide)
theorem tlJ {s b : Rat} (h : Zf 1920 s) (h' : Zf 1920 b) : Tl (J s b) := by
  refine Shw.mono (shw_tuple (n := 4000) (k := 1) (xs := [F s, F b]) ?_) (by simp) (by decide)
  intro x hx
  simp only [List.mem_cons, List.not_mem_nil, or_false] at hx
  rcases hx with rfl | rfl
  · exact shwF h
  · exact shwF h'
theorem tlP {x y : Rat} (h : Zp 1920 x y) : Tl (P3 x y) := by
  refine Shw.mono (shw_tuple (n := 1921) (k := 0) (xs := [.int (pt x y).1, .int (pt x y).2.1, .int (pt x y).2.2]) ?_) (by simp) (by decide)
  intro z hz
  simp only [List.mem_cons, List.not_mem_nil, or_false] at hz
  rcases hz with rfl | rfl | rfl
  · exact shw_int h.a
  · exact shw_int h.b
  · exact shw_int h.c
theorem al0 {P : PyData → Prop} : ∀ x ∈ ([] : List PyData), P x := fun x hx => by cases hx
theorem al1 {P : PyData → Prop} {a : PyData} {l : List PyData} (h : P a) (t : ∀ x ∈ l, P x) : ∀ x ∈ a :: l, P x := fun x hx => by
  rcases List.mem_cons.mp hx with e | e
  · rw [e]; exact h
  · exact t x e
/-- a list of such -/
def Tll (d : PyData) : Prop := ∃ xs, d = .list xs ∧ xs.length ≤ 40 ∧ ∀ x ∈ xs, Tl x
theorem tll {xs : List PyData} (h : xs.length ≤ 40) (e : ∀ x ∈ xs, Tl x) : Tll (.list xs) := ⟨xs, rfl, h, e⟩
theorem shw_tll {d : PyData} (h : Tll d) : Shw 650000 3 d := by
  obtain ⟨xs, rfl, hl, hx⟩ := h
  refine (shw_list hx).mono ?_ (by decide)
  have : xs.length * (16000 + 2) ≤ 40 * (16000 + 2) := Nat.mul_le_mul_right _ hl
  omega
theorem rp1 {xs : List PyData} {Q : DV → Prop} (hl : xs.length ≤ 40) (h : ∀ x ∈ xs, Tl x) (hp : Q (.d (.str (PyData.list xs).shown))) : wBi .repr [.d (.list xs)] Q := by
  have := shw_tll ⟨xs, rfl, hl, h⟩
  exact ⟨this.1, this.2.1, Nat.le_trans this.2.2.1 (by decide), Nat.le_trans this.2.2.2 (by decide), hp⟩
theorem rp2 {xs : List PyData} {Q : DV → Prop} (hl : xs.length ≤ 20) (h : ∀ x ∈ xs, Tll x) (hp : Q (.d (.str (PyData.list xs).shown))) : wBi .repr [.d (.list xs)] Q := by
  have := shw_list fun x hx => shw_tll (h x hx)
  refine ⟨this.1, this.2.1, Nat.le_trans this.2.2.1 (by decide), Nat.le_trans this.2.2.2 ?_, hp⟩
  have : xs.length * (650000 + 2) ≤ 20 * (650000 + 2) := Nat.mul_le_mul_right _ hl
  unfold sizeLine
  omega
theorem intsD_map : ∀ xs : List Int, intsD (xs.map PyData.int) = some xs
  | [] => rfl
  | x :: xs => by
    show (intsD (xs.map PyData.int)).map (x :: ·) = some (x :: xs)
    rw [intsD_map xs]
    rfl
local macro_rules | `(tactic| walk_at "tl") => `(tactic| first
  | assumption
  | exact tl_none
  | exact tl_bool _
  | exact tlF (by walk_at "sz")
  | exact tlJ (by walk_at "sz") (by walk_at "sz")
  | exact tlP (by walk_at "sz")
  | exact tll (by decide) (by walk_at "tls")
  | exact tll (by simp) (by walk_at "tls"))
local macro_rules | `(tactic| walk_at "tls") => `(tactic| first
  | exact al0
  | exact al1 (by walk_at "tl") (by walk_at "tls"))
local macro_rules | `(tactic| walk_at "rp") => `(tactic| first
  | refine rp1 (by simp) (by walk_at "tls") ?_
  | refine rp2 (by simp) (by walk_at "tls") ?_)
local macro_rules | `(tactic| walk_at "ob1") => `(tactic| first
  | assumption
  | walk_at "sz"
  | omega
  | (simp; done)
  | grind [hgt, slp, hed])
local macro_rules | `(tactic| walk_at "obs") => `(tactic| repeat (refine And.intro (by walk_at "ob1") ?_))
local macro_rules | `(tactic| walk_at "eqs") => `(tactic| rw [if_neg (by intro hh; exact hh (by grind [hgt, slp, hed]))])
def b_Lvat_2 : RS := (.asg 3 (.bin .mod (.bi .int (.cons (.bin .add (.bin .add (.bin .mul (.var 3) (.con (.int 46021))) (.bin .mod (.bi .int (.cons (.var 4) .nil)) (.con (.int 2147483489)))) (.con (.int 29))) .nil)) (.con (.int 2147483489))))
def q_Lvat_3 : RS := (.retV (.cons (.ite (.or (.bl (.cmp .lt (.var 2) (.con (.int 0)))) (.bl (.cmp .ge (.var 2) (.bin .pow (.con (.int 10)) (.con (.int 18)))))) (.bi .abs (.cons (.var 2) .nil)) (.con (.int 0))) (.cons (.var 3) (.cons (.con (.int 0)) .nil))))
def q_Lvat_2 : RS := (.seq (.for (.one 4) (.seq (.bin .add (.slc (.var 0) .none (.some (.con (.int 12)))) (.lst (.cons (.var 2) .nil)))) b_Lvat_2) q_Lvat_3)
def q_Lvat_1 : RS := (.seq (.asg 3 (.bin .add (.con (.int 31469)) (.bin .mul (.con (.int 1823)) (.var 1)))) q_Lvat_2)
def q_Lvat_0 : RS := (.seq (.asg 2 (.ite (.bl (.cmp .lt (.var 1) (.bi .len (.cons (.var 0) .nil)))) (.bi .int (.cons (.idx (.var 0) (.var 1)) .nil)) (.bin .add (.bin .add (.bin .mul (.con (.int 7307)) (.var 1)) (.con (.int 67))) (.bin .mod (.bi .int (.cons (.bi .sum (.cons (.slc (.var 0) .none (.some (.con (.int 6)))) .nil)) .nil)) (.con (.int 1000117)))))) q_Lvat_1)
theorem q_Lvat : rs_Lvat = q_Lvat_0 := rfl
section
variable {Φ : Nat → PSp}
theorem vat_loop {turn : DV → SDs → (SDs → Prop) → Prop} {nx : SDs → Prop} {a b c : Option SD}
    (ht : ∀ (k : SDs → Prop) (i z : Int) (o : Option SD), 0 ≤ z → z < 2147483489 → (∀ z', 0 ≤ z' → z' < 2147483489 → k [a, b, c, some (.val (I z')), some (.val (I i))]) → turn (I i) [a, b, c, some (.val (I z)), o] k) :
    ∀ (xs : List DV), (∀ x ∈ xs, ∃ i, x = I i) → ∀ (z : Int) (o : Option SD), 0 ≤ z → z < 2147483489 → (∀ z' o', 0 ≤ z' → z' < 2147483489 → nx [a, b, c, some (.val (I z')), o']) → goFor turn nx xs [a, b, c, some (.val (I z)), o]
  | [], _, z, o, h0, h1, hn => hn z o h0 h1
  | x :: xs, hx, z, o, h0, h1, hn => by
    obtain ⟨i, rfl⟩ := hx x (List.mem_cons_self ..)
    exact ht _ i z o h0 h1 fun z' h0' h1' => vat_loop ht xs (fun y hy => hx y (List.mem_cons_of_mem _ hy)) z' _ h0' h1' hn
theorem sem_Lvat : ∀ ds Q, sp_Lvat ds Q → wS Φ rs_Lvat { nx := fun _ => Q (.d .none), rt := Q } (startD ["a", "b", "c", "d", "e"] ds) := by
  rintro ds Q ⟨ns, n, rfl, h0, h1, hq⟩
  show wS Φ rs_Lvat _ [some (.val (.scr ns)), some (.val (I n)), none, none, none]
  rw [q_Lvat]
  have key : ∀ cell : Int, wS Φ q_Lvat_1 { nx := fun _ => Q (.d .none), rt := Q } [some (.val (.scr ns)), some (.val (I n)), some (.val (I cell)), none, none] := by
    intro cell
    simp only [q_Lvat_1, wS, wE, wA, wT, wI, wO, wTg, wIdx, wSlc, wBin, wCmp, wBi, wIsi, tyD, dbool, dint, setVals, setAll, datas, itemsD, truD, List.getElem?_cons_zero, List.getElem?_cons_succ, List.set_cons_zero, List.set_cons_succ, Option.map_some, Option.map_none]
    refine ⟨.inl (.inl ⟨by omega, by omega⟩), ?_⟩
    simp only [q_Lvat_2, wS, wE, wA, wT, wI, wO, wTg, wIdx, wSlc, wBin, wCmp, wBi, wIsi, tyD, dbool, dint, setVals, setAll, datas, itemsD, truD, List.getElem?_cons_zero, List.getElem?_cons_succ, List.set_cons_zero, List.set_cons_succ, Option.map_some, Option.map_none]
    refine ⟨_, rfl, by simp [mx], ?_⟩
    have hc : (cutD ns none (some 12)).length ≤ 12 := by
      unfold cutD
      rw [List.length_take]
      have : HT.sIx ns.length ns.length (some 12) ≤ 12 := by
        unfold HT.sIx
        simp
        omega
      omega
    refine ⟨by simp [mx]; omega, _, rfl, ?_⟩
    refine vat_loop (fun k i z o z0 z1 hk => ?_) _ ?_ _ _ (by omega) (by omega) fun z' o' z0 z1 => ?_
    · simp only [b_Lvat_2, wS, wE, wA, wT, wI, wO, wTg, wIdx, wSlc, wBin, wCmp, wBi, wIsi, tyD, dbool, dint, setVals, setAll, datas, itemsD, truD, List.getElem?_cons_zero, List.getElem?_cons_succ, List.set_cons_zero, List.set_cons_succ, Option.map_some, Option.map_none]
      refine ⟨.inl (.inl ⟨by omega, by omega⟩), by omega, by omega, hk _ (Int.emod_nonneg _ (by omega)) (Int.emod_lt_of_pos _ (by omega))⟩
    · intro x hx
      obtain ⟨d, hd, rfl⟩ := List.mem_map.mp hx
      rcases List.mem_append.mp hd with h | h
      · obtain ⟨i, _, rfl⟩ := List.mem_map.mp h
        exact ⟨i, rfl⟩
      · rw [List.mem_singleton.mp h]
        exact ⟨cell, rfl⟩
    · simp only [q_Lvat_3, wS, wE, wA, wT, wI, wO, wTg, wIdx, wSlc, wBin, wCmp, wBi, wIsi, tyD, dbool, dint, setVals, setAll, datas, itemsD, truD, List.getElem?_cons_zero, List.getElem?_cons_succ, List.set_cons_zero, List.set_cons_succ, Option.map_some, Option.map_none, decide_eq_true_eq]
      by_cases hz : cell < 0
      · simp only [hz, if_true]
        exact ⟨by omega, z0, z1, by omega, hq⟩
      · simp only [hz, if_false]
        refine ⟨⟨by omega, by omega, by decide⟩, ?_⟩
        split
        · exact ⟨by omega, z0, z1, by omega, hq⟩
        · exact ⟨by omega, z0, z1, by omega, hq⟩
  simp only [q_Lvat_0, wS, wE, wA, wT, wI, wO, wTg, wIdx, wSlc, wBin, wCmp, wBi, wIsi, tyD, dbool, dint, setVals, setAll, datas, itemsD, truD, List.getElem?_cons_zero, List.getElem?_cons_succ, List.set_cons_zero, List.set_cons_succ, Option.map_some, Option.map_none, decide_eq_true_eq]
  refine ⟨_, rfl, ?_⟩
  split
  · rename_i h
    have hl : n.toNat < ns.length := by omega
    refine ⟨ns[n.toNat], ?_, key _⟩
    have := atI_nat (xs := ns) (j := n.toNat) (v := ns[n.toNat]) (List.getElem?_eq_getElem hl)
    rw [Int.toNat_of_nonneg h0] at this
    exact this
  · exact ⟨.inl (.inl ⟨by omega, by omega⟩), _, intsD_map _, by omega, key _⟩
theorem sem_law (e36 : Φ 36 = sp_Lright) (e37 : Φ 37 = sp_Lvat) : ∀ ds Q, sp_law ds Q → wS Φ rs_law { nx := fun _ => Q (.d .none), rt := Q } (startD ["a", "b"] ds) := by
  rintro ds Q ⟨ns, rfl, hq⟩
  show wS Φ rs_law _ [some (.val (.scr ns)), none]
  simp only [rs_law, wS, wE, wA, wT, wI, wO, wTg, wIdx, wSlc, wBin, wCmp, wBi, wIsi, tyD, dbool, dint, setVals, setAll, datas, itemsD, truD, List.getElem?_cons_zero, List.getElem?_cons_succ, List.set_cons_zero, List.set_cons_succ, Option.map_some, Option.map_none, e36, e37, gt_iff_lt]
  refine ⟨_, rfl, ?_⟩
  have h : ∀ n : Int, n = 2 ∨ n = 3 → n < 2 ^ 62 ∧ -2 ^ 62 ≤ n ∧ (rngD 0 n.toNat).length ≤ mx ∧ goLc (fun x k => sp_Lvat [.scr ns, x] fun r => sp_Lright [r] fun r => match r with | .d y => k (some y) | _ => False) (rngD 0 n.toNat) [] fun ys => ∃ bs, boolsD ys = some bs ∧ Q (.d (.bool (bs.all id))) := by
    rintro n (rfl | rfl)
    · refine ⟨by decide, by decide, by decide, ?_⟩
      have e : rngD 0 (2 : Int).toNat = [I 0, I 1] := rfl
      rw [e]
      simp only [goLc]
      refine ⟨_, _, rfl, by decide, by decide, rfl, ?_⟩
      refine ⟨_, _, rfl, by decide, by decide, rfl, ?_⟩
      exact ⟨_, rfl, hq⟩
    · refine ⟨by decide, by decide, by decide, ?_⟩
      have e : rngD 0 (3 : Int).toNat = [I 0, I 1, I 2] := rfl
      rw [e]
      simp only [goLc]
      refine ⟨_, _, rfl, by decide, by decide, rfl, ?_⟩
      refine ⟨_, _, rfl, by decide, by decide, rfl, ?_⟩
      refine ⟨_, _, rfl, by decide, by decide, rfl, ?_⟩
      exact ⟨_, rfl, hq⟩
  refine h _ ?_
  split <;> (try split) <;> omega
end
def oddFr : List PyData := [.none, .int 1, .int 0, .str (Str.ofString "1"), .tuple [], .tuple [.int 1], .tuple [.int 2, .int 4], .tuple [.int 1, .int 0], .tuple [.int 1, .int (-2)], .tuple [.int 0, .int 3], .tuple [.int (-3), .int (-1)], .list [.int 1, .int 2], .tuple [.bool true, .int 2], .tuple [.int 1, .bool true], .tuple [.int 1, .int 2, .int 3], .dict [], .tuple [.none, .int 1], .tuple [.str (Str.ofString "1"), .int 2], .tuple [.tuple [.int 1, .int 2], .int 1], .bool true, .tuple [.int 0, .int 0]]
theorem odd_fr : ∀ x ∈ oddFr, isF x = false := by
  intro x hx
  simp only [oddFr, List.mem_cons, List.not_mem_nil, or_false] at hx
  rcases hx with h|h|h|h|h|h|h|h|h|h|h|h|h|h|h|h|h|h|h|h|h <;> rw [h] <;> first | rfl | decide
theorem pm_0 {a : DV} : perm [0] [a] = [a] := rfl
theorem pm_10 {a b : DV} : perm [1, 0] [a, b] = [b, a] := rfl
theorem pm_01 {a b : DV} : perm [0, 1] [a, b] = [a, b] := rfl
theorem pm_210 {a b c : DV} : perm [2, 1, 0] [a, b, c] = [c, b, a] := rfl
theorem ap_Lpick {Q : DV → Prop} {xs : List PyData} : sp_Lpick [DV.vat, DV.d (.list xs)] Q = (xs ≠ [] ∧ xs.length < 1000 ∧ ∀ x ∈ xs, Q (.d x)) := propext ⟨fun ⟨_, e, r⟩ => by
  simp only [List.cons.injEq, DV.d.injEq, and_true, true_and, PyData.list.injEq] at e
  subst e
  exact r, fun r => ⟨_, rfl, r⟩⟩
theorem ap_Lsize {Q : DV → Prop} : sp_Lsize [DV.vat] Q = (∀ z, 1 ≤ z → z ≤ 1000000000 → Q (I z)) := propext ⟨fun r => r.2, fun r => ⟨rfl, r⟩⟩
theorem ap_Ldraw {Q : DV → Prop} {m : Int} : sp_Ldraw [DV.vat, DV.d (.int m)] Q = (0 < m ∧ m < 1073741824 ∧ ∀ r, 0 ≤ r → r < m → Q (I r)) := propext ⟨fun ⟨_, e, r⟩ => by
  simp only [List.cons.injEq, DV.d.injEq, and_true, true_and, PyData.int.injEq] at e
  subst e
  exact r, fun r => ⟨_, rfl, r⟩⟩
theorem ap_Labove {Q : DV → Prop} {m : Int} : sp_Labove [DV.vat, DV.d (.int m)] Q = (0 ≤ m ∧ m ≤ 1000000000 ∧ ∀ q : Rat, 0 < q → Zf 31 q → Q (.d (F q))) := propext ⟨fun ⟨_, e, r⟩ => by
  simp only [List.cons.injEq, DV.d.injEq, and_true, true_and, PyData.int.injEq] at e
  subst e
  exact r, fun r => ⟨_, rfl, r⟩⟩
theorem ap_Lsome_frac {Q : DV → Prop} {m : Int} : sp_Lsome_frac [DV.vat, DV.d (.int m)] Q = (1 ≤ m ∧ m ≤ 1000000000 ∧ ∀ q : Rat, Zf 31 q → Q (.d (F q))) := propext ⟨fun ⟨_, e, r⟩ => by
  simp only [List.cons.injEq, DV.d.injEq, and_true, true_and, PyData.int.injEq] at e
  subst e
  exact r, fun r => ⟨_, rfl, r⟩⟩
theorem ap_Lfrac {Q : DV → Prop} {a b : Int} : sp_Lfrac [DV.d (.int a), DV.d (.int b)] Q = (b ≠ 0 ∧ Sz 8000 b ∧ Q (.d (F ((a : Rat) / (b : Rat))))) := propext ⟨fun ⟨_, _, e, r⟩ => by
  simp only [List.cons.injEq, DV.d.injEq, and_true, true_and, PyData.int.injEq] at e
  obtain ⟨rfl, rfl⟩ := e
  exact r, fun r => ⟨_, _, rfl, r⟩⟩
theorem all_in {P : PyData → Prop} {l : List PyData} (h : ∀ x ∈ l, P x) (g : (∀ x, P x → True) → True) : True := trivial
theorem ev_listJ {Q : DV → Prop} {s b : Rat} : wBi .list [.d (J s b)] Q = Q (.d (.list [F s, F b])) := rfl
theorem ev_catJ {Q : DV → Prop} {s b : Rat} {ys : List PyData} : wBin .add (.d (J s b)) (.d (.tuple ys)) Q = (ys.length + 2 ≤ mx ∧ Q (.d (.tuple (F s :: F b :: ys)))) := propext ⟨fun ⟨_, h, k⟩ => ⟨by simp at h; omega, k⟩, fun ⟨h, k⟩ => ⟨by simp, by simp; omega, k⟩⟩
theorem ev_rep3 {Q : DV → Prop} {a : PyData} : wBin .mul (.d (.list [a])) (.d (.int 3)) Q = Q (.d (.list [a, a, a])) := propext ⟨fun ⟨_, _, _, k⟩ => k, fun k => ⟨by decide, by decide, by simp, k⟩⟩
theorem ne_b {Q : DV → Prop} {a b : Bool} : wCmp .ne (.d (.bool a)) (.d (.bool b)) Q = Q (.d (.bool (!decide (a = b)))) := by
  have : wCmp .ne (.d (.bool a)) (.d (.bool b)) Q = (SeqAt.shaped (.bool a) = true ∧ SeqAt.shaped (.bool b) = true ∧ Q (.d (.bool (!PyData.eqv (.bool a) (.bool b))))) := rfl
  rw [this]
  have e : PyData.eqv (.bool a) (.bool b) = decide (a = b) := by cases a <;> cases b <;> rfl
  have s : ∀ c, SeqAt.shaped (.bool c) = true := by
    intro c
    simp [SeqAt.shaped, PyData.canLay0, PyData.depth]
  rw [e, s, s]
  simp
theorem for_inv {turn : DV → SDs → (SDs → Prop) → Prop} {nx : SDs → Prop} (Iv : SDs → Prop) : ∀ (xs : List DV), (∀ x ∈ xs, ∀ τ (k : SDs → Prop), Iv τ → (∀ τ', Iv τ' → k τ') → turn x τ k) → ∀ τ, Iv τ → (∀ τ', Iv τ' → nx τ') → goFor turn nx xs τ
  | [], _, τ, h, hn => hn τ h
  | x :: xs, ht, τ, h, hn => ht x (List.mem_cons_self ..) τ _ h fun τ' h' => for_inv Iv xs (fun y hy => ht y (List.mem_cons_of_mem _ hy)) τ' h' hn
theorem sq_nn (m : Rat) : 0 ≤ m * m := by
  by_cases h : 0 ≤ m
  · exact Rat.mul_nonneg h h
  · have e : m * m = (-m) * (-m) := by grind
    rw [e]
    exact Rat.mul_nonneg (by grind) (by grind)
theorem hed_left {s b d : Rat} (h : 0 < b) : hed s b - hgt s b d = hed (slp s b d) b := by
  unfold hed hgt slp
  have : b ≠ 0 := by grind
  grind
theorem hed_c {m b : Rat} (h : 0 < b) : hed m b = 1 / 4 / b + 1 / 4 / b * (m * m) := by
  unfold hed
  have : b ≠ 0 := by grind
  grind
theorem c_pos {b : Rat} (h : 0 < b) : 0 < 1 / 4 / b := div_pos (by grind) h
theorem hed_ge {m b : Rat} (h : 0 < b) : ¬ hed m b < 1 / 4 / b := by
  rw [hed_c h]
  have := Rat.mul_nonneg (Rat.le_of_lt (c_pos h)) (sq_nn m)
  grind
theorem hed_eq {m b : Rat} (h : 0 < b) : (hed m b = 1 / 4 / b) = (m = 0) := propext (by
  rw [hed_c h]
  constructor
  · intro e
    have : 1 / 4 / b * (m * m) = 0 := by grind
    rcases Rat.mul_eq_zero.mp this with z | z
    · have := c_pos h
      grind
    · rcases Rat.mul_eq_zero.mp z with z | z <;> exact z
  · intro e
    subst e
    grind)
def sp_Ljet : PSp := fun ds Q => ds = [.vat] ∧ ∀ s b : Rat, 0 < b → Zf 31 s → Zf 31 b → Q (.d (J s b))
theorem ap_Ljet {Q : DV → Prop} : sp_Ljet [DV.vat] Q = (∀ s b : Rat, 0 < b → Zf 31 s → Zf 31 b → Q (DV.d (J s b))) := propext ⟨fun ⟨_, r⟩ => r, fun r => ⟨rfl, r⟩⟩
def sp_Lbeyond : PSp := fun ds Q => ∃ w, ds = [.vat, .d (.int w)] ∧ 0 ≤ w ∧ w ≤ 1000000000 ∧ ∀ q : Rat, 0 ≤ q → Zf 31 q → Q (.d (F q))
theorem ap_Lbeyond {Q : DV → Prop} {w : Int} : sp_Lbeyond [DV.vat, DV.d (.int w)] Q = (0 ≤ w ∧ w ≤ 1000000000 ∧ ∀ q : Rat, 0 ≤ q → Zf 31 q → Q (DV.d (F q))) := propext ⟨fun ⟨_, e, r⟩ => by
  simp only [List.cons.injEq, DV.d.injEq, and_true, true_and, F_eq, J_eq, P3_eq, T_eq, PyData.int.injEq, PyData.str.injEq, PyData.list.injEq, PyData.tuple.injEq] at e
  obtain rfl := e
  exact r, fun r => ⟨_, rfl, r⟩⟩
def sp_Lat : PSp := fun ds Q => ∃ s b d, ds = [.d (J s b), .d (F d)] ∧ Zf 900 s ∧ Zf 900 b ∧ Zf 900 d ∧ Q (.d (F (hgt s b d)))
theorem ap_Lat {Q : DV → Prop} {s : Rat} {b : Rat} {d : Rat} : sp_Lat [DV.d (J s b), DV.d (F d)] Q = (Zf 900 s ∧ Zf 900 b ∧ Zf 900 d ∧ Q (DV.d (F (hgt s b d)))) := propext ⟨fun ⟨_, _, _, e, r⟩ => by
  simp only [List.cons.injEq, DV.d.injEq, and_true, true_and, F_eq, J_eq, P3_eq, T_eq, PyData.int.injEq, PyData.str.injEq, PyData.list.injEq, PyData.tuple.injEq] at e
  obtain ⟨⟨rfl, rfl⟩, rfl⟩ := e
  exact r, fun r => ⟨_, _, _, rfl, r⟩⟩
def sp_Lrise : PSp := fun ds Q => ∃ s b d, ds = [.d (J s b), .d (F d)] ∧ Zf 900 s ∧ Zf 900 b ∧ Zf 900 d ∧ Q (.d (F (slp s b d)))
theorem ap_Lrise {Q : DV → Prop} {s : Rat} {b : Rat} {d : Rat} : sp_Lrise [DV.d (J s b), DV.d (F d)] Q = (Zf 900 s ∧ Zf 900 b ∧ Zf 900 d ∧ Q (DV.d (F (slp s b d)))) := propext ⟨fun ⟨_, _, _, e, r⟩ => by
  simp only [List.cons.injEq, DV.d.injEq, and_true, true_and, F_eq, J_eq, P3_eq, T_eq, PyData.int.injEq, PyData.str.injEq, PyData.list.injEq, PyData.tuple.injEq] at e
  obtain ⟨⟨rfl, rfl⟩, rfl⟩ := e
  exact r, fun r => ⟨_, _, _, rfl, r⟩⟩
def sp_Lodd_fracs : PSp := fun ds Q => ds = [] ∧ Q (.d (.list oddFr))
theorem ap_Lodd_fracs {Q : DV → Prop} : sp_Lodd_fracs [] Q = (Q (DV.d (.list oddFr))) := propext ⟨fun ⟨_, r⟩ => r, fun r => ⟨rfl, r⟩⟩
def sp_Lno_distances : PSp := fun ds Q => ds = [] ∧ Q (.d (.list [F 0, F (-1), F (-7/3)]))
theorem ap_Lno_distances {Q : DV → Prop} : sp_Lno_distances [] Q = (Q (DV.d (.list [F 0, F (-1), F (-7/3)]))) := propext ⟨fun ⟨_, r⟩ => r, fun r => ⟨rfl, r⟩⟩
def sp_Lhead : PSp := fun ds Q => ∃ s b, ds = [.d (J s b)] ∧ 0 < b ∧ Zf 700 s ∧ Zf 700 b ∧ Q (.d (F (hed s b)))
theorem ap_Lhead {Q : DV → Prop} {s : Rat} {b : Rat} : sp_Lhead [DV.d (J s b)] Q = (0 < b ∧ Zf 700 s ∧ Zf 700 b ∧ Q (DV.d (F (hed s b)))) := propext ⟨fun ⟨_, _, e, r⟩ => by
  simp only [List.cons.injEq, DV.d.injEq, and_true, true_and, F_eq, J_eq, P3_eq, T_eq, PyData.int.injEq, PyData.str.injEq, PyData.list.injEq, PyData.tuple.injEq] at e
  obtain ⟨rfl, rfl⟩ := e
  exact r, fun r => ⟨_, _, rfl, r⟩⟩

section
variable {Φ : Nat → PSp}
theorem sem_Ljet (e_Lsize : Φ 2 = sp_Lsize) (e_Lsome_frac : Φ 9 = sp_Lsome_frac) (e_Labove : Φ 8 = sp_Labove) (e_Lpick : Φ 1 = sp_Lpick) : ∀ ds Q, sp_Ljet ds Q → wS Φ rs_Ljet { nx := fun _ => Q (.d .none), rt := Q } (startD ["x0", "x1"] ds) := by
  rintro ds Q ⟨rfl, hq⟩
  show wS Φ rs_Ljet _ [some (.val (.vat)), none]
  simp only [rs_Ljet, wS, wE, wA, wT, wI, wO, ev_add, ev_sub, ev_mul, ev_div, ev_mod, ev_pow, ev_cat, ev_lt, ev_le, ev_gt, ev_ge, ev_eq, ev_ne, ev_eqs, ev_nes, ix_F0, ix_F1, ix_J0, ix_J1, ix_P0, ix_P1, ix_P2, ix_t0, ix_t1, ix_t2, ix_l0, ix_l1, ix_l2, tg_1, tg_F, tg_J, tg_P, tg_2, tg_3, tg_4, fold_J, eq_F, ne_F, eq_J, ne_J, eq_P, ne_P, db_, di_, setVals, setAll, datas, itemsD, truD, List.getElem?_cons_zero, List.getElem?_cons_succ, List.set_cons_zero, List.set_cons_succ, Option.map_some, Option.map_none, Option.some.injEq, exists_eq_left', decide_eq_true_eq, Bool.not_true, Bool.not_false, Bool.false_eq_true, if_false, if_true, true_and, and_true, decide_true, decide_false, List.length_cons, List.length_nil, mx_0, mx_1, mx_2, mx_3, mx_4, mx_5, mx_6, mx_7, mx_8, mx_9, mx_10, mx_11, mx_12, mx_13, mx_14, mx_15, mx_16, mx_17, mx_18, mx_19, mx_20, mx_21, mx_22, mx_23, mx_24, Nat.reduceAdd, Nat.reduceLeDiff, Nat.zero_add, Bool.not_eq_true', decide_eq_false_iff_not, reduceIte, ev_reprb, e_Lsize, e_Lsome_frac, e_Labove, e_Lpick, ap_Lsize, ap_Lsome_frac, ap_Labove, ap_Lpick]
  refine fun z z0 z1 => ⟨z0, z1, fun q hs => ⟨by simp, by simp, fun x hx => ?_⟩⟩
  simp only [List.mem_cons, List.not_mem_nil, or_false] at hx
  rcases hx with rfl | rfl | rfl | rfl
  all_goals
    rw [ap_Labove]
    refine ⟨by omega, by omega, fun r hr hz => ?_⟩
    simp only [wS, wE, wA, wT, wI, wO, ev_add, ev_sub, ev_mul, ev_div, ev_mod, ev_pow, ev_cat, ev_lt, ev_le, ev_gt, ev_ge, ev_eq, ev_ne, ev_eqs, ev_nes, ix_F0, ix_F1, ix_J0, ix_J1, ix_P0, ix_P1, ix_P2, ix_t0, ix_t1, ix_t2, ix_l0, ix_l1, ix_l2, tg_1, tg_F, tg_J, tg_P, tg_2, tg_3, tg_4, fold_J, eq_F, ne_F, eq_J, ne_J, eq_P, ne_P, db_, di_, setVals, setAll, datas, itemsD, truD, List.getElem?_cons_zero, List.getElem?_cons_succ, List.set_cons_zero, List.set_cons_succ, Option.map_some, Option.map_none, Option.some.injEq, exists_eq_left', decide_eq_true_eq, Bool.not_true, Bool.not_false, Bool.false_eq_true, if_false, if_true, true_and, and_true, decide_true, decide_false, List.length_cons, List.length_nil, mx_0, mx_1, mx_2, mx_3, mx_4, mx_5, mx_6, mx_7, mx_8, mx_9, mx_10, mx_11, mx_12, mx_13, mx_14, mx_15, mx_16, mx_17, mx_18, mx_19, mx_20, mx_21, mx_22, mx_23, mx_24, Nat.reduceAdd, Nat.reduceLeDiff, Nat.zero_add, Bool.not_eq_true', decide_eq_false_iff_not, reduceIte, ev_reprb]
    exact hq q r hr hs hz
theorem sem_Lbeyond (e_Ldraw : Φ 0 = sp_Ldraw) (e_Labove : Φ 8 = sp_Labove) : ∀ ds Q, sp_Lbeyond ds Q → wS Φ rs_Lbeyond { nx := fun _ => Q (.d .none), rt := Q } (startD ["x0", "x1"] ds) := by
  rintro ds Q ⟨w, rfl, h1, h2, hq⟩
  show wS Φ rs_Lbeyond _ [some (.val (.vat)), some (.val (.d (.int w)))]
  simp only [rs_Lbeyond, wS, wE, wA, wT, wI, wO, ev_add, ev_sub, ev_mul, ev_div, ev_mod, ev_pow, ev_cat, ev_lt, ev_le, ev_gt, ev_ge, ev_eq, ev_ne, ev_eqs, ev_nes, ix_F0, ix_F1, ix_J0, ix_J1, ix_P0, ix_P1, ix_P2, ix_t0, ix_t1, ix_t2, ix_l0, ix_l1, ix_l2, tg_1, tg_F, tg_J, tg_P, tg_2, tg_3, tg_4, fold_J, eq_F, ne_F, eq_J, ne_J, eq_P, ne_P, db_, di_, setVals, setAll, datas, itemsD, truD, List.getElem?_cons_zero, List.getElem?_cons_succ, List.set_cons_zero, List.set_cons_succ, Option.map_some, Option.map_none, Option.some.injEq, exists_eq_left', decide_eq_true_eq, Bool.not_true, Bool.not_false, Bool.false_eq_true, if_false, if_true, true_and, and_true, decide_true, decide_false, List.length_cons, List.length_nil, mx_0, mx_1, mx_2, mx_3, mx_4, mx_5, mx_6, mx_7, mx_8, mx_9, mx_10, mx_11, mx_12, mx_13, mx_14, mx_15, mx_16, mx_17, mx_18, mx_19, mx_20, mx_21, mx_22, mx_23, mx_24, Nat.reduceAdd, Nat.reduceLeDiff, Nat.zero_add, Bool.not_eq_true', decide_eq_false_iff_not, reduceIte, ev_reprb, e_Ldraw, e_Labove, ap_Ldraw, ap_Labove, lit_0]
  refine ⟨by decide, by decide, fun r r0 r1 => ?_⟩
  split
  · exact hq 0 (by grind) (zl0.mono (by decide))
  · exact ⟨h1, h2, fun q hp hz => hq q (by grind) hz⟩
theorem sem_Lat (e_Lsub : Φ 23 = sp_Lsub) (e_Lmul : Φ 16 = sp_Lmul) : ∀ ds Q, sp_Lat ds Q → wS Φ rs_Lat { nx := fun _ => Q (.d .none), rt := Q } (startD ["x0", "x1", "x2", "x3"] ds) := by
  rintro ds Q ⟨s, b, d, rfl, h1, h2, h3, hq⟩
  show wS Φ rs_Lat _ [some (.val (.d (J s b))), some (.val (.d (F d))), none, none]
  simp only [rs_Lat, wS, wE, wA, wT, wI, wO, ev_add, ev_sub, ev_mul, ev_div, ev_mod, ev_pow, ev_cat, ev_lt, ev_le, ev_gt, ev_ge, ev_eq, ev_ne, ev_eqs, ev_nes, ix_F0, ix_F1, ix_J0, ix_J1, ix_P0, ix_P1, ix_P2, ix_t0, ix_t1, ix_t2, ix_l0, ix_l1, ix_l2, tg_1, tg_F, tg_J, tg_P, tg_2, tg_3, tg_4, fold_J, eq_F, ne_F, eq_J, ne_J, eq_P, ne_P, db_, di_, setVals, setAll, datas, itemsD, truD, List.getElem?_cons_zero, List.getElem?_cons_succ, List.set_cons_zero, List.set_cons_succ, Option.map_some, Option.map_none, Option.some.injEq, exists_eq_left', decide_eq_true_eq, Bool.not_true, Bool.not_false, Bool.false_eq_true, if_false, if_true, true_and, and_true, decide_true, decide_false, List.length_cons, List.length_nil, mx_0, mx_1, mx_2, mx_3, mx_4, mx_5, mx_6, mx_7, mx_8, mx_9, mx_10, mx_11, mx_12, mx_13, mx_14, mx_15, mx_16, mx_17, mx_18, mx_19, mx_20, mx_21, mx_22, mx_23, mx_24, Nat.reduceAdd, Nat.reduceLeDiff, Nat.zero_add, Bool.not_eq_true', decide_eq_false_iff_not, reduceIte, ev_reprb, e_Lsub, e_Lmul, ap_Lsub, ap_Lmul]
  walk_at "fin"
theorem sem_Lrise (e_Lsub : Φ 23 = sp_Lsub) (e_Lmul : Φ 16 = sp_Lmul) : ∀ ds Q, sp_Lrise ds Q → wS Φ rs_Lrise { nx := fun _ => Q (.d .none), rt := Q } (startD ["x0", "x1"] ds) := by
  rintro ds Q ⟨s, b, d, rfl, h1, h2, h3, hq⟩
  show wS Φ rs_Lrise _ [some (.val (.d (J s b))), some (.val (.d (F d)))]
  simp only [rs_Lrise, wS, wE, wA, wT, wI, wO, ev_add, ev_sub, ev_mul, ev_div, ev_mod, ev_pow, ev_cat, ev_lt, ev_le, ev_gt, ev_ge, ev_eq, ev_ne, ev_eqs, ev_nes, ix_F0, ix_F1, ix_J0, ix_J1, ix_P0, ix_P1, ix_P2, ix_t0, ix_t1, ix_t2, ix_l0, ix_l1, ix_l2, tg_1, tg_F, tg_J, tg_P, tg_2, tg_3, tg_4, fold_J, eq_F, ne_F, eq_J, ne_J, eq_P, ne_P, db_, di_, setVals, setAll, datas, itemsD, truD, List.getElem?_cons_zero, List.getElem?_cons_succ, List.set_cons_zero, List.set_cons_succ, Option.map_some, Option.map_none, Option.some.injEq, exists_eq_left', decide_eq_true_eq, Bool.not_true, Bool.not_false, Bool.false_eq_true, if_false, if_true, true_and, and_true, decide_true, decide_false, List.length_cons, List.length_nil, mx_0, mx_1, mx_2, mx_3, mx_4, mx_5, mx_6, mx_7, mx_8, mx_9, mx_10, mx_11, mx_12, mx_13, mx_14, mx_15, mx_16, mx_17, mx_18, mx_19, mx_20, mx_21, mx_22, mx_23, mx_24, Nat.reduceAdd, Nat.reduceLeDiff, Nat.zero_add, Bool.not_eq_true', decide_eq_false_iff_not, reduceIte, ev_reprb, e_Lsub, e_Lmul, ap_Lsub, ap_Lmul, lit_2]
  walk_at "fin"
theorem sem_Lodd_fracs : ∀ ds Q, sp_Lodd_fracs ds Q → wS Φ rs_Lodd_fracs { nx := fun _ => Q (.d .none), rt := Q } (startD ["x0"] ds) := by
  rintro ds Q ⟨rfl, hq⟩
  show wS Φ rs_Lodd_fracs _ [none]
  simp only [rs_Lodd_fracs, wS, wE, wA, wT, wI, wO, ev_add, ev_sub, ev_mul, ev_div, ev_mod, ev_pow, ev_cat, ev_lt, ev_le, ev_gt, ev_ge, ev_eq, ev_ne, ev_eqs, ev_nes, ix_F0, ix_F1, ix_J0, ix_J1, ix_P0, ix_P1, ix_P2, ix_t0, ix_t1, ix_t2, ix_l0, ix_l1, ix_l2, tg_1, tg_F, tg_J, tg_P, tg_2, tg_3, tg_4, fold_J, eq_F, ne_F, eq_J, ne_J, eq_P, ne_P, db_, di_, setVals, setAll, datas, itemsD, truD, List.getElem?_cons_zero, List.getElem?_cons_succ, List.set_cons_zero, List.set_cons_succ, Option.map_some, Option.map_none, Option.some.injEq, exists_eq_left', decide_eq_true_eq, Bool.not_true, Bool.not_false, Bool.false_eq_true, if_false, if_true, true_and, and_true, decide_true, decide_false, List.length_cons, List.length_nil, mx_0, mx_1, mx_2, mx_3, mx_4, mx_5, mx_6, mx_7, mx_8, mx_9, mx_10, mx_11, mx_12, mx_13, mx_14, mx_15, mx_16, mx_17, mx_18, mx_19, mx_20, mx_21, mx_22, mx_23, mx_24, Nat.reduceAdd, Nat.reduceLeDiff, Nat.zero_add, Bool.not_eq_true', decide_eq_false_iff_not, reduceIte, ev_reprb]
  exact hq
theorem sem_Lno_distances : ∀ ds Q, sp_Lno_distances ds Q → wS Φ rs_Lno_distances { nx := fun _ => Q (.d .none), rt := Q } (startD [] ds) := by
  rintro ds Q ⟨rfl, hq⟩
  show wS Φ rs_Lno_distances _ []
  simp only [rs_Lno_distances, wS, wE, wA, wT, wI, wO, ev_add, ev_sub, ev_mul, ev_div, ev_mod, ev_pow, ev_cat, ev_lt, ev_le, ev_gt, ev_ge, ev_eq, ev_ne, ev_eqs, ev_nes, ix_F0, ix_F1, ix_J0, ix_J1, ix_P0, ix_P1, ix_P2, ix_t0, ix_t1, ix_t2, ix_l0, ix_l1, ix_l2, tg_1, tg_F, tg_J, tg_P, tg_2, tg_3, tg_4, fold_J, eq_F, ne_F, eq_J, ne_J, eq_P, ne_P, db_, di_, setVals, setAll, datas, itemsD, truD, List.getElem?_cons_zero, List.getElem?_cons_succ, List.set_cons_zero, List.set_cons_succ, Option.map_some, Option.map_none, Option.some.injEq, exists_eq_left', decide_eq_true_eq, Bool.not_true, Bool.not_false, Bool.false_eq_true, if_false, if_true, true_and, and_true, decide_true, decide_false, List.length_cons, List.length_nil, mx_0, mx_1, mx_2, mx_3, mx_4, mx_5, mx_6, mx_7, mx_8, mx_9, mx_10, mx_11, mx_12, mx_13, mx_14, mx_15, mx_16, mx_17, mx_18, mx_19, mx_20, mx_21, mx_22, mx_23, mx_24, Nat.reduceAdd, Nat.reduceLeDiff, Nat.zero_add, Bool.not_eq_true', decide_eq_false_iff_not, reduceIte, ev_reprb, lit_0, lit_m1, lit_m73]
  exact hq
theorem sem_Lhead (e_Lmul : Φ 16 = sp_Lmul) (e_Ladd : Φ 17 = sp_Ladd) (e_Ldiv : Φ 31 = sp_Ldiv) : ∀ ds Q, sp_Lhead ds Q → wS Φ rs_Lhead { nx := fun _ => Q (.d .none), rt := Q } (startD ["x0", "x1", "x2"] ds) := by
  rintro ds Q ⟨s, b, rfl, h1, h2, h3, hq⟩
  show wS Φ rs_Lhead _ [some (.val (.d (J s b))), none, none]
  simp only [rs_Lhead, wS, wE, wA, wT, wI, wO, ev_add, ev_sub, ev_mul, ev_div, ev_mod, ev_pow, ev_cat, ev_lt, ev_le, ev_gt, ev_ge, ev_eq, ev_ne, ev_eqs, ev_nes, ix_F0, ix_F1, ix_J0, ix_J1, ix_P0, ix_P1, ix_P2, ix_t0, ix_t1, ix_t2, ix_l0, ix_l1, ix_l2, tg_1, tg_F, tg_J, tg_P, tg_2, tg_3, tg_4, fold_J, eq_F, ne_F, eq_J, ne_J, eq_P, ne_P, db_, di_, setVals, setAll, datas, itemsD, truD, List.getElem?_cons_zero, List.getElem?_cons_succ, List.set_cons_zero, List.set_cons_succ, Option.map_some, Option.map_none, Option.some.injEq, exists_eq_left', decide_eq_true_eq, Bool.not_true, Bool.not_false, Bool.false_eq_true, if_false, if_true, true_and, and_true, decide_true, decide_false, List.length_cons, List.length_nil, mx_0, mx_1, mx_2, mx_3, mx_4, mx_5, mx_6, mx_7, mx_8, mx_9, mx_10, mx_11, mx_12, mx_13, mx_14, mx_15, mx_16, mx_17, mx_18, mx_19, mx_20, mx_21, mx_22, mx_23, mx_24, Nat.reduceAdd, Nat.reduceLeDiff, Nat.zero_add, Bool.not_eq_true', decide_eq_false_iff_not, reduceIte, ev_reprb, e_Lmul, e_Ladd, e_Ldiv, ap_Lmul, ap_Ladd, ap_Ldiv, lit_1, lit_4]
  refine ⟨by walk_at "sz", by walk_at "sz", by walk_at "sz", by walk_at "sz", by walk_at "sz", by walk_at "sz", ?_, by walk_at "sz", by walk_at "sz", hq⟩
  grind
end
/-! ### equal data -/
def Lay (k : Nat) (d : PyData) : Prop := d.canLay0 = true ∧ d.depth ≤ k
theorem Lay.mono {j k : Nat} {d : PyData} (h : Lay j d) (e : j ≤ k) : Lay k d := ⟨h.1, Nat.le_trans h.2 e⟩
theorem layF (q : Rat) : Lay 4 (F q) := by
  constructor
  · simp [F, PyData.canLay0, PyData.canLayAll0]
  · simp [F, PyData.depth, PyData.depthAll]
theorem layJ (s b : Rat) : Lay 4 (J s b) := by
  constructor
  · simp [J, F, PyData.canLay0, PyData.canLayAll0]
  · simp [J, F, PyData.depth, PyData.depthAll]
theorem layP (x y : Rat) : Lay 4 (P3 x y) := by
  constructor
  · simp [P3, PyData.canLay0, PyData.canLayAll0]
  · simp [P3, PyData.depth, PyData.depthAll]
theorem lay_none : Lay 4 .none := by
  constructor <;> simp [PyData.canLay0, PyData.depth]
theorem lay_bool (b : Bool) : Lay 4 (.bool b) := by
  constructor <;> simp [PyData.canLay0, PyData.depth]
theorem lay_int (b : Int) : Lay 4 (.int b) := by
  constructor <;> simp [PyData.canLay0, PyData.depth]
theorem canLayAll_of : ∀ xs : List PyData, (∀ x ∈ xs, x.canLay0 = true) → PyData.canLayAll0 xs = true
  | [], _ => by simp only [PyData.canLayAll0]
  | x :: xs, h => by
    simp only [PyData.canLayAll0, h x (List.mem_cons_self ..), canLayAll_of xs fun y hy => h y (List.mem_cons_of_mem _ hy), Bool.and_self]
theorem lay_list {k : Nat} {xs : List PyData} (h : ∀ x ∈ xs, Lay k x) : Lay (k + 1) (.list xs) := by
  constructor
  · simp only [PyData.canLay0]
    exact canLayAll_of xs fun x hx => (h x hx).1
  · simp only [PyData.depth]
    have := depthAll_of xs fun x hx => (h x hx).2
    omega
theorem lay_tuple {k : Nat} {xs : List PyData} (h : ∀ x ∈ xs, Lay k x) : Lay (k + 1) (.tuple xs) := by
  constructor
  · simp only [PyData.canLay0]
    exact canLayAll_of xs fun x hx => (h x hx).1
  · simp only [PyData.depth]
    have := depthAll_of xs fun x hx => (h x hx).2
    omega
theorem lay_shaped {d : PyData} (h : Lay 60 d) : SeqAt.shaped d = true := by
  unfold SeqAt.shaped
  rw [h.1, Bool.true_and, decide_eq_true_eq]
  exact Nat.le_trans h.2 (by decide)
mutual
theorem eqv_rf : ∀ d : PyData, d.canLay0 = true → PyData.eqv d d = true
  | .none, _ => by simp [PyData.eqv]
  | .bool _, _ => by simp [PyData.eqv]
  | .int _, _ => by simp [PyData.eqv]
  | .str _, _ => by simp [PyData.eqv]
  | .list xs, h => by
    simp only [PyData.canLay0] at h
    simp only [PyData.eqv]
    exact eqv_rfA xs h
  | .tuple xs, h => by
    simp only [PyData.canLay0] at h
    simp only [PyData.eqv]
    exact eqv_rfA xs h
  | .dict _, h => by simp [PyData.canLay0] at h
theorem eqv_rfA : ∀ d : List PyData, PyData.canLayAll0 d = true → PyData.eqvAll d d = true
  | [], _ => by simp [PyData.eqvAll]
  | x :: xs, h => by
    simp only [PyData.canLayAll0, Bool.and_eq_true] at h
    simp only [PyData.eqvAll, eqv_rf x h.1, eqv_rfA xs h.2, Bool.and_self]
end
def flatIS : PyData → Bool
  | .int _ => true
  | .str _ => true
  | _ => false
theorem eq_gen {Q : DV → Prop} {x y : PyData} (h : flatIS x = false) : wCmp .eq (.d x) (.d y) Q = (SeqAt.shaped x = true ∧ SeqAt.shaped y = true ∧ Q (.d (.bool (PyData.eqv x y)))) := by
  cases x <;> first | rfl | cases h
theorem ne_gen {Q : DV → Prop} {x y : PyData} (h : flatIS x = false) : wCmp .ne (.d x) (.d y) Q = (SeqAt.shaped x = true ∧ SeqAt.shaped y = true ∧ Q (.d (.bool (!PyData.eqv x y)))) := by
  cases x <;> first | rfl | cases h
theorem eq_same {Q : DV → Prop} {x y : PyData} (e : x = y) (l : Lay 60 x) (h : flatIS x = false) (hq : Q (.d (.bool true))) : wCmp .eq (.d x) (.d y) Q := by
  subst e
  rw [eq_gen h, lay_shaped l, eqv_rf x l.1]
  exact ⟨rfl, rfl, hq⟩
theorem ne_same {Q : DV → Prop} {x y : PyData} (e : x = y) (l : Lay 60 x) (h : flatIS x = false) (hq : Q (.d (.bool false))) : wCmp .ne (.d x) (.d y) Q := by
  subst e
  rw [ne_gen h, lay_shaped l, eqv_rf x l.1]
  exact ⟨rfl, rfl, hq⟩
theorem flatF (q : Rat) : flatIS (F q) = false := rfl
theorem flatJ (s b : Rat) : flatIS (J s b) = false := rfl
/-! ### jets through places -/
def bw (t x y : Rat) : Rat := (t - y / x) / x
def jw (t x y : Rat) : PyData := if 0 < bw t x y then J t (bw t x y) else .none
def bt (x y u v : Rat) : Rat := (y / x - v / u) / (u - x)
def sl (x y u v : Rat) : Rat := y / x + bt x y u v * x
def jt (x y u v : Rat) : PyData := if 0 < bt x y u v then J (sl x y u v) (bt x y u v) else .none
theorem zf_bw {i j k : Nat} {t x y : Rat} (h1 : Zf i t) (h2 : Zf (j + 1) x) (h3 : Zf k y) : Zf (i + (k + (j + 1)) + 1 + (j + 1)) (bw t x y) := (h1.sub (h3.div h2 (by omega))).div h2 (by omega)
theorem zf_bt {i j k l : Nat} {x y u v : Rat} (h1 : Zf (i + 1) x) (h2 : Zf j y) (h3 : Zf (k + 1) u) (h4 : Zf l v) : Zf (j + (i + 1) + (l + (k + 1)) + 1 + ((k + 1) + (i + 1) + 1)) (bt x y u v) := ((h2.div h1 (by omega)).sub (h4.div h3 (by omega))).div (h3.sub h1) (by omega)
theorem zf_sl {i j k l : Nat} {x y u v : Rat} (h1 : Zf (i + 1) x) (h2 : Zf j y) (h3 : Zf (k + 1) u) (h4 : Zf l v) : Zf ((j + (i + 1)) + ((j + (i + 1) + (l + (k + 1)) + 1 + ((k + 1) + (i + 1) + 1)) + (i + 1)) + 1) (sl x y u v) := (h2.div h1 (by omega)).add ((zf_bt h1 h2 h3 h4).mul h1)
theorem bw_hgt {t x y : Rat} (h : 0 < x) : hgt t (bw t x y) x = y := by
  unfold hgt bw
  have : x ≠ 0 := by grind
  grind
theorem bw_of {t b x : Rat} (h : 0 < x) : bw t x (hgt t b x) = b := by
  unfold hgt bw
  have : x ≠ 0 := by grind
  grind
theorem bt_1 {x y u v : Rat} (h : 0 < x) (h' : x < u) : hgt (sl x y u v) (bt x y u v) x = y := by
  unfold hgt sl
  have : x ≠ 0 := by grind
  grind
theorem bt_2 {x y u v : Rat} (h : 0 < x) (h' : x < u) : hgt (sl x y u v) (bt x y u v) u = v := by
  have h0 : x ≠ 0 := by grind
  have h1 : u ≠ 0 := by grind
  have h2 : u - x ≠ 0 := by grind
  have e : bt x y u v * (u - x) = y / x - v / u := by
    unfold bt
    exact Rat.div_mul_cancel h2
  have e2 : v / u * u = v := Rat.div_mul_cancel h1
  unfold hgt sl
  grind
theorem bt_of {s b x u : Rat} (h : 0 < x) (h' : x < u) : bt x (hgt s b x) u (hgt s b u) = b := by
  have h0 : x ≠ 0 := by grind
  have h1 : u ≠ 0 := by grind
  have h2 : u - x ≠ 0 := by grind
  unfold bt
  have e : hgt s b x / x - hgt s b u / u = b * (u - x) := by
    unfold hgt
    grind
  rw [e]
  exact Rat.mul_div_cancel h2
theorem sl_of {s b x u : Rat} (h : 0 < x) (h' : x < u) : sl x (hgt s b x) u (hgt s b u) = s := by
  unfold sl
  rw [bt_of h h']
  unfold hgt
  have h0 : x ≠ 0 := by grind
  grind
theorem tl_jw {t x y : Rat} (h1 : Zf 900 t) (h2 : Zf 300 x) (h3 : Zf 300 y) : Tl (jw t x y) := by
  unfold jw
  split
  · exact tlJ (h1.mono (by decide)) ((zf_bw (j := 299) h1 h2 h3).mono (by decide))
  · exact tl_none
theorem lay_jw (t x y : Rat) : Lay 4 (jw t x y) := by
  unfold jw
  split
  · exact layJ _ _
  · exact lay_none
theorem flat_jw (t x y : Rat) : flatIS (jw t x y) = false := by
  unfold jw
  split <;> rfl
theorem tl_jt {x y u v : Rat} (h1 : Zf 200 x) (h2 : Zf 200 y) (h3 : Zf 200 u) (h4 : Zf 200 v) : Tl (jt x y u v) := by
  unfold jt
  split
  · exact tlJ ((zf_sl (i := 199) (k := 199) h1 h2 h3 h4).mono (by decide)) ((zf_bt (i := 199) (k := 199) h1 h2 h3 h4).mono (by decide))
  · exact tl_none
theorem lay_jt (x y u v : Rat) : Lay 4 (jt x y u v) := by
  unfold jt
  split
  · exact layJ _ _
  · exact lay_none
theorem flat_jt (x y u v : Rat) : flatIS (jt x y u v) = false := by
  unfold jt
  split <;> rfl
theorem jw_of {t b x : Rat} (h : 0 < x) (hb : 0 < b) : jw t x (hgt t b x) = J t b := by
  unfold jw
  rw [bw_of h, if_pos hb]
theorem jt_of {s b x u : Rat} (h : 0 < x) (h' : x < u) (hb : 0 < b) : jt x (hgt s b x) u (hgt s b u) = J s b := by
  unfold jt
  rw [bt_of h h', sl_of h h', if_pos hb]
def sp_jet_with : PSp := fun ds Q => ∃ t x y, ds = [.d (F t), .d (P3 x y)] ∧ 0 < x ∧ Zf 900 t ∧ Zf 300 x ∧ Zf 300 y ∧ Q (.d (jw t x y))
theorem ap_jet_with {Q : DV → Prop} {t : Rat} {x : Rat} {y : Rat} : sp_jet_with [DV.d (F t), DV.d (P3 x y)] Q = (0 < x ∧ Zf 900 t ∧ Zf 300 x ∧ Zf 300 y ∧ Q (DV.d (jw t x y))) := propext ⟨fun ⟨_, _, _, e, r⟩ => by
  simp only [List.cons.injEq, DV.d.injEq, and_true, true_and, F_eq, J_eq, P3_eq, T_eq, PyData.int.injEq, PyData.str.injEq, PyData.list.injEq, PyData.tuple.injEq] at e
  obtain ⟨rfl, ⟨rfl, rfl⟩⟩ := e
  exact r, fun r => ⟨_, _, _, rfl, r⟩⟩
def sp_jet_through : PSp := fun ds Q => ∃ x y u v, ds = [.d (P3 x y), .d (P3 u v)] ∧ 0 < x ∧ x < u ∧ Zf 300 x ∧ Zf 700 y ∧ Zf 300 u ∧ Zf 700 v ∧ Q (.d (jt x y u v))
theorem ap_jet_through {Q : DV → Prop} {x : Rat} {y : Rat} {u : Rat} {v : Rat} : sp_jet_through [DV.d (P3 x y), DV.d (P3 u v)] Q = (0 < x ∧ x < u ∧ Zf 300 x ∧ Zf 700 y ∧ Zf 300 u ∧ Zf 700 v ∧ Q (DV.d (jt x y u v))) := propext ⟨fun ⟨_, _, _, _, e, r⟩ => by
  simp only [List.cons.injEq, DV.d.injEq, and_true, true_and, F_eq, J_eq, P3_eq, T_eq, PyData.int.injEq, PyData.str.injEq, PyData.list.injEq, PyData.tuple.injEq] at e
  obtain ⟨⟨rfl, rfl⟩, ⟨rfl, rfl⟩⟩ := e
  exact r, fun r => ⟨_, _, _, _, rfl, r⟩⟩
def sp_Lplace : PSp := fun ds Q => ∃ w, ds = [.vat, .d (.int w)] ∧ 1 ≤ w ∧ w ≤ 1000000000 ∧ ∀ x y : Rat, 0 < x → Zf 31 x → Zf 31 y → Q (.d (P3 x y))
theorem ap_Lplace {Q : DV → Prop} {w : Int} : sp_Lplace [DV.vat, DV.d (.int w)] Q = (1 ≤ w ∧ w ≤ 1000000000 ∧ ∀ x y : Rat, 0 < x → Zf 31 x → Zf 31 y → Q (DV.d (P3 x y))) := propext ⟨fun ⟨_, e, r⟩ => by
  simp only [List.cons.injEq, DV.d.injEq, and_true, true_and, F_eq, J_eq, P3_eq, T_eq, PyData.int.injEq, PyData.str.injEq, PyData.list.injEq, PyData.tuple.injEq] at e
  obtain rfl := e
  exact r, fun r => ⟨_, rfl, r⟩⟩
def sp_Lwith : PSp := fun ds Q => ∃ t x y, ds = [.d (F t), .d (P3 x y)] ∧ 0 < x ∧ Zf 300 t ∧ Zf 300 x ∧ Zf 300 y ∧ Q (.d (jw t x y))
theorem ap_Lwith {Q : DV → Prop} {t : Rat} {x : Rat} {y : Rat} : sp_Lwith [DV.d (F t), DV.d (P3 x y)] Q = (0 < x ∧ Zf 300 t ∧ Zf 300 x ∧ Zf 300 y ∧ Q (DV.d (jw t x y))) := propext ⟨fun ⟨_, _, _, e, r⟩ => by
  simp only [List.cons.injEq, DV.d.injEq, and_true, true_and, F_eq, J_eq, P3_eq, T_eq, PyData.int.injEq, PyData.str.injEq, PyData.list.injEq, PyData.tuple.injEq] at e
  obtain ⟨rfl, ⟨rfl, rfl⟩⟩ := e
  exact r, fun r => ⟨_, _, _, rfl, r⟩⟩
def sp_Lthrough : PSp := fun ds Q => ∃ x y u v, ds = [.d (P3 x y), .d (P3 u v)] ∧ 0 < x ∧ x < u ∧ Zf 300 x ∧ Zf 300 y ∧ Zf 300 u ∧ Zf 300 v ∧ Q (.d (jt x y u v))
theorem ap_Lthrough {Q : DV → Prop} {x : Rat} {y : Rat} {u : Rat} {v : Rat} : sp_Lthrough [DV.d (P3 x y), DV.d (P3 u v)] Q = (0 < x ∧ x < u ∧ Zf 300 x ∧ Zf 300 y ∧ Zf 300 u ∧ Zf 300 v ∧ Q (DV.d (jt x y u v))) := propext ⟨fun ⟨_, _, _, _, e, r⟩ => by
  simp only [List.cons.injEq, DV.d.injEq, and_true, true_and, F_eq, J_eq, P3_eq, T_eq, PyData.int.injEq, PyData.str.injEq, PyData.list.injEq, PyData.tuple.injEq] at e
  obtain ⟨⟨rfl, rfl⟩, ⟨rfl, rfl⟩⟩ := e
  exact r, fun r => ⟨_, _, _, _, rfl, r⟩⟩

section
variable {Φ : Nat → PSp}
theorem sem_jet_with (e_check_fraction : Φ 13 = sp_check_fraction) (e_check_place : Φ 20 = sp_check_place) (e_distance_of : Φ 34 = sp_distance_of) (e_height_of : Φ 35 = sp_height_of) (e_quotient : Φ 82 = sp_quotient) (e_pminus : Φ 65 = sp_pminus) : ∀ ds Q, sp_jet_with ds Q → wS Φ rs_jet_with { nx := fun _ => Q (.d .none), rt := Q } (startD ["x0", "x1", "x2", "x3"] ds) := by
  rintro ds Q ⟨t, x, y, rfl, h1, h2, h3, h4, hq⟩
  show wS Φ rs_jet_with _ [some (.val (.d (F t))), some (.val (.d (P3 x y))), none, none]
  simp only [rs_jet_with, wS, wE, wA, wT, wI, wO, ev_add, ev_sub, ev_mul, ev_div, ev_mod, ev_pow, ev_cat, ev_lt, ev_le, ev_gt, ev_ge, ev_eq, ev_ne, ev_eqs, ev_nes, ix_F0, ix_F1, ix_J0, ix_J1, ix_P0, ix_P1, ix_P2, ix_t0, ix_t1, ix_t2, ix_l0, ix_l1, ix_l2, tg_1, tg_F, tg_J, tg_P, tg_2, tg_3, tg_4, fold_J, eq_F, ne_F, eq_J, ne_J, eq_P, ne_P, db_, di_, setVals, setAll, datas, itemsD, truD, List.getElem?_cons_zero, List.getElem?_cons_succ, List.set_cons_zero, List.set_cons_succ, Option.map_some, Option.map_none, Option.some.injEq, exists_eq_left', decide_eq_true_eq, Bool.not_true, Bool.not_false, Bool.false_eq_true, if_false, if_true, true_and, and_true, decide_true, decide_false, List.length_cons, List.length_nil, mx_0, mx_1, mx_2, mx_3, mx_4, mx_5, mx_6, mx_7, mx_8, mx_9, mx_10, mx_11, mx_12, mx_13, mx_14, mx_15, mx_16, mx_17, mx_18, mx_19, mx_20, mx_21, mx_22, mx_23, mx_24, Nat.reduceAdd, Nat.reduceLeDiff, Nat.zero_add, Bool.not_eq_true', decide_eq_false_iff_not, reduceIte, ev_reprb, e_check_fraction, e_check_place, e_distance_of, e_height_of, e_quotient, e_pminus, ap_check_fraction, ap_check_place, ap_distance_of, ap_height_of, ap_quotient, ap_pminus, isF_F, isPl_P, num_pos]
  have hx : x ≠ 0 := by grind
  refine ⟨h1, h1, (h3.pt h4).mono (by decide), h1, (h3.pt h4).mono (by decide), hx, by walk_at "sz", by walk_at "sz", by walk_at "sz", (Zf.div h4 h3 (by decide)).mono (by decide), hx, (Zf.sub h2 (Zf.div h4 h3 (by decide))).mono (by decide), by walk_at "sz", ?_⟩
  have e : (t - y / x) / x = bw t x y := rfl
  rw [e]
  unfold jw at hq
  by_cases hb : 0 < bw t x y
  · rw [if_pos hb] at hq ⊢
    exact hq
  · rw [if_neg hb] at hq ⊢
    exact hq
theorem sem_jet_through (e_check_place : Φ 20 = sp_check_place) (e_distance_of : Φ 34 = sp_distance_of) (e_height_of : Φ 35 = sp_height_of) (e_quotient : Φ 82 = sp_quotient) (e_pminus : Φ 65 = sp_pminus) (e_is_below : Φ 91 = sp_is_below) (e_plus : Φ 48 = sp_plus) (e_times : Φ 51 = sp_times) : ∀ ds Q, sp_jet_through ds Q → wS Φ rs_jet_through { nx := fun _ => Q (.d .none), rt := Q } (startD ["x0", "x1", "x2", "x3", "x4", "x5", "x6"] ds) := by
  rintro ds Q ⟨x, y, u, v, rfl, h1, h2, h3, h4, h5, h6, hq⟩
  show wS Φ rs_jet_through _ [some (.val (.d (P3 x y))), some (.val (.d (P3 u v))), none, none, none, none, none]
  simp only [rs_jet_through, wS, wE, wA, wT, wI, wO, ev_add, ev_sub, ev_mul, ev_div, ev_mod, ev_pow, ev_cat, ev_lt, ev_le, ev_gt, ev_ge, ev_eq, ev_ne, ev_eqs, ev_nes, ix_F0, ix_F1, ix_J0, ix_J1, ix_P0, ix_P1, ix_P2, ix_t0, ix_t1, ix_t2, ix_l0, ix_l1, ix_l2, tg_1, tg_F, tg_J, tg_P, tg_2, tg_3, tg_4, fold_J, eq_F, ne_F, eq_J, ne_J, eq_P, ne_P, db_, di_, setVals, setAll, datas, itemsD, truD, List.getElem?_cons_zero, List.getElem?_cons_succ, List.set_cons_zero, List.set_cons_succ, Option.map_some, Option.map_none, Option.some.injEq, exists_eq_left', decide_eq_true_eq, Bool.not_true, Bool.not_false, Bool.false_eq_true, if_false, if_true, true_and, and_true, decide_true, decide_false, List.length_cons, List.length_nil, mx_0, mx_1, mx_2, mx_3, mx_4, mx_5, mx_6, mx_7, mx_8, mx_9, mx_10, mx_11, mx_12, mx_13, mx_14, mx_15, mx_16, mx_17, mx_18, mx_19, mx_20, mx_21, mx_22, mx_23, mx_24, Nat.reduceAdd, Nat.reduceLeDiff, Nat.zero_add, Bool.not_eq_true', decide_eq_false_iff_not, reduceIte, ev_reprb, e_check_place, e_distance_of, e_height_of, e_quotient, e_pminus, e_is_below, e_plus, e_times, ap_check_place, ap_distance_of, ap_height_of, ap_quotient, ap_pminus, ap_is_below, ap_plus, ap_times, isPl_P, num_pos]
  have hx : x ≠ 0 := by grind
  have hu0 : 0 < u := by grind
  have hu : u ≠ 0 := by grind
  have hd : u - x ≠ 0 := by grind
  have zp1 : Zp 8000 x y := (h3.pt h4).mono (by decide)
  have zp2 : Zp 8000 u v := (h5.pt h6).mono (by decide)
  refine ⟨h1, hu0, h1, zp1, hu0, zp2, by walk_at "sz", by walk_at "sz", ?_⟩
  rw [if_neg (by simp [h2])]
  have z1 : Zf 1000 (y / x) := Zf.div h4 h3 (by decide)
  have z2 : Zf 1000 (v / u) := Zf.div h6 h5 (by decide)
  have z3 : Zf 2602 (bt x y u v) := (zf_bt (i := 299) (k := 299) h3 h4 h5 h6).mono (by decide)
  refine ⟨h1, zp1, hx, by walk_at "sz", by walk_at "sz", hu0, zp2, hu, by walk_at "sz", by walk_at "sz", by walk_at "sz", by walk_at "sz", by walk_at "sz", by walk_at "sz", hd, by walk_at "sz", by walk_at "sz", ?_⟩
  have e : (y / x - v / u) / (u - x) = bt x y u v := rfl
  rw [e]
  unfold jt at hq
  by_cases hb : 0 < bt x y u v
  · rw [if_pos hb] at hq ⊢
    refine ⟨by walk_at "sz", by walk_at "sz", by walk_at "sz", (Zf.mul z3 h3).mono (by decide), ?_⟩
    exact hq
  · rw [if_neg hb] at hq ⊢
    exact hq
theorem sem_Lplace (e_Labove : Φ 8 = sp_Labove) (e_Lsome_frac : Φ 9 = sp_Lsome_frac) (e_Lspot : Φ 5 = sp_Lspot) : ∀ ds Q, sp_Lplace ds Q → wS Φ rs_Lplace { nx := fun _ => Q (.d .none), rt := Q } (startD ["x0", "x1"] ds) := by
  rintro ds Q ⟨w, rfl, h1, h2, hq⟩
  show wS Φ rs_Lplace _ [some (.val (.vat)), some (.val (.d (.int w)))]
  simp only [rs_Lplace, wS, wE, wA, wT, wI, wO, ev_add, ev_sub, ev_mul, ev_div, ev_mod, ev_pow, ev_cat, ev_lt, ev_le, ev_gt, ev_ge, ev_eq, ev_ne, ev_eqs, ev_nes, ix_F0, ix_F1, ix_J0, ix_J1, ix_P0, ix_P1, ix_P2, ix_t0, ix_t1, ix_t2, ix_l0, ix_l1, ix_l2, tg_1, tg_F, tg_J, tg_P, tg_2, tg_3, tg_4, fold_J, eq_F, ne_F, eq_J, ne_J, eq_P, ne_P, db_, di_, setVals, setAll, datas, itemsD, truD, List.getElem?_cons_zero, List.getElem?_cons_succ, List.set_cons_zero, List.set_cons_succ, Option.map_some, Option.map_none, Option.some.injEq, exists_eq_left', decide_eq_true_eq, Bool.not_true, Bool.not_false, Bool.false_eq_true, if_false, if_true, true_and, and_true, decide_true, decide_false, List.length_cons, List.length_nil, mx_0, mx_1, mx_2, mx_3, mx_4, mx_5, mx_6, mx_7, mx_8, mx_9, mx_10, mx_11, mx_12, mx_13, mx_14, mx_15, mx_16, mx_17, mx_18, mx_19, mx_20, mx_21, mx_22, mx_23, mx_24, Nat.reduceAdd, Nat.reduceLeDiff, Nat.zero_add, Bool.not_eq_true', decide_eq_false_iff_not, reduceIte, ev_reprb, e_Labove, e_Lsome_frac, e_Lspot, ap_Labove, ap_Lsome_frac, ap_Lspot]
  refine ⟨by omega, h2, fun x hx zx => ⟨h1, h2, fun y zy => ⟨by walk_at "sz", by walk_at "sz", hq x y hx zx zy⟩⟩⟩
theorem sem_Lwith (e_Lfar : Φ 24 = sp_Lfar) (e_Lhigh : Φ 25 = sp_Lhigh) (e_Lmul : Φ 16 = sp_Lmul) (e_Lsub : Φ 23 = sp_Lsub) (e_Ldiv : Φ 31 = sp_Ldiv) : ∀ ds Q, sp_Lwith ds Q → wS Φ rs_Lwith { nx := fun _ => Q (.d .none), rt := Q } (startD ["x0", "x1", "x2", "x3", "x4"] ds) := by
  rintro ds Q ⟨t, x, y, rfl, h1, h2, h3, h4, hq⟩
  show wS Φ rs_Lwith _ [some (.val (.d (F t))), some (.val (.d (P3 x y))), none, none, none]
  simp only [rs_Lwith, wS, wE, wA, wT, wI, wO, ev_add, ev_sub, ev_mul, ev_div, ev_mod, ev_pow, ev_cat, ev_lt, ev_le, ev_gt, ev_ge, ev_eq, ev_ne, ev_eqs, ev_nes, ix_F0, ix_F1, ix_J0, ix_J1, ix_P0, ix_P1, ix_P2, ix_t0, ix_t1, ix_t2, ix_l0, ix_l1, ix_l2, tg_1, tg_F, tg_J, tg_P, tg_2, tg_3, tg_4, fold_J, eq_F, ne_F, eq_J, ne_J, eq_P, ne_P, db_, di_, setVals, setAll, datas, itemsD, truD, List.getElem?_cons_zero, List.getElem?_cons_succ, List.set_cons_zero, List.set_cons_succ, Option.map_some, Option.map_none, Option.some.injEq, exists_eq_left', decide_eq_true_eq, Bool.not_true, Bool.not_false, Bool.false_eq_true, if_false, if_true, true_and, and_true, decide_true, decide_false, List.length_cons, List.length_nil, mx_0, mx_1, mx_2, mx_3, mx_4, mx_5, mx_6, mx_7, mx_8, mx_9, mx_10, mx_11, mx_12, mx_13, mx_14, mx_15, mx_16, mx_17, mx_18, mx_19, mx_20, mx_21, mx_22, mx_23, mx_24, Nat.reduceAdd, Nat.reduceLeDiff, Nat.zero_add, Bool.not_eq_true', decide_eq_false_iff_not, reduceIte, ev_reprb, e_Lfar, e_Lhigh, e_Lmul, e_Lsub, e_Ldiv, ap_Lfar, ap_Lhigh, ap_Lmul, ap_Lsub, ap_Ldiv, num_pos]
  have hx : x ≠ 0 := by grind
  have hxx : x * x ≠ 0 := by
    have := Rat.mul_pos h1 h1
    grind
  have zp1 : Zp 8000 x y := (h3.pt h4).mono (by decide)
  refine ⟨zp1, zp1, by walk_at "sz", by walk_at "sz", (Zf.mul h2 h3).mono (by decide), by walk_at "sz", by walk_at "sz", by walk_at "sz", hxx, (Zf.sub (Zf.mul h2 h3) h4).mono (by decide), (Zf.mul h3 h3).mono (by decide), ?_⟩
  have e : (t * x - y) / (x * x) = bw t x y := by
    unfold bw
    grind
  rw [e]
  unfold jw at hq
  by_cases hb : 0 < bw t x y
  · rw [if_pos hb] at hq ⊢
    exact hq
  · rw [if_neg hb] at hq ⊢
    exact hq
theorem sem_Lthrough (e_Lfar : Φ 24 = sp_Lfar) (e_Lhigh : Φ 25 = sp_Lhigh) (e_Lmul : Φ 16 = sp_Lmul) (e_Lsub : Φ 23 = sp_Lsub) (e_Ldiv : Φ 31 = sp_Ldiv) (e_Ladd : Φ 17 = sp_Ladd) : ∀ ds Q, sp_Lthrough ds Q → wS Φ rs_Lthrough { nx := fun _ => Q (.d .none), rt := Q } (startD ["x0", "x1", "x2", "x3", "x4"] ds) := by
  rintro ds Q ⟨x, y, u, v, rfl, h1, h2, h3, h4, h5, h6, hq⟩
  show wS Φ rs_Lthrough _ [some (.val (.d (P3 x y))), some (.val (.d (P3 u v))), none, none, none]
  simp only [rs_Lthrough, wS, wE, wA, wT, wI, wO, ev_add, ev_sub, ev_mul, ev_div, ev_mod, ev_pow, ev_cat, ev_lt, ev_le, ev_gt, ev_ge, ev_eq, ev_ne, ev_eqs, ev_nes, ix_F0, ix_F1, ix_J0, ix_J1, ix_P0, ix_P1, ix_P2, ix_t0, ix_t1, ix_t2, ix_l0, ix_l1, ix_l2, tg_1, tg_F, tg_J, tg_P, tg_2, tg_3, tg_4, fold_J, eq_F, ne_F, eq_J, ne_J, eq_P, ne_P, db_, di_, setVals, setAll, datas, itemsD, truD, List.getElem?_cons_zero, List.getElem?_cons_succ, List.set_cons_zero, List.set_cons_succ, Option.map_some, Option.map_none, Option.some.injEq, exists_eq_left', decide_eq_true_eq, Bool.not_true, Bool.not_false, Bool.false_eq_true, if_false, if_true, true_and, and_true, decide_true, decide_false, List.length_cons, List.length_nil, mx_0, mx_1, mx_2, mx_3, mx_4, mx_5, mx_6, mx_7, mx_8, mx_9, mx_10, mx_11, mx_12, mx_13, mx_14, mx_15, mx_16, mx_17, mx_18, mx_19, mx_20, mx_21, mx_22, mx_23, mx_24, Nat.reduceAdd, Nat.reduceLeDiff, Nat.zero_add, Bool.not_eq_true', decide_eq_false_iff_not, reduceIte, ev_reprb, e_Lfar, e_Lhigh, e_Lmul, e_Lsub, e_Ldiv, e_Ladd, ap_Lfar, ap_Lhigh, ap_Lmul, ap_Lsub, ap_Ldiv, ap_Ladd, num_pos]
  have hx : x ≠ 0 := by grind
  have hu0 : 0 < u := by grind
  have hu : u ≠ 0 := by grind
  have hd : u - x ≠ 0 := by grind
  have zp1 : Zp 8000 x y := (h3.pt h4).mono (by decide)
  have zp2 : Zp 8000 u v := (h5.pt h6).mono (by decide)
  have z1 : Zf 600 (y / x) := Zf.div h4 h3 (by decide)
  have z2 : Zf 600 (v / u) := Zf.div h6 h5 (by decide)
  have z3 : Zf 1802 (bt x y u v) := (zf_bt (i := 299) (k := 299) h3 h4 h5 h6).mono (by decide)
  refine ⟨zp1, zp1, hx, by walk_at "sz", by walk_at "sz", zp2, zp2, hu, by walk_at "sz", by walk_at "sz", by walk_at "sz", by walk_at "sz", zp2, zp1, by walk_at "sz", by walk_at "sz", hd, by walk_at "sz", by walk_at "sz", ?_⟩
  have e : (y / x - v / u) / (u - x) = bt x y u v := rfl
  rw [e]
  unfold jt at hq
  by_cases hb : 0 < bt x y u v
  · rw [if_pos hb] at hq ⊢
    refine ⟨zp1, by walk_at "sz", by walk_at "sz", by walk_at "sz", (Zf.mul z3 h3).mono (by decide), ?_⟩
    exact hq
  · rw [if_neg hb] at hq ⊢
    exact hq
end
/-! ### signs -/
def sgI (n : Int) : Int := if 0 < n then 1 else if n < 0 then -1 else 0
def sgQ (q : Rat) : Int := if 0 < q then 1 else if q < 0 then -1 else 0
theorem sgI_num (q : Rat) : sgI q.num = sgQ q := by
  unfold sgI sgQ
  simp only [num_pos, num_neg]
theorem sg_pos {q : Rat} (h : 0 < q) : sgQ q = 1 := if_pos h
theorem sg_neg {q : Rat} (h : q < 0) : sgQ q = -1 := by
  unfold sgQ
  rw [if_neg (by grind), if_pos h]
theorem sg_zero : sgQ 0 = 0 := by
  unfold sgQ
  rw [if_neg (by grind), if_neg (by grind)]
theorem tri (q : Rat) : q < 0 ∨ q = 0 ∨ 0 < q := by
  by_cases h : q < 0
  · exact .inl h
  · by_cases h' : 0 < q
    · exact .inr (.inr h')
    · exact .inr (.inl (by grind))
theorem pos_neg {x y : Rat} (h : 0 < x) (h' : y < 0) : x * y < 0 := by
  have := Rat.mul_pos h (show 0 < -y by grind)
  grind
theorem neg_pos {x y : Rat} (h : x < 0) (h' : 0 < y) : x * y < 0 := by
  have := Rat.mul_pos (show 0 < -x by grind) h'
  grind
theorem neg_neg {x y : Rat} (h : x < 0) (h' : y < 0) : 0 < x * y := by
  have := Rat.mul_pos (show 0 < -x by grind) (show 0 < -y by grind)
  grind
theorem sg_mul (x y : Rat) : sgQ (x * y) = sgQ x * sgQ y := by
  rcases tri x with hx | rfl | hx
  · rcases tri y with hy | rfl | hy
    · rw [sg_neg hx, sg_neg hy, sg_pos (neg_neg hx hy)]; decide
    · rw [Rat.mul_zero, sg_zero]; simp
    · rw [sg_neg hx, sg_pos hy, sg_neg (neg_pos hx hy)]; decide
  · rw [Rat.zero_mul, sg_zero]; simp
  · rcases tri y with hy | rfl | hy
    · rw [sg_pos hx, sg_neg hy, sg_neg (pos_neg hx hy)]; decide
    · rw [Rat.mul_zero, sg_zero]; simp
    · rw [sg_pos hx, sg_pos hy, sg_pos (Rat.mul_pos hx hy)]; decide
theorem sgI_mul (a b : Int) : (0 < a * b) = (0 < sgI a * sgI b) := propext (by
  unfold sgI
  rcases Int.lt_trichotomy a 0 with ha | ha | ha
  · rcases Int.lt_trichotomy b 0 with hb | hb | hb
    · have := Int.mul_pos_of_neg_of_neg ha hb
      rw [if_neg (by omega), if_pos ha, if_neg (by omega), if_pos hb]
      exact ⟨fun _ => by decide, fun _ => this⟩
    · subst hb
      simp
    · have := Int.mul_neg_of_neg_of_pos ha hb
      rw [if_neg (by omega), if_pos ha, if_pos hb]
      exact ⟨fun _ => by omega, fun h => by omega⟩
  · subst ha
    simp
  · rcases Int.lt_trichotomy b 0 with hb | hb | hb
    · have := Int.mul_neg_of_pos_of_neg ha hb
      rw [if_pos ha, if_neg (by omega), if_pos hb]
      exact ⟨fun _ => by omega, fun h => by omega⟩
    · subst hb
      simp
    · have := Int.mul_pos ha hb
      rw [if_pos ha, if_pos hb]
      exact ⟨fun _ => by decide, fun _ => this⟩)
theorem num_mul_pos (x y : Rat) : (0 < x.num * y.num) = (0 < x * y) := by
  rw [sgI_mul, sgI_num, sgI_num, ← sg_mul]
  rcases tri (x * y) with h | h | h
  · rw [sg_neg h]
    exact propext ⟨fun z => absurd z (by decide), fun z => by grind⟩
  · rw [h, sg_zero]
    exact propext ⟨fun z => absurd z (by decide), fun z => by grind⟩
  · rw [sg_pos h]
    exact propext ⟨fun _ => h, fun _ => by decide⟩
theorem sgQ_sz (q : Rat) : Sz 10 (sgQ q) := by
  unfold sgQ Sz
  split
  · decide
  · split <;> decide
theorem cmI {a b : Int} (h : Sz 10 a) (e : Sz 10 b) : CMul a b ∨ CMulW a b := cm3 (h.mono (by decide)) (e.mono (by decide))
/-! ### two jets -/
theorem dif_hgt {s b t c m e : Rat} (hb : b - c ≠ 0) (hm : m = (s - t) / (b - c)) : hgt s b e - hgt t c e = e * ((b - c) * (m - e)) := by
  have : m * (b - c) = s - t := by rw [hm]; exact Rat.div_mul_cancel hb
  unfold hgt
  grind
theorem meet_hgt {s b t c : Rat} (hb : b - c ≠ 0) : hgt t c ((s - t) / (b - c)) = hgt s b ((s - t) / (b - c)) := by
  have := dif_hgt (s := s) (t := t) (e := (s - t) / (b - c)) hb rfl
  grind
def sp_Lsgn : PSp := fun ds Q => ∃ n, ds = [.d (.int n)] ∧ Q (.d (.int (sgI n)))
theorem ap_Lsgn {Q : DV → Prop} {n : Int} : sp_Lsgn [DV.d (.int n)] Q = (Q (DV.d (.int (sgI n)))) := propext ⟨fun ⟨_, e, r⟩ => by
  simp only [List.cons.injEq, DV.d.injEq, and_true, true_and, F_eq, J_eq, P3_eq, T_eq, PyData.int.injEq, PyData.str.injEq, PyData.list.injEq, PyData.tuple.injEq] at e
  obtain rfl := e
  exact r, fun r => ⟨_, rfl, r⟩⟩
def sp_sign : PSp := fun ds Q => ∃ n, ds = [.d (.int n)] ∧ Q (.d (.int (sgI n)))
theorem ap_sign {Q : DV → Prop} {n : Int} : sp_sign [DV.d (.int n)] Q = (Q (DV.d (.int (sgI n)))) := propext ⟨fun ⟨_, e, r⟩ => by
  simp only [List.cons.injEq, DV.d.injEq, and_true, true_and, F_eq, J_eq, P3_eq, T_eq, PyData.int.injEq, PyData.str.injEq, PyData.list.injEq, PyData.tuple.injEq] at e
  obtain rfl := e
  exact r, fun r => ⟨_, rfl, r⟩⟩
def sp_Lorder : PSp := fun ds Q => ∃ s b t c e, ds = [.d (J s b), .d (J t c), .d (F e)] ∧ 0 < b ∧ 0 < c ∧ 0 ≤ e ∧ Zf 70 s ∧ Zf 70 b ∧ Zf 70 t ∧ Zf 300 c ∧ Zf 40 e ∧ Q (.d (.int (sgQ (hgt s b e - hgt t c e))))
theorem ap_Lorder {Q : DV → Prop} {s : Rat} {b : Rat} {t : Rat} {c : Rat} {e : Rat} : sp_Lorder [DV.d (J s b), DV.d (J t c), DV.d (F e)] Q = (0 < b ∧ 0 < c ∧ 0 ≤ e ∧ Zf 70 s ∧ Zf 70 b ∧ Zf 70 t ∧ Zf 300 c ∧ Zf 40 e ∧ Q (DV.d (.int (sgQ (hgt s b e - hgt t c e))))) := propext ⟨fun ⟨_, _, _, _, _, e, r⟩ => by
  simp only [List.cons.injEq, DV.d.injEq, and_true, true_and, F_eq, J_eq, P3_eq, T_eq, PyData.int.injEq, PyData.str.injEq, PyData.list.injEq, PyData.tuple.injEq] at e
  obtain ⟨⟨rfl, rfl⟩, ⟨rfl, rfl⟩, rfl⟩ := e
  exact r, fun r => ⟨_, _, _, _, _, rfl, r⟩⟩

section
variable {Φ : Nat → PSp}
theorem sem_Lsgn : ∀ ds Q, sp_Lsgn ds Q → wS Φ rs_Lsgn { nx := fun _ => Q (.d .none), rt := Q } (startD ["x0"] ds) := by
  rintro ds Q ⟨n, rfl, hq⟩
  show wS Φ rs_Lsgn _ [some (.val (.d (.int n)))]
  simp only [rs_Lsgn, wS, wE, wA, wT, wI, wO, ev_add, ev_sub, ev_mul, ev_div, ev_mod, ev_pow, ev_cat, ev_lt, ev_le, ev_gt, ev_ge, ev_eq, ev_ne, ev_eqs, ev_nes, ix_F0, ix_F1, ix_J0, ix_J1, ix_P0, ix_P1, ix_P2, ix_t0, ix_t1, ix_t2, ix_l0, ix_l1, ix_l2, tg_1, tg_F, tg_J, tg_P, tg_2, tg_3, tg_4, fold_J, eq_F, ne_F, eq_J, ne_J, eq_P, ne_P, db_, di_, setVals, setAll, datas, itemsD, truD, List.getElem?_cons_zero, List.getElem?_cons_succ, List.set_cons_zero, List.set_cons_succ, Option.map_some, Option.map_none, Option.some.injEq, exists_eq_left', decide_eq_true_eq, Bool.not_true, Bool.not_false, Bool.false_eq_true, if_false, if_true, true_and, and_true, decide_true, decide_false, List.length_cons, List.length_nil, mx_0, mx_1, mx_2, mx_3, mx_4, mx_5, mx_6, mx_7, mx_8, mx_9, mx_10, mx_11, mx_12, mx_13, mx_14, mx_15, mx_16, mx_17, mx_18, mx_19, mx_20, mx_21, mx_22, mx_23, mx_24, Nat.reduceAdd, Nat.reduceLeDiff, Nat.zero_add, Bool.not_eq_true', decide_eq_false_iff_not, reduceIte, ev_reprb]
  unfold sgI at hq
  split
  · rename_i h
    rw [if_pos h] at hq
    exact hq
  · rename_i h
    rw [if_neg h] at hq
    split
    · rename_i h'
      rw [if_pos h'] at hq
      exact hq
    · rename_i h'
      rw [if_neg h'] at hq
      exact hq
theorem sem_sign : ∀ ds Q, sp_sign ds Q → wS Φ rs_sign { nx := fun _ => Q (.d .none), rt := Q } (startD ["x0"] ds) := by
  rintro ds Q ⟨n, rfl, hq⟩
  show wS Φ rs_sign _ [some (.val (.d (.int n)))]
  simp only [rs_sign, wS, wE, wA, wT, wI, wO, ev_add, ev_sub, ev_mul, ev_div, ev_mod, ev_pow, ev_cat, ev_lt, ev_le, ev_gt, ev_ge, ev_eq, ev_ne, ev_eqs, ev_nes, ix_F0, ix_F1, ix_J0, ix_J1, ix_P0, ix_P1, ix_P2, ix_t0, ix_t1, ix_t2, ix_l0, ix_l1, ix_l2, tg_1, tg_F, tg_J, tg_P, tg_2, tg_3, tg_4, fold_J, eq_F, ne_F, eq_J, ne_J, eq_P, ne_P, db_, di_, setVals, setAll, datas, itemsD, truD, List.getElem?_cons_zero, List.getElem?_cons_succ, List.set_cons_zero, List.set_cons_succ, Option.map_some, Option.map_none, Option.some.injEq, exists_eq_left', decide_eq_true_eq, Bool.not_true, Bool.not_false, Bool.false_eq_true, if_false, if_true, true_and, and_true, decide_true, decide_false, List.length_cons, List.length_nil, mx_0, mx_1, mx_2, mx_3, mx_4, mx_5, mx_6, mx_7, mx_8, mx_9, mx_10, mx_11, mx_12, mx_13, mx_14, mx_15, mx_16, mx_17, mx_18, mx_19, mx_20, mx_21, mx_22, mx_23, mx_24, Nat.reduceAdd, Nat.reduceLeDiff, Nat.zero_add, Bool.not_eq_true', decide_eq_false_iff_not, reduceIte, ev_reprb]
  unfold sgI at hq
  split
  · rename_i h
    rw [if_pos h] at hq
    exact hq
  · rename_i h
    rw [if_neg h] at hq
    split
    · rename_i h'
      rw [if_pos h'] at hq
      exact hq
    · rename_i h'
      rw [if_neg h'] at hq
      exact hq
theorem sem_Lorder (e_Lsgn : Φ 41 = sp_Lsgn) (e_Lsub : Φ 23 = sp_Lsub) (e_height_at : Φ 77 = sp_height_at) : ∀ ds Q, sp_Lorder ds Q → wS Φ rs_Lorder { nx := fun _ => Q (.d .none), rt := Q } (startD ["x0", "x1", "x2"] ds) := by
  rintro ds Q ⟨s, b, t, c, e, rfl, h1, h2, h3, h4, h5, h6, h7, h8, hq⟩
  show wS Φ rs_Lorder _ [some (.val (.d (J s b))), some (.val (.d (J t c))), some (.val (.d (F e)))]
  simp only [rs_Lorder, wS, wE, wA, wT, wI, wO, ev_add, ev_sub, ev_mul, ev_div, ev_mod, ev_pow, ev_cat, ev_lt, ev_le, ev_gt, ev_ge, ev_eq, ev_ne, ev_eqs, ev_nes, ix_F0, ix_F1, ix_J0, ix_J1, ix_P0, ix_P1, ix_P2, ix_t0, ix_t1, ix_t2, ix_l0, ix_l1, ix_l2, tg_1, tg_F, tg_J, tg_P, tg_2, tg_3, tg_4, fold_J, eq_F, ne_F, eq_J, ne_J, eq_P, ne_P, db_, di_, setVals, setAll, datas, itemsD, truD, List.getElem?_cons_zero, List.getElem?_cons_succ, List.set_cons_zero, List.set_cons_succ, Option.map_some, Option.map_none, Option.some.injEq, exists_eq_left', decide_eq_true_eq, Bool.not_true, Bool.not_false, Bool.false_eq_true, if_false, if_true, true_and, and_true, decide_true, decide_false, List.length_cons, List.length_nil, mx_0, mx_1, mx_2, mx_3, mx_4, mx_5, mx_6, mx_7, mx_8, mx_9, mx_10, mx_11, mx_12, mx_13, mx_14, mx_15, mx_16, mx_17, mx_18, mx_19, mx_20, mx_21, mx_22, mx_23, mx_24, Nat.reduceAdd, Nat.reduceLeDiff, Nat.zero_add, Bool.not_eq_true', decide_eq_false_iff_not, reduceIte, ev_reprb, e_Lsgn, e_Lsub, e_height_at, ap_Lsgn, ap_Lsub, ap_height_at, sgI_num]
  exact ⟨h1, h3, by walk_at "sz", by walk_at "sz", by walk_at "sz", h2, h3, by walk_at "sz", by walk_at "sz", by walk_at "sz", by walk_at "sz", by walk_at "sz", hq⟩
end
/-! ### words -/
theorem we_over_over : PyData.eqv (.str (Str.ofString "over")) (.str (Str.ofString "over")) = true := by decide +kernel
theorem wn_over_under : (Str.ofString "over" = Str.ofString "under") = False := eq_false (by decide +kernel)
theorem we_over_under : PyData.eqv (.str (Str.ofString "over")) (.str (Str.ofString "under")) = false := by decide +kernel
theorem wn_over_roof : (Str.ofString "over" = Str.ofString "roof") = False := eq_false (by decide +kernel)
theorem we_over_roof : PyData.eqv (.str (Str.ofString "over")) (.str (Str.ofString "roof")) = false := by decide +kernel
theorem wn_over_low : (Str.ofString "over" = Str.ofString "low") = False := eq_false (by decide +kernel)
theorem we_over_low : PyData.eqv (.str (Str.ofString "over")) (.str (Str.ofString "low")) = false := by decide +kernel
theorem wn_over_dives : (Str.ofString "over" = Str.ofString "dives") = False := eq_false (by decide +kernel)
theorem we_over_dives : PyData.eqv (.str (Str.ofString "over")) (.str (Str.ofString "dives")) = false := by decide +kernel
theorem wn_over_climbs : (Str.ofString "over" = Str.ofString "climbs") = False := eq_false (by decide +kernel)
theorem we_over_climbs : PyData.eqv (.str (Str.ofString "over")) (.str (Str.ofString "climbs")) = false := by decide +kernel
theorem wn_over_quick : (Str.ofString "over" = Str.ofString "quick") = False := eq_false (by decide +kernel)
theorem we_over_quick : PyData.eqv (.str (Str.ofString "over")) (.str (Str.ofString "quick")) = false := by decide +kernel
theorem wn_over_slow : (Str.ofString "over" = Str.ofString "slow") = False := eq_false (by decide +kernel)
theorem we_over_slow : PyData.eqv (.str (Str.ofString "over")) (.str (Str.ofString "slow")) = false := by decide +kernel
theorem wn_under_over : (Str.ofString "under" = Str.ofString "over") = False := eq_false (by decide +kernel)
theorem we_under_over : PyData.eqv (.str (Str.ofString "under")) (.str (Str.ofString "over")) = false := by decide +kernel
theorem we_under_under : PyData.eqv (.str (Str.ofString "under")) (.str (Str.ofString "under")) = true := by decide +kernel
theorem wn_under_roof : (Str.ofString "under" = Str.ofString "roof") = False := eq_false (by decide +kernel)
theorem we_under_roof : PyData.eqv (.str (Str.ofString "under")) (.str (Str.ofString "roof")) = false := by decide +kernel
theorem wn_under_low : (Str.ofString "under" = Str.ofString "low") = False := eq_false (by decide +kernel)
theorem we_under_low : PyData.eqv (.str (Str.ofString "under")) (.str (Str.ofString "low")) = false := by decide +kernel
theorem wn_under_dives : (Str.ofString "under" = Str.ofString "dives") = False := eq_false (by decide +kernel)
theorem we_under_dives : PyData.eqv (.str (Str.ofString "under")) (.str (Str.ofString "dives")) = false := by decide +kernel
theorem wn_under_climbs : (Str.ofString "under" = Str.ofString "climbs") = False := eq_false (by decide +kernel)
theorem we_under_climbs : PyData.eqv (.str (Str.ofString "under")) (.str (Str.ofString "climbs")) = false := by decide +kernel
theorem wn_under_quick : (Str.ofString "under" = Str.ofString "quick") = False := eq_false (by decide +kernel)
theorem we_under_quick : PyData.eqv (.str (Str.ofString "under")) (.str (Str.ofString "quick")) = false := by decide +kernel
theorem wn_under_slow : (Str.ofString "under" = Str.ofString "slow") = False := eq_false (by decide +kernel)
theorem we_under_slow : PyData.eqv (.str (Str.ofString "under")) (.str (Str.ofString "slow")) = false := by decide +kernel
theorem wn_roof_over : (Str.ofString "roof" = Str.ofString "over") = False := eq_false (by decide +kernel)
theorem we_roof_over : PyData.eqv (.str (Str.ofString "roof")) (.str (Str.ofString "over")) = false := by decide +kernel
theorem wn_roof_under : (Str.ofString "roof" = Str.ofString "under") = False := eq_false (by decide +kernel)
theorem we_roof_under : PyData.eqv (.str (Str.ofString "roof")) (.str (Str.ofString "under")) = false := by decide +kernel
theorem we_roof_roof : PyData.eqv (.str (Str.ofString "roof")) (.str (Str.ofString "roof")) = true := by decide +kernel
theorem wn_roof_low : (Str.ofString "roof" = Str.ofString "low") = False := eq_false (by decide +kernel)
theorem we_roof_low : PyData.eqv (.str (Str.ofString "roof")) (.str (Str.ofString "low")) = false := by decide +kernel
theorem wn_roof_dives : (Str.ofString "roof" = Str.ofString "dives") = False := eq_false (by decide +kernel)
theorem we_roof_dives : PyData.eqv (.str (Str.ofString "roof")) (.str (Str.ofString "dives")) = false := by decide +kernel
theorem wn_roof_climbs : (Str.ofString "roof" = Str.ofString "climbs") = False := eq_false (by decide +kernel)
theorem we_roof_climbs : PyData.eqv (.str (Str.ofString "roof")) (.str (Str.ofString "climbs")) = false := by decide +kernel
theorem wn_roof_quick : (Str.ofString "roof" = Str.ofString "quick") = False := eq_false (by decide +kernel)
theorem we_roof_quick : PyData.eqv (.str (Str.ofString "roof")) (.str (Str.ofString "quick")) = false := by decide +kernel
theorem wn_roof_slow : (Str.ofString "roof" = Str.ofString "slow") = False := eq_false (by decide +kernel)
theorem we_roof_slow : PyData.eqv (.str (Str.ofString "roof")) (.str (Str.ofString "slow")) = false := by decide +kernel
theorem wn_low_over : (Str.ofString "low" = Str.ofString "over") = False := eq_false (by decide +kernel)
theorem we_low_over : PyData.eqv (.str (Str.ofString "low")) (.str (Str.ofString "over")) = false := by decide +kernel
theorem wn_low_under : (Str.ofString "low" = Str.ofString "under") = False := eq_false (by decide +kernel)
theorem we_low_under : PyData.eqv (.str (Str.ofString "low")) (.str (Str.ofString "under")) = false := by decide +kernel
theorem wn_low_roof : (Str.ofString "low" = Str.ofString "roof") = False := eq_false (by decide +kernel)
theorem we_low_roof : PyData.eqv (.str (Str.ofString "low")) (.str (Str.ofString "roof")) = false := by decide +kernel
theorem we_low_low : PyData.eqv (.str (Str.ofString "low")) (.str (Str.ofString "low")) = true := by decide +kernel
theorem wn_low_dives : (Str.ofString "low" = Str.ofString "dives") = False := eq_false (by decide +kernel)
theorem we_low_dives : PyData.eqv (.str (Str.ofString "low")) (.str (Str.ofString "dives")) = false := by decide +kernel
theorem wn_low_climbs : (Str.ofString "low" = Str.ofString "climbs") = False := eq_false (by decide +kernel)
theorem we_low_climbs : PyData.eqv (.str (Str.ofString "low")) (.str (Str.ofString "climbs")) = false := by decide +kernel
theorem wn_low_quick : (Str.ofString "low" = Str.ofString "quick") = False := eq_false (by decide +kernel)
theorem we_low_quick : PyData.eqv (.str (Str.ofString "low")) (.str (Str.ofString "quick")) = false := by decide +kernel
theorem wn_low_slow : (Str.ofString "low" = Str.ofString "slow") = False := eq_false (by decide +kernel)
theorem we_low_slow : PyData.eqv (.str (Str.ofString "low")) (.str (Str.ofString "slow")) = false := by decide +kernel
theorem wn_dives_over : (Str.ofString "dives" = Str.ofString "over") = False := eq_false (by decide +kernel)
theorem we_dives_over : PyData.eqv (.str (Str.ofString "dives")) (.str (Str.ofString "over")) = false := by decide +kernel
theorem wn_dives_under : (Str.ofString "dives" = Str.ofString "under") = False := eq_false (by decide +kernel)
theorem we_dives_under : PyData.eqv (.str (Str.ofString "dives")) (.str (Str.ofString "under")) = false := by decide +kernel
theorem wn_dives_roof : (Str.ofString "dives" = Str.ofString "roof") = False := eq_false (by decide +kernel)
theorem we_dives_roof : PyData.eqv (.str (Str.ofString "dives")) (.str (Str.ofString "roof")) = false := by decide +kernel
theorem wn_dives_low : (Str.ofString "dives" = Str.ofString "low") = False := eq_false (by decide +kernel)
theorem we_dives_low : PyData.eqv (.str (Str.ofString "dives")) (.str (Str.ofString "low")) = false := by decide +kernel
theorem we_dives_dives : PyData.eqv (.str (Str.ofString "dives")) (.str (Str.ofString "dives")) = true := by decide +kernel
theorem wn_dives_climbs : (Str.ofString "dives" = Str.ofString "climbs") = False := eq_false (by decide +kernel)
theorem we_dives_climbs : PyData.eqv (.str (Str.ofString "dives")) (.str (Str.ofString "climbs")) = false := by decide +kernel
theorem wn_dives_quick : (Str.ofString "dives" = Str.ofString "quick") = False := eq_false (by decide +kernel)
theorem we_dives_quick : PyData.eqv (.str (Str.ofString "dives")) (.str (Str.ofString "quick")) = false := by decide +kernel
theorem wn_dives_slow : (Str.ofString "dives" = Str.ofString "slow") = False := eq_false (by decide +kernel)
theorem we_dives_slow : PyData.eqv (.str (Str.ofString "dives")) (.str (Str.ofString "slow")) = false := by decide +kernel
theorem wn_climbs_over : (Str.ofString "climbs" = Str.ofString "over") = False := eq_false (by decide +kernel)
theorem we_climbs_over : PyData.eqv (.str (Str.ofString "climbs")) (.str (Str.ofString "over")) = false := by decide +kernel
theorem wn_climbs_under : (Str.ofString "climbs" = Str.ofString "under") = False := eq_false (by decide +kernel)
theorem we_climbs_under : PyData.eqv (.str (Str.ofString "climbs")) (.str (Str.ofString "under")) = false := by decide +kernel
theorem wn_climbs_roof : (Str.ofString "climbs" = Str.ofString "roof") = False := eq_false (by decide +kernel)
theorem we_climbs_roof : PyData.eqv (.str (Str.ofString "climbs")) (.str (Str.ofString "roof")) = false := by decide +kernel
theorem wn_climbs_low : (Str.ofString "climbs" = Str.ofString "low") = False := eq_false (by decide +kernel)
theorem we_climbs_low : PyData.eqv (.str (Str.ofString "climbs")) (.str (Str.ofString "low")) = false := by decide +kernel
theorem wn_climbs_dives : (Str.ofString "climbs" = Str.ofString "dives") = False := eq_false (by decide +kernel)
theorem we_climbs_dives : PyData.eqv (.str (Str.ofString "climbs")) (.str (Str.ofString "dives")) = false := by decide +kernel
theorem we_climbs_climbs : PyData.eqv (.str (Str.ofString "climbs")) (.str (Str.ofString "climbs")) = true := by decide +kernel
theorem wn_climbs_quick : (Str.ofString "climbs" = Str.ofString "quick") = False := eq_false (by decide +kernel)
theorem we_climbs_quick : PyData.eqv (.str (Str.ofString "climbs")) (.str (Str.ofString "quick")) = false := by decide +kernel
theorem wn_climbs_slow : (Str.ofString "climbs" = Str.ofString "slow") = False := eq_false (by decide +kernel)
theorem we_climbs_slow : PyData.eqv (.str (Str.ofString "climbs")) (.str (Str.ofString "slow")) = false := by decide +kernel
theorem wn_quick_over : (Str.ofString "quick" = Str.ofString "over") = False := eq_false (by decide +kernel)
theorem we_quick_over : PyData.eqv (.str (Str.ofString "quick")) (.str (Str.ofString "over")) = false := by decide +kernel
theorem wn_quick_under : (Str.ofString "quick" = Str.ofString "under") = False := eq_false (by decide +kernel)
theorem we_quick_under : PyData.eqv (.str (Str.ofString "quick")) (.str (Str.ofString "under")) = false := by decide +kernel
theorem wn_quick_roof : (Str.ofString "quick" = Str.ofString "roof") = False := eq_false (by decide +kernel)
theorem we_quick_roof : PyData.eqv (.str (Str.ofString "quick")) (.str (Str.ofString "roof")) = false := by decide +kernel
theorem wn_quick_low : (Str.ofString "quick" = Str.ofString "low") = False := eq_false (by decide +kernel)
theorem we_quick_low : PyData.eqv (.str (Str.ofString "quick")) (.str (Str.ofString "low")) = false := by decide +kernel
theorem wn_quick_dives : (Str.ofString "quick" = Str.ofString "dives") = False := eq_false (by decide +kernel)
theorem we_quick_dives : PyData.eqv (.str (Str.ofString "quick")) (.str (Str.ofString "dives")) = false := by decide +kernel
theorem wn_quick_climbs : (Str.ofString "quick" = Str.ofString "climbs") = False := eq_false (by decide +kernel)
theorem we_quick_climbs : PyData.eqv (.str (Str.ofString "quick")) (.str (Str.ofString "climbs")) = false := by decide +kernel
theorem we_quick_quick : PyData.eqv (.str (Str.ofString "quick")) (.str (Str.ofString "quick")) = true := by decide +kernel
theorem wn_quick_slow : (Str.ofString "quick" = Str.ofString "slow") = False := eq_false (by decide +kernel)
theorem we_quick_slow : PyData.eqv (.str (Str.ofString "quick")) (.str (Str.ofString "slow")) = false := by decide +kernel
theorem wn_slow_over : (Str.ofString "slow" = Str.ofString "over") = False := eq_false (by decide +kernel)
theorem we_slow_over : PyData.eqv (.str (Str.ofString "slow")) (.str (Str.ofString "over")) = false := by decide +kernel
theorem wn_slow_under : (Str.ofString "slow" = Str.ofString "under") = False := eq_false (by decide +kernel)
theorem we_slow_under : PyData.eqv (.str (Str.ofString "slow")) (.str (Str.ofString "under")) = false := by decide +kernel
theorem wn_slow_roof : (Str.ofString "slow" = Str.ofString "roof") = False := eq_false (by decide +kernel)
theorem we_slow_roof : PyData.eqv (.str (Str.ofString "slow")) (.str (Str.ofString "roof")) = false := by decide +kernel
theorem wn_slow_low : (Str.ofString "slow" = Str.ofString "low") = False := eq_false (by decide +kernel)
theorem we_slow_low : PyData.eqv (.str (Str.ofString "slow")) (.str (Str.ofString "low")) = false := by decide +kernel
theorem wn_slow_dives : (Str.ofString "slow" = Str.ofString "dives") = False := eq_false (by decide +kernel)
theorem we_slow_dives : PyData.eqv (.str (Str.ofString "slow")) (.str (Str.ofString "dives")) = false := by decide +kernel
theorem wn_slow_climbs : (Str.ofString "slow" = Str.ofString "climbs") = False := eq_false (by decide +kernel)
theorem we_slow_climbs : PyData.eqv (.str (Str.ofString "slow")) (.str (Str.ofString "climbs")) = false := by decide +kernel
theorem wn_slow_quick : (Str.ofString "slow" = Str.ofString "quick") = False := eq_false (by decide +kernel)
theorem we_slow_quick : PyData.eqv (.str (Str.ofString "slow")) (.str (Str.ofString "quick")) = false := by decide +kernel
theorem we_slow_slow : PyData.eqv (.str (Str.ofString "slow")) (.str (Str.ofString "slow")) = true := by decide +kernel
theorem we_upright_upright : PyData.eqv (.str (Str.ofString "upright")) (.str (Str.ofString "upright")) = true := by decide +kernel
theorem wn_upright_upper : (Str.ofString "upright" = Str.ofString "upper") = False := eq_false (by decide +kernel)
theorem we_upright_upper : PyData.eqv (.str (Str.ofString "upright")) (.str (Str.ofString "upper")) = false := by decide +kernel
theorem wn_upright_lower : (Str.ofString "upright" = Str.ofString "lower") = False := eq_false (by decide +kernel)
theorem we_upright_lower : PyData.eqv (.str (Str.ofString "upright")) (.str (Str.ofString "lower")) = false := by decide +kernel
theorem wn_upper_upright : (Str.ofString "upper" = Str.ofString "upright") = False := eq_false (by decide +kernel)
theorem we_upper_upright : PyData.eqv (.str (Str.ofString "upper")) (.str (Str.ofString "upright")) = false := by decide +kernel
theorem we_upper_upper : PyData.eqv (.str (Str.ofString "upper")) (.str (Str.ofString "upper")) = true := by decide +kernel
theorem wn_upper_lower : (Str.ofString "upper" = Str.ofString "lower") = False := eq_false (by decide +kernel)
theorem we_upper_lower : PyData.eqv (.str (Str.ofString "upper")) (.str (Str.ofString "lower")) = false := by decide +kernel
theorem wn_lower_upright : (Str.ofString "lower" = Str.ofString "upright") = False := eq_false (by decide +kernel)
theorem we_lower_upright : PyData.eqv (.str (Str.ofString "lower")) (.str (Str.ofString "upright")) = false := by decide +kernel
theorem wn_lower_upper : (Str.ofString "lower" = Str.ofString "upper") = False := eq_false (by decide +kernel)
theorem we_lower_upper : PyData.eqv (.str (Str.ofString "lower")) (.str (Str.ofString "upper")) = false := by decide +kernel
theorem we_lower_lower : PyData.eqv (.str (Str.ofString "lower")) (.str (Str.ofString "lower")) = true := by decide +kernel
theorem we_least_least : PyData.eqv (.str (Str.ofString "least")) (.str (Str.ofString "least")) = true := by decide +kernel
theorem wn_least_most : (Str.ofString "least" = Str.ofString "most") = False := eq_false (by decide +kernel)
theorem we_least_most : PyData.eqv (.str (Str.ofString "least")) (.str (Str.ofString "most")) = false := by decide +kernel
theorem wn_least_all : (Str.ofString "least" = Str.ofString "all") = False := eq_false (by decide +kernel)
theorem we_least_all : PyData.eqv (.str (Str.ofString "least")) (.str (Str.ofString "all")) = false := by decide +kernel
theorem wn_least_none : (Str.ofString "least" = Str.ofString "none") = False := eq_false (by decide +kernel)
theorem we_least_none : PyData.eqv (.str (Str.ofString "least")) (.str (Str.ofString "none")) = false := by decide +kernel
theorem wn_most_least : (Str.ofString "most" = Str.ofString "least") = False := eq_false (by decide +kernel)
theorem we_most_least : PyData.eqv (.str (Str.ofString "most")) (.str (Str.ofString "least")) = false := by decide +kernel
theorem we_most_most : PyData.eqv (.str (Str.ofString "most")) (.str (Str.ofString "most")) = true := by decide +kernel
theorem wn_most_all : (Str.ofString "most" = Str.ofString "all") = False := eq_false (by decide +kernel)
theorem we_most_all : PyData.eqv (.str (Str.ofString "most")) (.str (Str.ofString "all")) = false := by decide +kernel
theorem wn_most_none : (Str.ofString "most" = Str.ofString "none") = False := eq_false (by decide +kernel)
theorem we_most_none : PyData.eqv (.str (Str.ofString "most")) (.str (Str.ofString "none")) = false := by decide +kernel
theorem wn_all_least : (Str.ofString "all" = Str.ofString "least") = False := eq_false (by decide +kernel)
theorem we_all_least : PyData.eqv (.str (Str.ofString "all")) (.str (Str.ofString "least")) = false := by decide +kernel
theorem wn_all_most : (Str.ofString "all" = Str.ofString "most") = False := eq_false (by decide +kernel)
theorem we_all_most : PyData.eqv (.str (Str.ofString "all")) (.str (Str.ofString "most")) = false := by decide +kernel
theorem we_all_all : PyData.eqv (.str (Str.ofString "all")) (.str (Str.ofString "all")) = true := by decide +kernel
theorem wn_all_none : (Str.ofString "all" = Str.ofString "none") = False := eq_false (by decide +kernel)
theorem we_all_none : PyData.eqv (.str (Str.ofString "all")) (.str (Str.ofString "none")) = false := by decide +kernel
theorem wn_none_least : (Str.ofString "none" = Str.ofString "least") = False := eq_false (by decide +kernel)
theorem we_none_least : PyData.eqv (.str (Str.ofString "none")) (.str (Str.ofString "least")) = false := by decide +kernel
theorem wn_none_most : (Str.ofString "none" = Str.ofString "most") = False := eq_false (by decide +kernel)
theorem we_none_most : PyData.eqv (.str (Str.ofString "none")) (.str (Str.ofString "most")) = false := by decide +kernel
theorem wn_none_all : (Str.ofString "none" = Str.ofString "all") = False := eq_false (by decide +kernel)
theorem we_none_all : PyData.eqv (.str (Str.ofString "none")) (.str (Str.ofString "all")) = false := by decide +kernel
theorem we_none_none : PyData.eqv (.str (Str.ofString "none")) (.str (Str.ofString "none")) = true := by decide +kernel
theorem ev_inn {Q : DV → Prop} {x : PyData} {ys : List PyData} : wCmp .inn (.d x) (.d (.tuple ys)) Q = (flatD x = true ∧ ys.all flatD = true ∧ Q (.d (.bool (ys.any fun z => PyData.eqv z x)))) := propext ⟨fun ⟨_, e, h⟩ => by
  cases e
  exact h, fun h => ⟨_, rfl, h⟩⟩
theorem ev_innl {Q : DV → Prop} {x : PyData} {ys : List PyData} : wCmp .inn (.d x) (.d (.list ys)) Q = (flatD x = true ∧ ys.all flatD = true ∧ Q (.d (.bool (ys.any fun z => PyData.eqv z x)))) := propext ⟨fun ⟨_, e, h⟩ => by
  cases e
  exact h, fun h => ⟨_, rfl, h⟩⟩
theorem ev_nin {Q : DV → Prop} {x : PyData} {ys : List PyData} : wCmp .notin (.d x) (.d (.tuple ys)) Q = (flatD x = true ∧ ys.all flatD = true ∧ Q (.d (.bool (!ys.any fun z => PyData.eqv z x)))) := propext ⟨fun ⟨_, e, h⟩ => by
  cases e
  exact h, fun h => ⟨_, rfl, h⟩⟩
theorem flat_s {x : Str} : flatD (.str x) = true := rfl
theorem flat_i {x : Int} : flatD (.int x) = true := rfl
theorem eqv_int {a b : Int} : PyData.eqv (.int a) (.int b) = decide (a = b) := by
  simp only [PyData.eqv]
  exact Bool.beq_eq_decide_eq a b
theorem ev_is {Q : DV → Prop} {a b : Bool} : wCmp .iss (.d (.bool a)) (.d (.bool b)) Q = Q (.d (.bool (decide (a = b)))) := rfl
theorem ev_isnt {Q : DV → Prop} {a b : Bool} : wCmp .isnt (.d (.bool a)) (.d (.bool b)) Q = Q (.d (.bool (!decide (a = b)))) := rfl
def q_roof_parts_4_t_1 : RS := (.ret (.tup (.cons (.tup (.cons (.con .none) (.cons (.var 8) (.cons (.var 6) .nil)))) (.cons (.tup (.cons (.var 8) (.cons (.con .none) (.cons (.var 7) .nil)))) .nil))))
def q_roof_parts_4_t_0 : RS := (.seq (.asg 8 (.call 48 (.cons (.var 3) (.cons (.call 48 (.cons (.call 82 (.cons (.var 2) (.cons (.var 4) .nil))) (.cons (.call 82 (.cons (.var 2) (.cons (.var 5) .nil))) .nil))) .nil)))) q_roof_parts_4_t_1)
def q_roof_parts_9 : RS := (.ret (.tup (.cons (.tup (.cons (.con .none) (.cons (.var 10) (.cons (.var 6) .nil)))) (.cons (.tup (.cons (.var 10) (.cons (.var 11) (.cons (.var 13) .nil)))) (.cons (.tup (.cons (.var 11) (.cons (.con .none) (.cons (.var 7) .nil)))) .nil)))))
def q_roof_parts_8 : RS := (.seq (.asg 13 (.tup (.cons (.call 51 (.cons (.var 12) (.cons (.call 51 (.cons (.var 3) (.cons (.var 3) .nil))) .nil))) (.cons (.call 76 (.cons (.call 82 (.cons (.var 3) (.cons (.var 9) .nil))) .nil)) (.cons (.var 12) .nil))))) q_roof_parts_9)
def q_roof_parts_7 : RS := (.seq (.asg 12 (.call 82 (.cons (.con (.tuple [(.int 1), (.int 1)])) (.cons (.call 51 (.cons (.tup (.cons (.con (.int 2)) (.cons (.con (.int 1)) .nil))) (.cons (.var 9) .nil))) .nil)))) q_roof_parts_8)
def q_roof_parts_6 : RS := (.seq (.par [10, 11] (.cons (.call 48 (.cons (.var 3) (.cons (.call 82 (.cons (.var 9) (.cons (.var 5) .nil))) .nil))) (.cons (.call 48 (.cons (.var 3) (.cons (.call 82 (.cons (.var 9) (.cons (.var 4) .nil))) .nil))) .nil))) q_roof_parts_7)
def q_roof_parts_5 : RS := (.seq (.asg 9 (.call 51 (.cons (.tup (.cons (.con (.int 2)) (.cons (.con (.int 1)) .nil))) (.cons (.var 2) .nil)))) q_roof_parts_6)
def q_roof_parts_4 : RS := (.seq (.iff (.bl (.cmp .le (.idx (.var 2) (.con (.int 0))) (.con (.int 0)))) q_roof_parts_4_t_0 .skip) q_roof_parts_5)
def q_roof_parts_3 : RS := (.seq (.asg 7 (.call 120 (.cons (.var 4) (.cons (.call 35 (.cons (.var 0) .nil)) .nil)))) q_roof_parts_4)
def q_roof_parts_2 : RS := (.seq (.asg 6 (.call 120 (.cons (.var 5) (.cons (.call 35 (.cons (.var 1) .nil)) .nil)))) q_roof_parts_3)
def q_roof_parts_1 : RS := (.seq (.par [4, 5] (.cons (.call 34 (.cons (.var 0) .nil)) (.cons (.call 34 (.cons (.var 1) .nil)) .nil))) q_roof_parts_2)
def q_roof_parts_0 : RS := (.seq (.asgT (.many [2, 3]) (.call 119 (.cons (.var 0) (.cons (.var 1) .nil)))) q_roof_parts_1)
theorem q_roof_parts : rs_roof_parts = q_roof_parts_0 := rfl
def q_bound_value_2_b_0 : RS := (.aug 3 (.con (.int 1)))
def q_bound_value_3 : RS := (.ret (.call 75 (.cons (.idx (.idx (.var 2) (.var 3)) (.con (.int 2))) (.cons (.var 1) .nil))))
def q_bound_value_2 : RS := (.seq (.whl (.and (.bl (.notN (.idx (.idx (.var 2) (.var 3)) (.con (.int 1))))) (.val (.call 91 (.cons (.idx (.idx (.var 2) (.var 3)) (.con (.int 1))) (.cons (.var 1) .nil))))) q_bound_value_2_b_0) q_bound_value_3)
def q_bound_value_1 : RS := (.seq (.asg 3 (.con (.int 0))) q_bound_value_2)
def q_bound_value_0 : RS := (.seq (.asg 2 (.call 123 (.cons (.var 0) .nil))) q_bound_value_1)
theorem q_bound_value : rs_bound_value = q_bound_value_0 := rfl
def q_keeps_4 : RS := (.ret (.ite (.bl (.cmp .eq (.var 4) (.con (.str (Str.ofString "lower"))))) (.notV (.call 91 (.cons (.var 3) (.cons (.var 5) .nil)))) (.notV (.call 91 (.cons (.var 5) (.cons (.var 3) .nil))))))
def q_keeps_3 : RS := (.seq (.asg 5 (.call 124 (.cons (.var 1) (.cons (.var 2) .nil)))) q_keeps_4)
def q_keeps_2 : RS := (.seq (.iff (.bl (.cmp .eq (.var 4) (.con (.str (Str.ofString "upright"))))) (.ret (.call 125 (.cons (.var 1) (.cons (.var 2) .nil)))) .skip) q_keeps_3)
def q_keeps_1 : RS := (.seq (.asg 4 (.call 118 (.cons (.var 1) .nil))) q_keeps_2)
def q_keeps_0 : RS := (.seq (.asgT (.many [2, 3]) (.var 0)) q_keeps_1)
theorem q_keeps : rs_keeps = q_keeps_0 := rfl
/-! ### asks -/
inductive Ask where
  | over (x y : Rat)
  | under (x y : Rat)
  | roof (x y u v : Rat)
  | low (B : Rat)
  | dives (X M : Rat)
  | climbs (X M : Rat)
  | quick (B : Rat)
  | slow (B : Rat)
def Ask.dat : Ask → PyData
  | .over x y => .tuple [.str (Str.ofString "over"), P3 x y]
  | .under x y => .tuple [.str (Str.ofString "under"), P3 x y]
  | .roof x y u v => .tuple [.str (Str.ofString "roof"), P3 x y, P3 u v]
  | .low B => .tuple [.str (Str.ofString "low"), F B]
  | .dives X M => .tuple [.str (Str.ofString "dives"), F X, F M]
  | .climbs X M => .tuple [.str (Str.ofString "climbs"), F X, F M]
  | .quick B => .tuple [.str (Str.ofString "quick"), F B]
  | .slow B => .tuple [.str (Str.ofString "slow"), F B]
/-- the rise and the start of a straight way -/
def mm (x y u v : Rat) : Rat := (v - y) / (u - x)
def kk (x y u v : Rat) : Rat := y - mm x y u v * x
def Ask.ok : Ask → Prop
  | .over x y => 0 < x ∧ Zf 300 x ∧ Zf 700 y
  | .under x y => 0 < x ∧ Zf 300 x ∧ Zf 700 y
  | .roof x y u v => 0 < x ∧ x < u ∧ Zf 300 x ∧ Zf 700 y ∧ Zf 300 u ∧ Zf 700 v ∧ Zf 250 (mm x y u v) ∧ Zf 400 (kk x y u v)
  | .low B => 0 < B ∧ Zf 300 B
  | .dives X M => 0 ≤ X ∧ Zf 300 X ∧ Zf 300 M
  | .climbs X M => 0 ≤ X ∧ Zf 300 X ∧ Zf 300 M
  | .quick B => 0 < B ∧ Zf 300 B
  | .slow B => 0 < B ∧ Zf 300 B
def isAb (x : PyData) : Bool := isF x && topPos x
def sUp : Str := Str.ofString "upright"
def Ask.kd : Ask → Str
  | .over _ _ => Str.ofString "upper"
  | .under _ _ => Str.ofString "lower"
  | .roof _ _ _ _ => Str.ofString "lower"
  | .low _ => Str.ofString "lower"
  | .dives X _ => if X = 0 then Str.ofString "upright" else Str.ofString "lower"
  | .climbs X _ => if X = 0 then Str.ofString "upright" else Str.ofString "upper"
  | .quick _ => Str.ofString "upper"
  | .slow _ => Str.ofString "lower"
def lnP (x y : Rat) : PyData := .tuple [F (-(y / (x * x))), F (1 / x), F 0]
def lnD (X M : Rat) : PyData := .tuple [F (-(1 / 2 / X * M)), F (1 / 2 / X), F 0]
def pt1 (l : PyData) : PyData := .tuple [.tuple [.none, .none, l]]
def arc (k m : Rat) : PyData := .tuple [F (1 / (2 * (2 * k)) * (m * m)), F (-(m / (2 * k))), F (1 / (2 * (2 * k)))]
def Ask.pts : Ask → PyData
  | .over x y => pt1 (lnP x y)
  | .under x y => pt1 (lnP x y)
  | .roof x y u v => if kk x y u v ≤ 0 then .tuple [.tuple [.none, F (mm x y u v + (kk x y u v / x + kk x y u v / u)), lnP u v], .tuple [F (mm x y u v + (kk x y u v / x + kk x y u v / u)), .none, lnP x y]]
      else .tuple [.tuple [.none, F (mm x y u v + 2 * kk x y u v / u), lnP u v], .tuple [F (mm x y u v + 2 * kk x y u v / u), F (mm x y u v + 2 * kk x y u v / x), arc (kk x y u v) (mm x y u v)], .tuple [F (mm x y u v + 2 * kk x y u v / x), .none, lnP x y]]
  | .low B => .tuple [.tuple [.none, F 0, .tuple [F 0, F 0, F 0]], .tuple [F 0, .none, .tuple [F 0, F 0, F (1 / 4 / B)]]]
  | .dives X M => if X = 0 then .tuple [] else pt1 (lnD X M)
  | .climbs X M => if X = 0 then .tuple [] else pt1 (lnD X M)
  | .quick B => pt1 (.tuple [F B, F 0, F 0])
  | .slow B => pt1 (.tuple [F B, F 0, F 0])
/-- the line through a place: the bend with a slope -/
def lnp (x y s : Rat) : Rat := -(y / (x * x)) + s * (1 / x + 0 * s)
def arcv (k m s : Rat) : Rat := 1 / (2 * (2 * k)) * (m * m) + s * (-(m / (2 * k)) + 1 / (2 * (2 * k)) * s)
def Ask.bv : Ask → Rat → Rat
  | .over x y, s => lnp x y s
  | .under x y, s => lnp x y s
  | .roof x y u v, s => if kk x y u v ≤ 0 then (if mm x y u v + (kk x y u v / x + kk x y u v / u) < s then lnp x y s else lnp u v s)
      else if mm x y u v + 2 * kk x y u v / u < s then (if mm x y u v + 2 * kk x y u v / x < s then lnp x y s else arcv (kk x y u v) (mm x y u v) s) else lnp u v s
  | .low B, s => if 0 < s then 0 + s * (0 + 1 / 4 / B * s) else 0 + s * (0 + 0 * s)
  | .dives X M, s => -(1 / 2 / X * M) + s * (1 / 2 / X + 0 * s)
  | .climbs X M, s => -(1 / 2 / X * M) + s * (1 / 2 / X + 0 * s)
  | .quick B, s => B + s * (0 + 0 * s)
  | .slow B, s => B + s * (0 + 0 * s)
def Ask.dn : Ask → Rat → Rat → Bool
  | .over x y, s, b => !decide ((Ask.over x y).bv s < b)
  | .under x y, s, b => !decide (b < (Ask.under x y).bv s)
  | .roof x y u v, s, b => !decide (b < (Ask.roof x y u v).bv s)
  | .low B, s, b => !decide (b < (Ask.low B).bv s)
  | .dives X M, s, b => if X = 0 then !decide (M < s) else !decide (b < (Ask.dives X M).bv s)
  | .climbs X M, s, b => if X = 0 then !decide (s < M) else !decide ((Ask.climbs X M).bv s < b)
  | .quick B, s, b => !decide ((Ask.quick B).bv s < b)
  | .slow B, s, b => !decide (b < (Ask.slow B).bv s)
theorem ev_notin {Q : DV → Prop} {x : PyData} {ys : List PyData} : wCmp .notin (.d x) (.d (.tuple ys)) Q = (flatD x = true ∧ ys.all flatD = true ∧ Q (.d (.bool (!ys.any fun z => PyData.eqv z x)))) := ev_nin
def sp_is_above_zero : PSp := fun ds Q => ∃ x, ds = [.d x] ∧ Q (B (isAb x))
def sp_is_ask_of_one : PSp := fun ds Q => ∃ w x, ds = [.d (.str w), .d x] ∧ (((w = Str.ofString "over" ∨ w = Str.ofString "under") ∧ isPl x = true) ∨ ((w = Str.ofString "low" ∨ w = Str.ofString "quick" ∨ w = Str.ofString "slow") ∧ isAb x = true)) ∧ Q (B true)
def sp_is_ask_of_two : PSp := fun ds Q => ∃ w x y, ds = [.d (.str w), .d x, .d y] ∧ ((w = Str.ofString "roof" ∧ ∃ a b c d, x = P3 a b ∧ y = P3 c d ∧ 0 < a ∧ a < c ∧ Zf 300 a ∧ Zf 700 b ∧ Zf 300 c ∧ Zf 700 d) ∨ ((w = Str.ofString "dives" ∨ w = Str.ofString "climbs") ∧ ∃ X M, x = F X ∧ y = F M ∧ 0 ≤ X)) ∧ Q (B true)
def sp_is_ask : PSp := fun ds Q => ∃ a, ds = [.d (Ask.dat a)] ∧ a.ok ∧ Q (B true)
def sp_check_ask : PSp := fun ds Q => ∃ a, ds = [.d (Ask.dat a)] ∧ a.ok ∧ Q (.d .none)
def sp_kind_of : PSp := fun ds Q => ∃ a, ds = [.d (Ask.dat a)] ∧ Q (.d (.str a.kd))
def sp_straight_way : PSp := fun ds Q => ∃ x y u v, ds = [.d (P3 x y), .d (P3 u v)] ∧ 0 < x ∧ x < u ∧ Zf 300 x ∧ Zf 700 y ∧ Zf 300 u ∧ Zf 700 v ∧ Zf 250 (mm x y u v) ∧ Q (.d (J (kk x y u v) (mm x y u v)))
def sp_line_at : PSp := fun ds Q => ∃ x y, ds = [.d (F x), .d (F y)] ∧ 0 < x ∧ Zf 300 x ∧ Zf 700 y ∧ Q (.d (lnP x y))
def sp_roof_parts : PSp := fun ds Q => ∃ x y u v, ds = [.d (P3 x y), .d (P3 u v)] ∧ (Ask.roof x y u v).ok ∧ Q (.d (Ask.pts (.roof x y u v)))
def sp_low_parts : PSp := fun ds Q => ∃ b, ds = [.d (F b)] ∧ (Ask.low b).ok ∧ Q (.d (Ask.pts (.low b)))
def sp_parts_of : PSp := fun ds Q => ∃ a, ds = [.d (Ask.dat a)] ∧ a.ok ∧ Q (.d a.pts)
def sp_bound_value : PSp := fun ds Q => ∃ a s, ds = [.d (Ask.dat a), .d (F s)] ∧ a.ok ∧ a.kd ≠ Str.ofString "upright" ∧ Zf 250 s ∧ Q (.d (F (a.bv s)))
def sp_keeps_upright : PSp := fun ds Q => ∃ a s, ds = [.d (Ask.dat a), .d (F s)] ∧ Zf 300 s ∧ ((∃ X M, a = .dives X M ∧ Zf 300 M ∧ Q (B (!decide (M < s)))) ∨ (∃ X M, a = .climbs X M ∧ Zf 300 M ∧ Q (B (!decide (s < M)))))
def sp_keeps : PSp := fun ds Q => ∃ s b a, ds = [.d (J s b), .d (Ask.dat a)] ∧ a.ok ∧ Zf 250 s ∧ Zf 2000 b ∧ Q (B (a.dn s b))
def sp_does : PSp := fun ds Q => ∃ s b a, ds = [.d (J s b), .d (Ask.dat a)] ∧ 0 < b ∧ a.ok ∧ Zf 250 s ∧ Zf 2000 b ∧ Q (B (a.dn s b))
theorem upD {X : Rat} (h : X ≠ 0) : (1 / 2 / X : Rat) = 1 / 2 / X := rfl
theorem zf_lnp {x y s : Rat} (h1 : Zf 300 x) (h2 : Zf 700 y) (h3 : Zf 250 s) : Zf 2990 (lnp x y s) := by
  unfold lnp
  exact Zf.mono (by walk_at "szc") (by decide)
section
variable {Φ : Nat → PSp}
theorem sem_is_above_zero (e11 : Φ 11 = sp_is_fraction) : ∀ ds Q, sp_is_above_zero ds Q → wS Φ rs_is_above_zero { nx := fun _ => Q (.d .none), rt := Q } (startD ["x0"] ds) := by
  rintro ds Q ⟨x, rfl, hq⟩
  show wS Φ rs_is_above_zero _ [some (.val (.d x))]
  simp only [rs_is_above_zero, wS, wE, wA, wT, wI, wO, ev_add, ev_sub, ev_mul, ev_div, ev_mod, ev_pow, ev_cat, ev_lt, ev_le, ev_gt, ev_ge, ev_eq, ev_ne, ev_eqs, ev_nes, ix_F0, ix_F1, ix_J0, ix_J1, ix_P0, ix_P1, ix_P2, ix_t0, ix_t1, ix_t2, ix_l0, ix_l1, ix_l2, tg_1, tg_F, tg_J, tg_P, tg_2, tg_3, tg_4, fold_J, eq_F, ne_F, eq_J, ne_J, eq_P, ne_P, db_, di_, setVals, setAll, datas, itemsD, truD, List.getElem?_cons_zero, List.getElem?_cons_succ, List.set_cons_zero, List.set_cons_succ, Option.map_some, Option.map_none, Option.some.injEq, exists_eq_left', decide_eq_true_eq, Bool.not_true, Bool.not_false, Bool.false_eq_true, if_false, if_true, true_and, and_true, decide_true, decide_false, List.length_cons, List.length_nil, mx_0, mx_1, mx_2, mx_3, mx_4, mx_5, mx_6, mx_7, mx_8, mx_9, mx_10, mx_11, mx_12, mx_13, mx_14, mx_15, mx_16, mx_17, mx_18, mx_19, mx_20, mx_21, mx_22, mx_23, mx_24, Nat.reduceAdd, Nat.reduceLeDiff, Nat.zero_add, Bool.not_eq_true', decide_eq_false_iff_not, reduceIte, ev_reprb, e11, ap_is_fraction]
  unfold isAb at hq
  by_cases h : isF x = true
  · rw [if_pos h]
    rw [h, Bool.true_and] at hq
    obtain ⟨q, rfl⟩ := isF_ex h
    rw [topPos_F] at hq
    simp only [wS, wE, wA, wT, wI, wO, ev_add, ev_sub, ev_mul, ev_div, ev_mod, ev_pow, ev_cat, ev_lt, ev_le, ev_gt, ev_ge, ev_eq, ev_ne, ev_eqs, ev_nes, ix_F0, ix_F1, ix_J0, ix_J1, ix_P0, ix_P1, ix_P2, ix_t0, ix_t1, ix_t2, ix_l0, ix_l1, ix_l2, tg_1, tg_F, tg_J, tg_P, tg_2, tg_3, tg_4, fold_J, eq_F, ne_F, eq_J, ne_J, eq_P, ne_P, db_, di_, setVals, setAll, datas, itemsD, truD, List.getElem?_cons_zero, List.getElem?_cons_succ, List.set_cons_zero, List.set_cons_succ, Option.map_some, Option.map_none, Option.some.injEq, exists_eq_left', decide_eq_true_eq, Bool.not_true, Bool.not_false, Bool.false_eq_true, if_false, if_true, true_and, and_true, decide_true, decide_false, List.length_cons, List.length_nil, mx_0, mx_1, mx_2, mx_3, mx_4, mx_5, mx_6, mx_7, mx_8, mx_9, mx_10, mx_11, mx_12, mx_13, mx_14, mx_15, mx_16, mx_17, mx_18, mx_19, mx_20, mx_21, mx_22, mx_23, mx_24, Nat.reduceAdd, Nat.reduceLeDiff, Nat.zero_add, Bool.not_eq_true', decide_eq_false_iff_not, reduceIte, ev_reprb, num_pos]
    exact hq
  · rw [if_neg h]
    rw [Bool.not_eq_true] at h
    rw [h, Bool.false_and] at hq
    exact hq
theorem sem_is_ask_of_one (e19 : Φ 19 = sp_is_place) (e109 : Φ 109 = sp_is_above_zero) : ∀ ds Q, sp_is_ask_of_one ds Q → wS Φ rs_is_ask_of_one { nx := fun _ => Q (.d .none), rt := Q } (startD ["x0", "x1"] ds) := by
  rintro ds Q ⟨w, x, rfl, h, hq⟩
  show wS Φ rs_is_ask_of_one _ [some (.val (.d (.str w))), some (.val (.d x))]
  rcases h with ⟨rfl | rfl, h⟩ | ⟨rfl | rfl | rfl, h⟩
  · simp only [rs_is_ask_of_one, wS, wE, wA, wT, wI, wO, ev_add, ev_sub, ev_mul, ev_div, ev_mod, ev_pow, ev_cat, ev_lt, ev_le, ev_gt, ev_ge, ev_eq, ev_ne, ev_eqs, ev_nes, ix_F0, ix_F1, ix_J0, ix_J1, ix_P0, ix_P1, ix_P2, ix_t0, ix_t1, ix_t2, ix_l0, ix_l1, ix_l2, tg_1, tg_F, tg_J, tg_P, tg_2, tg_3, tg_4, fold_J, eq_F, ne_F, eq_J, ne_J, eq_P, ne_P, db_, di_, setVals, setAll, datas, itemsD, truD, List.getElem?_cons_zero, List.getElem?_cons_succ, List.set_cons_zero, List.set_cons_succ, Option.map_some, Option.map_none, Option.some.injEq, exists_eq_left', decide_eq_true_eq, Bool.not_true, Bool.not_false, Bool.false_eq_true, if_false, if_true, true_and, and_true, decide_true, decide_false, List.length_cons, List.length_nil, mx_0, mx_1, mx_2, mx_3, mx_4, mx_5, mx_6, mx_7, mx_8, mx_9, mx_10, mx_11, mx_12, mx_13, mx_14, mx_15, mx_16, mx_17, mx_18, mx_19, mx_20, mx_21, mx_22, mx_23, mx_24, Nat.reduceAdd, Nat.reduceLeDiff, Nat.zero_add, Bool.not_eq_true', decide_eq_false_iff_not, reduceIte, ev_reprb, we_over_over, wn_over_under, we_over_under, wn_over_roof, we_over_roof, wn_over_low, we_over_low, wn_over_dives, we_over_dives, wn_over_climbs, we_over_climbs, wn_over_quick, we_over_quick, wn_over_slow, we_over_slow, wn_under_over, we_under_over, we_under_under, wn_under_roof, we_under_roof, wn_under_low, we_under_low, wn_under_dives, we_under_dives, wn_under_climbs, we_under_climbs, wn_under_quick, we_under_quick, wn_under_slow, we_under_slow, wn_roof_over, we_roof_over, wn_roof_under, we_roof_under, we_roof_roof, wn_roof_low, we_roof_low, wn_roof_dives, we_roof_dives, wn_roof_climbs, we_roof_climbs, wn_roof_quick, we_roof_quick, wn_roof_slow, we_roof_slow, wn_low_over, we_low_over, wn_low_under, we_low_under, wn_low_roof, we_low_roof, we_low_low, wn_low_dives, we_low_dives, wn_low_climbs, we_low_climbs, wn_low_quick, we_low_quick, wn_low_slow, we_low_slow, wn_dives_over, we_dives_over, wn_dives_under, we_dives_under, wn_dives_roof, we_dives_roof, wn_dives_low, we_dives_low, we_dives_dives, wn_dives_climbs, we_dives_climbs, wn_dives_quick, we_dives_quick, wn_dives_slow, we_dives_slow, wn_climbs_over, we_climbs_over, wn_climbs_under, we_climbs_under, wn_climbs_roof, we_climbs_roof, wn_climbs_low, we_climbs_low, wn_climbs_dives, we_climbs_dives, we_climbs_climbs, wn_climbs_quick, we_climbs_quick, wn_climbs_slow, we_climbs_slow, wn_quick_over, we_quick_over, wn_quick_under, we_quick_under, wn_quick_roof, we_quick_roof, wn_quick_low, we_quick_low, wn_quick_dives, we_quick_dives, wn_quick_climbs, we_quick_climbs, we_quick_quick, wn_quick_slow, we_quick_slow, wn_slow_over, we_slow_over, wn_slow_under, we_slow_under, wn_slow_roof, we_slow_roof, wn_slow_low, we_slow_low, wn_slow_dives, we_slow_dives, wn_slow_climbs, we_slow_climbs, wn_slow_quick, we_slow_quick, we_slow_slow, we_upright_upright, wn_upright_upper, we_upright_upper, wn_upright_lower, we_upright_lower, wn_upper_upright, we_upper_upright, we_upper_upper, wn_upper_lower, we_upper_lower, wn_lower_upright, we_lower_upright, wn_lower_upper, we_lower_upper, we_lower_lower, we_least_least, wn_least_most, we_least_most, wn_least_all, we_least_all, wn_least_none, we_least_none, wn_most_least, we_most_least, we_most_most, wn_most_all, we_most_all, wn_most_none, we_most_none, wn_all_least, we_all_least, wn_all_most, we_all_most, we_all_all, wn_all_none, we_all_none, wn_none_least, we_none_least, wn_none_most, we_none_most, wn_none_all, we_none_all, we_none_none, ev_inn, ev_innl, ev_nin, flat_s, flat_i, List.all_cons, List.all_nil, List.any_cons, List.any_nil, Bool.or_false, Bool.false_or, Bool.or_true, Bool.true_or, Bool.and_self, eqv_int, ev_is, ev_isnt, reduceCtorEq, e19, ap_is_place, h]
    exact hq
  · simp only [rs_is_ask_of_one, wS, wE, wA, wT, wI, wO, ev_add, ev_sub, ev_mul, ev_div, ev_mod, ev_pow, ev_cat, ev_lt, ev_le, ev_gt, ev_ge, ev_eq, ev_ne, ev_eqs, ev_nes, ix_F0, ix_F1, ix_J0, ix_J1, ix_P0, ix_P1, ix_P2, ix_t0, ix_t1, ix_t2, ix_l0, ix_l1, ix_l2, tg_1, tg_F, tg_J, tg_P, tg_2, tg_3, tg_4, fold_J, eq_F, ne_F, eq_J, ne_J, eq_P, ne_P, db_, di_, setVals, setAll, datas, itemsD, truD, List.getElem?_cons_zero, List.getElem?_cons_succ, List.set_cons_zero, List.set_cons_succ, Option.map_some, Option.map_none, Option.some.injEq, exists_eq_left', decide_eq_true_eq, Bool.not_true, Bool.not_false, Bool.false_eq_true, if_false, if_true, true_and, and_true, decide_true, decide_false, List.length_cons, List.length_nil, mx_0, mx_1, mx_2, mx_3, mx_4, mx_5, mx_6, mx_7, mx_8, mx_9, mx_10, mx_11, mx_12, mx_13, mx_14, mx_15, mx_16, mx_17, mx_18, mx_19, mx_20, mx_21, mx_22, mx_23, mx_24, Nat.reduceAdd, Nat.reduceLeDiff, Nat.zero_add, Bool.not_eq_true', decide_eq_false_iff_not, reduceIte, ev_reprb, we_over_over, wn_over_under, we_over_under, wn_over_roof, we_over_roof, wn_over_low, we_over_low, wn_over_dives, we_over_dives, wn_over_climbs, we_over_climbs, wn_over_quick, we_over_quick, wn_over_slow, we_over_slow, wn_under_over, we_under_over, we_under_under, wn_under_roof, we_under_roof, wn_under_low, we_under_low, wn_under_dives, we_under_dives, wn_under_climbs, we_under_climbs, wn_under_quick, we_under_quick, wn_under_slow, we_under_slow, wn_roof_over, we_roof_over, wn_roof_under, we_roof_under, we_roof_roof, wn_roof_low, we_roof_low, wn_roof_dives, we_roof_dives, wn_roof_climbs, we_roof_climbs, wn_roof_quick, we_roof_quick, wn_roof_slow, we_roof_slow, wn_low_over, we_low_over, wn_low_under, we_low_under, wn_low_roof, we_low_roof, we_low_low, wn_low_dives, we_low_dives, wn_low_climbs, we_low_climbs, wn_low_quick, we_low_quick, wn_low_slow, we_low_slow, wn_dives_over, we_dives_over, wn_dives_under, we_dives_under, wn_dives_roof, we_dives_roof, wn_dives_low, we_dives_low, we_dives_dives, wn_dives_climbs, we_dives_climbs, wn_dives_quick, we_dives_quick, wn_dives_slow, we_dives_slow, wn_climbs_over, we_climbs_over, wn_climbs_under, we_climbs_under, wn_climbs_roof, we_climbs_roof, wn_climbs_low, we_climbs_low, wn_climbs_dives, we_climbs_dives, we_climbs_climbs, wn_climbs_quick, we_climbs_quick, wn_climbs_slow, we_climbs_slow, wn_quick_over, we_quick_over, wn_quick_under, we_quick_under, wn_quick_roof, we_quick_roof, wn_quick_low, we_quick_low, wn_quick_dives, we_quick_dives, wn_quick_climbs, we_quick_climbs, we_quick_quick, wn_quick_slow, we_quick_slow, wn_slow_over, we_slow_over, wn_slow_under, we_slow_under, wn_slow_roof, we_slow_roof, wn_slow_low, we_slow_low, wn_slow_dives, we_slow_dives, wn_slow_climbs, we_slow_climbs, wn_slow_quick, we_slow_quick, we_slow_slow, we_upright_upright, wn_upright_upper, we_upright_upper, wn_upright_lower, we_upright_lower, wn_upper_upright, we_upper_upright, we_upper_upper, wn_upper_lower, we_upper_lower, wn_lower_upright, we_lower_upright, wn_lower_upper, we_lower_upper, we_lower_lower, we_least_least, wn_least_most, we_least_most, wn_least_all, we_least_all, wn_least_none, we_least_none, wn_most_least, we_most_least, we_most_most, wn_most_all, we_most_all, wn_most_none, we_most_none, wn_all_least, we_all_least, wn_all_most, we_all_most, we_all_all, wn_all_none, we_all_none, wn_none_least, we_none_least, wn_none_most, we_none_most, wn_none_all, we_none_all, we_none_none, ev_inn, ev_innl, ev_nin, flat_s, flat_i, List.all_cons, List.all_nil, List.any_cons, List.any_nil, Bool.or_false, Bool.false_or, Bool.or_true, Bool.true_or, Bool.and_self, eqv_int, ev_is, ev_isnt, reduceCtorEq, e19, ap_is_place, h]
    exact hq
  all_goals
    simp only [rs_is_ask_of_one, wS, wE, wA, wT, wI, wO, ev_add, ev_sub, ev_mul, ev_div, ev_mod, ev_pow, ev_cat, ev_lt, ev_le, ev_gt, ev_ge, ev_eq, ev_ne, ev_eqs, ev_nes, ix_F0, ix_F1, ix_J0, ix_J1, ix_P0, ix_P1, ix_P2, ix_t0, ix_t1, ix_t2, ix_l0, ix_l1, ix_l2, tg_1, tg_F, tg_J, tg_P, tg_2, tg_3, tg_4, fold_J, eq_F, ne_F, eq_J, ne_J, eq_P, ne_P, db_, di_, setVals, setAll, datas, itemsD, truD, List.getElem?_cons_zero, List.getElem?_cons_succ, List.set_cons_zero, List.set_cons_succ, Option.map_some, Option.map_none, Option.some.injEq, exists_eq_left', decide_eq_true_eq, Bool.not_true, Bool.not_false, Bool.false_eq_true, if_false, if_true, true_and, and_true, decide_true, decide_false, List.length_cons, List.length_nil, mx_0, mx_1, mx_2, mx_3, mx_4, mx_5, mx_6, mx_7, mx_8, mx_9, mx_10, mx_11, mx_12, mx_13, mx_14, mx_15, mx_16, mx_17, mx_18, mx_19, mx_20, mx_21, mx_22, mx_23, mx_24, Nat.reduceAdd, Nat.reduceLeDiff, Nat.zero_add, Bool.not_eq_true', decide_eq_false_iff_not, reduceIte, ev_reprb, we_over_over, wn_over_under, we_over_under, wn_over_roof, we_over_roof, wn_over_low, we_over_low, wn_over_dives, we_over_dives, wn_over_climbs, we_over_climbs, wn_over_quick, we_over_quick, wn_over_slow, we_over_slow, wn_under_over, we_under_over, we_under_under, wn_under_roof, we_under_roof, wn_under_low, we_under_low, wn_under_dives, we_under_dives, wn_under_climbs, we_under_climbs, wn_under_quick, we_under_quick, wn_under_slow, we_under_slow, wn_roof_over, we_roof_over, wn_roof_under, we_roof_under, we_roof_roof, wn_roof_low, we_roof_low, wn_roof_dives, we_roof_dives, wn_roof_climbs, we_roof_climbs, wn_roof_quick, we_roof_quick, wn_roof_slow, we_roof_slow, wn_low_over, we_low_over, wn_low_under, we_low_under, wn_low_roof, we_low_roof, we_low_low, wn_low_dives, we_low_dives, wn_low_climbs, we_low_climbs, wn_low_quick, we_low_quick, wn_low_slow, we_low_slow, wn_dives_over, we_dives_over, wn_dives_under, we_dives_under, wn_dives_roof, we_dives_roof, wn_dives_low, we_dives_low, we_dives_dives, wn_dives_climbs, we_dives_climbs, wn_dives_quick, we_dives_quick, wn_dives_slow, we_dives_slow, wn_climbs_over, we_climbs_over, wn_climbs_under, we_climbs_under, wn_climbs_roof, we_climbs_roof, wn_climbs_low, we_climbs_low, wn_climbs_dives, we_climbs_dives, we_climbs_climbs, wn_climbs_quick, we_climbs_quick, wn_climbs_slow, we_climbs_slow, wn_quick_over, we_quick_over, wn_quick_under, we_quick_under, wn_quick_roof, we_quick_roof, wn_quick_low, we_quick_low, wn_quick_dives, we_quick_dives, wn_quick_climbs, we_quick_climbs, we_quick_quick, wn_quick_slow, we_quick_slow, wn_slow_over, we_slow_over, wn_slow_under, we_slow_under, wn_slow_roof, we_slow_roof, wn_slow_low, we_slow_low, wn_slow_dives, we_slow_dives, wn_slow_climbs, we_slow_climbs, wn_slow_quick, we_slow_quick, we_slow_slow, we_upright_upright, wn_upright_upper, we_upright_upper, wn_upright_lower, we_upright_lower, wn_upper_upright, we_upper_upright, we_upper_upper, wn_upper_lower, we_upper_lower, wn_lower_upright, we_lower_upright, wn_lower_upper, we_lower_upper, we_lower_lower, we_least_least, wn_least_most, we_least_most, wn_least_all, we_least_all, wn_least_none, we_least_none, wn_most_least, we_most_least, we_most_most, wn_most_all, we_most_all, wn_most_none, we_most_none, wn_all_least, we_all_least, wn_all_most, we_all_most, we_all_all, wn_all_none, we_all_none, wn_none_least, we_none_least, wn_none_most, we_none_most, wn_none_all, we_none_all, we_none_none, ev_inn, ev_innl, ev_nin, flat_s, flat_i, List.all_cons, List.all_nil, List.any_cons, List.any_nil, Bool.or_false, Bool.false_or, Bool.or_true, Bool.true_or, Bool.and_self, eqv_int, ev_is, ev_isnt, reduceCtorEq, e109]
    exact ⟨_, rfl, by rw [h]; exact hq⟩
theorem sem_is_ask_of_two (e11 : Φ 11 = sp_is_fraction) (e19 : Φ 19 = sp_is_place) (e34 : Φ 34 = sp_distance_of) (e91 : Φ 91 = sp_is_below) : ∀ ds Q, sp_is_ask_of_two ds Q → wS Φ rs_is_ask_of_two { nx := fun _ => Q (.d .none), rt := Q } (startD ["x0", "x1", "x2"] ds) := by
  rintro ds Q ⟨w, x, y, rfl, h, hq⟩
  show wS Φ rs_is_ask_of_two _ [some (.val (.d (.str w))), some (.val (.d x)), some (.val (.d y))]
  rcases h with ⟨rfl, a, b, c, d, rfl, rfl, h0, h1, z1, z2, z3, z4⟩ | ⟨rfl | rfl, X, M, rfl, rfl, h0⟩
  · have c0 : 0 < c := by grind
    simp only [rs_is_ask_of_two, wS, wE, wA, wT, wI, wO, ev_add, ev_sub, ev_mul, ev_div, ev_mod, ev_pow, ev_cat, ev_lt, ev_le, ev_gt, ev_ge, ev_eq, ev_ne, ev_eqs, ev_nes, ix_F0, ix_F1, ix_J0, ix_J1, ix_P0, ix_P1, ix_P2, ix_t0, ix_t1, ix_t2, ix_l0, ix_l1, ix_l2, tg_1, tg_F, tg_J, tg_P, tg_2, tg_3, tg_4, fold_J, eq_F, ne_F, eq_J, ne_J, eq_P, ne_P, db_, di_, setVals, setAll, datas, itemsD, truD, List.getElem?_cons_zero, List.getElem?_cons_succ, List.set_cons_zero, List.set_cons_succ, Option.map_some, Option.map_none, Option.some.injEq, exists_eq_left', decide_eq_true_eq, Bool.not_true, Bool.not_false, Bool.false_eq_true, if_false, if_true, true_and, and_true, decide_true, decide_false, List.length_cons, List.length_nil, mx_0, mx_1, mx_2, mx_3, mx_4, mx_5, mx_6, mx_7, mx_8, mx_9, mx_10, mx_11, mx_12, mx_13, mx_14, mx_15, mx_16, mx_17, mx_18, mx_19, mx_20, mx_21, mx_22, mx_23, mx_24, Nat.reduceAdd, Nat.reduceLeDiff, Nat.zero_add, Bool.not_eq_true', decide_eq_false_iff_not, reduceIte, ev_reprb, we_over_over, wn_over_under, we_over_under, wn_over_roof, we_over_roof, wn_over_low, we_over_low, wn_over_dives, we_over_dives, wn_over_climbs, we_over_climbs, wn_over_quick, we_over_quick, wn_over_slow, we_over_slow, wn_under_over, we_under_over, we_under_under, wn_under_roof, we_under_roof, wn_under_low, we_under_low, wn_under_dives, we_under_dives, wn_under_climbs, we_under_climbs, wn_under_quick, we_under_quick, wn_under_slow, we_under_slow, wn_roof_over, we_roof_over, wn_roof_under, we_roof_under, we_roof_roof, wn_roof_low, we_roof_low, wn_roof_dives, we_roof_dives, wn_roof_climbs, we_roof_climbs, wn_roof_quick, we_roof_quick, wn_roof_slow, we_roof_slow, wn_low_over, we_low_over, wn_low_under, we_low_under, wn_low_roof, we_low_roof, we_low_low, wn_low_dives, we_low_dives, wn_low_climbs, we_low_climbs, wn_low_quick, we_low_quick, wn_low_slow, we_low_slow, wn_dives_over, we_dives_over, wn_dives_under, we_dives_under, wn_dives_roof, we_dives_roof, wn_dives_low, we_dives_low, we_dives_dives, wn_dives_climbs, we_dives_climbs, wn_dives_quick, we_dives_quick, wn_dives_slow, we_dives_slow, wn_climbs_over, we_climbs_over, wn_climbs_under, we_climbs_under, wn_climbs_roof, we_climbs_roof, wn_climbs_low, we_climbs_low, wn_climbs_dives, we_climbs_dives, we_climbs_climbs, wn_climbs_quick, we_climbs_quick, wn_climbs_slow, we_climbs_slow, wn_quick_over, we_quick_over, wn_quick_under, we_quick_under, wn_quick_roof, we_quick_roof, wn_quick_low, we_quick_low, wn_quick_dives, we_quick_dives, wn_quick_climbs, we_quick_climbs, we_quick_quick, wn_quick_slow, we_quick_slow, wn_slow_over, we_slow_over, wn_slow_under, we_slow_under, wn_slow_roof, we_slow_roof, wn_slow_low, we_slow_low, wn_slow_dives, we_slow_dives, wn_slow_climbs, we_slow_climbs, wn_slow_quick, we_slow_quick, we_slow_slow, we_upright_upright, wn_upright_upper, we_upright_upper, wn_upright_lower, we_upright_lower, wn_upper_upright, we_upper_upright, we_upper_upper, wn_upper_lower, we_upper_lower, wn_lower_upright, we_lower_upright, wn_lower_upper, we_lower_upper, we_lower_lower, we_least_least, wn_least_most, we_least_most, wn_least_all, we_least_all, wn_least_none, we_least_none, wn_most_least, we_most_least, we_most_most, wn_most_all, we_most_all, wn_most_none, we_most_none, wn_all_least, we_all_least, wn_all_most, we_all_most, we_all_all, wn_all_none, we_all_none, wn_none_least, we_none_least, wn_none_most, we_none_most, wn_none_all, we_none_all, we_none_none, ev_inn, ev_innl, ev_nin, flat_s, flat_i, List.all_cons, List.all_nil, List.any_cons, List.any_nil, Bool.or_false, Bool.false_or, Bool.or_true, Bool.true_or, Bool.and_self, eqv_int, ev_is, ev_isnt, reduceCtorEq, e19, e34, e91, ap_is_place, ap_distance_of, ap_is_below, isPl_P, h0, c0, h1]
    exact ⟨(z1.pt z2).mono (by decide), (z3.pt z4).mono (by decide), by walk_at "sz", by walk_at "sz", hq⟩
  all_goals
    simp only [rs_is_ask_of_two, wS, wE, wA, wT, wI, wO, ev_add, ev_sub, ev_mul, ev_div, ev_mod, ev_pow, ev_cat, ev_lt, ev_le, ev_gt, ev_ge, ev_eq, ev_ne, ev_eqs, ev_nes, ix_F0, ix_F1, ix_J0, ix_J1, ix_P0, ix_P1, ix_P2, ix_t0, ix_t1, ix_t2, ix_l0, ix_l1, ix_l2, tg_1, tg_F, tg_J, tg_P, tg_2, tg_3, tg_4, fold_J, eq_F, ne_F, eq_J, ne_J, eq_P, ne_P, db_, di_, setVals, setAll, datas, itemsD, truD, List.getElem?_cons_zero, List.getElem?_cons_succ, List.set_cons_zero, List.set_cons_succ, Option.map_some, Option.map_none, Option.some.injEq, exists_eq_left', decide_eq_true_eq, Bool.not_true, Bool.not_false, Bool.false_eq_true, if_false, if_true, true_and, and_true, decide_true, decide_false, List.length_cons, List.length_nil, mx_0, mx_1, mx_2, mx_3, mx_4, mx_5, mx_6, mx_7, mx_8, mx_9, mx_10, mx_11, mx_12, mx_13, mx_14, mx_15, mx_16, mx_17, mx_18, mx_19, mx_20, mx_21, mx_22, mx_23, mx_24, Nat.reduceAdd, Nat.reduceLeDiff, Nat.zero_add, Bool.not_eq_true', decide_eq_false_iff_not, reduceIte, ev_reprb, we_over_over, wn_over_under, we_over_under, wn_over_roof, we_over_roof, wn_over_low, we_over_low, wn_over_dives, we_over_dives, wn_over_climbs, we_over_climbs, wn_over_quick, we_over_quick, wn_over_slow, we_over_slow, wn_under_over, we_under_over, we_under_under, wn_under_roof, we_under_roof, wn_under_low, we_under_low, wn_under_dives, we_under_dives, wn_under_climbs, we_under_climbs, wn_under_quick, we_under_quick, wn_under_slow, we_under_slow, wn_roof_over, we_roof_over, wn_roof_under, we_roof_under, we_roof_roof, wn_roof_low, we_roof_low, wn_roof_dives, we_roof_dives, wn_roof_climbs, we_roof_climbs, wn_roof_quick, we_roof_quick, wn_roof_slow, we_roof_slow, wn_low_over, we_low_over, wn_low_under, we_low_under, wn_low_roof, we_low_roof, we_low_low, wn_low_dives, we_low_dives, wn_low_climbs, we_low_climbs, wn_low_quick, we_low_quick, wn_low_slow, we_low_slow, wn_dives_over, we_dives_over, wn_dives_under, we_dives_under, wn_dives_roof, we_dives_roof, wn_dives_low, we_dives_low, we_dives_dives, wn_dives_climbs, we_dives_climbs, wn_dives_quick, we_dives_quick, wn_dives_slow, we_dives_slow, wn_climbs_over, we_climbs_over, wn_climbs_under, we_climbs_under, wn_climbs_roof, we_climbs_roof, wn_climbs_low, we_climbs_low, wn_climbs_dives, we_climbs_dives, we_climbs_climbs, wn_climbs_quick, we_climbs_quick, wn_climbs_slow, we_climbs_slow, wn_quick_over, we_quick_over, wn_quick_under, we_quick_under, wn_quick_roof, we_quick_roof, wn_quick_low, we_quick_low, wn_quick_dives, we_quick_dives, wn_quick_climbs, we_quick_climbs, we_quick_quick, wn_quick_slow, we_quick_slow, wn_slow_over, we_slow_over, wn_slow_under, we_slow_under, wn_slow_roof, we_slow_roof, wn_slow_low, we_slow_low, wn_slow_dives, we_slow_dives, wn_slow_climbs, we_slow_climbs, wn_slow_quick, we_slow_quick, we_slow_slow, we_upright_upright, wn_upright_upper, we_upright_upper, wn_upright_lower, we_upright_lower, wn_upper_upright, we_upper_upright, we_upper_upper, wn_upper_lower, we_upper_lower, wn_lower_upright, we_lower_upright, wn_lower_upper, we_lower_upper, we_lower_lower, we_least_least, wn_least_most, we_least_most, wn_least_all, we_least_all, wn_least_none, we_least_none, wn_most_least, we_most_least, we_most_most, wn_most_all, we_most_all, wn_most_none, we_most_none, wn_all_least, we_all_least, wn_all_most, we_all_most, we_all_all, wn_all_none, we_all_none, wn_none_least, we_none_least, wn_none_most, we_none_most, wn_none_all, we_none_all, we_none_none, ev_inn, ev_innl, ev_nin, flat_s, flat_i, List.all_cons, List.all_nil, List.any_cons, List.any_nil, Bool.or_false, Bool.false_or, Bool.or_true, Bool.true_or, Bool.and_self, eqv_int, ev_is, ev_isnt, reduceCtorEq, e11, ap_is_fraction, isF_F, num_ge, h0]
    exact hq
theorem sem_is_ask (e110 : Φ 110 = sp_is_ask_of_one) (e108 : Φ 108 = sp_is_ask_of_two) : ∀ ds Q, sp_is_ask ds Q → wS Φ rs_is_ask { nx := fun _ => Q (.d .none), rt := Q } (startD ["x0"] ds) := by
  rintro ds Q ⟨a, rfl, h, hq⟩
  show wS Φ rs_is_ask _ [some (.val (.d a.dat))]
  have ab : ∀ B : Rat, 0 < B → isAb (F B) = true := fun B hB => by
    unfold isAb
    rw [isF_F, topPos_F]
    simpa using hB
  cases a
  all_goals
    simp only [Ask.dat, rs_is_ask, wS, wE, wA, wT, wI, wO, ev_add, ev_sub, ev_mul, ev_div, ev_mod, ev_pow, ev_cat, ev_lt, ev_le, ev_gt, ev_ge, ev_eq, ev_ne, ev_eqs, ev_nes, ix_F0, ix_F1, ix_J0, ix_J1, ix_P0, ix_P1, ix_P2, ix_t0, ix_t1, ix_t2, ix_l0, ix_l1, ix_l2, tg_1, tg_F, tg_J, tg_P, tg_2, tg_3, tg_4, fold_J, eq_F, ne_F, eq_J, ne_J, eq_P, ne_P, db_, di_, setVals, setAll, datas, itemsD, truD, List.getElem?_cons_zero, List.getElem?_cons_succ, List.set_cons_zero, List.set_cons_succ, Option.map_some, Option.map_none, Option.some.injEq, exists_eq_left', decide_eq_true_eq, Bool.not_true, Bool.not_false, Bool.false_eq_true, if_false, if_true, true_and, and_true, decide_true, decide_false, List.length_cons, List.length_nil, mx_0, mx_1, mx_2, mx_3, mx_4, mx_5, mx_6, mx_7, mx_8, mx_9, mx_10, mx_11, mx_12, mx_13, mx_14, mx_15, mx_16, mx_17, mx_18, mx_19, mx_20, mx_21, mx_22, mx_23, mx_24, Nat.reduceAdd, Nat.reduceLeDiff, Nat.zero_add, Bool.not_eq_true', decide_eq_false_iff_not, reduceIte, ev_reprb, we_over_over, wn_over_under, we_over_under, wn_over_roof, we_over_roof, wn_over_low, we_over_low, wn_over_dives, we_over_dives, wn_over_climbs, we_over_climbs, wn_over_quick, we_over_quick, wn_over_slow, we_over_slow, wn_under_over, we_under_over, we_under_under, wn_under_roof, we_under_roof, wn_under_low, we_under_low, wn_under_dives, we_under_dives, wn_under_climbs, we_under_climbs, wn_under_quick, we_under_quick, wn_under_slow, we_under_slow, wn_roof_over, we_roof_over, wn_roof_under, we_roof_under, we_roof_roof, wn_roof_low, we_roof_low, wn_roof_dives, we_roof_dives, wn_roof_climbs, we_roof_climbs, wn_roof_quick, we_roof_quick, wn_roof_slow, we_roof_slow, wn_low_over, we_low_over, wn_low_under, we_low_under, wn_low_roof, we_low_roof, we_low_low, wn_low_dives, we_low_dives, wn_low_climbs, we_low_climbs, wn_low_quick, we_low_quick, wn_low_slow, we_low_slow, wn_dives_over, we_dives_over, wn_dives_under, we_dives_under, wn_dives_roof, we_dives_roof, wn_dives_low, we_dives_low, we_dives_dives, wn_dives_climbs, we_dives_climbs, wn_dives_quick, we_dives_quick, wn_dives_slow, we_dives_slow, wn_climbs_over, we_climbs_over, wn_climbs_under, we_climbs_under, wn_climbs_roof, we_climbs_roof, wn_climbs_low, we_climbs_low, wn_climbs_dives, we_climbs_dives, we_climbs_climbs, wn_climbs_quick, we_climbs_quick, wn_climbs_slow, we_climbs_slow, wn_quick_over, we_quick_over, wn_quick_under, we_quick_under, wn_quick_roof, we_quick_roof, wn_quick_low, we_quick_low, wn_quick_dives, we_quick_dives, wn_quick_climbs, we_quick_climbs, we_quick_quick, wn_quick_slow, we_quick_slow, wn_slow_over, we_slow_over, wn_slow_under, we_slow_under, wn_slow_roof, we_slow_roof, wn_slow_low, we_slow_low, wn_slow_dives, we_slow_dives, wn_slow_climbs, we_slow_climbs, wn_slow_quick, we_slow_quick, we_slow_slow, we_upright_upright, wn_upright_upper, we_upright_upper, wn_upright_lower, we_upright_lower, wn_upper_upright, we_upper_upright, we_upper_upper, wn_upper_lower, we_upper_lower, wn_lower_upright, we_lower_upright, wn_lower_upper, we_lower_upper, we_lower_lower, we_least_least, wn_least_most, we_least_most, wn_least_all, we_least_all, wn_least_none, we_least_none, wn_most_least, we_most_least, we_most_most, wn_most_all, we_most_all, wn_most_none, we_most_none, wn_all_least, we_all_least, wn_all_most, we_all_most, we_all_all, wn_all_none, we_all_none, wn_none_least, we_none_least, wn_none_most, we_none_most, wn_none_all, we_none_all, we_none_none, ev_inn, ev_innl, ev_nin, flat_s, flat_i, List.all_cons, List.all_nil, List.any_cons, List.any_nil, Bool.or_false, Bool.false_or, Bool.or_true, Bool.true_or, Bool.and_self, eqv_int, ev_is, ev_isnt, reduceCtorEq, isi_tuple, isi_str, isT, isS, ev_len, lenD, Int.cast_ofNat_Int, Int.reduceEq, e110, e108]
  · exact ⟨_, _, rfl, .inl ⟨.inl rfl, by rw [isPl_P]; simpa using h.1⟩, hq⟩
  · exact ⟨_, _, rfl, .inl ⟨.inr rfl, by rw [isPl_P]; simpa using h.1⟩, hq⟩
  · exact ⟨_, _, _, rfl, .inl ⟨rfl, _, _, _, _, rfl, rfl, h.1, h.2.1, h.2.2.1, h.2.2.2.1, h.2.2.2.2.1, h.2.2.2.2.2.1⟩, hq⟩
  · exact ⟨_, _, rfl, .inr ⟨.inl rfl, ab _ h.1⟩, hq⟩
  · exact ⟨_, _, _, rfl, .inr ⟨.inl rfl, _, _, rfl, rfl, h.1⟩, hq⟩
  · exact ⟨_, _, _, rfl, .inr ⟨.inr rfl, _, _, rfl, rfl, h.1⟩, hq⟩
  · exact ⟨_, _, rfl, .inr ⟨.inr (.inl rfl), ab _ h.1⟩, hq⟩
  · exact ⟨_, _, rfl, .inr ⟨.inr (.inr rfl), ab _ h.1⟩, hq⟩
theorem sem_check_ask (e111 : Φ 111 = sp_is_ask) : ∀ ds Q, sp_check_ask ds Q → wS Φ rs_check_ask { nx := fun _ => Q (.d .none), rt := Q } (startD ["x0"] ds) := by
  rintro ds Q ⟨a, rfl, h, hq⟩
  show wS Φ rs_check_ask _ [some (.val (.d a.dat))]
  simp only [rs_check_ask, wS, wE, wA, wT, wI, wO, ev_add, ev_sub, ev_mul, ev_div, ev_mod, ev_pow, ev_cat, ev_lt, ev_le, ev_gt, ev_ge, ev_eq, ev_ne, ev_eqs, ev_nes, ix_F0, ix_F1, ix_J0, ix_J1, ix_P0, ix_P1, ix_P2, ix_t0, ix_t1, ix_t2, ix_l0, ix_l1, ix_l2, tg_1, tg_F, tg_J, tg_P, tg_2, tg_3, tg_4, fold_J, eq_F, ne_F, eq_J, ne_J, eq_P, ne_P, db_, di_, setVals, setAll, datas, itemsD, truD, List.getElem?_cons_zero, List.getElem?_cons_succ, List.set_cons_zero, List.set_cons_succ, Option.map_some, Option.map_none, Option.some.injEq, exists_eq_left', decide_eq_true_eq, Bool.not_true, Bool.not_false, Bool.false_eq_true, if_false, if_true, true_and, and_true, decide_true, decide_false, List.length_cons, List.length_nil, mx_0, mx_1, mx_2, mx_3, mx_4, mx_5, mx_6, mx_7, mx_8, mx_9, mx_10, mx_11, mx_12, mx_13, mx_14, mx_15, mx_16, mx_17, mx_18, mx_19, mx_20, mx_21, mx_22, mx_23, mx_24, Nat.reduceAdd, Nat.reduceLeDiff, Nat.zero_add, Bool.not_eq_true', decide_eq_false_iff_not, reduceIte, ev_reprb, e111]
  exact ⟨_, rfl, h, _, rfl, hq⟩
theorem sem_kind_of : ∀ ds Q, sp_kind_of ds Q → wS Φ rs_kind_of { nx := fun _ => Q (.d .none), rt := Q } (startD ["x0", "x1"] ds) := by
  rintro ds Q ⟨a, rfl, hq⟩
  show wS Φ rs_kind_of _ [some (.val (.d a.dat)), none]
  cases a
  all_goals
    simp only [Ask.dat, Ask.kd, rs_kind_of, wS, wE, wA, wT, wI, wO, ev_add, ev_sub, ev_mul, ev_div, ev_mod, ev_pow, ev_cat, ev_lt, ev_le, ev_gt, ev_ge, ev_eq, ev_ne, ev_eqs, ev_nes, ix_F0, ix_F1, ix_J0, ix_J1, ix_P0, ix_P1, ix_P2, ix_t0, ix_t1, ix_t2, ix_l0, ix_l1, ix_l2, tg_1, tg_F, tg_J, tg_P, tg_2, tg_3, tg_4, fold_J, eq_F, ne_F, eq_J, ne_J, eq_P, ne_P, db_, di_, setVals, setAll, datas, itemsD, truD, List.getElem?_cons_zero, List.getElem?_cons_succ, List.set_cons_zero, List.set_cons_succ, Option.map_some, Option.map_none, Option.some.injEq, exists_eq_left', decide_eq_true_eq, Bool.not_true, Bool.not_false, Bool.false_eq_true, if_false, if_true, true_and, and_true, decide_true, decide_false, List.length_cons, List.length_nil, mx_0, mx_1, mx_2, mx_3, mx_4, mx_5, mx_6, mx_7, mx_8, mx_9, mx_10, mx_11, mx_12, mx_13, mx_14, mx_15, mx_16, mx_17, mx_18, mx_19, mx_20, mx_21, mx_22, mx_23, mx_24, Nat.reduceAdd, Nat.reduceLeDiff, Nat.zero_add, Bool.not_eq_true', decide_eq_false_iff_not, reduceIte, ev_reprb, we_over_over, wn_over_under, we_over_under, wn_over_roof, we_over_roof, wn_over_low, we_over_low, wn_over_dives, we_over_dives, wn_over_climbs, we_over_climbs, wn_over_quick, we_over_quick, wn_over_slow, we_over_slow, wn_under_over, we_under_over, we_under_under, wn_under_roof, we_under_roof, wn_under_low, we_under_low, wn_under_dives, we_under_dives, wn_under_climbs, we_under_climbs, wn_under_quick, we_under_quick, wn_under_slow, we_under_slow, wn_roof_over, we_roof_over, wn_roof_under, we_roof_under, we_roof_roof, wn_roof_low, we_roof_low, wn_roof_dives, we_roof_dives, wn_roof_climbs, we_roof_climbs, wn_roof_quick, we_roof_quick, wn_roof_slow, we_roof_slow, wn_low_over, we_low_over, wn_low_under, we_low_under, wn_low_roof, we_low_roof, we_low_low, wn_low_dives, we_low_dives, wn_low_climbs, we_low_climbs, wn_low_quick, we_low_quick, wn_low_slow, we_low_slow, wn_dives_over, we_dives_over, wn_dives_under, we_dives_under, wn_dives_roof, we_dives_roof, wn_dives_low, we_dives_low, we_dives_dives, wn_dives_climbs, we_dives_climbs, wn_dives_quick, we_dives_quick, wn_dives_slow, we_dives_slow, wn_climbs_over, we_climbs_over, wn_climbs_under, we_climbs_under, wn_climbs_roof, we_climbs_roof, wn_climbs_low, we_climbs_low, wn_climbs_dives, we_climbs_dives, we_climbs_climbs, wn_climbs_quick, we_climbs_quick, wn_climbs_slow, we_climbs_slow, wn_quick_over, we_quick_over, wn_quick_under, we_quick_under, wn_quick_roof, we_quick_roof, wn_quick_low, we_quick_low, wn_quick_dives, we_quick_dives, wn_quick_climbs, we_quick_climbs, we_quick_quick, wn_quick_slow, we_quick_slow, wn_slow_over, we_slow_over, wn_slow_under, we_slow_under, wn_slow_roof, we_slow_roof, wn_slow_low, we_slow_low, wn_slow_dives, we_slow_dives, wn_slow_climbs, we_slow_climbs, wn_slow_quick, we_slow_quick, we_slow_slow, we_upright_upright, wn_upright_upper, we_upright_upper, wn_upright_lower, we_upright_lower, wn_upper_upright, we_upper_upright, we_upper_upper, wn_upper_lower, we_upper_lower, wn_lower_upright, we_lower_upright, wn_lower_upper, we_lower_upper, we_lower_lower, we_least_least, wn_least_most, we_least_most, wn_least_all, we_least_all, wn_least_none, we_least_none, wn_most_least, we_most_least, we_most_most, wn_most_all, we_most_all, wn_most_none, we_most_none, wn_all_least, we_all_least, wn_all_most, we_all_most, we_all_all, wn_all_none, we_all_none, wn_none_least, we_none_least, wn_none_most, we_none_most, wn_none_all, we_none_all, we_none_none, ev_inn, ev_innl, ev_nin, flat_s, flat_i, List.all_cons, List.all_nil, List.any_cons, List.any_nil, Bool.or_false, Bool.false_or, Bool.or_true, Bool.true_or, Bool.and_self, eqv_int, ev_is, ev_isnt, reduceCtorEq, lit_0] at hq ⊢
  all_goals first
    | exact hq
    | (split <;> (rename_i h; simp only [h, if_true, if_false] at hq; exact hq))
theorem sem_straight_way (e34 : Φ 34 = sp_distance_of) (e35 : Φ 35 = sp_height_of) (e82 : Φ 82 = sp_quotient) (e65 : Φ 65 = sp_pminus) (e51 : Φ 51 = sp_times) : ∀ ds Q, sp_straight_way ds Q → wS Φ rs_straight_way { nx := fun _ => Q (.d .none), rt := Q } (startD ["x0", "x1", "x2", "x3", "x4"] ds) := by
  rintro ds Q ⟨x, y, u, v, rfl, h0, h1, zx, zy, zu, zv, zm, hq⟩
  show wS Φ rs_straight_way _ [some (.val (.d (P3 x y))), some (.val (.d (P3 u v))), none, none, none]
  have u0 : 0 < u := by grind
  have zp1 : Zp 8000 x y := (zx.pt zy).mono (by decide)
  have zp2 : Zp 8000 u v := (zu.pt zv).mono (by decide)
  have em : (v - y) / (u - x) = mm x y u v := rfl
  simp only [rs_straight_way, wS, wE, wA, wT, wI, wO, ev_add, ev_sub, ev_mul, ev_div, ev_mod, ev_pow, ev_cat, ev_lt, ev_le, ev_gt, ev_ge, ev_eq, ev_ne, ev_eqs, ev_nes, ix_F0, ix_F1, ix_J0, ix_J1, ix_P0, ix_P1, ix_P2, ix_t0, ix_t1, ix_t2, ix_l0, ix_l1, ix_l2, tg_1, tg_F, tg_J, tg_P, tg_2, tg_3, tg_4, fold_J, eq_F, ne_F, eq_J, ne_J, eq_P, ne_P, db_, di_, setVals, setAll, datas, itemsD, truD, List.getElem?_cons_zero, List.getElem?_cons_succ, List.set_cons_zero, List.set_cons_succ, Option.map_some, Option.map_none, Option.some.injEq, exists_eq_left', decide_eq_true_eq, Bool.not_true, Bool.not_false, Bool.false_eq_true, if_false, if_true, true_and, and_true, decide_true, decide_false, List.length_cons, List.length_nil, mx_0, mx_1, mx_2, mx_3, mx_4, mx_5, mx_6, mx_7, mx_8, mx_9, mx_10, mx_11, mx_12, mx_13, mx_14, mx_15, mx_16, mx_17, mx_18, mx_19, mx_20, mx_21, mx_22, mx_23, mx_24, Nat.reduceAdd, Nat.reduceLeDiff, Nat.zero_add, Bool.not_eq_true', decide_eq_false_iff_not, reduceIte, ev_reprb, e34, e35, e82, e65, e51, ap_distance_of, ap_height_of, ap_quotient, ap_pminus, ap_times, em]
  refine ⟨h0, zp1, h0, zp1, u0, zp2, by walk_at "sz", by walk_at "sz", u0, zp2, by walk_at "sz", by walk_at "sz", by grind, by walk_at "sz", by walk_at "sz", by walk_at "sz", by walk_at "sz", by walk_at "sz", by walk_at "sz", hq⟩
theorem sem_line_at (e76 : Φ 76 = sp_negative) (e82 : Φ 82 = sp_quotient) (e51 : Φ 51 = sp_times) : ∀ ds Q, sp_line_at ds Q → wS Φ rs_line_at { nx := fun _ => Q (.d .none), rt := Q } (startD ["x0", "x1"] ds) := by
  rintro ds Q ⟨x, y, rfl, h0, zx, zy, hq⟩
  show wS Φ rs_line_at _ [some (.val (.d (F x))), some (.val (.d (F y)))]
  have hx : x ≠ 0 := by grind
  have hxx : x * x ≠ 0 := by
    have := Rat.mul_pos h0 h0
    grind
  simp only [rs_line_at, wS, wE, wA, wT, wI, wO, ev_add, ev_sub, ev_mul, ev_div, ev_mod, ev_pow, ev_cat, ev_lt, ev_le, ev_gt, ev_ge, ev_eq, ev_ne, ev_eqs, ev_nes, ix_F0, ix_F1, ix_J0, ix_J1, ix_P0, ix_P1, ix_P2, ix_t0, ix_t1, ix_t2, ix_l0, ix_l1, ix_l2, tg_1, tg_F, tg_J, tg_P, tg_2, tg_3, tg_4, fold_J, eq_F, ne_F, eq_J, ne_J, eq_P, ne_P, db_, di_, setVals, setAll, datas, itemsD, truD, List.getElem?_cons_zero, List.getElem?_cons_succ, List.set_cons_zero, List.set_cons_succ, Option.map_some, Option.map_none, Option.some.injEq, exists_eq_left', decide_eq_true_eq, Bool.not_true, Bool.not_false, Bool.false_eq_true, if_false, if_true, true_and, and_true, decide_true, decide_false, List.length_cons, List.length_nil, mx_0, mx_1, mx_2, mx_3, mx_4, mx_5, mx_6, mx_7, mx_8, mx_9, mx_10, mx_11, mx_12, mx_13, mx_14, mx_15, mx_16, mx_17, mx_18, mx_19, mx_20, mx_21, mx_22, mx_23, mx_24, Nat.reduceAdd, Nat.reduceLeDiff, Nat.zero_add, Bool.not_eq_true', decide_eq_false_iff_not, reduceIte, ev_reprb, e76, e82, e51, ap_negative, ap_quotient, ap_times, lit_0, lit_1]
  exact ⟨by walk_at "sz", by walk_at "sz", hxx, by walk_at "sz", by walk_at "sz", hx, by walk_at "sz", by walk_at "sz", hq⟩
theorem sem_low_parts (e82 : Φ 82 = sp_quotient) : ∀ ds Q, sp_low_parts ds Q → wS Φ rs_low_parts { nx := fun _ => Q (.d .none), rt := Q } (startD ["x0"] ds) := by
  rintro ds Q ⟨b, rfl, h, hq⟩
  show wS Φ rs_low_parts _ [some (.val (.d (F b)))]
  have hb : b ≠ 0 := by have := h.1; grind
  simp only [rs_low_parts, wS, wE, wA, wT, wI, wO, ev_add, ev_sub, ev_mul, ev_div, ev_mod, ev_pow, ev_cat, ev_lt, ev_le, ev_gt, ev_ge, ev_eq, ev_ne, ev_eqs, ev_nes, ix_F0, ix_F1, ix_J0, ix_J1, ix_P0, ix_P1, ix_P2, ix_t0, ix_t1, ix_t2, ix_l0, ix_l1, ix_l2, tg_1, tg_F, tg_J, tg_P, tg_2, tg_3, tg_4, fold_J, eq_F, ne_F, eq_J, ne_J, eq_P, ne_P, db_, di_, setVals, setAll, datas, itemsD, truD, List.getElem?_cons_zero, List.getElem?_cons_succ, List.set_cons_zero, List.set_cons_succ, Option.map_some, Option.map_none, Option.some.injEq, exists_eq_left', decide_eq_true_eq, Bool.not_true, Bool.not_false, Bool.false_eq_true, if_false, if_true, true_and, and_true, decide_true, decide_false, List.length_cons, List.length_nil, mx_0, mx_1, mx_2, mx_3, mx_4, mx_5, mx_6, mx_7, mx_8, mx_9, mx_10, mx_11, mx_12, mx_13, mx_14, mx_15, mx_16, mx_17, mx_18, mx_19, mx_20, mx_21, mx_22, mx_23, mx_24, Nat.reduceAdd, Nat.reduceLeDiff, Nat.zero_add, Bool.not_eq_true', decide_eq_false_iff_not, reduceIte, ev_reprb, e82, ap_quotient, lit_0, lit_14]
  exact ⟨hb, by walk_at "sz", h.2.mono (by decide), hq⟩
theorem sem_roof_parts (e119 : Φ 119 = sp_straight_way) (e34 : Φ 34 = sp_distance_of) (e35 : Φ 35 = sp_height_of) (e120 : Φ 120 = sp_line_at) (e82 : Φ 82 = sp_quotient) (e48 : Φ 48 = sp_plus) (e51 : Φ 51 = sp_times) (e76 : Φ 76 = sp_negative) : ∀ ds Q, sp_roof_parts ds Q → wS Φ rs_roof_parts { nx := fun _ => Q (.d .none), rt := Q } (startD ["x0", "x1", "x2", "x3", "x4", "x5", "x6", "x7", "x8", "x9", "x10", "x11", "x12", "x13"] ds) := by
  rintro ds Q ⟨x, y, u, v, rfl, ⟨h0, h1, zx, zy, zu, zv, zm, zk⟩, hq⟩
  show wS Φ rs_roof_parts _ [some (.val (.d (P3 x y))), some (.val (.d (P3 u v))), none, none, none, none, none, none, none, none, none, none, none, none]
  have u0 : 0 < u := by grind
  have hx : x ≠ 0 := by grind
  have hu : u ≠ 0 := by grind
  have zp1 : Zp 8000 x y := (zx.pt zy).mono (by decide)
  have zp2 : Zp 8000 u v := (zu.pt zv).mono (by decide)
  rw [q_roof_parts]
  simp only [q_roof_parts_0, wS, wE, wA, wT, wI, wO, ev_add, ev_sub, ev_mul, ev_div, ev_mod, ev_pow, ev_cat, ev_lt, ev_le, ev_gt, ev_ge, ev_eq, ev_ne, ev_eqs, ev_nes, ix_F0, ix_F1, ix_J0, ix_J1, ix_P0, ix_P1, ix_P2, ix_t0, ix_t1, ix_t2, ix_l0, ix_l1, ix_l2, tg_1, tg_F, tg_J, tg_P, tg_2, tg_3, tg_4, fold_J, eq_F, ne_F, eq_J, ne_J, eq_P, ne_P, db_, di_, setVals, setAll, datas, itemsD, truD, List.getElem?_cons_zero, List.getElem?_cons_succ, List.set_cons_zero, List.set_cons_succ, Option.map_some, Option.map_none, Option.some.injEq, exists_eq_left', decide_eq_true_eq, Bool.not_true, Bool.not_false, Bool.false_eq_true, if_false, if_true, true_and, and_true, decide_true, decide_false, List.length_cons, List.length_nil, mx_0, mx_1, mx_2, mx_3, mx_4, mx_5, mx_6, mx_7, mx_8, mx_9, mx_10, mx_11, mx_12, mx_13, mx_14, mx_15, mx_16, mx_17, mx_18, mx_19, mx_20, mx_21, mx_22, mx_23, mx_24, Nat.reduceAdd, Nat.reduceLeDiff, Nat.zero_add, Bool.not_eq_true', decide_eq_false_iff_not, reduceIte, ev_reprb, e119]
  refine ⟨_, _, _, _, rfl, h0, h1, zx, zy, zu, zv, zm, ?_⟩
  simp only [wS, wE, wA, wT, wI, wO, ev_add, ev_sub, ev_mul, ev_div, ev_mod, ev_pow, ev_cat, ev_lt, ev_le, ev_gt, ev_ge, ev_eq, ev_ne, ev_eqs, ev_nes, ix_F0, ix_F1, ix_J0, ix_J1, ix_P0, ix_P1, ix_P2, ix_t0, ix_t1, ix_t2, ix_l0, ix_l1, ix_l2, tg_1, tg_F, tg_J, tg_P, tg_2, tg_3, tg_4, fold_J, eq_F, ne_F, eq_J, ne_J, eq_P, ne_P, db_, di_, setVals, setAll, datas, itemsD, truD, List.getElem?_cons_zero, List.getElem?_cons_succ, List.set_cons_zero, List.set_cons_succ, Option.map_some, Option.map_none, Option.some.injEq, exists_eq_left', decide_eq_true_eq, Bool.not_true, Bool.not_false, Bool.false_eq_true, if_false, if_true, true_and, and_true, decide_true, decide_false, List.length_cons, List.length_nil, mx_0, mx_1, mx_2, mx_3, mx_4, mx_5, mx_6, mx_7, mx_8, mx_9, mx_10, mx_11, mx_12, mx_13, mx_14, mx_15, mx_16, mx_17, mx_18, mx_19, mx_20, mx_21, mx_22, mx_23, mx_24, Nat.reduceAdd, Nat.reduceLeDiff, Nat.zero_add, Bool.not_eq_true', decide_eq_false_iff_not, reduceIte, ev_reprb]
  simp only [q_roof_parts_1, wS, wE, wA, wT, wI, wO, ev_add, ev_sub, ev_mul, ev_div, ev_mod, ev_pow, ev_cat, ev_lt, ev_le, ev_gt, ev_ge, ev_eq, ev_ne, ev_eqs, ev_nes, ix_F0, ix_F1, ix_J0, ix_J1, ix_P0, ix_P1, ix_P2, ix_t0, ix_t1, ix_t2, ix_l0, ix_l1, ix_l2, tg_1, tg_F, tg_J, tg_P, tg_2, tg_3, tg_4, fold_J, eq_F, ne_F, eq_J, ne_J, eq_P, ne_P, db_, di_, setVals, setAll, datas, itemsD, truD, List.getElem?_cons_zero, List.getElem?_cons_succ, List.set_cons_zero, List.set_cons_succ, Option.map_some, Option.map_none, Option.some.injEq, exists_eq_left', decide_eq_true_eq, Bool.not_true, Bool.not_false, Bool.false_eq_true, if_false, if_true, true_and, and_true, decide_true, decide_false, List.length_cons, List.length_nil, mx_0, mx_1, mx_2, mx_3, mx_4, mx_5, mx_6, mx_7, mx_8, mx_9, mx_10, mx_11, mx_12, mx_13, mx_14, mx_15, mx_16, mx_17, mx_18, mx_19, mx_20, mx_21, mx_22, mx_23, mx_24, Nat.reduceAdd, Nat.reduceLeDiff, Nat.zero_add, Bool.not_eq_true', decide_eq_false_iff_not, reduceIte, ev_reprb, e34, ap_distance_of]
  refine ⟨h0, zp1, u0, zp2, ?_⟩
  simp only [q_roof_parts_2, wS, wE, wA, wT, wI, wO, ev_add, ev_sub, ev_mul, ev_div, ev_mod, ev_pow, ev_cat, ev_lt, ev_le, ev_gt, ev_ge, ev_eq, ev_ne, ev_eqs, ev_nes, ix_F0, ix_F1, ix_J0, ix_J1, ix_P0, ix_P1, ix_P2, ix_t0, ix_t1, ix_t2, ix_l0, ix_l1, ix_l2, tg_1, tg_F, tg_J, tg_P, tg_2, tg_3, tg_4, fold_J, eq_F, ne_F, eq_J, ne_J, eq_P, ne_P, db_, di_, setVals, setAll, datas, itemsD, truD, List.getElem?_cons_zero, List.getElem?_cons_succ, List.set_cons_zero, List.set_cons_succ, Option.map_some, Option.map_none, Option.some.injEq, exists_eq_left', decide_eq_true_eq, Bool.not_true, Bool.not_false, Bool.false_eq_true, if_false, if_true, true_and, and_true, decide_true, decide_false, List.length_cons, List.length_nil, mx_0, mx_1, mx_2, mx_3, mx_4, mx_5, mx_6, mx_7, mx_8, mx_9, mx_10, mx_11, mx_12, mx_13, mx_14, mx_15, mx_16, mx_17, mx_18, mx_19, mx_20, mx_21, mx_22, mx_23, mx_24, Nat.reduceAdd, Nat.reduceLeDiff, Nat.zero_add, Bool.not_eq_true', decide_eq_false_iff_not, reduceIte, ev_reprb, e35, ap_height_of, e120]
  refine ⟨u0, zp2, _, _, rfl, u0, zu, zv, ?_⟩
  simp only [wS, wE, wA, wT, wI, wO, ev_add, ev_sub, ev_mul, ev_div, ev_mod, ev_pow, ev_cat, ev_lt, ev_le, ev_gt, ev_ge, ev_eq, ev_ne, ev_eqs, ev_nes, ix_F0, ix_F1, ix_J0, ix_J1, ix_P0, ix_P1, ix_P2, ix_t0, ix_t1, ix_t2, ix_l0, ix_l1, ix_l2, tg_1, tg_F, tg_J, tg_P, tg_2, tg_3, tg_4, fold_J, eq_F, ne_F, eq_J, ne_J, eq_P, ne_P, db_, di_, setVals, setAll, datas, itemsD, truD, List.getElem?_cons_zero, List.getElem?_cons_succ, List.set_cons_zero, List.set_cons_succ, Option.map_some, Option.map_none, Option.some.injEq, exists_eq_left', decide_eq_true_eq, Bool.not_true, Bool.not_false, Bool.false_eq_true, if_false, if_true, true_and, and_true, decide_true, decide_false, List.length_cons, List.length_nil, mx_0, mx_1, mx_2, mx_3, mx_4, mx_5, mx_6, mx_7, mx_8, mx_9, mx_10, mx_11, mx_12, mx_13, mx_14, mx_15, mx_16, mx_17, mx_18, mx_19, mx_20, mx_21, mx_22, mx_23, mx_24, Nat.reduceAdd, Nat.reduceLeDiff, Nat.zero_add, Bool.not_eq_true', decide_eq_false_iff_not, reduceIte, ev_reprb]
  simp only [q_roof_parts_3, wS, wE, wA, wT, wI, wO, ev_add, ev_sub, ev_mul, ev_div, ev_mod, ev_pow, ev_cat, ev_lt, ev_le, ev_gt, ev_ge, ev_eq, ev_ne, ev_eqs, ev_nes, ix_F0, ix_F1, ix_J0, ix_J1, ix_P0, ix_P1, ix_P2, ix_t0, ix_t1, ix_t2, ix_l0, ix_l1, ix_l2, tg_1, tg_F, tg_J, tg_P, tg_2, tg_3, tg_4, fold_J, eq_F, ne_F, eq_J, ne_J, eq_P, ne_P, db_, di_, setVals, setAll, datas, itemsD, truD, List.getElem?_cons_zero, List.getElem?_cons_succ, List.set_cons_zero, List.set_cons_succ, Option.map_some, Option.map_none, Option.some.injEq, exists_eq_left', decide_eq_true_eq, Bool.not_true, Bool.not_false, Bool.false_eq_true, if_false, if_true, true_and, and_true, decide_true, decide_false, List.length_cons, List.length_nil, mx_0, mx_1, mx_2, mx_3, mx_4, mx_5, mx_6, mx_7, mx_8, mx_9, mx_10, mx_11, mx_12, mx_13, mx_14, mx_15, mx_16, mx_17, mx_18, mx_19, mx_20, mx_21, mx_22, mx_23, mx_24, Nat.reduceAdd, Nat.reduceLeDiff, Nat.zero_add, Bool.not_eq_true', decide_eq_false_iff_not, reduceIte, ev_reprb, e35, ap_height_of, e120]
  refine ⟨h0, zp1, _, _, rfl, h0, zx, zy, ?_⟩
  simp only [wS, wE, wA, wT, wI, wO, ev_add, ev_sub, ev_mul, ev_div, ev_mod, ev_pow, ev_cat, ev_lt, ev_le, ev_gt, ev_ge, ev_eq, ev_ne, ev_eqs, ev_nes, ix_F0, ix_F1, ix_J0, ix_J1, ix_P0, ix_P1, ix_P2, ix_t0, ix_t1, ix_t2, ix_l0, ix_l1, ix_l2, tg_1, tg_F, tg_J, tg_P, tg_2, tg_3, tg_4, fold_J, eq_F, ne_F, eq_J, ne_J, eq_P, ne_P, db_, di_, setVals, setAll, datas, itemsD, truD, List.getElem?_cons_zero, List.getElem?_cons_succ, List.set_cons_zero, List.set_cons_succ, Option.map_some, Option.map_none, Option.some.injEq, exists_eq_left', decide_eq_true_eq, Bool.not_true, Bool.not_false, Bool.false_eq_true, if_false, if_true, true_and, and_true, decide_true, decide_false, List.length_cons, List.length_nil, mx_0, mx_1, mx_2, mx_3, mx_4, mx_5, mx_6, mx_7, mx_8, mx_9, mx_10, mx_11, mx_12, mx_13, mx_14, mx_15, mx_16, mx_17, mx_18, mx_19, mx_20, mx_21, mx_22, mx_23, mx_24, Nat.reduceAdd, Nat.reduceLeDiff, Nat.zero_add, Bool.not_eq_true', decide_eq_false_iff_not, reduceIte, ev_reprb]
  simp only [q_roof_parts_4, wS, wE, wA, wT, wI, wO, ev_add, ev_sub, ev_mul, ev_div, ev_mod, ev_pow, ev_cat, ev_lt, ev_le, ev_gt, ev_ge, ev_eq, ev_ne, ev_eqs, ev_nes, ix_F0, ix_F1, ix_J0, ix_J1, ix_P0, ix_P1, ix_P2, ix_t0, ix_t1, ix_t2, ix_l0, ix_l1, ix_l2, tg_1, tg_F, tg_J, tg_P, tg_2, tg_3, tg_4, fold_J, eq_F, ne_F, eq_J, ne_J, eq_P, ne_P, db_, di_, setVals, setAll, datas, itemsD, truD, List.getElem?_cons_zero, List.getElem?_cons_succ, List.set_cons_zero, List.set_cons_succ, Option.map_some, Option.map_none, Option.some.injEq, exists_eq_left', decide_eq_true_eq, Bool.not_true, Bool.not_false, Bool.false_eq_true, if_false, if_true, true_and, and_true, decide_true, decide_false, List.length_cons, List.length_nil, mx_0, mx_1, mx_2, mx_3, mx_4, mx_5, mx_6, mx_7, mx_8, mx_9, mx_10, mx_11, mx_12, mx_13, mx_14, mx_15, mx_16, mx_17, mx_18, mx_19, mx_20, mx_21, mx_22, mx_23, mx_24, Nat.reduceAdd, Nat.reduceLeDiff, Nat.zero_add, Bool.not_eq_true', decide_eq_false_iff_not, reduceIte, ev_reprb, num_le]
  simp only [Ask.pts] at hq
  generalize hk : kk x y u v = k at *
  generalize hm : mm x y u v = m at *
  by_cases hkk : k ≤ 0
  · rw [if_pos hkk] at hq ⊢
    simp only [q_roof_parts_4_t_0, q_roof_parts_4_t_1, wS, wE, wA, wT, wI, wO, ev_add, ev_sub, ev_mul, ev_div, ev_mod, ev_pow, ev_cat, ev_lt, ev_le, ev_gt, ev_ge, ev_eq, ev_ne, ev_eqs, ev_nes, ix_F0, ix_F1, ix_J0, ix_J1, ix_P0, ix_P1, ix_P2, ix_t0, ix_t1, ix_t2, ix_l0, ix_l1, ix_l2, tg_1, tg_F, tg_J, tg_P, tg_2, tg_3, tg_4, fold_J, eq_F, ne_F, eq_J, ne_J, eq_P, ne_P, db_, di_, setVals, setAll, datas, itemsD, truD, List.getElem?_cons_zero, List.getElem?_cons_succ, List.set_cons_zero, List.set_cons_succ, Option.map_some, Option.map_none, Option.some.injEq, exists_eq_left', decide_eq_true_eq, Bool.not_true, Bool.not_false, Bool.false_eq_true, if_false, if_true, true_and, and_true, decide_true, decide_false, List.length_cons, List.length_nil, mx_0, mx_1, mx_2, mx_3, mx_4, mx_5, mx_6, mx_7, mx_8, mx_9, mx_10, mx_11, mx_12, mx_13, mx_14, mx_15, mx_16, mx_17, mx_18, mx_19, mx_20, mx_21, mx_22, mx_23, mx_24, Nat.reduceAdd, Nat.reduceLeDiff, Nat.zero_add, Bool.not_eq_true', decide_eq_false_iff_not, reduceIte, ev_reprb, e48, e82, ap_plus, ap_quotient]
    exact ⟨hx, by walk_at "sz", by walk_at "sz", hu, by walk_at "sz", by walk_at "sz", by walk_at "sz", by walk_at "sz", by walk_at "sz", by walk_at "sz", hq⟩
  · rw [if_neg hkk] at hq ⊢
    have k0 : 2 * (2 * k) ≠ 0 := by grind
    have k1 : 2 * k ≠ 0 := by grind
    simp only [q_roof_parts_5, wS, wE, wA, wT, wI, wO, ev_add, ev_sub, ev_mul, ev_div, ev_mod, ev_pow, ev_cat, ev_lt, ev_le, ev_gt, ev_ge, ev_eq, ev_ne, ev_eqs, ev_nes, ix_F0, ix_F1, ix_J0, ix_J1, ix_P0, ix_P1, ix_P2, ix_t0, ix_t1, ix_t2, ix_l0, ix_l1, ix_l2, tg_1, tg_F, tg_J, tg_P, tg_2, tg_3, tg_4, fold_J, eq_F, ne_F, eq_J, ne_J, eq_P, ne_P, db_, di_, setVals, setAll, datas, itemsD, truD, List.getElem?_cons_zero, List.getElem?_cons_succ, List.set_cons_zero, List.set_cons_succ, Option.map_some, Option.map_none, Option.some.injEq, exists_eq_left', decide_eq_true_eq, Bool.not_true, Bool.not_false, Bool.false_eq_true, if_false, if_true, true_and, and_true, decide_true, decide_false, List.length_cons, List.length_nil, mx_0, mx_1, mx_2, mx_3, mx_4, mx_5, mx_6, mx_7, mx_8, mx_9, mx_10, mx_11, mx_12, mx_13, mx_14, mx_15, mx_16, mx_17, mx_18, mx_19, mx_20, mx_21, mx_22, mx_23, mx_24, Nat.reduceAdd, Nat.reduceLeDiff, Nat.zero_add, Bool.not_eq_true', decide_eq_false_iff_not, reduceIte, ev_reprb, e51, ap_times, lit_2]
    refine ⟨by walk_at "sz", by walk_at "sz", ?_⟩
    simp only [q_roof_parts_6, wS, wE, wA, wT, wI, wO, ev_add, ev_sub, ev_mul, ev_div, ev_mod, ev_pow, ev_cat, ev_lt, ev_le, ev_gt, ev_ge, ev_eq, ev_ne, ev_eqs, ev_nes, ix_F0, ix_F1, ix_J0, ix_J1, ix_P0, ix_P1, ix_P2, ix_t0, ix_t1, ix_t2, ix_l0, ix_l1, ix_l2, tg_1, tg_F, tg_J, tg_P, tg_2, tg_3, tg_4, fold_J, eq_F, ne_F, eq_J, ne_J, eq_P, ne_P, db_, di_, setVals, setAll, datas, itemsD, truD, List.getElem?_cons_zero, List.getElem?_cons_succ, List.set_cons_zero, List.set_cons_succ, Option.map_some, Option.map_none, Option.some.injEq, exists_eq_left', decide_eq_true_eq, Bool.not_true, Bool.not_false, Bool.false_eq_true, if_false, if_true, true_and, and_true, decide_true, decide_false, List.length_cons, List.length_nil, mx_0, mx_1, mx_2, mx_3, mx_4, mx_5, mx_6, mx_7, mx_8, mx_9, mx_10, mx_11, mx_12, mx_13, mx_14, mx_15, mx_16, mx_17, mx_18, mx_19, mx_20, mx_21, mx_22, mx_23, mx_24, Nat.reduceAdd, Nat.reduceLeDiff, Nat.zero_add, Bool.not_eq_true', decide_eq_false_iff_not, reduceIte, ev_reprb, e48, e82, ap_plus, ap_quotient]
    refine ⟨hu, by walk_at "sz", by walk_at "sz", by walk_at "sz", by walk_at "sz", hx, by walk_at "sz", by walk_at "sz", by walk_at "sz", by walk_at "sz", ?_⟩
    simp only [q_roof_parts_7, wS, wE, wA, wT, wI, wO, ev_add, ev_sub, ev_mul, ev_div, ev_mod, ev_pow, ev_cat, ev_lt, ev_le, ev_gt, ev_ge, ev_eq, ev_ne, ev_eqs, ev_nes, ix_F0, ix_F1, ix_J0, ix_J1, ix_P0, ix_P1, ix_P2, ix_t0, ix_t1, ix_t2, ix_l0, ix_l1, ix_l2, tg_1, tg_F, tg_J, tg_P, tg_2, tg_3, tg_4, fold_J, eq_F, ne_F, eq_J, ne_J, eq_P, ne_P, db_, di_, setVals, setAll, datas, itemsD, truD, List.getElem?_cons_zero, List.getElem?_cons_succ, List.set_cons_zero, List.set_cons_succ, Option.map_some, Option.map_none, Option.some.injEq, exists_eq_left', decide_eq_true_eq, Bool.not_true, Bool.not_false, Bool.false_eq_true, if_false, if_true, true_and, and_true, decide_true, decide_false, List.length_cons, List.length_nil, mx_0, mx_1, mx_2, mx_3, mx_4, mx_5, mx_6, mx_7, mx_8, mx_9, mx_10, mx_11, mx_12, mx_13, mx_14, mx_15, mx_16, mx_17, mx_18, mx_19, mx_20, mx_21, mx_22, mx_23, mx_24, Nat.reduceAdd, Nat.reduceLeDiff, Nat.zero_add, Bool.not_eq_true', decide_eq_false_iff_not, reduceIte, ev_reprb, e51, e82, ap_times, ap_quotient, lit_1, lit_2]
    refine ⟨by walk_at "sz", by walk_at "sz", k0, by walk_at "sz", by walk_at "sz", ?_⟩
    simp only [q_roof_parts_8, wS, wE, wA, wT, wI, wO, ev_add, ev_sub, ev_mul, ev_div, ev_mod, ev_pow, ev_cat, ev_lt, ev_le, ev_gt, ev_ge, ev_eq, ev_ne, ev_eqs, ev_nes, ix_F0, ix_F1, ix_J0, ix_J1, ix_P0, ix_P1, ix_P2, ix_t0, ix_t1, ix_t2, ix_l0, ix_l1, ix_l2, tg_1, tg_F, tg_J, tg_P, tg_2, tg_3, tg_4, fold_J, eq_F, ne_F, eq_J, ne_J, eq_P, ne_P, db_, di_, setVals, setAll, datas, itemsD, truD, List.getElem?_cons_zero, List.getElem?_cons_succ, List.set_cons_zero, List.set_cons_succ, Option.map_some, Option.map_none, Option.some.injEq, exists_eq_left', decide_eq_true_eq, Bool.not_true, Bool.not_false, Bool.false_eq_true, if_false, if_true, true_and, and_true, decide_true, decide_false, List.length_cons, List.length_nil, mx_0, mx_1, mx_2, mx_3, mx_4, mx_5, mx_6, mx_7, mx_8, mx_9, mx_10, mx_11, mx_12, mx_13, mx_14, mx_15, mx_16, mx_17, mx_18, mx_19, mx_20, mx_21, mx_22, mx_23, mx_24, Nat.reduceAdd, Nat.reduceLeDiff, Nat.zero_add, Bool.not_eq_true', decide_eq_false_iff_not, reduceIte, ev_reprb, e51, e82, e76, ap_times, ap_quotient, ap_negative]
    refine ⟨by walk_at "sz", by walk_at "sz", by walk_at "sz", by walk_at "sz", k1, by walk_at "sz", by walk_at "sz", ?_⟩
    simp only [q_roof_parts_9, wS, wE, wA, wT, wI, wO, ev_add, ev_sub, ev_mul, ev_div, ev_mod, ev_pow, ev_cat, ev_lt, ev_le, ev_gt, ev_ge, ev_eq, ev_ne, ev_eqs, ev_nes, ix_F0, ix_F1, ix_J0, ix_J1, ix_P0, ix_P1, ix_P2, ix_t0, ix_t1, ix_t2, ix_l0, ix_l1, ix_l2, tg_1, tg_F, tg_J, tg_P, tg_2, tg_3, tg_4, fold_J, eq_F, ne_F, eq_J, ne_J, eq_P, ne_P, db_, di_, setVals, setAll, datas, itemsD, truD, List.getElem?_cons_zero, List.getElem?_cons_succ, List.set_cons_zero, List.set_cons_succ, Option.map_some, Option.map_none, Option.some.injEq, exists_eq_left', decide_eq_true_eq, Bool.not_true, Bool.not_false, Bool.false_eq_true, if_false, if_true, true_and, and_true, decide_true, decide_false, List.length_cons, List.length_nil, mx_0, mx_1, mx_2, mx_3, mx_4, mx_5, mx_6, mx_7, mx_8, mx_9, mx_10, mx_11, mx_12, mx_13, mx_14, mx_15, mx_16, mx_17, mx_18, mx_19, mx_20, mx_21, mx_22, mx_23, mx_24, Nat.reduceAdd, Nat.reduceLeDiff, Nat.zero_add, Bool.not_eq_true', decide_eq_false_iff_not, reduceIte, ev_reprb]
    exact hq
theorem sem_parts_of (e121 : Φ 121 = sp_roof_parts) (e122 : Φ 122 = sp_low_parts) (e120 : Φ 120 = sp_line_at) (e34 : Φ 34 = sp_distance_of) (e35 : Φ 35 = sp_height_of) (e82 : Φ 82 = sp_quotient) (e76 : Φ 76 = sp_negative) (e51 : Φ 51 = sp_times) : ∀ ds Q, sp_parts_of ds Q → wS Φ rs_parts_of { nx := fun _ => Q (.d .none), rt := Q } (startD ["x0", "x1", "x2", "x3"] ds) := by
  rintro ds Q ⟨a, rfl, h, hq⟩
  show wS Φ rs_parts_of _ [some (.val (.d a.dat)), none, none, none]
  cases a
  all_goals simp only [Ask.dat, rs_parts_of, wS, wE, wA, wT, wI, wO, ev_add, ev_sub, ev_mul, ev_div, ev_mod, ev_pow, ev_cat, ev_lt, ev_le, ev_gt, ev_ge, ev_eq, ev_ne, ev_eqs, ev_nes, ix_F0, ix_F1, ix_J0, ix_J1, ix_P0, ix_P1, ix_P2, ix_t0, ix_t1, ix_t2, ix_l0, ix_l1, ix_l2, tg_1, tg_F, tg_J, tg_P, tg_2, tg_3, tg_4, fold_J, eq_F, ne_F, eq_J, ne_J, eq_P, ne_P, db_, di_, setVals, setAll, datas, itemsD, truD, List.getElem?_cons_zero, List.getElem?_cons_succ, List.set_cons_zero, List.set_cons_succ, Option.map_some, Option.map_none, Option.some.injEq, exists_eq_left', decide_eq_true_eq, Bool.not_true, Bool.not_false, Bool.false_eq_true, if_false, if_true, true_and, and_true, decide_true, decide_false, List.length_cons, List.length_nil, mx_0, mx_1, mx_2, mx_3, mx_4, mx_5, mx_6, mx_7, mx_8, mx_9, mx_10, mx_11, mx_12, mx_13, mx_14, mx_15, mx_16, mx_17, mx_18, mx_19, mx_20, mx_21, mx_22, mx_23, mx_24, Nat.reduceAdd, Nat.reduceLeDiff, Nat.zero_add, Bool.not_eq_true', decide_eq_false_iff_not, reduceIte, ev_reprb, we_over_over, wn_over_under, we_over_under, wn_over_roof, we_over_roof, wn_over_low, we_over_low, wn_over_dives, we_over_dives, wn_over_climbs, we_over_climbs, wn_over_quick, we_over_quick, wn_over_slow, we_over_slow, wn_under_over, we_under_over, we_under_under, wn_under_roof, we_under_roof, wn_under_low, we_under_low, wn_under_dives, we_under_dives, wn_under_climbs, we_under_climbs, wn_under_quick, we_under_quick, wn_under_slow, we_under_slow, wn_roof_over, we_roof_over, wn_roof_under, we_roof_under, we_roof_roof, wn_roof_low, we_roof_low, wn_roof_dives, we_roof_dives, wn_roof_climbs, we_roof_climbs, wn_roof_quick, we_roof_quick, wn_roof_slow, we_roof_slow, wn_low_over, we_low_over, wn_low_under, we_low_under, wn_low_roof, we_low_roof, we_low_low, wn_low_dives, we_low_dives, wn_low_climbs, we_low_climbs, wn_low_quick, we_low_quick, wn_low_slow, we_low_slow, wn_dives_over, we_dives_over, wn_dives_under, we_dives_under, wn_dives_roof, we_dives_roof, wn_dives_low, we_dives_low, we_dives_dives, wn_dives_climbs, we_dives_climbs, wn_dives_quick, we_dives_quick, wn_dives_slow, we_dives_slow, wn_climbs_over, we_climbs_over, wn_climbs_under, we_climbs_under, wn_climbs_roof, we_climbs_roof, wn_climbs_low, we_climbs_low, wn_climbs_dives, we_climbs_dives, we_climbs_climbs, wn_climbs_quick, we_climbs_quick, wn_climbs_slow, we_climbs_slow, wn_quick_over, we_quick_over, wn_quick_under, we_quick_under, wn_quick_roof, we_quick_roof, wn_quick_low, we_quick_low, wn_quick_dives, we_quick_dives, wn_quick_climbs, we_quick_climbs, we_quick_quick, wn_quick_slow, we_quick_slow, wn_slow_over, we_slow_over, wn_slow_under, we_slow_under, wn_slow_roof, we_slow_roof, wn_slow_low, we_slow_low, wn_slow_dives, we_slow_dives, wn_slow_climbs, we_slow_climbs, wn_slow_quick, we_slow_quick, we_slow_slow, we_upright_upright, wn_upright_upper, we_upright_upper, wn_upright_lower, we_upright_lower, wn_upper_upright, we_upper_upright, we_upper_upper, wn_upper_lower, we_upper_lower, wn_lower_upright, we_lower_upright, wn_lower_upper, we_lower_upper, we_lower_lower, we_least_least, wn_least_most, we_least_most, wn_least_all, we_least_all, wn_least_none, we_least_none, wn_most_least, we_most_least, we_most_most, wn_most_all, we_most_all, wn_most_none, we_most_none, wn_all_least, we_all_least, wn_all_most, we_all_most, we_all_all, wn_all_none, we_all_none, wn_none_least, we_none_least, wn_none_most, we_none_most, wn_none_all, we_none_all, we_none_none, ev_inn, ev_innl, ev_nin, flat_s, flat_i, List.all_cons, List.all_nil, List.any_cons, List.any_nil, Bool.or_false, Bool.false_or, Bool.or_true, Bool.true_or, Bool.and_self, eqv_int, ev_is, ev_isnt, reduceCtorEq, e121, e122, e120, e34, e35, e82, e76, e51, ap_distance_of, ap_height_of, ap_quotient, ap_negative, ap_times, lit_0, lit_12]
  · rename_i x y
    obtain ⟨h0, zx, zy⟩ := h
    have zp : Zp 8000 x y := (zx.pt zy).mono (by decide)
    refine ⟨h0, zp, h0, zp, _, _, rfl, h0, zx, zy, ?_⟩
    simp only [wS, wE, wA, wT, wI, wO, ev_add, ev_sub, ev_mul, ev_div, ev_mod, ev_pow, ev_cat, ev_lt, ev_le, ev_gt, ev_ge, ev_eq, ev_ne, ev_eqs, ev_nes, ix_F0, ix_F1, ix_J0, ix_J1, ix_P0, ix_P1, ix_P2, ix_t0, ix_t1, ix_t2, ix_l0, ix_l1, ix_l2, tg_1, tg_F, tg_J, tg_P, tg_2, tg_3, tg_4, fold_J, eq_F, ne_F, eq_J, ne_J, eq_P, ne_P, db_, di_, setVals, setAll, datas, itemsD, truD, List.getElem?_cons_zero, List.getElem?_cons_succ, List.set_cons_zero, List.set_cons_succ, Option.map_some, Option.map_none, Option.some.injEq, exists_eq_left', decide_eq_true_eq, Bool.not_true, Bool.not_false, Bool.false_eq_true, if_false, if_true, true_and, and_true, decide_true, decide_false, List.length_cons, List.length_nil, mx_0, mx_1, mx_2, mx_3, mx_4, mx_5, mx_6, mx_7, mx_8, mx_9, mx_10, mx_11, mx_12, mx_13, mx_14, mx_15, mx_16, mx_17, mx_18, mx_19, mx_20, mx_21, mx_22, mx_23, mx_24, Nat.reduceAdd, Nat.reduceLeDiff, Nat.zero_add, Bool.not_eq_true', decide_eq_false_iff_not, reduceIte, ev_reprb]
    exact hq
  · rename_i x y
    obtain ⟨h0, zx, zy⟩ := h
    have zp : Zp 8000 x y := (zx.pt zy).mono (by decide)
    refine ⟨h0, zp, h0, zp, _, _, rfl, h0, zx, zy, ?_⟩
    simp only [wS, wE, wA, wT, wI, wO, ev_add, ev_sub, ev_mul, ev_div, ev_mod, ev_pow, ev_cat, ev_lt, ev_le, ev_gt, ev_ge, ev_eq, ev_ne, ev_eqs, ev_nes, ix_F0, ix_F1, ix_J0, ix_J1, ix_P0, ix_P1, ix_P2, ix_t0, ix_t1, ix_t2, ix_l0, ix_l1, ix_l2, tg_1, tg_F, tg_J, tg_P, tg_2, tg_3, tg_4, fold_J, eq_F, ne_F, eq_J, ne_J, eq_P, ne_P, db_, di_, setVals, setAll, datas, itemsD, truD, List.getElem?_cons_zero, List.getElem?_cons_succ, List.set_cons_zero, List.set_cons_succ, Option.map_some, Option.map_none, Option.some.injEq, exists_eq_left', decide_eq_true_eq, Bool.not_true, Bool.not_false, Bool.false_eq_true, if_false, if_true, true_and, and_true, decide_true, decide_false, List.length_cons, List.length_nil, mx_0, mx_1, mx_2, mx_3, mx_4, mx_5, mx_6, mx_7, mx_8, mx_9, mx_10, mx_11, mx_12, mx_13, mx_14, mx_15, mx_16, mx_17, mx_18, mx_19, mx_20, mx_21, mx_22, mx_23, mx_24, Nat.reduceAdd, Nat.reduceLeDiff, Nat.zero_add, Bool.not_eq_true', decide_eq_false_iff_not, reduceIte, ev_reprb]
    exact hq
  · exact ⟨_, _, _, _, rfl, h, hq⟩
  · exact ⟨_, rfl, h, hq⟩
  · rename_i X M
    obtain ⟨h0, zX, zM⟩ := h
    simp only [Ask.pts] at hq
    split
    · rename_i e
      rw [if_pos e] at hq
      exact hq
    · rename_i e
      rw [if_neg e] at hq
      exact ⟨e, by walk_at "sz", by walk_at "sz", by walk_at "sz", by walk_at "sz", hq⟩
  · rename_i X M
    obtain ⟨h0, zX, zM⟩ := h
    simp only [Ask.pts] at hq
    split
    · rename_i e
      rw [if_pos e] at hq
      exact hq
    · rename_i e
      rw [if_neg e] at hq
      exact ⟨e, by walk_at "sz", by walk_at "sz", by walk_at "sz", by walk_at "sz", hq⟩
  · exact hq
  · exact hq
theorem whl1 {turn : SDs → (SDs → Prop) → Prop} {τ : SDs} {n : Nat} (h : turn τ fun τ2 => goWh turn n τ2) : goWh turn (n + 1) τ := h
theorem sem_bound_value (e123 : Φ 123 = sp_parts_of) (e91 : Φ 91 = sp_is_below) (e75 : Φ 75 = sp_value_at) : ∀ ds Q, sp_bound_value ds Q → wS Φ rs_bound_value { nx := fun _ => Q (.d .none), rt := Q } (startD ["x0", "x1", "x2", "x3"] ds) := by
  rintro ds Q ⟨a, s, rfl, h, hk, zs, hq⟩
  show wS Φ rs_bound_value _ [some (.val (.d a.dat)), some (.val (.d (F s))), none, none]
  rw [q_bound_value]
  simp only [q_bound_value_0, wS, wE, wA, wT, wI, wO, ev_add, ev_sub, ev_mul, ev_div, ev_mod, ev_pow, ev_cat, ev_lt, ev_le, ev_gt, ev_ge, ev_eq, ev_ne, ev_eqs, ev_nes, ix_F0, ix_F1, ix_J0, ix_J1, ix_P0, ix_P1, ix_P2, ix_t0, ix_t1, ix_t2, ix_l0, ix_l1, ix_l2, tg_1, tg_F, tg_J, tg_P, tg_2, tg_3, tg_4, fold_J, eq_F, ne_F, eq_J, ne_J, eq_P, ne_P, db_, di_, setVals, setAll, datas, itemsD, truD, List.getElem?_cons_zero, List.getElem?_cons_succ, List.set_cons_zero, List.set_cons_succ, Option.map_some, Option.map_none, Option.some.injEq, exists_eq_left', decide_eq_true_eq, Bool.not_true, Bool.not_false, Bool.false_eq_true, if_false, if_true, true_and, and_true, decide_true, decide_false, List.length_cons, List.length_nil, mx_0, mx_1, mx_2, mx_3, mx_4, mx_5, mx_6, mx_7, mx_8, mx_9, mx_10, mx_11, mx_12, mx_13, mx_14, mx_15, mx_16, mx_17, mx_18, mx_19, mx_20, mx_21, mx_22, mx_23, mx_24, Nat.reduceAdd, Nat.reduceLeDiff, Nat.zero_add, Bool.not_eq_true', decide_eq_false_iff_not, reduceIte, ev_reprb, e123]
  refine ⟨_, rfl, h, ?_⟩
  simp only [q_bound_value_1, wS, wE, wA, wT, wI, wO, ev_add, ev_sub, ev_mul, ev_div, ev_mod, ev_pow, ev_cat, ev_lt, ev_le, ev_gt, ev_ge, ev_eq, ev_ne, ev_eqs, ev_nes, ix_F0, ix_F1, ix_J0, ix_J1, ix_P0, ix_P1, ix_P2, ix_t0, ix_t1, ix_t2, ix_l0, ix_l1, ix_l2, tg_1, tg_F, tg_J, tg_P, tg_2, tg_3, tg_4, fold_J, eq_F, ne_F, eq_J, ne_J, eq_P, ne_P, db_, di_, setVals, setAll, datas, itemsD, truD, List.getElem?_cons_zero, List.getElem?_cons_succ, List.set_cons_zero, List.set_cons_succ, Option.map_some, Option.map_none, Option.some.injEq, exists_eq_left', decide_eq_true_eq, Bool.not_true, Bool.not_false, Bool.false_eq_true, if_false, if_true, true_and, and_true, decide_true, decide_false, List.length_cons, List.length_nil, mx_0, mx_1, mx_2, mx_3, mx_4, mx_5, mx_6, mx_7, mx_8, mx_9, mx_10, mx_11, mx_12, mx_13, mx_14, mx_15, mx_16, mx_17, mx_18, mx_19, mx_20, mx_21, mx_22, mx_23, mx_24, Nat.reduceAdd, Nat.reduceLeDiff, Nat.zero_add, Bool.not_eq_true', decide_eq_false_iff_not, reduceIte, ev_reprb]
  have at00 : ∀ {x : PyData} {l : List PyData} {Q : DV → Prop}, wIdx (.d (.tuple (x :: l))) (.d (.int 0)) Q = Q (.d x) := ix_t0
  have one : ∀ {c d e : Rat}, Zf 1500 c → Zf 900 d → Zf 700 e → Q (.d (F (c + s * (d + e * s)))) → wS Φ q_bound_value_2 { nx := fun _ => Q (.d .none), rt := Q } [some (.val (.d a.dat)), some (.val (.d (F s))), some (.val (.d (pt1 (.tuple [F c, F d, F e])))), some (.val (.d (.int 0)))] := by
    intro c d e zc zd ze hv
    simp only [q_bound_value_2, pt1, wS, wE, wA, wT, wI, wO, ev_add, ev_sub, ev_mul, ev_div, ev_mod, ev_pow, ev_cat, ev_lt, ev_le, ev_gt, ev_ge, ev_eq, ev_ne, ev_eqs, ev_nes, ix_F0, ix_F1, ix_J0, ix_J1, ix_P0, ix_P1, ix_P2, ix_t0, ix_t1, ix_t2, ix_l0, ix_l1, ix_l2, tg_1, tg_F, tg_J, tg_P, tg_2, tg_3, tg_4, fold_J, eq_F, ne_F, eq_J, ne_J, eq_P, ne_P, db_, di_, setVals, setAll, datas, itemsD, truD, List.getElem?_cons_zero, List.getElem?_cons_succ, List.set_cons_zero, List.set_cons_succ, Option.map_some, Option.map_none, Option.some.injEq, exists_eq_left', decide_eq_true_eq, Bool.not_true, Bool.not_false, Bool.false_eq_true, if_false, if_true, true_and, and_true, decide_true, decide_false, List.length_cons, List.length_nil, mx_0, mx_1, mx_2, mx_3, mx_4, mx_5, mx_6, mx_7, mx_8, mx_9, mx_10, mx_11, mx_12, mx_13, mx_14, mx_15, mx_16, mx_17, mx_18, mx_19, mx_20, mx_21, mx_22, mx_23, mx_24, Nat.reduceAdd, Nat.reduceLeDiff, Nat.zero_add, Bool.not_eq_true', decide_eq_false_iff_not, reduceIte, ev_reprb]
    refine ⟨1, whl1 ?_⟩
    simp only [wS, wE, wA, wT, wI, wO, ev_add, ev_sub, ev_mul, ev_div, ev_mod, ev_pow, ev_cat, ev_lt, ev_le, ev_gt, ev_ge, ev_eq, ev_ne, ev_eqs, ev_nes, ix_F0, ix_F1, ix_J0, ix_J1, ix_P0, ix_P1, ix_P2, ix_t0, ix_t1, ix_t2, ix_l0, ix_l1, ix_l2, tg_1, tg_F, tg_J, tg_P, tg_2, tg_3, tg_4, fold_J, eq_F, ne_F, eq_J, ne_J, eq_P, ne_P, db_, di_, setVals, setAll, datas, itemsD, truD, List.getElem?_cons_zero, List.getElem?_cons_succ, List.set_cons_zero, List.set_cons_succ, Option.map_some, Option.map_none, Option.some.injEq, exists_eq_left', decide_eq_true_eq, Bool.not_true, Bool.not_false, Bool.false_eq_true, if_false, if_true, true_and, and_true, decide_true, decide_false, List.length_cons, List.length_nil, mx_0, mx_1, mx_2, mx_3, mx_4, mx_5, mx_6, mx_7, mx_8, mx_9, mx_10, mx_11, mx_12, mx_13, mx_14, mx_15, mx_16, mx_17, mx_18, mx_19, mx_20, mx_21, mx_22, mx_23, mx_24, Nat.reduceAdd, Nat.reduceLeDiff, Nat.zero_add, Bool.not_eq_true', decide_eq_false_iff_not, reduceIte, ev_reprb]
    simp only [q_bound_value_3, wS, wE, wA, wT, wI, wO, ev_add, ev_sub, ev_mul, ev_div, ev_mod, ev_pow, ev_cat, ev_lt, ev_le, ev_gt, ev_ge, ev_eq, ev_ne, ev_eqs, ev_nes, ix_F0, ix_F1, ix_J0, ix_J1, ix_P0, ix_P1, ix_P2, ix_t0, ix_t1, ix_t2, ix_l0, ix_l1, ix_l2, tg_1, tg_F, tg_J, tg_P, tg_2, tg_3, tg_4, fold_J, eq_F, ne_F, eq_J, ne_J, eq_P, ne_P, db_, di_, setVals, setAll, datas, itemsD, truD, List.getElem?_cons_zero, List.getElem?_cons_succ, List.set_cons_zero, List.set_cons_succ, Option.map_some, Option.map_none, Option.some.injEq, exists_eq_left', decide_eq_true_eq, Bool.not_true, Bool.not_false, Bool.false_eq_true, if_false, if_true, true_and, and_true, decide_true, decide_false, List.length_cons, List.length_nil, mx_0, mx_1, mx_2, mx_3, mx_4, mx_5, mx_6, mx_7, mx_8, mx_9, mx_10, mx_11, mx_12, mx_13, mx_14, mx_15, mx_16, mx_17, mx_18, mx_19, mx_20, mx_21, mx_22, mx_23, mx_24, Nat.reduceAdd, Nat.reduceLeDiff, Nat.zero_add, Bool.not_eq_true', decide_eq_false_iff_not, reduceIte, ev_reprb, e75, ap_value_at]
    exact ⟨zc, zd, ze, by walk_at "sz", hv⟩
  cases a
  all_goals simp only [Ask.pts, Ask.bv, Ask.kd] at hq hk ⊢
  · rename_i x y
    obtain ⟨h0, zx, zy⟩ := h
    exact one (by walk_at "sz") (by walk_at "sz") (zl0.mono (by decide)) hq
  · rename_i x y
    obtain ⟨h0, zx, zy⟩ := h
    exact one (by walk_at "sz") (by walk_at "sz") (zl0.mono (by decide)) hq
  · rename_i x y u v
    obtain ⟨h0, h1, zx, zy, zu, zv, zm, zk⟩ := h
    generalize kk x y u v = k at *
    generalize mm x y u v = m at *
    by_cases hkk : k ≤ 0
    · rw [if_pos hkk] at hq ⊢
      simp only [q_bound_value_2, wS, wE, wA, wT, wI, wO, ev_add, ev_sub, ev_mul, ev_div, ev_mod, ev_pow, ev_cat, ev_lt, ev_le, ev_gt, ev_ge, ev_eq, ev_ne, ev_eqs, ev_nes, ix_F0, ix_F1, ix_J0, ix_J1, ix_P0, ix_P1, ix_P2, ix_t0, ix_t1, ix_t2, ix_l0, ix_l1, ix_l2, tg_1, tg_F, tg_J, tg_P, tg_2, tg_3, tg_4, fold_J, eq_F, ne_F, eq_J, ne_J, eq_P, ne_P, db_, di_, setVals, setAll, datas, itemsD, truD, List.getElem?_cons_zero, List.getElem?_cons_succ, List.set_cons_zero, List.set_cons_succ, Option.map_some, Option.map_none, Option.some.injEq, exists_eq_left', decide_eq_true_eq, Bool.not_true, Bool.not_false, Bool.false_eq_true, if_false, if_true, true_and, and_true, decide_true, decide_false, List.length_cons, List.length_nil, mx_0, mx_1, mx_2, mx_3, mx_4, mx_5, mx_6, mx_7, mx_8, mx_9, mx_10, mx_11, mx_12, mx_13, mx_14, mx_15, mx_16, mx_17, mx_18, mx_19, mx_20, mx_21, mx_22, mx_23, mx_24, Nat.reduceAdd, Nat.reduceLeDiff, Nat.zero_add, Bool.not_eq_true', decide_eq_false_iff_not, reduceIte, ev_reprb]
      refine ⟨2, whl1 ?_⟩
      have notN_F : ∀ q : Rat, (match F q with | .none => false | _ => true) = true := fun _ => rfl
      simp only [wS, wE, wA, wT, wI, wO, ev_add, ev_sub, ev_mul, ev_div, ev_mod, ev_pow, ev_cat, ev_lt, ev_le, ev_gt, ev_ge, ev_eq, ev_ne, ev_eqs, ev_nes, ix_F0, ix_F1, ix_J0, ix_J1, ix_P0, ix_P1, ix_P2, ix_t0, ix_t1, ix_t2, ix_l0, ix_l1, ix_l2, tg_1, tg_F, tg_J, tg_P, tg_2, tg_3, tg_4, fold_J, eq_F, ne_F, eq_J, ne_J, eq_P, ne_P, db_, di_, setVals, setAll, datas, itemsD, truD, List.getElem?_cons_zero, List.getElem?_cons_succ, List.set_cons_zero, List.set_cons_succ, Option.map_some, Option.map_none, Option.some.injEq, exists_eq_left', decide_eq_true_eq, Bool.not_true, Bool.not_false, Bool.false_eq_true, if_false, if_true, true_and, and_true, decide_true, decide_false, List.length_cons, List.length_nil, mx_0, mx_1, mx_2, mx_3, mx_4, mx_5, mx_6, mx_7, mx_8, mx_9, mx_10, mx_11, mx_12, mx_13, mx_14, mx_15, mx_16, mx_17, mx_18, mx_19, mx_20, mx_21, mx_22, mx_23, mx_24, Nat.reduceAdd, Nat.reduceLeDiff, Nat.zero_add, Bool.not_eq_true', decide_eq_false_iff_not, reduceIte, ev_reprb, e91, ap_is_below, notN_F, lnP]
      refine ⟨by walk_at "sz", by walk_at "sz", ?_⟩
      split
      · rename_i hl
        rw [if_pos hl] at hq
        simp only [q_bound_value_2_b_0, wS, wE, wA, wT, wI, wO, ev_add, ev_sub, ev_mul, ev_div, ev_mod, ev_pow, ev_cat, ev_lt, ev_le, ev_gt, ev_ge, ev_eq, ev_ne, ev_eqs, ev_nes, ix_F0, ix_F1, ix_J0, ix_J1, ix_P0, ix_P1, ix_P2, ix_t0, ix_t1, ix_t2, ix_l0, ix_l1, ix_l2, tg_1, tg_F, tg_J, tg_P, tg_2, tg_3, tg_4, fold_J, eq_F, ne_F, eq_J, ne_J, eq_P, ne_P, db_, di_, setVals, setAll, datas, itemsD, truD, List.getElem?_cons_zero, List.getElem?_cons_succ, List.set_cons_zero, List.set_cons_succ, Option.map_some, Option.map_none, Option.some.injEq, exists_eq_left', decide_eq_true_eq, Bool.not_true, Bool.not_false, Bool.false_eq_true, if_false, if_true, true_and, and_true, decide_true, decide_false, List.length_cons, List.length_nil, mx_0, mx_1, mx_2, mx_3, mx_4, mx_5, mx_6, mx_7, mx_8, mx_9, mx_10, mx_11, mx_12, mx_13, mx_14, mx_15, mx_16, mx_17, mx_18, mx_19, mx_20, mx_21, mx_22, mx_23, mx_24, Nat.reduceAdd, Nat.reduceLeDiff, Nat.zero_add, Bool.not_eq_true', decide_eq_false_iff_not, reduceIte, ev_reprb, Int.reduceAdd]
        refine whl1 ?_
        simp only [Int.reduceAdd, wS, wE, wA, wT, wI, wO, ev_add, ev_sub, ev_mul, ev_div, ev_mod, ev_pow, ev_cat, ev_lt, ev_le, ev_gt, ev_ge, ev_eq, ev_ne, ev_eqs, ev_nes, ix_F0, ix_F1, ix_J0, ix_J1, ix_P0, ix_P1, ix_P2, ix_t0, ix_t1, ix_t2, ix_l0, ix_l1, ix_l2, tg_1, tg_F, tg_J, tg_P, tg_2, tg_3, tg_4, fold_J, eq_F, ne_F, eq_J, ne_J, eq_P, ne_P, db_, di_, setVals, setAll, datas, itemsD, truD, List.getElem?_cons_zero, List.getElem?_cons_succ, List.set_cons_zero, List.set_cons_succ, Option.map_some, Option.map_none, Option.some.injEq, exists_eq_left', decide_eq_true_eq, Bool.not_true, Bool.not_false, Bool.false_eq_true, if_false, if_true, true_and, and_true, decide_true, decide_false, List.length_cons, List.length_nil, mx_0, mx_1, mx_2, mx_3, mx_4, mx_5, mx_6, mx_7, mx_8, mx_9, mx_10, mx_11, mx_12, mx_13, mx_14, mx_15, mx_16, mx_17, mx_18, mx_19, mx_20, mx_21, mx_22, mx_23, mx_24, Nat.reduceAdd, Nat.reduceLeDiff, Nat.zero_add, Bool.not_eq_true', decide_eq_false_iff_not, reduceIte, ev_reprb]
        simp only [q_bound_value_3, wS, wE, wA, wT, wI, wO, ev_add, ev_sub, ev_mul, ev_div, ev_mod, ev_pow, ev_cat, ev_lt, ev_le, ev_gt, ev_ge, ev_eq, ev_ne, ev_eqs, ev_nes, ix_F0, ix_F1, ix_J0, ix_J1, ix_P0, ix_P1, ix_P2, ix_t0, ix_t1, ix_t2, ix_l0, ix_l1, ix_l2, tg_1, tg_F, tg_J, tg_P, tg_2, tg_3, tg_4, fold_J, eq_F, ne_F, eq_J, ne_J, eq_P, ne_P, db_, di_, setVals, setAll, datas, itemsD, truD, List.getElem?_cons_zero, List.getElem?_cons_succ, List.set_cons_zero, List.set_cons_succ, Option.map_some, Option.map_none, Option.some.injEq, exists_eq_left', decide_eq_true_eq, Bool.not_true, Bool.not_false, Bool.false_eq_true, if_false, if_true, true_and, and_true, decide_true, decide_false, List.length_cons, List.length_nil, mx_0, mx_1, mx_2, mx_3, mx_4, mx_5, mx_6, mx_7, mx_8, mx_9, mx_10, mx_11, mx_12, mx_13, mx_14, mx_15, mx_16, mx_17, mx_18, mx_19, mx_20, mx_21, mx_22, mx_23, mx_24, Nat.reduceAdd, Nat.reduceLeDiff, Nat.zero_add, Bool.not_eq_true', decide_eq_false_iff_not, reduceIte, ev_reprb, e75, ap_value_at]
        exact ⟨by walk_at "sz", by walk_at "sz", zl0.mono (by decide), by walk_at "sz", hq⟩
      · rename_i hl
        rw [if_neg hl] at hq
        simp only [q_bound_value_3, wS, wE, wA, wT, wI, wO, ev_add, ev_sub, ev_mul, ev_div, ev_mod, ev_pow, ev_cat, ev_lt, ev_le, ev_gt, ev_ge, ev_eq, ev_ne, ev_eqs, ev_nes, ix_F0, ix_F1, ix_J0, ix_J1, ix_P0, ix_P1, ix_P2, ix_t0, ix_t1, ix_t2, ix_l0, ix_l1, ix_l2, tg_1, tg_F, tg_J, tg_P, tg_2, tg_3, tg_4, fold_J, eq_F, ne_F, eq_J, ne_J, eq_P, ne_P, db_, di_, setVals, setAll, datas, itemsD, truD, List.getElem?_cons_zero, List.getElem?_cons_succ, List.set_cons_zero, List.set_cons_succ, Option.map_some, Option.map_none, Option.some.injEq, exists_eq_left', decide_eq_true_eq, Bool.not_true, Bool.not_false, Bool.false_eq_true, if_false, if_true, true_and, and_true, decide_true, decide_false, List.length_cons, List.length_nil, mx_0, mx_1, mx_2, mx_3, mx_4, mx_5, mx_6, mx_7, mx_8, mx_9, mx_10, mx_11, mx_12, mx_13, mx_14, mx_15, mx_16, mx_17, mx_18, mx_19, mx_20, mx_21, mx_22, mx_23, mx_24, Nat.reduceAdd, Nat.reduceLeDiff, Nat.zero_add, Bool.not_eq_true', decide_eq_false_iff_not, reduceIte, ev_reprb, e75, ap_value_at]
        exact ⟨by walk_at "sz", by walk_at "sz", zl0.mono (by decide), by walk_at "sz", hq⟩
    · rw [if_neg hkk] at hq ⊢
      simp only [q_bound_value_2, wS, wE, wA, wT, wI, wO, ev_add, ev_sub, ev_mul, ev_div, ev_mod, ev_pow, ev_cat, ev_lt, ev_le, ev_gt, ev_ge, ev_eq, ev_ne, ev_eqs, ev_nes, ix_F0, ix_F1, ix_J0, ix_J1, ix_P0, ix_P1, ix_P2, ix_t0, ix_t1, ix_t2, ix_l0, ix_l1, ix_l2, tg_1, tg_F, tg_J, tg_P, tg_2, tg_3, tg_4, fold_J, eq_F, ne_F, eq_J, ne_J, eq_P, ne_P, db_, di_, setVals, setAll, datas, itemsD, truD, List.getElem?_cons_zero, List.getElem?_cons_succ, List.set_cons_zero, List.set_cons_succ, Option.map_some, Option.map_none, Option.some.injEq, exists_eq_left', decide_eq_true_eq, Bool.not_true, Bool.not_false, Bool.false_eq_true, if_false, if_true, true_and, and_true, decide_true, decide_false, List.length_cons, List.length_nil, mx_0, mx_1, mx_2, mx_3, mx_4, mx_5, mx_6, mx_7, mx_8, mx_9, mx_10, mx_11, mx_12, mx_13, mx_14, mx_15, mx_16, mx_17, mx_18, mx_19, mx_20, mx_21, mx_22, mx_23, mx_24, Nat.reduceAdd, Nat.reduceLeDiff, Nat.zero_add, Bool.not_eq_true', decide_eq_false_iff_not, reduceIte, ev_reprb]
      refine ⟨3, whl1 ?_⟩
      have notN_F : ∀ q : Rat, (match F q with | .none => false | _ => true) = true := fun _ => rfl
      simp only [wS, wE, wA, wT, wI, wO, ev_add, ev_sub, ev_mul, ev_div, ev_mod, ev_pow, ev_cat, ev_lt, ev_le, ev_gt, ev_ge, ev_eq, ev_ne, ev_eqs, ev_nes, ix_F0, ix_F1, ix_J0, ix_J1, ix_P0, ix_P1, ix_P2, ix_t0, ix_t1, ix_t2, ix_l0, ix_l1, ix_l2, tg_1, tg_F, tg_J, tg_P, tg_2, tg_3, tg_4, fold_J, eq_F, ne_F, eq_J, ne_J, eq_P, ne_P, db_, di_, setVals, setAll, datas, itemsD, truD, List.getElem?_cons_zero, List.getElem?_cons_succ, List.set_cons_zero, List.set_cons_succ, Option.map_some, Option.map_none, Option.some.injEq, exists_eq_left', decide_eq_true_eq, Bool.not_true, Bool.not_false, Bool.false_eq_true, if_false, if_true, true_and, and_true, decide_true, decide_false, List.length_cons, List.length_nil, mx_0, mx_1, mx_2, mx_3, mx_4, mx_5, mx_6, mx_7, mx_8, mx_9, mx_10, mx_11, mx_12, mx_13, mx_14, mx_15, mx_16, mx_17, mx_18, mx_19, mx_20, mx_21, mx_22, mx_23, mx_24, Nat.reduceAdd, Nat.reduceLeDiff, Nat.zero_add, Bool.not_eq_true', decide_eq_false_iff_not, reduceIte, ev_reprb, e91, ap_is_below, notN_F, lnP, arc]
      refine ⟨by walk_at "sz", by walk_at "sz", ?_⟩
      split
      · rename_i hl
        rw [if_pos hl] at hq
        simp only [q_bound_value_2_b_0, wS, wE, wA, wT, wI, wO, ev_add, ev_sub, ev_mul, ev_div, ev_mod, ev_pow, ev_cat, ev_lt, ev_le, ev_gt, ev_ge, ev_eq, ev_ne, ev_eqs, ev_nes, ix_F0, ix_F1, ix_J0, ix_J1, ix_P0, ix_P1, ix_P2, ix_t0, ix_t1, ix_t2, ix_l0, ix_l1, ix_l2, tg_1, tg_F, tg_J, tg_P, tg_2, tg_3, tg_4, fold_J, eq_F, ne_F, eq_J, ne_J, eq_P, ne_P, db_, di_, setVals, setAll, datas, itemsD, truD, List.getElem?_cons_zero, List.getElem?_cons_succ, List.set_cons_zero, List.set_cons_succ, Option.map_some, Option.map_none, Option.some.injEq, exists_eq_left', decide_eq_true_eq, Bool.not_true, Bool.not_false, Bool.false_eq_true, if_false, if_true, true_and, and_true, decide_true, decide_false, List.length_cons, List.length_nil, mx_0, mx_1, mx_2, mx_3, mx_4, mx_5, mx_6, mx_7, mx_8, mx_9, mx_10, mx_11, mx_12, mx_13, mx_14, mx_15, mx_16, mx_17, mx_18, mx_19, mx_20, mx_21, mx_22, mx_23, mx_24, Nat.reduceAdd, Nat.reduceLeDiff, Nat.zero_add, Bool.not_eq_true', decide_eq_false_iff_not, reduceIte, ev_reprb, Int.reduceAdd]
        refine whl1 ?_
        simp only [Int.reduceAdd, wS, wE, wA, wT, wI, wO, ev_add, ev_sub, ev_mul, ev_div, ev_mod, ev_pow, ev_cat, ev_lt, ev_le, ev_gt, ev_ge, ev_eq, ev_ne, ev_eqs, ev_nes, ix_F0, ix_F1, ix_J0, ix_J1, ix_P0, ix_P1, ix_P2, ix_t0, ix_t1, ix_t2, ix_l0, ix_l1, ix_l2, tg_1, tg_F, tg_J, tg_P, tg_2, tg_3, tg_4, fold_J, eq_F, ne_F, eq_J, ne_J, eq_P, ne_P, db_, di_, setVals, setAll, datas, itemsD, truD, List.getElem?_cons_zero, List.getElem?_cons_succ, List.set_cons_zero, List.set_cons_succ, Option.map_some, Option.map_none, Option.some.injEq, exists_eq_left', decide_eq_true_eq, Bool.not_true, Bool.not_false, Bool.false_eq_true, if_false, if_true, true_and, and_true, decide_true, decide_false, List.length_cons, List.length_nil, mx_0, mx_1, mx_2, mx_3, mx_4, mx_5, mx_6, mx_7, mx_8, mx_9, mx_10, mx_11, mx_12, mx_13, mx_14, mx_15, mx_16, mx_17, mx_18, mx_19, mx_20, mx_21, mx_22, mx_23, mx_24, Nat.reduceAdd, Nat.reduceLeDiff, Nat.zero_add, Bool.not_eq_true', decide_eq_false_iff_not, reduceIte, ev_reprb, e91, ap_is_below, notN_F]
        refine ⟨by walk_at "sz", by walk_at "sz", ?_⟩
        split
        · rename_i hl2
          rw [if_pos hl2] at hq
          refine whl1 ?_
          simp only [wS, wE, wA, wT, wI, wO, ev_add, ev_sub, ev_mul, ev_div, ev_mod, ev_pow, ev_cat, ev_lt, ev_le, ev_gt, ev_ge, ev_eq, ev_ne, ev_eqs, ev_nes, ix_F0, ix_F1, ix_J0, ix_J1, ix_P0, ix_P1, ix_P2, ix_t0, ix_t1, ix_t2, ix_l0, ix_l1, ix_l2, tg_1, tg_F, tg_J, tg_P, tg_2, tg_3, tg_4, fold_J, eq_F, ne_F, eq_J, ne_J, eq_P, ne_P, db_, di_, setVals, setAll, datas, itemsD, truD, List.getElem?_cons_zero, List.getElem?_cons_succ, List.set_cons_zero, List.set_cons_succ, Option.map_some, Option.map_none, Option.some.injEq, exists_eq_left', decide_eq_true_eq, Bool.not_true, Bool.not_false, Bool.false_eq_true, if_false, if_true, true_and, and_true, decide_true, decide_false, List.length_cons, List.length_nil, mx_0, mx_1, mx_2, mx_3, mx_4, mx_5, mx_6, mx_7, mx_8, mx_9, mx_10, mx_11, mx_12, mx_13, mx_14, mx_15, mx_16, mx_17, mx_18, mx_19, mx_20, mx_21, mx_22, mx_23, mx_24, Nat.reduceAdd, Nat.reduceLeDiff, Nat.zero_add, Bool.not_eq_true', decide_eq_false_iff_not, reduceIte, ev_reprb]
          simp only [q_bound_value_3, wS, wE, wA, wT, wI, wO, ev_add, ev_sub, ev_mul, ev_div, ev_mod, ev_pow, ev_cat, ev_lt, ev_le, ev_gt, ev_ge, ev_eq, ev_ne, ev_eqs, ev_nes, ix_F0, ix_F1, ix_J0, ix_J1, ix_P0, ix_P1, ix_P2, ix_t0, ix_t1, ix_t2, ix_l0, ix_l1, ix_l2, tg_1, tg_F, tg_J, tg_P, tg_2, tg_3, tg_4, fold_J, eq_F, ne_F, eq_J, ne_J, eq_P, ne_P, db_, di_, setVals, setAll, datas, itemsD, truD, List.getElem?_cons_zero, List.getElem?_cons_succ, List.set_cons_zero, List.set_cons_succ, Option.map_some, Option.map_none, Option.some.injEq, exists_eq_left', decide_eq_true_eq, Bool.not_true, Bool.not_false, Bool.false_eq_true, if_false, if_true, true_and, and_true, decide_true, decide_false, List.length_cons, List.length_nil, mx_0, mx_1, mx_2, mx_3, mx_4, mx_5, mx_6, mx_7, mx_8, mx_9, mx_10, mx_11, mx_12, mx_13, mx_14, mx_15, mx_16, mx_17, mx_18, mx_19, mx_20, mx_21, mx_22, mx_23, mx_24, Nat.reduceAdd, Nat.reduceLeDiff, Nat.zero_add, Bool.not_eq_true', decide_eq_false_iff_not, reduceIte, ev_reprb, e75, ap_value_at]
          exact ⟨by walk_at "sz", by walk_at "sz", zl0.mono (by decide), by walk_at "sz", hq⟩
        · rename_i hl2
          rw [if_neg hl2] at hq
          simp only [q_bound_value_3, wS, wE, wA, wT, wI, wO, ev_add, ev_sub, ev_mul, ev_div, ev_mod, ev_pow, ev_cat, ev_lt, ev_le, ev_gt, ev_ge, ev_eq, ev_ne, ev_eqs, ev_nes, ix_F0, ix_F1, ix_J0, ix_J1, ix_P0, ix_P1, ix_P2, ix_t0, ix_t1, ix_t2, ix_l0, ix_l1, ix_l2, tg_1, tg_F, tg_J, tg_P, tg_2, tg_3, tg_4, fold_J, eq_F, ne_F, eq_J, ne_J, eq_P, ne_P, db_, di_, setVals, setAll, datas, itemsD, truD, List.getElem?_cons_zero, List.getElem?_cons_succ, List.set_cons_zero, List.set_cons_succ, Option.map_some, Option.map_none, Option.some.injEq, exists_eq_left', decide_eq_true_eq, Bool.not_true, Bool.not_false, Bool.false_eq_true, if_false, if_true, true_and, and_true, decide_true, decide_false, List.length_cons, List.length_nil, mx_0, mx_1, mx_2, mx_3, mx_4, mx_5, mx_6, mx_7, mx_8, mx_9, mx_10, mx_11, mx_12, mx_13, mx_14, mx_15, mx_16, mx_17, mx_18, mx_19, mx_20, mx_21, mx_22, mx_23, mx_24, Nat.reduceAdd, Nat.reduceLeDiff, Nat.zero_add, Bool.not_eq_true', decide_eq_false_iff_not, reduceIte, ev_reprb, e75, ap_value_at]
          exact ⟨by walk_at "sz", by walk_at "sz", by walk_at "sz", by walk_at "sz", hq⟩
      · rename_i hl
        rw [if_neg hl] at hq
        simp only [q_bound_value_3, wS, wE, wA, wT, wI, wO, ev_add, ev_sub, ev_mul, ev_div, ev_mod, ev_pow, ev_cat, ev_lt, ev_le, ev_gt, ev_ge, ev_eq, ev_ne, ev_eqs, ev_nes, ix_F0, ix_F1, ix_J0, ix_J1, ix_P0, ix_P1, ix_P2, ix_t0, ix_t1, ix_t2, ix_l0, ix_l1, ix_l2, tg_1, tg_F, tg_J, tg_P, tg_2, tg_3, tg_4, fold_J, eq_F, ne_F, eq_J, ne_J, eq_P, ne_P, db_, di_, setVals, setAll, datas, itemsD, truD, List.getElem?_cons_zero, List.getElem?_cons_succ, List.set_cons_zero, List.set_cons_succ, Option.map_some, Option.map_none, Option.some.injEq, exists_eq_left', decide_eq_true_eq, Bool.not_true, Bool.not_false, Bool.false_eq_true, if_false, if_true, true_and, and_true, decide_true, decide_false, List.length_cons, List.length_nil, mx_0, mx_1, mx_2, mx_3, mx_4, mx_5, mx_6, mx_7, mx_8, mx_9, mx_10, mx_11, mx_12, mx_13, mx_14, mx_15, mx_16, mx_17, mx_18, mx_19, mx_20, mx_21, mx_22, mx_23, mx_24, Nat.reduceAdd, Nat.reduceLeDiff, Nat.zero_add, Bool.not_eq_true', decide_eq_false_iff_not, reduceIte, ev_reprb, e75, ap_value_at]
        exact ⟨by walk_at "sz", by walk_at "sz", zl0.mono (by decide), by walk_at "sz", hq⟩
  · rename_i B
    obtain ⟨h0, zB⟩ := h
    simp only [q_bound_value_2, wS, wE, wA, wT, wI, wO, ev_add, ev_sub, ev_mul, ev_div, ev_mod, ev_pow, ev_cat, ev_lt, ev_le, ev_gt, ev_ge, ev_eq, ev_ne, ev_eqs, ev_nes, ix_F0, ix_F1, ix_J0, ix_J1, ix_P0, ix_P1, ix_P2, ix_t0, ix_t1, ix_t2, ix_l0, ix_l1, ix_l2, tg_1, tg_F, tg_J, tg_P, tg_2, tg_3, tg_4, fold_J, eq_F, ne_F, eq_J, ne_J, eq_P, ne_P, db_, di_, setVals, setAll, datas, itemsD, truD, List.getElem?_cons_zero, List.getElem?_cons_succ, List.set_cons_zero, List.set_cons_succ, Option.map_some, Option.map_none, Option.some.injEq, exists_eq_left', decide_eq_true_eq, Bool.not_true, Bool.not_false, Bool.false_eq_true, if_false, if_true, true_and, and_true, decide_true, decide_false, List.length_cons, List.length_nil, mx_0, mx_1, mx_2, mx_3, mx_4, mx_5, mx_6, mx_7, mx_8, mx_9, mx_10, mx_11, mx_12, mx_13, mx_14, mx_15, mx_16, mx_17, mx_18, mx_19, mx_20, mx_21, mx_22, mx_23, mx_24, Nat.reduceAdd, Nat.reduceLeDiff, Nat.zero_add, Bool.not_eq_true', decide_eq_false_iff_not, reduceIte, ev_reprb]
    refine ⟨2, whl1 ?_⟩
    have notN_F : ∀ q : Rat, (match F q with | .none => false | _ => true) = true := fun _ => rfl
    simp only [wS, wE, wA, wT, wI, wO, ev_add, ev_sub, ev_mul, ev_div, ev_mod, ev_pow, ev_cat, ev_lt, ev_le, ev_gt, ev_ge, ev_eq, ev_ne, ev_eqs, ev_nes, ix_F0, ix_F1, ix_J0, ix_J1, ix_P0, ix_P1, ix_P2, ix_t0, ix_t1, ix_t2, ix_l0, ix_l1, ix_l2, tg_1, tg_F, tg_J, tg_P, tg_2, tg_3, tg_4, fold_J, eq_F, ne_F, eq_J, ne_J, eq_P, ne_P, db_, di_, setVals, setAll, datas, itemsD, truD, List.getElem?_cons_zero, List.getElem?_cons_succ, List.set_cons_zero, List.set_cons_succ, Option.map_some, Option.map_none, Option.some.injEq, exists_eq_left', decide_eq_true_eq, Bool.not_true, Bool.not_false, Bool.false_eq_true, if_false, if_true, true_and, and_true, decide_true, decide_false, List.length_cons, List.length_nil, mx_0, mx_1, mx_2, mx_3, mx_4, mx_5, mx_6, mx_7, mx_8, mx_9, mx_10, mx_11, mx_12, mx_13, mx_14, mx_15, mx_16, mx_17, mx_18, mx_19, mx_20, mx_21, mx_22, mx_23, mx_24, Nat.reduceAdd, Nat.reduceLeDiff, Nat.zero_add, Bool.not_eq_true', decide_eq_false_iff_not, reduceIte, ev_reprb, e91, ap_is_below, notN_F]
    refine ⟨by walk_at "sz", by walk_at "sz", ?_⟩
    split
    · rename_i hl
      rw [if_pos hl] at hq
      simp only [q_bound_value_2_b_0, wS, wE, wA, wT, wI, wO, ev_add, ev_sub, ev_mul, ev_div, ev_mod, ev_pow, ev_cat, ev_lt, ev_le, ev_gt, ev_ge, ev_eq, ev_ne, ev_eqs, ev_nes, ix_F0, ix_F1, ix_J0, ix_J1, ix_P0, ix_P1, ix_P2, ix_t0, ix_t1, ix_t2, ix_l0, ix_l1, ix_l2, tg_1, tg_F, tg_J, tg_P, tg_2, tg_3, tg_4, fold_J, eq_F, ne_F, eq_J, ne_J, eq_P, ne_P, db_, di_, setVals, setAll, datas, itemsD, truD, List.getElem?_cons_zero, List.getElem?_cons_succ, List.set_cons_zero, List.set_cons_succ, Option.map_some, Option.map_none, Option.some.injEq, exists_eq_left', decide_eq_true_eq, Bool.not_true, Bool.not_false, Bool.false_eq_true, if_false, if_true, true_and, and_true, decide_true, decide_false, List.length_cons, List.length_nil, mx_0, mx_1, mx_2, mx_3, mx_4, mx_5, mx_6, mx_7, mx_8, mx_9, mx_10, mx_11, mx_12, mx_13, mx_14, mx_15, mx_16, mx_17, mx_18, mx_19, mx_20, mx_21, mx_22, mx_23, mx_24, Nat.reduceAdd, Nat.reduceLeDiff, Nat.zero_add, Bool.not_eq_true', decide_eq_false_iff_not, reduceIte, ev_reprb, Int.reduceAdd]
      refine whl1 ?_
      simp only [Int.reduceAdd, wS, wE, wA, wT, wI, wO, ev_add, ev_sub, ev_mul, ev_div, ev_mod, ev_pow, ev_cat, ev_lt, ev_le, ev_gt, ev_ge, ev_eq, ev_ne, ev_eqs, ev_nes, ix_F0, ix_F1, ix_J0, ix_J1, ix_P0, ix_P1, ix_P2, ix_t0, ix_t1, ix_t2, ix_l0, ix_l1, ix_l2, tg_1, tg_F, tg_J, tg_P, tg_2, tg_3, tg_4, fold_J, eq_F, ne_F, eq_J, ne_J, eq_P, ne_P, db_, di_, setVals, setAll, datas, itemsD, truD, List.getElem?_cons_zero, List.getElem?_cons_succ, List.set_cons_zero, List.set_cons_succ, Option.map_some, Option.map_none, Option.some.injEq, exists_eq_left', decide_eq_true_eq, Bool.not_true, Bool.not_false, Bool.false_eq_true, if_false, if_true, true_and, and_true, decide_true, decide_false, List.length_cons, List.length_nil, mx_0, mx_1, mx_2, mx_3, mx_4, mx_5, mx_6, mx_7, mx_8, mx_9, mx_10, mx_11, mx_12, mx_13, mx_14, mx_15, mx_16, mx_17, mx_18, mx_19, mx_20, mx_21, mx_22, mx_23, mx_24, Nat.reduceAdd, Nat.reduceLeDiff, Nat.zero_add, Bool.not_eq_true', decide_eq_false_iff_not, reduceIte, ev_reprb]
      simp only [q_bound_value_3, wS, wE, wA, wT, wI, wO, ev_add, ev_sub, ev_mul, ev_div, ev_mod, ev_pow, ev_cat, ev_lt, ev_le, ev_gt, ev_ge, ev_eq, ev_ne, ev_eqs, ev_nes, ix_F0, ix_F1, ix_J0, ix_J1, ix_P0, ix_P1, ix_P2, ix_t0, ix_t1, ix_t2, ix_l0, ix_l1, ix_l2, tg_1, tg_F, tg_J, tg_P, tg_2, tg_3, tg_4, fold_J, eq_F, ne_F, eq_J, ne_J, eq_P, ne_P, db_, di_, setVals, setAll, datas, itemsD, truD, List.getElem?_cons_zero, List.getElem?_cons_succ, List.set_cons_zero, List.set_cons_succ, Option.map_some, Option.map_none, Option.some.injEq, exists_eq_left', decide_eq_true_eq, Bool.not_true, Bool.not_false, Bool.false_eq_true, if_false, if_true, true_and, and_true, decide_true, decide_false, List.length_cons, List.length_nil, mx_0, mx_1, mx_2, mx_3, mx_4, mx_5, mx_6, mx_7, mx_8, mx_9, mx_10, mx_11, mx_12, mx_13, mx_14, mx_15, mx_16, mx_17, mx_18, mx_19, mx_20, mx_21, mx_22, mx_23, mx_24, Nat.reduceAdd, Nat.reduceLeDiff, Nat.zero_add, Bool.not_eq_true', decide_eq_false_iff_not, reduceIte, ev_reprb, e75, ap_value_at]
      exact ⟨by walk_at "sz", by walk_at "sz", by walk_at "sz", by walk_at "sz", hq⟩
    · rename_i hl
      rw [if_neg hl] at hq
      simp only [q_bound_value_3, wS, wE, wA, wT, wI, wO, ev_add, ev_sub, ev_mul, ev_div, ev_mod, ev_pow, ev_cat, ev_lt, ev_le, ev_gt, ev_ge, ev_eq, ev_ne, ev_eqs, ev_nes, ix_F0, ix_F1, ix_J0, ix_J1, ix_P0, ix_P1, ix_P2, ix_t0, ix_t1, ix_t2, ix_l0, ix_l1, ix_l2, tg_1, tg_F, tg_J, tg_P, tg_2, tg_3, tg_4, fold_J, eq_F, ne_F, eq_J, ne_J, eq_P, ne_P, db_, di_, setVals, setAll, datas, itemsD, truD, List.getElem?_cons_zero, List.getElem?_cons_succ, List.set_cons_zero, List.set_cons_succ, Option.map_some, Option.map_none, Option.some.injEq, exists_eq_left', decide_eq_true_eq, Bool.not_true, Bool.not_false, Bool.false_eq_true, if_false, if_true, true_and, and_true, decide_true, decide_false, List.length_cons, List.length_nil, mx_0, mx_1, mx_2, mx_3, mx_4, mx_5, mx_6, mx_7, mx_8, mx_9, mx_10, mx_11, mx_12, mx_13, mx_14, mx_15, mx_16, mx_17, mx_18, mx_19, mx_20, mx_21, mx_22, mx_23, mx_24, Nat.reduceAdd, Nat.reduceLeDiff, Nat.zero_add, Bool.not_eq_true', decide_eq_false_iff_not, reduceIte, ev_reprb, e75, ap_value_at]
      exact ⟨by walk_at "sz", by walk_at "sz", by walk_at "sz", by walk_at "sz", hq⟩
  · rename_i X M
    obtain ⟨h0, zX, zM⟩ := h
    split at hk
    · exact absurd rfl hk
    · rename_i e
      rw [if_neg e]
      exact one (by walk_at "sz") (by walk_at "sz") (zl0.mono (by decide)) hq
  · rename_i X M
    obtain ⟨h0, zX, zM⟩ := h
    split at hk
    · exact absurd rfl hk
    · rename_i e
      rw [if_neg e]
      exact one (by walk_at "sz") (by walk_at "sz") (zl0.mono (by decide)) hq
  · rename_i B
    obtain ⟨h0, zB⟩ := h
    exact one (zB.mono (by decide)) (zl0.mono (by decide)) (zl0.mono (by decide)) hq
  · rename_i B
    obtain ⟨h0, zB⟩ := h
    exact one (zB.mono (by decide)) (zl0.mono (by decide)) (zl0.mono (by decide)) hq
theorem sem_keeps_upright (e91 : Φ 91 = sp_is_below) : ∀ ds Q, sp_keeps_upright ds Q → wS Φ rs_keeps_upright { nx := fun _ => Q (.d .none), rt := Q } (startD ["x0", "x1"] ds) := by
  rintro ds Q ⟨a, s, rfl, zs, ⟨X, M, rfl, zM, hq⟩ | ⟨X, M, rfl, zM, hq⟩⟩
  · show wS Φ rs_keeps_upright _ [some (.val (.d (Ask.dives X M).dat)), some (.val (.d (F s)))]
    simp only [Ask.dat, rs_keeps_upright, wS, wE, wA, wT, wI, wO, ev_add, ev_sub, ev_mul, ev_div, ev_mod, ev_pow, ev_cat, ev_lt, ev_le, ev_gt, ev_ge, ev_eq, ev_ne, ev_eqs, ev_nes, ix_F0, ix_F1, ix_J0, ix_J1, ix_P0, ix_P1, ix_P2, ix_t0, ix_t1, ix_t2, ix_l0, ix_l1, ix_l2, tg_1, tg_F, tg_J, tg_P, tg_2, tg_3, tg_4, fold_J, eq_F, ne_F, eq_J, ne_J, eq_P, ne_P, db_, di_, setVals, setAll, datas, itemsD, truD, List.getElem?_cons_zero, List.getElem?_cons_succ, List.set_cons_zero, List.set_cons_succ, Option.map_some, Option.map_none, Option.some.injEq, exists_eq_left', decide_eq_true_eq, Bool.not_true, Bool.not_false, Bool.false_eq_true, if_false, if_true, true_and, and_true, decide_true, decide_false, List.length_cons, List.length_nil, mx_0, mx_1, mx_2, mx_3, mx_4, mx_5, mx_6, mx_7, mx_8, mx_9, mx_10, mx_11, mx_12, mx_13, mx_14, mx_15, mx_16, mx_17, mx_18, mx_19, mx_20, mx_21, mx_22, mx_23, mx_24, Nat.reduceAdd, Nat.reduceLeDiff, Nat.zero_add, Bool.not_eq_true', decide_eq_false_iff_not, reduceIte, ev_reprb, we_over_over, wn_over_under, we_over_under, wn_over_roof, we_over_roof, wn_over_low, we_over_low, wn_over_dives, we_over_dives, wn_over_climbs, we_over_climbs, wn_over_quick, we_over_quick, wn_over_slow, we_over_slow, wn_under_over, we_under_over, we_under_under, wn_under_roof, we_under_roof, wn_under_low, we_under_low, wn_under_dives, we_under_dives, wn_under_climbs, we_under_climbs, wn_under_quick, we_under_quick, wn_under_slow, we_under_slow, wn_roof_over, we_roof_over, wn_roof_under, we_roof_under, we_roof_roof, wn_roof_low, we_roof_low, wn_roof_dives, we_roof_dives, wn_roof_climbs, we_roof_climbs, wn_roof_quick, we_roof_quick, wn_roof_slow, we_roof_slow, wn_low_over, we_low_over, wn_low_under, we_low_under, wn_low_roof, we_low_roof, we_low_low, wn_low_dives, we_low_dives, wn_low_climbs, we_low_climbs, wn_low_quick, we_low_quick, wn_low_slow, we_low_slow, wn_dives_over, we_dives_over, wn_dives_under, we_dives_under, wn_dives_roof, we_dives_roof, wn_dives_low, we_dives_low, we_dives_dives, wn_dives_climbs, we_dives_climbs, wn_dives_quick, we_dives_quick, wn_dives_slow, we_dives_slow, wn_climbs_over, we_climbs_over, wn_climbs_under, we_climbs_under, wn_climbs_roof, we_climbs_roof, wn_climbs_low, we_climbs_low, wn_climbs_dives, we_climbs_dives, we_climbs_climbs, wn_climbs_quick, we_climbs_quick, wn_climbs_slow, we_climbs_slow, wn_quick_over, we_quick_over, wn_quick_under, we_quick_under, wn_quick_roof, we_quick_roof, wn_quick_low, we_quick_low, wn_quick_dives, we_quick_dives, wn_quick_climbs, we_quick_climbs, we_quick_quick, wn_quick_slow, we_quick_slow, wn_slow_over, we_slow_over, wn_slow_under, we_slow_under, wn_slow_roof, we_slow_roof, wn_slow_low, we_slow_low, wn_slow_dives, we_slow_dives, wn_slow_climbs, we_slow_climbs, wn_slow_quick, we_slow_quick, we_slow_slow, we_upright_upright, wn_upright_upper, we_upright_upper, wn_upright_lower, we_upright_lower, wn_upper_upright, we_upper_upright, we_upper_upper, wn_upper_lower, we_upper_lower, wn_lower_upright, we_lower_upright, wn_lower_upper, we_lower_upper, we_lower_lower, we_least_least, wn_least_most, we_least_most, wn_least_all, we_least_all, wn_least_none, we_least_none, wn_most_least, we_most_least, we_most_most, wn_most_all, we_most_all, wn_most_none, we_most_none, wn_all_least, we_all_least, wn_all_most, we_all_most, we_all_all, wn_all_none, we_all_none, wn_none_least, we_none_least, wn_none_most, we_none_most, wn_none_all, we_none_all, we_none_none, ev_inn, ev_innl, ev_nin, flat_s, flat_i, List.all_cons, List.all_nil, List.any_cons, List.any_nil, Bool.or_false, Bool.false_or, Bool.or_true, Bool.true_or, Bool.and_self, eqv_int, ev_is, ev_isnt, reduceCtorEq, e91, ap_is_below]
    exact ⟨by walk_at "sz", by walk_at "sz", hq⟩
  · show wS Φ rs_keeps_upright _ [some (.val (.d (Ask.climbs X M).dat)), some (.val (.d (F s)))]
    simp only [Ask.dat, rs_keeps_upright, wS, wE, wA, wT, wI, wO, ev_add, ev_sub, ev_mul, ev_div, ev_mod, ev_pow, ev_cat, ev_lt, ev_le, ev_gt, ev_ge, ev_eq, ev_ne, ev_eqs, ev_nes, ix_F0, ix_F1, ix_J0, ix_J1, ix_P0, ix_P1, ix_P2, ix_t0, ix_t1, ix_t2, ix_l0, ix_l1, ix_l2, tg_1, tg_F, tg_J, tg_P, tg_2, tg_3, tg_4, fold_J, eq_F, ne_F, eq_J, ne_J, eq_P, ne_P, db_, di_, setVals, setAll, datas, itemsD, truD, List.getElem?_cons_zero, List.getElem?_cons_succ, List.set_cons_zero, List.set_cons_succ, Option.map_some, Option.map_none, Option.some.injEq, exists_eq_left', decide_eq_true_eq, Bool.not_true, Bool.not_false, Bool.false_eq_true, if_false, if_true, true_and, and_true, decide_true, decide_false, List.length_cons, List.length_nil, mx_0, mx_1, mx_2, mx_3, mx_4, mx_5, mx_6, mx_7, mx_8, mx_9, mx_10, mx_11, mx_12, mx_13, mx_14, mx_15, mx_16, mx_17, mx_18, mx_19, mx_20, mx_21, mx_22, mx_23, mx_24, Nat.reduceAdd, Nat.reduceLeDiff, Nat.zero_add, Bool.not_eq_true', decide_eq_false_iff_not, reduceIte, ev_reprb, we_over_over, wn_over_under, we_over_under, wn_over_roof, we_over_roof, wn_over_low, we_over_low, wn_over_dives, we_over_dives, wn_over_climbs, we_over_climbs, wn_over_quick, we_over_quick, wn_over_slow, we_over_slow, wn_under_over, we_under_over, we_under_under, wn_under_roof, we_under_roof, wn_under_low, we_under_low, wn_under_dives, we_under_dives, wn_under_climbs, we_under_climbs, wn_under_quick, we_under_quick, wn_under_slow, we_under_slow, wn_roof_over, we_roof_over, wn_roof_under, we_roof_under, we_roof_roof, wn_roof_low, we_roof_low, wn_roof_dives, we_roof_dives, wn_roof_climbs, we_roof_climbs, wn_roof_quick, we_roof_quick, wn_roof_slow, we_roof_slow, wn_low_over, we_low_over, wn_low_under, we_low_under, wn_low_roof, we_low_roof, we_low_low, wn_low_dives, we_low_dives, wn_low_climbs, we_low_climbs, wn_low_quick, we_low_quick, wn_low_slow, we_low_slow, wn_dives_over, we_dives_over, wn_dives_under, we_dives_under, wn_dives_roof, we_dives_roof, wn_dives_low, we_dives_low, we_dives_dives, wn_dives_climbs, we_dives_climbs, wn_dives_quick, we_dives_quick, wn_dives_slow, we_dives_slow, wn_climbs_over, we_climbs_over, wn_climbs_under, we_climbs_under, wn_climbs_roof, we_climbs_roof, wn_climbs_low, we_climbs_low, wn_climbs_dives, we_climbs_dives, we_climbs_climbs, wn_climbs_quick, we_climbs_quick, wn_climbs_slow, we_climbs_slow, wn_quick_over, we_quick_over, wn_quick_under, we_quick_under, wn_quick_roof, we_quick_roof, wn_quick_low, we_quick_low, wn_quick_dives, we_quick_dives, wn_quick_climbs, we_quick_climbs, we_quick_quick, wn_quick_slow, we_quick_slow, wn_slow_over, we_slow_over, wn_slow_under, we_slow_under, wn_slow_roof, we_slow_roof, wn_slow_low, we_slow_low, wn_slow_dives, we_slow_dives, wn_slow_climbs, we_slow_climbs, wn_slow_quick, we_slow_quick, we_slow_slow, we_upright_upright, wn_upright_upper, we_upright_upper, wn_upright_lower, we_upright_lower, wn_upper_upright, we_upper_upright, we_upper_upper, wn_upper_lower, we_upper_lower, wn_lower_upright, we_lower_upright, wn_lower_upper, we_lower_upper, we_lower_lower, we_least_least, wn_least_most, we_least_most, wn_least_all, we_least_all, wn_least_none, we_least_none, wn_most_least, we_most_least, we_most_most, wn_most_all, we_most_all, wn_most_none, we_most_none, wn_all_least, we_all_least, wn_all_most, we_all_most, we_all_all, wn_all_none, we_all_none, wn_none_least, we_none_least, wn_none_most, we_none_most, wn_none_all, we_none_all, we_none_none, ev_inn, ev_innl, ev_nin, flat_s, flat_i, List.all_cons, List.all_nil, List.any_cons, List.any_nil, Bool.or_false, Bool.false_or, Bool.or_true, Bool.true_or, Bool.and_self, eqv_int, ev_is, ev_isnt, reduceCtorEq, e91, ap_is_below]
    exact ⟨by walk_at "sz", by walk_at "sz", hq⟩
theorem zf_bv {a : Ask} {s : Rat} (h : a.ok) (zs : Zf 250 s) : Zf 2990 (a.bv s) := by
  cases a
  all_goals simp only [Ask.bv, Ask.ok, lnp, arcv] at h ⊢
  · rename_i x y
    obtain ⟨h0, zx, zy⟩ := h
    walk_at "sz"
  · rename_i x y
    obtain ⟨h0, zx, zy⟩ := h
    walk_at "sz"
  · rename_i x y u v
    obtain ⟨h0, h1, zx, zy, zu, zv, zm, zk⟩ := h
    generalize kk x y u v = k at *
    generalize mm x y u v = m at *
    split
    · split <;> walk_at "sz"
    · split
      · split <;> walk_at "sz"
      · walk_at "sz"
  · rename_i B
    obtain ⟨h0, zB⟩ := h
    split <;> walk_at "sz"
  · rename_i X M
    obtain ⟨h0, zX, zM⟩ := h
    walk_at "sz"
  · rename_i X M
    obtain ⟨h0, zX, zM⟩ := h
    walk_at "sz"
  · rename_i B
    obtain ⟨h0, zB⟩ := h
    walk_at "sz"
  · rename_i B
    obtain ⟨h0, zB⟩ := h
    walk_at "sz"
theorem sem_keeps (e118 : Φ 118 = sp_kind_of) (e125 : Φ 125 = sp_keeps_upright) (e124 : Φ 124 = sp_bound_value) (e91 : Φ 91 = sp_is_below) : ∀ ds Q, sp_keeps ds Q → wS Φ rs_keeps { nx := fun _ => Q (.d .none), rt := Q } (startD ["x0", "x1", "x2", "x3", "x4", "x5"] ds) := by
  rintro ds Q ⟨s, b, a, rfl, h, zs, zb, hq⟩
  show wS Φ rs_keeps _ [some (.val (.d (J s b))), some (.val (.d a.dat)), none, none, none, none]
  have zv := zf_bv h zs
  rw [q_keeps]
  simp only [q_keeps_0, wS, wE, wA, wT, wI, wO, ev_add, ev_sub, ev_mul, ev_div, ev_mod, ev_pow, ev_cat, ev_lt, ev_le, ev_gt, ev_ge, ev_eq, ev_ne, ev_eqs, ev_nes, ix_F0, ix_F1, ix_J0, ix_J1, ix_P0, ix_P1, ix_P2, ix_t0, ix_t1, ix_t2, ix_l0, ix_l1, ix_l2, tg_1, tg_F, tg_J, tg_P, tg_2, tg_3, tg_4, fold_J, eq_F, ne_F, eq_J, ne_J, eq_P, ne_P, db_, di_, setVals, setAll, datas, itemsD, truD, List.getElem?_cons_zero, List.getElem?_cons_succ, List.set_cons_zero, List.set_cons_succ, Option.map_some, Option.map_none, Option.some.injEq, exists_eq_left', decide_eq_true_eq, Bool.not_true, Bool.not_false, Bool.false_eq_true, if_false, if_true, true_and, and_true, decide_true, decide_false, List.length_cons, List.length_nil, mx_0, mx_1, mx_2, mx_3, mx_4, mx_5, mx_6, mx_7, mx_8, mx_9, mx_10, mx_11, mx_12, mx_13, mx_14, mx_15, mx_16, mx_17, mx_18, mx_19, mx_20, mx_21, mx_22, mx_23, mx_24, Nat.reduceAdd, Nat.reduceLeDiff, Nat.zero_add, Bool.not_eq_true', decide_eq_false_iff_not, reduceIte, ev_reprb]
  simp only [q_keeps_1, wS, wE, wA, wT, wI, wO, ev_add, ev_sub, ev_mul, ev_div, ev_mod, ev_pow, ev_cat, ev_lt, ev_le, ev_gt, ev_ge, ev_eq, ev_ne, ev_eqs, ev_nes, ix_F0, ix_F1, ix_J0, ix_J1, ix_P0, ix_P1, ix_P2, ix_t0, ix_t1, ix_t2, ix_l0, ix_l1, ix_l2, tg_1, tg_F, tg_J, tg_P, tg_2, tg_3, tg_4, fold_J, eq_F, ne_F, eq_J, ne_J, eq_P, ne_P, db_, di_, setVals, setAll, datas, itemsD, truD, List.getElem?_cons_zero, List.getElem?_cons_succ, List.set_cons_zero, List.set_cons_succ, Option.map_some, Option.map_none, Option.some.injEq, exists_eq_left', decide_eq_true_eq, Bool.not_true, Bool.not_false, Bool.false_eq_true, if_false, if_true, true_and, and_true, decide_true, decide_false, List.length_cons, List.length_nil, mx_0, mx_1, mx_2, mx_3, mx_4, mx_5, mx_6, mx_7, mx_8, mx_9, mx_10, mx_11, mx_12, mx_13, mx_14, mx_15, mx_16, mx_17, mx_18, mx_19, mx_20, mx_21, mx_22, mx_23, mx_24, Nat.reduceAdd, Nat.reduceLeDiff, Nat.zero_add, Bool.not_eq_true', decide_eq_false_iff_not, reduceIte, ev_reprb, e118]
  refine ⟨_, rfl, ?_⟩
  have low : a.kd = Str.ofString "lower" → Q (B (!decide (b < a.bv s))) → wS Φ q_keeps_2 { nx := fun _ => Q (.d .none), rt := Q } [some (.val (.d (J s b))), some (.val (.d a.dat)), some (.val (.d (F s))), some (.val (.d (F b))), some (.val (.d (.str a.kd))), none] := by
    intro e hv
    rw [e]
    simp only [q_keeps_2, wS, wE, wA, wT, wI, wO, ev_add, ev_sub, ev_mul, ev_div, ev_mod, ev_pow, ev_cat, ev_lt, ev_le, ev_gt, ev_ge, ev_eq, ev_ne, ev_eqs, ev_nes, ix_F0, ix_F1, ix_J0, ix_J1, ix_P0, ix_P1, ix_P2, ix_t0, ix_t1, ix_t2, ix_l0, ix_l1, ix_l2, tg_1, tg_F, tg_J, tg_P, tg_2, tg_3, tg_4, fold_J, eq_F, ne_F, eq_J, ne_J, eq_P, ne_P, db_, di_, setVals, setAll, datas, itemsD, truD, List.getElem?_cons_zero, List.getElem?_cons_succ, List.set_cons_zero, List.set_cons_succ, Option.map_some, Option.map_none, Option.some.injEq, exists_eq_left', decide_eq_true_eq, Bool.not_true, Bool.not_false, Bool.false_eq_true, if_false, if_true, true_and, and_true, decide_true, decide_false, List.length_cons, List.length_nil, mx_0, mx_1, mx_2, mx_3, mx_4, mx_5, mx_6, mx_7, mx_8, mx_9, mx_10, mx_11, mx_12, mx_13, mx_14, mx_15, mx_16, mx_17, mx_18, mx_19, mx_20, mx_21, mx_22, mx_23, mx_24, Nat.reduceAdd, Nat.reduceLeDiff, Nat.zero_add, Bool.not_eq_true', decide_eq_false_iff_not, reduceIte, ev_reprb, we_over_over, wn_over_under, we_over_under, wn_over_roof, we_over_roof, wn_over_low, we_over_low, wn_over_dives, we_over_dives, wn_over_climbs, we_over_climbs, wn_over_quick, we_over_quick, wn_over_slow, we_over_slow, wn_under_over, we_under_over, we_under_under, wn_under_roof, we_under_roof, wn_under_low, we_under_low, wn_under_dives, we_under_dives, wn_under_climbs, we_under_climbs, wn_under_quick, we_under_quick, wn_under_slow, we_under_slow, wn_roof_over, we_roof_over, wn_roof_under, we_roof_under, we_roof_roof, wn_roof_low, we_roof_low, wn_roof_dives, we_roof_dives, wn_roof_climbs, we_roof_climbs, wn_roof_quick, we_roof_quick, wn_roof_slow, we_roof_slow, wn_low_over, we_low_over, wn_low_under, we_low_under, wn_low_roof, we_low_roof, we_low_low, wn_low_dives, we_low_dives, wn_low_climbs, we_low_climbs, wn_low_quick, we_low_quick, wn_low_slow, we_low_slow, wn_dives_over, we_dives_over, wn_dives_under, we_dives_under, wn_dives_roof, we_dives_roof, wn_dives_low, we_dives_low, we_dives_dives, wn_dives_climbs, we_dives_climbs, wn_dives_quick, we_dives_quick, wn_dives_slow, we_dives_slow, wn_climbs_over, we_climbs_over, wn_climbs_under, we_climbs_under, wn_climbs_roof, we_climbs_roof, wn_climbs_low, we_climbs_low, wn_climbs_dives, we_climbs_dives, we_climbs_climbs, wn_climbs_quick, we_climbs_quick, wn_climbs_slow, we_climbs_slow, wn_quick_over, we_quick_over, wn_quick_under, we_quick_under, wn_quick_roof, we_quick_roof, wn_quick_low, we_quick_low, wn_quick_dives, we_quick_dives, wn_quick_climbs, we_quick_climbs, we_quick_quick, wn_quick_slow, we_quick_slow, wn_slow_over, we_slow_over, wn_slow_under, we_slow_under, wn_slow_roof, we_slow_roof, wn_slow_low, we_slow_low, wn_slow_dives, we_slow_dives, wn_slow_climbs, we_slow_climbs, wn_slow_quick, we_slow_quick, we_slow_slow, we_upright_upright, wn_upright_upper, we_upright_upper, wn_upright_lower, we_upright_lower, wn_upper_upright, we_upper_upright, we_upper_upper, wn_upper_lower, we_upper_lower, wn_lower_upright, we_lower_upright, wn_lower_upper, we_lower_upper, we_lower_lower, we_least_least, wn_least_most, we_least_most, wn_least_all, we_least_all, wn_least_none, we_least_none, wn_most_least, we_most_least, we_most_most, wn_most_all, we_most_all, wn_most_none, we_most_none, wn_all_least, we_all_least, wn_all_most, we_all_most, we_all_all, wn_all_none, we_all_none, wn_none_least, we_none_least, wn_none_most, we_none_most, wn_none_all, we_none_all, we_none_none, ev_inn, ev_innl, ev_nin, flat_s, flat_i, List.all_cons, List.all_nil, List.any_cons, List.any_nil, Bool.or_false, Bool.false_or, Bool.or_true, Bool.true_or, Bool.and_self, eqv_int, ev_is, ev_isnt, reduceCtorEq]
    simp only [q_keeps_3, wS, wE, wA, wT, wI, wO, ev_add, ev_sub, ev_mul, ev_div, ev_mod, ev_pow, ev_cat, ev_lt, ev_le, ev_gt, ev_ge, ev_eq, ev_ne, ev_eqs, ev_nes, ix_F0, ix_F1, ix_J0, ix_J1, ix_P0, ix_P1, ix_P2, ix_t0, ix_t1, ix_t2, ix_l0, ix_l1, ix_l2, tg_1, tg_F, tg_J, tg_P, tg_2, tg_3, tg_4, fold_J, eq_F, ne_F, eq_J, ne_J, eq_P, ne_P, db_, di_, setVals, setAll, datas, itemsD, truD, List.getElem?_cons_zero, List.getElem?_cons_succ, List.set_cons_zero, List.set_cons_succ, Option.map_some, Option.map_none, Option.some.injEq, exists_eq_left', decide_eq_true_eq, Bool.not_true, Bool.not_false, Bool.false_eq_true, if_false, if_true, true_and, and_true, decide_true, decide_false, List.length_cons, List.length_nil, mx_0, mx_1, mx_2, mx_3, mx_4, mx_5, mx_6, mx_7, mx_8, mx_9, mx_10, mx_11, mx_12, mx_13, mx_14, mx_15, mx_16, mx_17, mx_18, mx_19, mx_20, mx_21, mx_22, mx_23, mx_24, Nat.reduceAdd, Nat.reduceLeDiff, Nat.zero_add, Bool.not_eq_true', decide_eq_false_iff_not, reduceIte, ev_reprb, we_over_over, wn_over_under, we_over_under, wn_over_roof, we_over_roof, wn_over_low, we_over_low, wn_over_dives, we_over_dives, wn_over_climbs, we_over_climbs, wn_over_quick, we_over_quick, wn_over_slow, we_over_slow, wn_under_over, we_under_over, we_under_under, wn_under_roof, we_under_roof, wn_under_low, we_under_low, wn_under_dives, we_under_dives, wn_under_climbs, we_under_climbs, wn_under_quick, we_under_quick, wn_under_slow, we_under_slow, wn_roof_over, we_roof_over, wn_roof_under, we_roof_under, we_roof_roof, wn_roof_low, we_roof_low, wn_roof_dives, we_roof_dives, wn_roof_climbs, we_roof_climbs, wn_roof_quick, we_roof_quick, wn_roof_slow, we_roof_slow, wn_low_over, we_low_over, wn_low_under, we_low_under, wn_low_roof, we_low_roof, we_low_low, wn_low_dives, we_low_dives, wn_low_climbs, we_low_climbs, wn_low_quick, we_low_quick, wn_low_slow, we_low_slow, wn_dives_over, we_dives_over, wn_dives_under, we_dives_under, wn_dives_roof, we_dives_roof, wn_dives_low, we_dives_low, we_dives_dives, wn_dives_climbs, we_dives_climbs, wn_dives_quick, we_dives_quick, wn_dives_slow, we_dives_slow, wn_climbs_over, we_climbs_over, wn_climbs_under, we_climbs_under, wn_climbs_roof, we_climbs_roof, wn_climbs_low, we_climbs_low, wn_climbs_dives, we_climbs_dives, we_climbs_climbs, wn_climbs_quick, we_climbs_quick, wn_climbs_slow, we_climbs_slow, wn_quick_over, we_quick_over, wn_quick_under, we_quick_under, wn_quick_roof, we_quick_roof, wn_quick_low, we_quick_low, wn_quick_dives, we_quick_dives, wn_quick_climbs, we_quick_climbs, we_quick_quick, wn_quick_slow, we_quick_slow, wn_slow_over, we_slow_over, wn_slow_under, we_slow_under, wn_slow_roof, we_slow_roof, wn_slow_low, we_slow_low, wn_slow_dives, we_slow_dives, wn_slow_climbs, we_slow_climbs, wn_slow_quick, we_slow_quick, we_slow_slow, we_upright_upright, wn_upright_upper, we_upright_upper, wn_upright_lower, we_upright_lower, wn_upper_upright, we_upper_upright, we_upper_upper, wn_upper_lower, we_upper_lower, wn_lower_upright, we_lower_upright, wn_lower_upper, we_lower_upper, we_lower_lower, we_least_least, wn_least_most, we_least_most, wn_least_all, we_least_all, wn_least_none, we_least_none, wn_most_least, we_most_least, we_most_most, wn_most_all, we_most_all, wn_most_none, we_most_none, wn_all_least, we_all_least, wn_all_most, we_all_most, we_all_all, wn_all_none, we_all_none, wn_none_least, we_none_least, wn_none_most, we_none_most, wn_none_all, we_none_all, we_none_none, ev_inn, ev_innl, ev_nin, flat_s, flat_i, List.all_cons, List.all_nil, List.any_cons, List.any_nil, Bool.or_false, Bool.false_or, Bool.or_true, Bool.true_or, Bool.and_self, eqv_int, ev_is, ev_isnt, reduceCtorEq, e124]
    refine ⟨_, _, rfl, h, by rw [e]; decide +kernel, zs, ?_⟩
    simp only [q_keeps_4, wS, wE, wA, wT, wI, wO, ev_add, ev_sub, ev_mul, ev_div, ev_mod, ev_pow, ev_cat, ev_lt, ev_le, ev_gt, ev_ge, ev_eq, ev_ne, ev_eqs, ev_nes, ix_F0, ix_F1, ix_J0, ix_J1, ix_P0, ix_P1, ix_P2, ix_t0, ix_t1, ix_t2, ix_l0, ix_l1, ix_l2, tg_1, tg_F, tg_J, tg_P, tg_2, tg_3, tg_4, fold_J, eq_F, ne_F, eq_J, ne_J, eq_P, ne_P, db_, di_, setVals, setAll, datas, itemsD, truD, List.getElem?_cons_zero, List.getElem?_cons_succ, List.set_cons_zero, List.set_cons_succ, Option.map_some, Option.map_none, Option.some.injEq, exists_eq_left', decide_eq_true_eq, Bool.not_true, Bool.not_false, Bool.false_eq_true, if_false, if_true, true_and, and_true, decide_true, decide_false, List.length_cons, List.length_nil, mx_0, mx_1, mx_2, mx_3, mx_4, mx_5, mx_6, mx_7, mx_8, mx_9, mx_10, mx_11, mx_12, mx_13, mx_14, mx_15, mx_16, mx_17, mx_18, mx_19, mx_20, mx_21, mx_22, mx_23, mx_24, Nat.reduceAdd, Nat.reduceLeDiff, Nat.zero_add, Bool.not_eq_true', decide_eq_false_iff_not, reduceIte, ev_reprb, we_over_over, wn_over_under, we_over_under, wn_over_roof, we_over_roof, wn_over_low, we_over_low, wn_over_dives, we_over_dives, wn_over_climbs, we_over_climbs, wn_over_quick, we_over_quick, wn_over_slow, we_over_slow, wn_under_over, we_under_over, we_under_under, wn_under_roof, we_under_roof, wn_under_low, we_under_low, wn_under_dives, we_under_dives, wn_under_climbs, we_under_climbs, wn_under_quick, we_under_quick, wn_under_slow, we_under_slow, wn_roof_over, we_roof_over, wn_roof_under, we_roof_under, we_roof_roof, wn_roof_low, we_roof_low, wn_roof_dives, we_roof_dives, wn_roof_climbs, we_roof_climbs, wn_roof_quick, we_roof_quick, wn_roof_slow, we_roof_slow, wn_low_over, we_low_over, wn_low_under, we_low_under, wn_low_roof, we_low_roof, we_low_low, wn_low_dives, we_low_dives, wn_low_climbs, we_low_climbs, wn_low_quick, we_low_quick, wn_low_slow, we_low_slow, wn_dives_over, we_dives_over, wn_dives_under, we_dives_under, wn_dives_roof, we_dives_roof, wn_dives_low, we_dives_low, we_dives_dives, wn_dives_climbs, we_dives_climbs, wn_dives_quick, we_dives_quick, wn_dives_slow, we_dives_slow, wn_climbs_over, we_climbs_over, wn_climbs_under, we_climbs_under, wn_climbs_roof, we_climbs_roof, wn_climbs_low, we_climbs_low, wn_climbs_dives, we_climbs_dives, we_climbs_climbs, wn_climbs_quick, we_climbs_quick, wn_climbs_slow, we_climbs_slow, wn_quick_over, we_quick_over, wn_quick_under, we_quick_under, wn_quick_roof, we_quick_roof, wn_quick_low, we_quick_low, wn_quick_dives, we_quick_dives, wn_quick_climbs, we_quick_climbs, we_quick_quick, wn_quick_slow, we_quick_slow, wn_slow_over, we_slow_over, wn_slow_under, we_slow_under, wn_slow_roof, we_slow_roof, wn_slow_low, we_slow_low, wn_slow_dives, we_slow_dives, wn_slow_climbs, we_slow_climbs, wn_slow_quick, we_slow_quick, we_slow_slow, we_upright_upright, wn_upright_upper, we_upright_upper, wn_upright_lower, we_upright_lower, wn_upper_upright, we_upper_upright, we_upper_upper, wn_upper_lower, we_upper_lower, wn_lower_upright, we_lower_upright, wn_lower_upper, we_lower_upper, we_lower_lower, we_least_least, wn_least_most, we_least_most, wn_least_all, we_least_all, wn_least_none, we_least_none, wn_most_least, we_most_least, we_most_most, wn_most_all, we_most_all, wn_most_none, we_most_none, wn_all_least, we_all_least, wn_all_most, we_all_most, we_all_all, wn_all_none, we_all_none, wn_none_least, we_none_least, wn_none_most, we_none_most, wn_none_all, we_none_all, we_none_none, ev_inn, ev_innl, ev_nin, flat_s, flat_i, List.all_cons, List.all_nil, List.any_cons, List.any_nil, Bool.or_false, Bool.false_or, Bool.or_true, Bool.true_or, Bool.and_self, eqv_int, ev_is, ev_isnt, reduceCtorEq, e91, ap_is_below]
    exact ⟨zb.mono (by decide), zv.mono (by decide), hv⟩
  have upp : a.kd = Str.ofString "upper" → Q (B (!decide (a.bv s < b))) → wS Φ q_keeps_2 { nx := fun _ => Q (.d .none), rt := Q } [some (.val (.d (J s b))), some (.val (.d a.dat)), some (.val (.d (F s))), some (.val (.d (F b))), some (.val (.d (.str a.kd))), none] := by
    intro e hv
    rw [e]
    simp only [q_keeps_2, wS, wE, wA, wT, wI, wO, ev_add, ev_sub, ev_mul, ev_div, ev_mod, ev_pow, ev_cat, ev_lt, ev_le, ev_gt, ev_ge, ev_eq, ev_ne, ev_eqs, ev_nes, ix_F0, ix_F1, ix_J0, ix_J1, ix_P0, ix_P1, ix_P2, ix_t0, ix_t1, ix_t2, ix_l0, ix_l1, ix_l2, tg_1, tg_F, tg_J, tg_P, tg_2, tg_3, tg_4, fold_J, eq_F, ne_F, eq_J, ne_J, eq_P, ne_P, db_, di_, setVals, setAll, datas, itemsD, truD, List.getElem?_cons_zero, List.getElem?_cons_succ, List.set_cons_zero, List.set_cons_succ, Option.map_some, Option.map_none, Option.some.injEq, exists_eq_left', decide_eq_true_eq, Bool.not_true, Bool.not_false, Bool.false_eq_true, if_false, if_true, true_and, and_true, decide_true, decide_false, List.length_cons, List.length_nil, mx_0, mx_1, mx_2, mx_3, mx_4, mx_5, mx_6, mx_7, mx_8, mx_9, mx_10, mx_11, mx_12, mx_13, mx_14, mx_15, mx_16, mx_17, mx_18, mx_19, mx_20, mx_21, mx_22, mx_23, mx_24, Nat.reduceAdd, Nat.reduceLeDiff, Nat.zero_add, Bool.not_eq_true', decide_eq_false_iff_not, reduceIte, ev_reprb, we_over_over, wn_over_under, we_over_under, wn_over_roof, we_over_roof, wn_over_low, we_over_low, wn_over_dives, we_over_dives, wn_over_climbs, we_over_climbs, wn_over_quick, we_over_quick, wn_over_slow, we_over_slow, wn_under_over, we_under_over, we_under_under, wn_under_roof, we_under_roof, wn_under_low, we_under_low, wn_under_dives, we_under_dives, wn_under_climbs, we_under_climbs, wn_under_quick, we_under_quick, wn_under_slow, we_under_slow, wn_roof_over, we_roof_over, wn_roof_under, we_roof_under, we_roof_roof, wn_roof_low, we_roof_low, wn_roof_dives, we_roof_dives, wn_roof_climbs, we_roof_climbs, wn_roof_quick, we_roof_quick, wn_roof_slow, we_roof_slow, wn_low_over, we_low_over, wn_low_under, we_low_under, wn_low_roof, we_low_roof, we_low_low, wn_low_dives, we_low_dives, wn_low_climbs, we_low_climbs, wn_low_quick, we_low_quick, wn_low_slow, we_low_slow, wn_dives_over, we_dives_over, wn_dives_under, we_dives_under, wn_dives_roof, we_dives_roof, wn_dives_low, we_dives_low, we_dives_dives, wn_dives_climbs, we_dives_climbs, wn_dives_quick, we_dives_quick, wn_dives_slow, we_dives_slow, wn_climbs_over, we_climbs_over, wn_climbs_under, we_climbs_under, wn_climbs_roof, we_climbs_roof, wn_climbs_low, we_climbs_low, wn_climbs_dives, we_climbs_dives, we_climbs_climbs, wn_climbs_quick, we_climbs_quick, wn_climbs_slow, we_climbs_slow, wn_quick_over, we_quick_over, wn_quick_under, we_quick_under, wn_quick_roof, we_quick_roof, wn_quick_low, we_quick_low, wn_quick_dives, we_quick_dives, wn_quick_climbs, we_quick_climbs, we_quick_quick, wn_quick_slow, we_quick_slow, wn_slow_over, we_slow_over, wn_slow_under, we_slow_under, wn_slow_roof, we_slow_roof, wn_slow_low, we_slow_low, wn_slow_dives, we_slow_dives, wn_slow_climbs, we_slow_climbs, wn_slow_quick, we_slow_quick, we_slow_slow, we_upright_upright, wn_upright_upper, we_upright_upper, wn_upright_lower, we_upright_lower, wn_upper_upright, we_upper_upright, we_upper_upper, wn_upper_lower, we_upper_lower, wn_lower_upright, we_lower_upright, wn_lower_upper, we_lower_upper, we_lower_lower, we_least_least, wn_least_most, we_least_most, wn_least_all, we_least_all, wn_least_none, we_least_none, wn_most_least, we_most_least, we_most_most, wn_most_all, we_most_all, wn_most_none, we_most_none, wn_all_least, we_all_least, wn_all_most, we_all_most, we_all_all, wn_all_none, we_all_none, wn_none_least, we_none_least, wn_none_most, we_none_most, wn_none_all, we_none_all, we_none_none, ev_inn, ev_innl, ev_nin, flat_s, flat_i, List.all_cons, List.all_nil, List.any_cons, List.any_nil, Bool.or_false, Bool.false_or, Bool.or_true, Bool.true_or, Bool.and_self, eqv_int, ev_is, ev_isnt, reduceCtorEq]
    simp only [q_keeps_3, wS, wE, wA, wT, wI, wO, ev_add, ev_sub, ev_mul, ev_div, ev_mod, ev_pow, ev_cat, ev_lt, ev_le, ev_gt, ev_ge, ev_eq, ev_ne, ev_eqs, ev_nes, ix_F0, ix_F1, ix_J0, ix_J1, ix_P0, ix_P1, ix_P2, ix_t0, ix_t1, ix_t2, ix_l0, ix_l1, ix_l2, tg_1, tg_F, tg_J, tg_P, tg_2, tg_3, tg_4, fold_J, eq_F, ne_F, eq_J, ne_J, eq_P, ne_P, db_, di_, setVals, setAll, datas, itemsD, truD, List.getElem?_cons_zero, List.getElem?_cons_succ, List.set_cons_zero, List.set_cons_succ, Option.map_some, Option.map_none, Option.some.injEq, exists_eq_left', decide_eq_true_eq, Bool.not_true, Bool.not_false, Bool.false_eq_true, if_false, if_true, true_and, and_true, decide_true, decide_false, List.length_cons, List.length_nil, mx_0, mx_1, mx_2, mx_3, mx_4, mx_5, mx_6, mx_7, mx_8, mx_9, mx_10, mx_11, mx_12, mx_13, mx_14, mx_15, mx_16, mx_17, mx_18, mx_19, mx_20, mx_21, mx_22, mx_23, mx_24, Nat.reduceAdd, Nat.reduceLeDiff, Nat.zero_add, Bool.not_eq_true', decide_eq_false_iff_not, reduceIte, ev_reprb, we_over_over, wn_over_under, we_over_under, wn_over_roof, we_over_roof, wn_over_low, we_over_low, wn_over_dives, we_over_dives, wn_over_climbs, we_over_climbs, wn_over_quick, we_over_quick, wn_over_slow, we_over_slow, wn_under_over, we_under_over, we_under_under, wn_under_roof, we_under_roof, wn_under_low, we_under_low, wn_under_dives, we_under_dives, wn_under_climbs, we_under_climbs, wn_under_quick, we_under_quick, wn_under_slow, we_under_slow, wn_roof_over, we_roof_over, wn_roof_under, we_roof_under, we_roof_roof, wn_roof_low, we_roof_low, wn_roof_dives, we_roof_dives, wn_roof_climbs, we_roof_climbs, wn_roof_quick, we_roof_quick, wn_roof_slow, we_roof_slow, wn_low_over, we_low_over, wn_low_under, we_low_under, wn_low_roof, we_low_roof, we_low_low, wn_low_dives, we_low_dives, wn_low_climbs, we_low_climbs, wn_low_quick, we_low_quick, wn_low_slow, we_low_slow, wn_dives_over, we_dives_over, wn_dives_under, we_dives_under, wn_dives_roof, we_dives_roof, wn_dives_low, we_dives_low, we_dives_dives, wn_dives_climbs, we_dives_climbs, wn_dives_quick, we_dives_quick, wn_dives_slow, we_dives_slow, wn_climbs_over, we_climbs_over, wn_climbs_under, we_climbs_under, wn_climbs_roof, we_climbs_roof, wn_climbs_low, we_climbs_low, wn_climbs_dives, we_climbs_dives, we_climbs_climbs, wn_climbs_quick, we_climbs_quick, wn_climbs_slow, we_climbs_slow, wn_quick_over, we_quick_over, wn_quick_under, we_quick_under, wn_quick_roof, we_quick_roof, wn_quick_low, we_quick_low, wn_quick_dives, we_quick_dives, wn_quick_climbs, we_quick_climbs, we_quick_quick, wn_quick_slow, we_quick_slow, wn_slow_over, we_slow_over, wn_slow_under, we_slow_under, wn_slow_roof, we_slow_roof, wn_slow_low, we_slow_low, wn_slow_dives, we_slow_dives, wn_slow_climbs, we_slow_climbs, wn_slow_quick, we_slow_quick, we_slow_slow, we_upright_upright, wn_upright_upper, we_upright_upper, wn_upright_lower, we_upright_lower, wn_upper_upright, we_upper_upright, we_upper_upper, wn_upper_lower, we_upper_lower, wn_lower_upright, we_lower_upright, wn_lower_upper, we_lower_upper, we_lower_lower, we_least_least, wn_least_most, we_least_most, wn_least_all, we_least_all, wn_least_none, we_least_none, wn_most_least, we_most_least, we_most_most, wn_most_all, we_most_all, wn_most_none, we_most_none, wn_all_least, we_all_least, wn_all_most, we_all_most, we_all_all, wn_all_none, we_all_none, wn_none_least, we_none_least, wn_none_most, we_none_most, wn_none_all, we_none_all, we_none_none, ev_inn, ev_innl, ev_nin, flat_s, flat_i, List.all_cons, List.all_nil, List.any_cons, List.any_nil, Bool.or_false, Bool.false_or, Bool.or_true, Bool.true_or, Bool.and_self, eqv_int, ev_is, ev_isnt, reduceCtorEq, e124]
    refine ⟨_, _, rfl, h, by rw [e]; decide +kernel, zs, ?_⟩
    simp only [q_keeps_4, wS, wE, wA, wT, wI, wO, ev_add, ev_sub, ev_mul, ev_div, ev_mod, ev_pow, ev_cat, ev_lt, ev_le, ev_gt, ev_ge, ev_eq, ev_ne, ev_eqs, ev_nes, ix_F0, ix_F1, ix_J0, ix_J1, ix_P0, ix_P1, ix_P2, ix_t0, ix_t1, ix_t2, ix_l0, ix_l1, ix_l2, tg_1, tg_F, tg_J, tg_P, tg_2, tg_3, tg_4, fold_J, eq_F, ne_F, eq_J, ne_J, eq_P, ne_P, db_, di_, setVals, setAll, datas, itemsD, truD, List.getElem?_cons_zero, List.getElem?_cons_succ, List.set_cons_zero, List.set_cons_succ, Option.map_some, Option.map_none, Option.some.injEq, exists_eq_left', decide_eq_true_eq, Bool.not_true, Bool.not_false, Bool.false_eq_true, if_false, if_true, true_and, and_true, decide_true, decide_false, List.length_cons, List.length_nil, mx_0, mx_1, mx_2, mx_3, mx_4, mx_5, mx_6, mx_7, mx_8, mx_9, mx_10, mx_11, mx_12, mx_13, mx_14, mx_15, mx_16, mx_17, mx_18, mx_19, mx_20, mx_21, mx_22, mx_23, mx_24, Nat.reduceAdd, Nat.reduceLeDiff, Nat.zero_add, Bool.not_eq_true', decide_eq_false_iff_not, reduceIte, ev_reprb, we_over_over, wn_over_under, we_over_under, wn_over_roof, we_over_roof, wn_over_low, we_over_low, wn_over_dives, we_over_dives, wn_over_climbs, we_over_climbs, wn_over_quick, we_over_quick, wn_over_slow, we_over_slow, wn_under_over, we_under_over, we_under_under, wn_under_roof, we_under_roof, wn_under_low, we_under_low, wn_under_dives, we_under_dives, wn_under_climbs, we_under_climbs, wn_under_quick, we_under_quick, wn_under_slow, we_under_slow, wn_roof_over, we_roof_over, wn_roof_under, we_roof_under, we_roof_roof, wn_roof_low, we_roof_low, wn_roof_dives, we_roof_dives, wn_roof_climbs, we_roof_climbs, wn_roof_quick, we_roof_quick, wn_roof_slow, we_roof_slow, wn_low_over, we_low_over, wn_low_under, we_low_under, wn_low_roof, we_low_roof, we_low_low, wn_low_dives, we_low_dives, wn_low_climbs, we_low_climbs, wn_low_quick, we_low_quick, wn_low_slow, we_low_slow, wn_dives_over, we_dives_over, wn_dives_under, we_dives_under, wn_dives_roof, we_dives_roof, wn_dives_low, we_dives_low, we_dives_dives, wn_dives_climbs, we_dives_climbs, wn_dives_quick, we_dives_quick, wn_dives_slow, we_dives_slow, wn_climbs_over, we_climbs_over, wn_climbs_under, we_climbs_under, wn_climbs_roof, we_climbs_roof, wn_climbs_low, we_climbs_low, wn_climbs_dives, we_climbs_dives, we_climbs_climbs, wn_climbs_quick, we_climbs_quick, wn_climbs_slow, we_climbs_slow, wn_quick_over, we_quick_over, wn_quick_under, we_quick_under, wn_quick_roof, we_quick_roof, wn_quick_low, we_quick_low, wn_quick_dives, we_quick_dives, wn_quick_climbs, we_quick_climbs, we_quick_quick, wn_quick_slow, we_quick_slow, wn_slow_over, we_slow_over, wn_slow_under, we_slow_under, wn_slow_roof, we_slow_roof, wn_slow_low, we_slow_low, wn_slow_dives, we_slow_dives, wn_slow_climbs, we_slow_climbs, wn_slow_quick, we_slow_quick, we_slow_slow, we_upright_upright, wn_upright_upper, we_upright_upper, wn_upright_lower, we_upright_lower, wn_upper_upright, we_upper_upright, we_upper_upper, wn_upper_lower, we_upper_lower, wn_lower_upright, we_lower_upright, wn_lower_upper, we_lower_upper, we_lower_lower, we_least_least, wn_least_most, we_least_most, wn_least_all, we_least_all, wn_least_none, we_least_none, wn_most_least, we_most_least, we_most_most, wn_most_all, we_most_all, wn_most_none, we_most_none, wn_all_least, we_all_least, wn_all_most, we_all_most, we_all_all, wn_all_none, we_all_none, wn_none_least, we_none_least, wn_none_most, we_none_most, wn_none_all, we_none_all, we_none_none, ev_inn, ev_innl, ev_nin, flat_s, flat_i, List.all_cons, List.all_nil, List.any_cons, List.any_nil, Bool.or_false, Bool.false_or, Bool.or_true, Bool.true_or, Bool.and_self, eqv_int, ev_is, ev_isnt, reduceCtorEq, e91, ap_is_below]
    exact ⟨zv.mono (by decide), zb.mono (by decide), hv⟩
  cases a with
  | over x y => exact upp rfl hq
  | under x y => exact low rfl hq
  | roof x y u v => exact low rfl hq
  | low B => exact low rfl hq
  | quick B => exact upp rfl hq
  | slow B => exact low rfl hq
  | dives X M =>
    by_cases e : X = 0
    · have ek : (Ask.dives X M).kd = Str.ofString "upright" := if_pos e
      simp only [Ask.dn, e, if_true] at hq
      rw [ek]
      simp only [q_keeps_2, wS, wE, wA, wT, wI, wO, ev_add, ev_sub, ev_mul, ev_div, ev_mod, ev_pow, ev_cat, ev_lt, ev_le, ev_gt, ev_ge, ev_eq, ev_ne, ev_eqs, ev_nes, ix_F0, ix_F1, ix_J0, ix_J1, ix_P0, ix_P1, ix_P2, ix_t0, ix_t1, ix_t2, ix_l0, ix_l1, ix_l2, tg_1, tg_F, tg_J, tg_P, tg_2, tg_3, tg_4, fold_J, eq_F, ne_F, eq_J, ne_J, eq_P, ne_P, db_, di_, setVals, setAll, datas, itemsD, truD, List.getElem?_cons_zero, List.getElem?_cons_succ, List.set_cons_zero, List.set_cons_succ, Option.map_some, Option.map_none, Option.some.injEq, exists_eq_left', decide_eq_true_eq, Bool.not_true, Bool.not_false, Bool.false_eq_true, if_false, if_true, true_and, and_true, decide_true, decide_false, List.length_cons, List.length_nil, mx_0, mx_1, mx_2, mx_3, mx_4, mx_5, mx_6, mx_7, mx_8, mx_9, mx_10, mx_11, mx_12, mx_13, mx_14, mx_15, mx_16, mx_17, mx_18, mx_19, mx_20, mx_21, mx_22, mx_23, mx_24, Nat.reduceAdd, Nat.reduceLeDiff, Nat.zero_add, Bool.not_eq_true', decide_eq_false_iff_not, reduceIte, ev_reprb, we_over_over, wn_over_under, we_over_under, wn_over_roof, we_over_roof, wn_over_low, we_over_low, wn_over_dives, we_over_dives, wn_over_climbs, we_over_climbs, wn_over_quick, we_over_quick, wn_over_slow, we_over_slow, wn_under_over, we_under_over, we_under_under, wn_under_roof, we_under_roof, wn_under_low, we_under_low, wn_under_dives, we_under_dives, wn_under_climbs, we_under_climbs, wn_under_quick, we_under_quick, wn_under_slow, we_under_slow, wn_roof_over, we_roof_over, wn_roof_under, we_roof_under, we_roof_roof, wn_roof_low, we_roof_low, wn_roof_dives, we_roof_dives, wn_roof_climbs, we_roof_climbs, wn_roof_quick, we_roof_quick, wn_roof_slow, we_roof_slow, wn_low_over, we_low_over, wn_low_under, we_low_under, wn_low_roof, we_low_roof, we_low_low, wn_low_dives, we_low_dives, wn_low_climbs, we_low_climbs, wn_low_quick, we_low_quick, wn_low_slow, we_low_slow, wn_dives_over, we_dives_over, wn_dives_under, we_dives_under, wn_dives_roof, we_dives_roof, wn_dives_low, we_dives_low, we_dives_dives, wn_dives_climbs, we_dives_climbs, wn_dives_quick, we_dives_quick, wn_dives_slow, we_dives_slow, wn_climbs_over, we_climbs_over, wn_climbs_under, we_climbs_under, wn_climbs_roof, we_climbs_roof, wn_climbs_low, we_climbs_low, wn_climbs_dives, we_climbs_dives, we_climbs_climbs, wn_climbs_quick, we_climbs_quick, wn_climbs_slow, we_climbs_slow, wn_quick_over, we_quick_over, wn_quick_under, we_quick_under, wn_quick_roof, we_quick_roof, wn_quick_low, we_quick_low, wn_quick_dives, we_quick_dives, wn_quick_climbs, we_quick_climbs, we_quick_quick, wn_quick_slow, we_quick_slow, wn_slow_over, we_slow_over, wn_slow_under, we_slow_under, wn_slow_roof, we_slow_roof, wn_slow_low, we_slow_low, wn_slow_dives, we_slow_dives, wn_slow_climbs, we_slow_climbs, wn_slow_quick, we_slow_quick, we_slow_slow, we_upright_upright, wn_upright_upper, we_upright_upper, wn_upright_lower, we_upright_lower, wn_upper_upright, we_upper_upright, we_upper_upper, wn_upper_lower, we_upper_lower, wn_lower_upright, we_lower_upright, wn_lower_upper, we_lower_upper, we_lower_lower, we_least_least, wn_least_most, we_least_most, wn_least_all, we_least_all, wn_least_none, we_least_none, wn_most_least, we_most_least, we_most_most, wn_most_all, we_most_all, wn_most_none, we_most_none, wn_all_least, we_all_least, wn_all_most, we_all_most, we_all_all, wn_all_none, we_all_none, wn_none_least, we_none_least, wn_none_most, we_none_most, wn_none_all, we_none_all, we_none_none, ev_inn, ev_innl, ev_nin, flat_s, flat_i, List.all_cons, List.all_nil, List.any_cons, List.any_nil, Bool.or_false, Bool.false_or, Bool.or_true, Bool.true_or, Bool.and_self, eqv_int, ev_is, ev_isnt, reduceCtorEq, e125]
      exact ⟨_, _, rfl, zs.mono (by decide), .inl ⟨X, M, rfl, h.2.2, hq⟩⟩
    · have ek : (Ask.dives X M).kd = Str.ofString "lower" := if_neg e
      simp only [Ask.dn, e, if_false] at hq
      exact low ek hq
  | climbs X M =>
    by_cases e : X = 0
    · have ek : (Ask.climbs X M).kd = Str.ofString "upright" := if_pos e
      simp only [Ask.dn, e, if_true] at hq
      rw [ek]
      simp only [q_keeps_2, wS, wE, wA, wT, wI, wO, ev_add, ev_sub, ev_mul, ev_div, ev_mod, ev_pow, ev_cat, ev_lt, ev_le, ev_gt, ev_ge, ev_eq, ev_ne, ev_eqs, ev_nes, ix_F0, ix_F1, ix_J0, ix_J1, ix_P0, ix_P1, ix_P2, ix_t0, ix_t1, ix_t2, ix_l0, ix_l1, ix_l2, tg_1, tg_F, tg_J, tg_P, tg_2, tg_3, tg_4, fold_J, eq_F, ne_F, eq_J, ne_J, eq_P, ne_P, db_, di_, setVals, setAll, datas, itemsD, truD, List.getElem?_cons_zero, List.getElem?_cons_succ, List.set_cons_zero, List.set_cons_succ, Option.map_some, Option.map_none, Option.some.injEq, exists_eq_left', decide_eq_true_eq, Bool.not_true, Bool.not_false, Bool.false_eq_true, if_false, if_true, true_and, and_true, decide_true, decide_false, List.length_cons, List.length_nil, mx_0, mx_1, mx_2, mx_3, mx_4, mx_5, mx_6, mx_7, mx_8, mx_9, mx_10, mx_11, mx_12, mx_13, mx_14, mx_15, mx_16, mx_17, mx_18, mx_19, mx_20, mx_21, mx_22, mx_23, mx_24, Nat.reduceAdd, Nat.reduceLeDiff, Nat.zero_add, Bool.not_eq_true', decide_eq_false_iff_not, reduceIte, ev_reprb, we_over_over, wn_over_under, we_over_under, wn_over_roof, we_over_roof, wn_over_low, we_over_low, wn_over_dives, we_over_dives, wn_over_climbs, we_over_climbs, wn_over_quick, we_over_quick, wn_over_slow, we_over_slow, wn_under_over, we_under_over, we_under_under, wn_under_roof, we_under_roof, wn_under_low, we_under_low, wn_under_dives, we_under_dives, wn_under_climbs, we_under_climbs, wn_under_quick, we_under_quick, wn_under_slow, we_under_slow, wn_roof_over, we_roof_over, wn_roof_under, we_roof_under, we_roof_roof, wn_roof_low, we_roof_low, wn_roof_dives, we_roof_dives, wn_roof_climbs, we_roof_climbs, wn_roof_quick, we_roof_quick, wn_roof_slow, we_roof_slow, wn_low_over, we_low_over, wn_low_under, we_low_under, wn_low_roof, we_low_roof, we_low_low, wn_low_dives, we_low_dives, wn_low_climbs, we_low_climbs, wn_low_quick, we_low_quick, wn_low_slow, we_low_slow, wn_dives_over, we_dives_over, wn_dives_under, we_dives_under, wn_dives_roof, we_dives_roof, wn_dives_low, we_dives_low, we_dives_dives, wn_dives_climbs, we_dives_climbs, wn_dives_quick, we_dives_quick, wn_dives_slow, we_dives_slow, wn_climbs_over, we_climbs_over, wn_climbs_under, we_climbs_under, wn_climbs_roof, we_climbs_roof, wn_climbs_low, we_climbs_low, wn_climbs_dives, we_climbs_dives, we_climbs_climbs, wn_climbs_quick, we_climbs_quick, wn_climbs_slow, we_climbs_slow, wn_quick_over, we_quick_over, wn_quick_under, we_quick_under, wn_quick_roof, we_quick_roof, wn_quick_low, we_quick_low, wn_quick_dives, we_quick_dives, wn_quick_climbs, we_quick_climbs, we_quick_quick, wn_quick_slow, we_quick_slow, wn_slow_over, we_slow_over, wn_slow_under, we_slow_under, wn_slow_roof, we_slow_roof, wn_slow_low, we_slow_low, wn_slow_dives, we_slow_dives, wn_slow_climbs, we_slow_climbs, wn_slow_quick, we_slow_quick, we_slow_slow, we_upright_upright, wn_upright_upper, we_upright_upper, wn_upright_lower, we_upright_lower, wn_upper_upright, we_upper_upright, we_upper_upper, wn_upper_lower, we_upper_lower, wn_lower_upright, we_lower_upright, wn_lower_upper, we_lower_upper, we_lower_lower, we_least_least, wn_least_most, we_least_most, wn_least_all, we_least_all, wn_least_none, we_least_none, wn_most_least, we_most_least, we_most_most, wn_most_all, we_most_all, wn_most_none, we_most_none, wn_all_least, we_all_least, wn_all_most, we_all_most, we_all_all, wn_all_none, we_all_none, wn_none_least, we_none_least, wn_none_most, we_none_most, wn_none_all, we_none_all, we_none_none, ev_inn, ev_innl, ev_nin, flat_s, flat_i, List.all_cons, List.all_nil, List.any_cons, List.any_nil, Bool.or_false, Bool.false_or, Bool.or_true, Bool.true_or, Bool.and_self, eqv_int, ev_is, ev_isnt, reduceCtorEq, e125]
      exact ⟨_, _, rfl, zs.mono (by decide), .inr ⟨X, M, rfl, h.2.2, hq⟩⟩
    · have ek : (Ask.climbs X M).kd = Str.ofString "upper" := if_neg e
      simp only [Ask.dn, e, if_false] at hq
      exact upp ek hq
theorem sem_does (e73 : Φ 73 = sp_check_jet) (e117 : Φ 117 = sp_check_ask) (e126 : Φ 126 = sp_keeps) : ∀ ds Q, sp_does ds Q → wS Φ rs_does { nx := fun _ => Q (.d .none), rt := Q } (startD ["x0", "x1"] ds) := by
  rintro ds Q ⟨s, b, a, rfl, b0, h, zs, zb, hq⟩
  show wS Φ rs_does _ [some (.val (.d (J s b))), some (.val (.d a.dat))]
  simp only [rs_does, wS, wE, wA, wT, wI, wO, ev_add, ev_sub, ev_mul, ev_div, ev_mod, ev_pow, ev_cat, ev_lt, ev_le, ev_gt, ev_ge, ev_eq, ev_ne, ev_eqs, ev_nes, ix_F0, ix_F1, ix_J0, ix_J1, ix_P0, ix_P1, ix_P2, ix_t0, ix_t1, ix_t2, ix_l0, ix_l1, ix_l2, tg_1, tg_F, tg_J, tg_P, tg_2, tg_3, tg_4, fold_J, eq_F, ne_F, eq_J, ne_J, eq_P, ne_P, db_, di_, setVals, setAll, datas, itemsD, truD, List.getElem?_cons_zero, List.getElem?_cons_succ, List.set_cons_zero, List.set_cons_succ, Option.map_some, Option.map_none, Option.some.injEq, exists_eq_left', decide_eq_true_eq, Bool.not_true, Bool.not_false, Bool.false_eq_true, if_false, if_true, true_and, and_true, decide_true, decide_false, List.length_cons, List.length_nil, mx_0, mx_1, mx_2, mx_3, mx_4, mx_5, mx_6, mx_7, mx_8, mx_9, mx_10, mx_11, mx_12, mx_13, mx_14, mx_15, mx_16, mx_17, mx_18, mx_19, mx_20, mx_21, mx_22, mx_23, mx_24, Nat.reduceAdd, Nat.reduceLeDiff, Nat.zero_add, Bool.not_eq_true', decide_eq_false_iff_not, reduceIte, ev_reprb, e73, e117, e126, ap_check_jet, isJ_J, b0]
  exact ⟨_, rfl, h, _, _, _, rfl, h, zs, zb, hq⟩
end
def q_Lask_6 : RS := (.ret (.tup (.cons (.var 3) (.cons (.var 4) (.cons (.var 5) .nil)))))
def q_Lask_5 : RS := (.seq (.asg 5 (.call 5 (.cons (.call 17 (.cons (.call 24 (.cons (.var 4) .nil)) (.cons (.call 8 (.cons (.var 0) (.cons (.var 2) .nil))) .nil))) (.cons (.call 1 (.cons (.var 0) (.cons (.lst (.cons (.call 25 (.cons (.var 4) .nil)) (.cons (.call 9 (.cons (.var 0) (.cons (.var 2) .nil))) .nil))) .nil))) .nil)))) q_Lask_6)
def q_Lask_4 : RS := (.seq (.asg 4 (.call 88 (.cons (.var 0) (.cons (.var 2) .nil)))) q_Lask_5)
def q_Lask_3 : RS := (.seq (.iff (.bl (.cmp .inn (.var 3) (.lst (.cons (.con (.str (Str.ofString "dives"))) (.cons (.con (.str (Str.ofString "climbs"))) .nil))))) (.ret (.tup (.cons (.var 3) (.cons (.call 1 (.cons (.var 0) (.cons (.lst (.cons (.tup (.cons (.con (.int 0)) (.cons (.con (.int 1)) .nil))) (.cons (.call 8 (.cons (.var 0) (.cons (.var 2) .nil))) (.cons (.call 8 (.cons (.var 0) (.cons (.con (.int 3)) .nil))) .nil)))) .nil))) (.cons (.call 9 (.cons (.var 0) (.cons (.var 2) .nil))) .nil))))) .skip) q_Lask_4)
def q_Lask_2 : RS := (.seq (.iff (.bl (.cmp .inn (.var 3) (.lst (.cons (.con (.str (Str.ofString "low"))) (.cons (.con (.str (Str.ofString "quick"))) (.cons (.con (.str (Str.ofString "slow"))) .nil)))))) (.ret (.tup (.cons (.var 3) (.cons (.call 8 (.cons (.var 0) (.cons (.var 2) .nil))) .nil)))) .skip) q_Lask_3)
def q_Lask_1 : RS := (.seq (.iff (.bl (.cmp .inn (.var 3) (.lst (.cons (.con (.str (Str.ofString "over"))) (.cons (.con (.str (Str.ofString "under"))) .nil))))) (.ret (.tup (.cons (.var 3) (.cons (.call 88 (.cons (.var 0) (.cons (.var 2) .nil))) .nil)))) .skip) q_Lask_2)
def q_Lask_0 : RS := (.seq (.asg 3 (.call 1 (.cons (.var 0) (.cons (.var 1) .nil)))) q_Lask_1)
theorem q_Lask : rs_Lask = q_Lask_0 := rfl
def q_Lbound_2_t_2 : RS := (.ret (.tup (.cons (.var 3) (.cons (.call 31 (.cons (.var 4) (.cons (.call 16 (.cons (.tup (.cons (.con (.int 2)) (.cons (.con (.int 1)) .nil))) (.cons (.idx (.var 0) (.con (.int 1))) .nil))) .nil))) .nil))))
def q_Lbound_2_t_1 : RS := (.seq (.iff (.bl (.cmp .eq (.idx (.idx (.var 0) (.con (.int 1))) (.con (.int 0))) (.con (.int 0)))) (.ret (.tup (.cons (.ite (.or (.bl (.cmp .eq (.idx (.var 4) (.con (.int 0))) (.con (.int 0)))) (.bl (.cmp .eq (.cmp .lt (.idx (.var 4) (.con (.int 0))) (.con (.int 0))) (.cmp .eq (.var 2) (.con (.str (Str.ofString "dives"))))))) (.con (.str (Str.ofString "all"))) (.con (.str (Str.ofString "none")))) (.cons (.con .none) .nil)))) .skip) q_Lbound_2_t_2)
def q_Lbound_2_t_0 : RS := (.seq (.asg 4 (.call 23 (.cons (.var 1) (.cons (.idx (.var 0) (.con (.int 2))) .nil)))) q_Lbound_2_t_1)
def q_Lbound_4_t_1 : RS := (.ret (.tup (.cons (.var 3) (.cons (.call 31 (.cons (.call 23 (.cons (.call 16 (.cons (.var 1) (.cons (.var 5) .nil))) (.cons (.call 25 (.cons (.idx (.var 0) (.con (.int 1))) .nil)) .nil))) (.cons (.call 16 (.cons (.var 5) (.cons (.var 5) .nil))) .nil))) .nil))))
def q_Lbound_4_t_0 : RS := (.seq (.asg 5 (.call 24 (.cons (.idx (.var 0) (.con (.int 1))) .nil))) q_Lbound_4_t_1)
def q_Lbound_10_t_1 : RS := (.asg 11 (.bin .add (.var 11) (.ite (.and (.val (.call 59 (.cons (.idx (.var 11) (.con (.int 1))) (.cons (.var 12) .nil)))) (.val (.call 59 (.cons (.var 12) (.cons (.idx (.var 11) (.con (.int 0))) .nil))))) (.lst (.cons (.var 12) .nil)) (.lst .nil))))
def q_Lbound_10_t_0 : RS := (.seq (.asg 12 (.call 31 (.cons (.var 10) (.cons (.call 16 (.cons (.tup (.cons (.con (.int 2)) (.cons (.con (.int 1)) .nil))) (.cons (.var 8) .nil))) .nil)))) q_Lbound_10_t_1)
def q_Lbound_11_b_1 : RS := (.asg 9 (.ite (.or (.bl (.isN (.var 9))) (.val (.call 59 (.cons (.var 9) (.cons (.var 14) .nil))))) (.var 14) (.var 9)))
def q_Lbound_11_b_0 : RS := (.seq (.asg 14 (.call 23 (.cons (.call 16 (.cons (.var 10) (.cons (.var 13) .nil))) (.cons (.call 16 (.cons (.var 8) (.cons (.call 16 (.cons (.var 13) (.cons (.var 13) .nil))) .nil))) .nil)))) q_Lbound_11_b_1)
def q_Lbound_12 : RS := (.ret (.tup (.cons (.var 3) (.cons (.var 9) .nil))))
def q_Lbound_11 : RS := (.seq (.for (.one 13) (.seq (.var 11)) q_Lbound_11_b_0) q_Lbound_12)
def q_Lbound_10 : RS := (.seq (.iff (.bl (.cmp .gt (.idx (.var 8) (.con (.int 0))) (.con (.int 0)))) q_Lbound_10_t_0 .skip) q_Lbound_11)
def q_Lbound_9 : RS := (.seq (.asg 11 (.lst (.cons (.call 31 (.cons (.tup (.cons (.con (.int 1)) (.cons (.con (.int 1)) .nil))) (.cons (.var 6) .nil))) (.cons (.call 31 (.cons (.tup (.cons (.con (.int 1)) (.cons (.con (.int 1)) .nil))) (.cons (.var 5) .nil))) .nil)))) q_Lbound_10)
def q_Lbound_8 : RS := (.seq (.asg 10 (.call 23 (.cons (.var 1) (.cons (.var 7) .nil)))) q_Lbound_9)
def q_Lbound_7 : RS := (.seq (.par [8, 9] (.cons (.call 23 (.cons (.call 25 (.cons (.idx (.var 0) (.con (.int 1))) .nil)) (.cons (.call 16 (.cons (.var 7) (.cons (.var 6) .nil))) .nil))) (.cons (.con .none) .nil))) q_Lbound_8)
def q_Lbound_6 : RS := (.seq (.asg 7 (.call 31 (.cons (.call 23 (.cons (.call 25 (.cons (.idx (.var 0) (.con (.int 2))) .nil)) (.cons (.call 25 (.cons (.idx (.var 0) (.con (.int 1))) .nil)) .nil))) (.cons (.call 23 (.cons (.var 5) (.cons (.var 6) .nil))) .nil)))) q_Lbound_7)
def q_Lbound_5 : RS := (.seq (.par [6, 5] (.cons (.call 24 (.cons (.idx (.var 0) (.con (.int 1))) .nil)) (.cons (.call 24 (.cons (.idx (.var 0) (.con (.int 2))) .nil)) .nil))) q_Lbound_6)
def q_Lbound_4 : RS := (.seq (.iff (.bl (.cmp .inn (.var 2) (.lst (.cons (.con (.str (Str.ofString "over"))) (.cons (.con (.str (Str.ofString "under"))) .nil))))) q_Lbound_4_t_0 .skip) q_Lbound_5)
def q_Lbound_3 : RS := (.seq (.iff (.bl (.cmp .eq (.var 2) (.con (.str (Str.ofString "low"))))) (.ret (.tup (.cons (.var 3) (.cons (.ite (.bl (.cmp .gt (.idx (.var 1) (.con (.int 0))) (.con (.int 0)))) (.call 31 (.cons (.call 16 (.cons (.var 1) (.cons (.var 1) .nil))) (.cons (.call 16 (.cons (.tup (.cons (.con (.int 4)) (.cons (.con (.int 1)) .nil))) (.cons (.idx (.var 0) (.con (.int 1))) .nil))) .nil))) (.tup (.cons (.con (.int 0)) (.cons (.con (.int 1)) .nil)))) .nil)))) .skip) q_Lbound_4)
def q_Lbound_2 : RS := (.seq (.iff (.bl (.cmp .inn (.var 2) (.lst (.cons (.con (.str (Str.ofString "dives"))) (.cons (.con (.str (Str.ofString "climbs"))) .nil))))) q_Lbound_2_t_0 .skip) q_Lbound_3)
def q_Lbound_1 : RS := (.seq (.iff (.bl (.cmp .inn (.var 2) (.lst (.cons (.con (.str (Str.ofString "quick"))) (.cons (.con (.str (Str.ofString "slow"))) .nil))))) (.ret (.tup (.cons (.var 3) (.cons (.idx (.var 0) (.con (.int 1))) .nil)))) .skip) q_Lbound_2)
def q_Lbound_0 : RS := (.seq (.par [2, 3] (.cons (.idx (.var 0) (.con (.int 0))) (.cons (.ite (.bl (.cmp .inn (.idx (.var 0) (.con (.int 0))) (.lst (.cons (.con (.str (Str.ofString "under"))) (.cons (.con (.str (Str.ofString "roof"))) (.cons (.con (.str (Str.ofString "low"))) (.cons (.con (.str (Str.ofString "dives"))) (.cons (.con (.str (Str.ofString "slow"))) .nil)))))))) (.con (.str (Str.ofString "least"))) (.con (.str (Str.ofString "most")))) .nil))) q_Lbound_1)
theorem q_Lbound : rs_Lbound = q_Lbound_0 := rfl
def q_bound_at_4 : RS := (.ret (.tup (.cons (.ite (.bl (.cmp .eq (.var 2) (.con (.str (Str.ofString "lower"))))) (.con (.str (Str.ofString "least"))) (.con (.str (Str.ofString "most")))) (.cons (.call 124 (.cons (.var 0) (.cons (.var 1) .nil))) .nil))))
def q_bound_at_3 : RS := (.seq (.iff (.bl (.cmp .eq (.var 2) (.con (.str (Str.ofString "upright"))))) (.ret (.ite (.val (.call 125 (.cons (.var 0) (.cons (.var 1) .nil)))) (.tup (.cons (.con (.str (Str.ofString "all"))) (.cons (.con .none) .nil))) (.tup (.cons (.con (.str (Str.ofString "none"))) (.cons (.con .none) .nil))))) .skip) q_bound_at_4)
def q_bound_at_2 : RS := (.seq (.asg 2 (.call 118 (.cons (.var 0) .nil))) q_bound_at_3)
def q_bound_at_1 : RS := (.seq (.exp (.call 13 (.cons (.var 1) .nil))) q_bound_at_2)
def q_bound_at_0 : RS := (.seq (.exp (.call 117 (.cons (.var 0) .nil))) q_bound_at_1)
theorem q_bound_at : rs_bound_at = q_bound_at_0 := rfl
/-! ### the law's asks -/
def Ask.word : Ask → PyData
  | .over _ _ => .str (Str.ofString "over")
  | .under _ _ => .str (Str.ofString "under")
  | .roof _ _ _ _ => .str (Str.ofString "roof")
  | .low _ => .str (Str.ofString "low")
  | .dives _ _ => .str (Str.ofString "dives")
  | .climbs _ _ => .str (Str.ofString "climbs")
  | .quick _ => .str (Str.ofString "quick")
  | .slow _ => .str (Str.ofString "slow")
def wordsL : List PyData := [.str (Str.ofString "over"), .str (Str.ofString "under"), .str (Str.ofString "roof"), .str (Str.ofString "low"), .str (Str.ofString "dives"), .str (Str.ofString "climbs"), .str (Str.ofString "quick"), .str (Str.ofString "slow")]
def Ask.sm : Ask → Prop
  | .over x y => 0 < x ∧ Zf 31 x ∧ Zf 31 y
  | .under x y => 0 < x ∧ Zf 31 x ∧ Zf 31 y
  | .roof x y u v => 0 < x ∧ x < u ∧ Zf 31 x ∧ Zf 31 y ∧ Zf 63 u ∧ Zf 31 v
  | .low B => 0 < B ∧ Zf 31 B
  | .dives X M => 0 ≤ X ∧ Zf 31 X ∧ Zf 31 M
  | .climbs X M => 0 ≤ X ∧ Zf 31 X ∧ Zf 31 M
  | .quick B => 0 < B ∧ Zf 31 B
  | .slow B => 0 < B ∧ Zf 31 B
theorem zf_mm {x y u v : Rat} (zx : Zf 31 x) (zy : Zf 31 y) (zu : Zf 63 u) (zv : Zf 31 v) : Zf 158 (mm x y u v) := (Zf.div (Zf.sub zv zy) (Zf.sub zu zx) (by decide)).mono (by decide)
theorem zf_kk {x y u v : Rat} (zx : Zf 31 x) (zy : Zf 31 y) (zu : Zf 63 u) (zv : Zf 31 v) : Zf 221 (kk x y u v) := (Zf.sub zy (Zf.mul (zf_mm zx zy zu zv) zx)).mono (by decide)
theorem Ask.sm.ok {a : Ask} (h : a.sm) : a.ok := by
  cases a
  · exact ⟨h.1, h.2.1.mono (by decide), h.2.2.mono (by decide)⟩
  · exact ⟨h.1, h.2.1.mono (by decide), h.2.2.mono (by decide)⟩
  · obtain ⟨h0, h1, zx, zy, zu, zv⟩ := h
    exact ⟨h0, h1, zx.mono (by decide), zy.mono (by decide), zu.mono (by decide), zv.mono (by decide), (zf_mm zx zy zu zv).mono (by decide), (zf_kk zx zy zu zv).mono (by decide)⟩
  · exact ⟨h.1, h.2.mono (by decide)⟩
  · exact ⟨h.1, h.2.1.mono (by decide), h.2.2.mono (by decide)⟩
  · exact ⟨h.1, h.2.1.mono (by decide), h.2.2.mono (by decide)⟩
  · exact ⟨h.1, h.2.mono (by decide)⟩
  · exact ⟨h.1, h.2.mono (by decide)⟩
theorem zf_bvs {a : Ask} {s : Rat} (h : a.sm) (zs : Zf 40 s) : Zf 1900 (a.bv s) := by
  cases a
  all_goals simp only [Ask.bv, Ask.sm, lnp, arcv] at h ⊢
  · rename_i x y
    obtain ⟨h0, zx, zy⟩ := h
    walk_at "sz"
  · rename_i x y
    obtain ⟨h0, zx, zy⟩ := h
    walk_at "sz"
  · rename_i x y u v
    obtain ⟨h0, h1, zx, zy, zu, zv⟩ := h
    have zm := zf_mm zx zy zu zv
    have zk := zf_kk zx zy zu zv
    generalize kk x y u v = k at *
    generalize mm x y u v = m at *
    split
    · split <;> walk_at "sz"
    · split
      · split <;> walk_at "sz"
      · walk_at "sz"
  · rename_i B
    obtain ⟨h0, zB⟩ := h
    split <;> walk_at "sz"
  · rename_i X M
    obtain ⟨h0, zX, zM⟩ := h
    walk_at "sz"
  · rename_i X M
    obtain ⟨h0, zX, zM⟩ := h
    walk_at "sz"
  · rename_i B
    obtain ⟨h0, zB⟩ := h
    walk_at "sz"
  · rename_i B
    obtain ⟨h0, zB⟩ := h
    walk_at "sz"
def Ask.lw : Ask → Str
  | .over _ _ => Str.ofString "most"
  | .climbs _ _ => Str.ofString "most"
  | .quick _ => Str.ofString "most"
  | _ => Str.ofString "least"
def Ask.upr : Ask → Bool
  | .dives X _ => decide (X = 0)
  | .climbs X _ => decide (X = 0)
  | _ => false
def Ask.bd (a : Ask) (s : Rat) : PyData := if a.upr = true then .tuple [.str (if a.dn s 1 = true then Str.ofString "all" else Str.ofString "none"), .none] else .tuple [.str a.lw, F (a.bv s)]
def sp_Lask : PSp := fun ds Q => ∃ ws w, ds = [.vat, .d (.list ws), .d (.int w)] ∧ ws ≠ [] ∧ ws.length < 1000 ∧ (∀ x ∈ ws, x ∈ wordsL) ∧ 1 ≤ w ∧ w ≤ 1000000000 ∧ ∀ a : Ask, a.word ∈ ws → a.sm → Q (.d a.dat)
def sp_Lall_words : PSp := fun ds Q => ds = [] ∧ Q (.d (.list wordsL))
def sp_bound_at : PSp := fun ds Q => ∃ a s, ds = [.d (Ask.dat a), .d (F s)] ∧ a.ok ∧ Zf 250 s ∧ Q (.d (a.bd s))
def sp_Lbound : PSp := fun ds Q => ∃ a s, ds = [.d (Ask.dat a), .d (F s)] ∧ a.sm ∧ Zf 40 s ∧ Q (.d (a.bd s))
theorem lnp_eq {x y s : Rat} (h : 0 < x) : (s * x - y) / (x * x) = lnp x y s := by
  unfold lnp
  have : x ≠ 0 := by grind
  grind
/-! the greatest of a bent line over a stretch -/
theorem w_gap {L k p q : Rat} : (L * p - k * (p * p)) - (L * q - k * (q * q)) = (p - q) * (L - k * (p + q)) := by grind
def wv (L k t : Rat) : Rat := L * t - k * (t * t)
theorem inv_lt {x u : Rat} (h0 : 0 < x) (h1 : x < u) : 1 / u < 1 / x ∧ 0 < 1 / u := by
  have u0 : 0 < u := by grind
  have a : 0 < 1 / u := div_pos (by grind) u0
  have b : 0 < 1 / x := div_pos (by grind) h0
  refine ⟨?_, a⟩
  have e : 1 / x - 1 / u = (u - x) * (1 / x * (1 / u)) := by
    have : x ≠ 0 := by grind
    have : u ≠ 0 := by grind
    grind
  have := Rat.mul_pos (show 0 < u - x by grind) (Rat.mul_pos b a)
  grind
theorem wv_p {x y u v s : Rat} (h0 : 0 < x) (h1 : x < u) : wv (s - mm x y u v) (kk x y u v) (1 / x) = lnp x y s := by
  unfold wv lnp kk
  have : x ≠ 0 := by grind
  generalize mm x y u v = m
  grind
theorem wv_q {x y u v s : Rat} (h0 : 0 < x) (h1 : x < u) : wv (s - mm x y u v) (kk x y u v) (1 / u) = lnp u v s := by
  have hu : u ≠ 0 := by grind
  have hd : u - x ≠ 0 := by grind
  have e : kk x y u v + mm x y u v * u = v := by
    have : mm x y u v * (u - x) = v - y := by
      unfold mm
      exact Rat.div_mul_cancel hd
    unfold kk
    grind
  unfold wv lnp
  generalize hk : kk x y u v = k at *
  generalize hm : mm x y u v = m at *
  rw [← e]
  grind
theorem wv_gap {L k p q : Rat} : wv L k p - wv L k q = (p - q) * (L - k * (p + q)) := by
  unfold wv
  grind
theorem wv_mid {L k : Rat} (h : 0 < k) : wv L k (L / (2 * k)) = L * L / (4 * k) := by
  unfold wv
  have : k ≠ 0 := by grind
  grind
theorem wv_top {L k t : Rat} (h : 0 < k) : ¬ L * L / (4 * k) < wv L k t := by
  have e : L * L / (4 * k) - wv L k t = k * ((t - L / (2 * k)) * (t - L / (2 * k))) := by
    unfold wv
    have : k ≠ 0 := by grind
    grind
  have := Rat.mul_nonneg (Rat.le_of_lt h) (sq_nn (t - L / (2 * k)))
  grind
theorem arc_eq {k m s : Rat} (h : 0 < k) : arcv k m s = (s - m) * (s - m) / (4 * k) := by
  unfold arcv
  have : k ≠ 0 := by grind
  grind
def mxQ (a b : Rat) : Rat := if a < b then b else a
/-- below or at the joint of two lines of a roof -/
theorem mx_pq {L k p q : Rat} (h : q < p) : mxQ (wv L k p) (wv L k q) = if k * (p + q) < L then wv L k p else wv L k q := by
  have g := wv_gap (L := L) (k := k) (p := p) (q := q)
  unfold mxQ
  by_cases hl : k * (p + q) < L
  · rw [if_pos hl]
    have := Rat.mul_pos (show 0 < p - q by grind) (show 0 < L - k * (p + q) by grind)
    rw [if_neg (by grind)]
  · rw [if_neg hl]
    have := Rat.mul_nonneg (show 0 ≤ p - q by grind) (show 0 ≤ -(L - k * (p + q)) by grind)
    split
    · rfl
    · grind
theorem kdiv (k x : Rat) : k / x = k * (1 / x) := by
  by_cases h : x = 0
  · subst h
    simp [Rat.div_def]
  · grind
/-- the own greatest, and the parts' -/
theorem roof_own {x y u v s : Rat} (h0 : 0 < x) (h1 : x < u) :
    (Ask.roof x y u v).bv s = if 0 < kk x y u v ∧ 1 / u < (s - mm x y u v) / (2 * kk x y u v) ∧ (s - mm x y u v) / (2 * kk x y u v) < 1 / x
      then mxQ (mxQ (wv (s - mm x y u v) (kk x y u v) (1 / x)) (wv (s - mm x y u v) (kk x y u v) (1 / u))) (wv (s - mm x y u v) (kk x y u v) ((s - mm x y u v) / (2 * kk x y u v)))
      else mxQ (wv (s - mm x y u v) (kk x y u v) (1 / x)) (wv (s - mm x y u v) (kk x y u v) (1 / u)) := by
  obtain ⟨hpq, hq0⟩ := inv_lt h0 h1
  rw [mx_pq hpq]
  have eq := wv_q (y := y) (v := v) (s := s) h0 h1
  simp only [Ask.bv]
  rw [← wv_p (y := y) (v := v) (s := s) h0 h1, ← eq, kdiv (kk x y u v) x, kdiv (kk x y u v) u, kdiv (2 * kk x y u v) x, kdiv (2 * kk x y u v) u]
  generalize kk x y u v = k at *
  generalize mm x y u v = m at *
  generalize 1 / x = p at *
  generalize 1 / u = q at *
  by_cases hk : k ≤ 0
  · have hI : ¬(0 < k ∧ q < (s - m) / (2 * k) ∧ (s - m) / (2 * k) < p) := fun z => absurd z.1 (by grind)
    rw [if_pos hk, if_neg hI]
    by_cases hj : m + (k * p + k * q) < s
    · rw [if_pos hj, if_pos (by grind)]
    · rw [if_neg hj, if_neg (by grind)]
  · rw [if_neg hk]
    have k0 : 0 < k := by grind
    have hmid : (s - m) / (2 * k) * (2 * k) = s - m := Rat.div_mul_cancel (by grind)
    have kq : 0 < k * (p - q) := Rat.mul_pos k0 (by grind)
    by_cases hlo : m + 2 * k * q < s
    · rw [if_pos hlo]
      by_cases hhi : m + 2 * k * p < s
      · rw [if_pos hhi]
        have n : ¬ (s - m) / (2 * k) < p := by
          intro z
          have := Rat.mul_lt_mul_of_pos_right z (show 0 < 2 * k by grind)
          grind
        rw [if_neg (fun z => n z.2.2), if_pos (by grind)]
      · rw [if_neg hhi, arc_eq k0]
        by_cases he : s = m + 2 * k * p
        · have n : ¬ (s - m) / (2 * k) < p := by
            intro z
            have := Rat.mul_lt_mul_of_pos_right z (show 0 < 2 * k by grind)
            grind
          rw [if_neg (fun z => n z.2.2), if_pos (by grind)]
          have e : s - m = 2 * k * p := by grind
          rw [e]
          unfold wv
          have : k ≠ 0 := by grind
          grind
        · have c1 : q < (s - m) / (2 * k) := by
            by_cases z : q < (s - m) / (2 * k)
            · exact z
            · have := Rat.mul_le_mul_of_nonneg_right (show (s - m) / (2 * k) ≤ q by grind) (show 0 ≤ 2 * k by grind)
              grind
          have c2 : (s - m) / (2 * k) < p := by
            by_cases z : (s - m) / (2 * k) < p
            · exact z
            · have := Rat.mul_le_mul_of_nonneg_right (show p ≤ (s - m) / (2 * k) by grind) (show 0 ≤ 2 * k by grind)
              grind
          rw [if_pos ⟨k0, c1, c2⟩, wv_mid k0]
          have n1 := wv_top (L := s - m) (t := p) k0
          have n2 := wv_top (L := s - m) (t := q) k0
          have key : ∀ w, ¬ (s - m) * (s - m) / (4 * k) < w → (s - m) * (s - m) / (4 * k) = mxQ w ((s - m) * (s - m) / (4 * k)) := by
            intro w hw
            unfold mxQ
            split
            · rfl
            · grind
          by_cases hj : k * (p + q) < s - m
          · rw [if_pos hj]
            exact key _ n1
          · rw [if_neg hj]
            exact key _ n2
    · rw [if_neg hlo]
      have n : ¬ q < (s - m) / (2 * k) := by
        intro z
        have := Rat.mul_lt_mul_of_pos_right z (show 0 < 2 * k by grind)
        grind
      rw [if_neg (fun z => n z.2.1), if_neg (by grind)]
section
variable {Φ : Nat → PSp}
theorem sem_Lall_words : ∀ ds Q, sp_Lall_words ds Q → wS Φ rs_Lall_words { nx := fun _ => Q (.d .none), rt := Q } (startD [] ds) := by
  rintro ds Q ⟨rfl, hq⟩
  show wS Φ rs_Lall_words _ []
  simp only [rs_Lall_words, wS, wE, wA, wT, wI, wO, ev_add, ev_sub, ev_mul, ev_div, ev_mod, ev_pow, ev_cat, ev_lt, ev_le, ev_gt, ev_ge, ev_eq, ev_ne, ev_eqs, ev_nes, ix_F0, ix_F1, ix_J0, ix_J1, ix_P0, ix_P1, ix_P2, ix_t0, ix_t1, ix_t2, ix_l0, ix_l1, ix_l2, tg_1, tg_F, tg_J, tg_P, tg_2, tg_3, tg_4, fold_J, eq_F, ne_F, eq_J, ne_J, eq_P, ne_P, db_, di_, setVals, setAll, datas, itemsD, truD, List.getElem?_cons_zero, List.getElem?_cons_succ, List.set_cons_zero, List.set_cons_succ, Option.map_some, Option.map_none, Option.some.injEq, exists_eq_left', decide_eq_true_eq, Bool.not_true, Bool.not_false, Bool.false_eq_true, if_false, if_true, true_and, and_true, decide_true, decide_false, List.length_cons, List.length_nil, mx_0, mx_1, mx_2, mx_3, mx_4, mx_5, mx_6, mx_7, mx_8, mx_9, mx_10, mx_11, mx_12, mx_13, mx_14, mx_15, mx_16, mx_17, mx_18, mx_19, mx_20, mx_21, mx_22, mx_23, mx_24, Nat.reduceAdd, Nat.reduceLeDiff, Nat.zero_add, Bool.not_eq_true', decide_eq_false_iff_not, reduceIte, ev_reprb]
  exact hq
theorem sem_Lask (e1 : Φ 1 = sp_Lpick) (e88 : Φ 88 = sp_Lplace) (e8 : Φ 8 = sp_Labove) (e9 : Φ 9 = sp_Lsome_frac) (e5 : Φ 5 = sp_Lspot) (e17 : Φ 17 = sp_Ladd) (e24 : Φ 24 = sp_Lfar) (e25 : Φ 25 = sp_Lhigh) : ∀ ds Q, sp_Lask ds Q → wS Φ rs_Lask { nx := fun _ => Q (.d .none), rt := Q } (startD ["x0", "x1", "x2", "x3", "x4", "x5"] ds) := by
  rintro ds Q ⟨ws, w, rfl, hn, hl, hw, w0, w1, hq⟩
  show wS Φ rs_Lask _ [some (.val .vat), some (.val (.d (.list ws))), some (.val (.d (.int w))), none, none, none]
  rw [q_Lask]
  simp only [q_Lask_0, wS, wE, wA, wT, wI, wO, ev_add, ev_sub, ev_mul, ev_div, ev_mod, ev_pow, ev_cat, ev_lt, ev_le, ev_gt, ev_ge, ev_eq, ev_ne, ev_eqs, ev_nes, ix_F0, ix_F1, ix_J0, ix_J1, ix_P0, ix_P1, ix_P2, ix_t0, ix_t1, ix_t2, ix_l0, ix_l1, ix_l2, tg_1, tg_F, tg_J, tg_P, tg_2, tg_3, tg_4, fold_J, eq_F, ne_F, eq_J, ne_J, eq_P, ne_P, db_, di_, setVals, setAll, datas, itemsD, truD, List.getElem?_cons_zero, List.getElem?_cons_succ, List.set_cons_zero, List.set_cons_succ, Option.map_some, Option.map_none, Option.some.injEq, exists_eq_left', decide_eq_true_eq, Bool.not_true, Bool.not_false, Bool.false_eq_true, if_false, if_true, true_and, and_true, decide_true, decide_false, List.length_cons, List.length_nil, mx_0, mx_1, mx_2, mx_3, mx_4, mx_5, mx_6, mx_7, mx_8, mx_9, mx_10, mx_11, mx_12, mx_13, mx_14, mx_15, mx_16, mx_17, mx_18, mx_19, mx_20, mx_21, mx_22, mx_23, mx_24, Nat.reduceAdd, Nat.reduceLeDiff, Nat.zero_add, Bool.not_eq_true', decide_eq_false_iff_not, reduceIte, ev_reprb, e1, ap_Lpick]
  refine ⟨hn, hl, fun x hx => ?_⟩
  have hx' := hw x hx
  simp only [wordsL, List.mem_cons, List.not_mem_nil, or_false] at hx'
  rcases hx' with rfl | rfl | rfl | rfl | rfl | rfl | rfl | rfl
  · simp only [q_Lask_1, wS, wE, wA, wT, wI, wO, ev_add, ev_sub, ev_mul, ev_div, ev_mod, ev_pow, ev_cat, ev_lt, ev_le, ev_gt, ev_ge, ev_eq, ev_ne, ev_eqs, ev_nes, ix_F0, ix_F1, ix_J0, ix_J1, ix_P0, ix_P1, ix_P2, ix_t0, ix_t1, ix_t2, ix_l0, ix_l1, ix_l2, tg_1, tg_F, tg_J, tg_P, tg_2, tg_3, tg_4, fold_J, eq_F, ne_F, eq_J, ne_J, eq_P, ne_P, db_, di_, setVals, setAll, datas, itemsD, truD, List.getElem?_cons_zero, List.getElem?_cons_succ, List.set_cons_zero, List.set_cons_succ, Option.map_some, Option.map_none, Option.some.injEq, exists_eq_left', decide_eq_true_eq, Bool.not_true, Bool.not_false, Bool.false_eq_true, if_false, if_true, true_and, and_true, decide_true, decide_false, List.length_cons, List.length_nil, mx_0, mx_1, mx_2, mx_3, mx_4, mx_5, mx_6, mx_7, mx_8, mx_9, mx_10, mx_11, mx_12, mx_13, mx_14, mx_15, mx_16, mx_17, mx_18, mx_19, mx_20, mx_21, mx_22, mx_23, mx_24, Nat.reduceAdd, Nat.reduceLeDiff, Nat.zero_add, Bool.not_eq_true', decide_eq_false_iff_not, reduceIte, ev_reprb, we_over_over, wn_over_under, we_over_under, wn_over_roof, we_over_roof, wn_over_low, we_over_low, wn_over_dives, we_over_dives, wn_over_climbs, we_over_climbs, wn_over_quick, we_over_quick, wn_over_slow, we_over_slow, wn_under_over, we_under_over, we_under_under, wn_under_roof, we_under_roof, wn_under_low, we_under_low, wn_under_dives, we_under_dives, wn_under_climbs, we_under_climbs, wn_under_quick, we_under_quick, wn_under_slow, we_under_slow, wn_roof_over, we_roof_over, wn_roof_under, we_roof_under, we_roof_roof, wn_roof_low, we_roof_low, wn_roof_dives, we_roof_dives, wn_roof_climbs, we_roof_climbs, wn_roof_quick, we_roof_quick, wn_roof_slow, we_roof_slow, wn_low_over, we_low_over, wn_low_under, we_low_under, wn_low_roof, we_low_roof, we_low_low, wn_low_dives, we_low_dives, wn_low_climbs, we_low_climbs, wn_low_quick, we_low_quick, wn_low_slow, we_low_slow, wn_dives_over, we_dives_over, wn_dives_under, we_dives_under, wn_dives_roof, we_dives_roof, wn_dives_low, we_dives_low, we_dives_dives, wn_dives_climbs, we_dives_climbs, wn_dives_quick, we_dives_quick, wn_dives_slow, we_dives_slow, wn_climbs_over, we_climbs_over, wn_climbs_under, we_climbs_under, wn_climbs_roof, we_climbs_roof, wn_climbs_low, we_climbs_low, wn_climbs_dives, we_climbs_dives, we_climbs_climbs, wn_climbs_quick, we_climbs_quick, wn_climbs_slow, we_climbs_slow, wn_quick_over, we_quick_over, wn_quick_under, we_quick_under, wn_quick_roof, we_quick_roof, wn_quick_low, we_quick_low, wn_quick_dives, we_quick_dives, wn_quick_climbs, we_quick_climbs, we_quick_quick, wn_quick_slow, we_quick_slow, wn_slow_over, we_slow_over, wn_slow_under, we_slow_under, wn_slow_roof, we_slow_roof, wn_slow_low, we_slow_low, wn_slow_dives, we_slow_dives, wn_slow_climbs, we_slow_climbs, wn_slow_quick, we_slow_quick, we_slow_slow, we_upright_upright, wn_upright_upper, we_upright_upper, wn_upright_lower, we_upright_lower, wn_upper_upright, we_upper_upright, we_upper_upper, wn_upper_lower, we_upper_lower, wn_lower_upright, we_lower_upright, wn_lower_upper, we_lower_upper, we_lower_lower, we_least_least, wn_least_most, we_least_most, wn_least_all, we_least_all, wn_least_none, we_least_none, wn_most_least, we_most_least, we_most_most, wn_most_all, we_most_all, wn_most_none, we_most_none, wn_all_least, we_all_least, wn_all_most, we_all_most, we_all_all, wn_all_none, we_all_none, wn_none_least, we_none_least, wn_none_most, we_none_most, wn_none_all, we_none_all, we_none_none, ev_inn, ev_innl, ev_nin, flat_s, flat_i, List.all_cons, List.all_nil, List.any_cons, List.any_nil, Bool.or_false, Bool.false_or, Bool.or_true, Bool.true_or, Bool.and_self, eqv_int, ev_is, ev_isnt, reduceCtorEq, e88, ap_Lplace]
    exact ⟨w0, w1, fun x y x0 zx zy => hq (.over x y) hx ⟨x0, zx, zy⟩⟩
  · simp only [q_Lask_1, wS, wE, wA, wT, wI, wO, ev_add, ev_sub, ev_mul, ev_div, ev_mod, ev_pow, ev_cat, ev_lt, ev_le, ev_gt, ev_ge, ev_eq, ev_ne, ev_eqs, ev_nes, ix_F0, ix_F1, ix_J0, ix_J1, ix_P0, ix_P1, ix_P2, ix_t0, ix_t1, ix_t2, ix_l0, ix_l1, ix_l2, tg_1, tg_F, tg_J, tg_P, tg_2, tg_3, tg_4, fold_J, eq_F, ne_F, eq_J, ne_J, eq_P, ne_P, db_, di_, setVals, setAll, datas, itemsD, truD, List.getElem?_cons_zero, List.getElem?_cons_succ, List.set_cons_zero, List.set_cons_succ, Option.map_some, Option.map_none, Option.some.injEq, exists_eq_left', decide_eq_true_eq, Bool.not_true, Bool.not_false, Bool.false_eq_true, if_false, if_true, true_and, and_true, decide_true, decide_false, List.length_cons, List.length_nil, mx_0, mx_1, mx_2, mx_3, mx_4, mx_5, mx_6, mx_7, mx_8, mx_9, mx_10, mx_11, mx_12, mx_13, mx_14, mx_15, mx_16, mx_17, mx_18, mx_19, mx_20, mx_21, mx_22, mx_23, mx_24, Nat.reduceAdd, Nat.reduceLeDiff, Nat.zero_add, Bool.not_eq_true', decide_eq_false_iff_not, reduceIte, ev_reprb, we_over_over, wn_over_under, we_over_under, wn_over_roof, we_over_roof, wn_over_low, we_over_low, wn_over_dives, we_over_dives, wn_over_climbs, we_over_climbs, wn_over_quick, we_over_quick, wn_over_slow, we_over_slow, wn_under_over, we_under_over, we_under_under, wn_under_roof, we_under_roof, wn_under_low, we_under_low, wn_under_dives, we_under_dives, wn_under_climbs, we_under_climbs, wn_under_quick, we_under_quick, wn_under_slow, we_under_slow, wn_roof_over, we_roof_over, wn_roof_under, we_roof_under, we_roof_roof, wn_roof_low, we_roof_low, wn_roof_dives, we_roof_dives, wn_roof_climbs, we_roof_climbs, wn_roof_quick, we_roof_quick, wn_roof_slow, we_roof_slow, wn_low_over, we_low_over, wn_low_under, we_low_under, wn_low_roof, we_low_roof, we_low_low, wn_low_dives, we_low_dives, wn_low_climbs, we_low_climbs, wn_low_quick, we_low_quick, wn_low_slow, we_low_slow, wn_dives_over, we_dives_over, wn_dives_under, we_dives_under, wn_dives_roof, we_dives_roof, wn_dives_low, we_dives_low, we_dives_dives, wn_dives_climbs, we_dives_climbs, wn_dives_quick, we_dives_quick, wn_dives_slow, we_dives_slow, wn_climbs_over, we_climbs_over, wn_climbs_under, we_climbs_under, wn_climbs_roof, we_climbs_roof, wn_climbs_low, we_climbs_low, wn_climbs_dives, we_climbs_dives, we_climbs_climbs, wn_climbs_quick, we_climbs_quick, wn_climbs_slow, we_climbs_slow, wn_quick_over, we_quick_over, wn_quick_under, we_quick_under, wn_quick_roof, we_quick_roof, wn_quick_low, we_quick_low, wn_quick_dives, we_quick_dives, wn_quick_climbs, we_quick_climbs, we_quick_quick, wn_quick_slow, we_quick_slow, wn_slow_over, we_slow_over, wn_slow_under, we_slow_under, wn_slow_roof, we_slow_roof, wn_slow_low, we_slow_low, wn_slow_dives, we_slow_dives, wn_slow_climbs, we_slow_climbs, wn_slow_quick, we_slow_quick, we_slow_slow, we_upright_upright, wn_upright_upper, we_upright_upper, wn_upright_lower, we_upright_lower, wn_upper_upright, we_upper_upright, we_upper_upper, wn_upper_lower, we_upper_lower, wn_lower_upright, we_lower_upright, wn_lower_upper, we_lower_upper, we_lower_lower, we_least_least, wn_least_most, we_least_most, wn_least_all, we_least_all, wn_least_none, we_least_none, wn_most_least, we_most_least, we_most_most, wn_most_all, we_most_all, wn_most_none, we_most_none, wn_all_least, we_all_least, wn_all_most, we_all_most, we_all_all, wn_all_none, we_all_none, wn_none_least, we_none_least, wn_none_most, we_none_most, wn_none_all, we_none_all, we_none_none, ev_inn, ev_innl, ev_nin, flat_s, flat_i, List.all_cons, List.all_nil, List.any_cons, List.any_nil, Bool.or_false, Bool.false_or, Bool.or_true, Bool.true_or, Bool.and_self, eqv_int, ev_is, ev_isnt, reduceCtorEq, e88, ap_Lplace]
    exact ⟨w0, w1, fun x y x0 zx zy => hq (.under x y) hx ⟨x0, zx, zy⟩⟩
  · simp only [q_Lask_1, q_Lask_2, q_Lask_3, q_Lask_4, wS, wE, wA, wT, wI, wO, ev_add, ev_sub, ev_mul, ev_div, ev_mod, ev_pow, ev_cat, ev_lt, ev_le, ev_gt, ev_ge, ev_eq, ev_ne, ev_eqs, ev_nes, ix_F0, ix_F1, ix_J0, ix_J1, ix_P0, ix_P1, ix_P2, ix_t0, ix_t1, ix_t2, ix_l0, ix_l1, ix_l2, tg_1, tg_F, tg_J, tg_P, tg_2, tg_3, tg_4, fold_J, eq_F, ne_F, eq_J, ne_J, eq_P, ne_P, db_, di_, setVals, setAll, datas, itemsD, truD, List.getElem?_cons_zero, List.getElem?_cons_succ, List.set_cons_zero, List.set_cons_succ, Option.map_some, Option.map_none, Option.some.injEq, exists_eq_left', decide_eq_true_eq, Bool.not_true, Bool.not_false, Bool.false_eq_true, if_false, if_true, true_and, and_true, decide_true, decide_false, List.length_cons, List.length_nil, mx_0, mx_1, mx_2, mx_3, mx_4, mx_5, mx_6, mx_7, mx_8, mx_9, mx_10, mx_11, mx_12, mx_13, mx_14, mx_15, mx_16, mx_17, mx_18, mx_19, mx_20, mx_21, mx_22, mx_23, mx_24, Nat.reduceAdd, Nat.reduceLeDiff, Nat.zero_add, Bool.not_eq_true', decide_eq_false_iff_not, reduceIte, ev_reprb, we_over_over, wn_over_under, we_over_under, wn_over_roof, we_over_roof, wn_over_low, we_over_low, wn_over_dives, we_over_dives, wn_over_climbs, we_over_climbs, wn_over_quick, we_over_quick, wn_over_slow, we_over_slow, wn_under_over, we_under_over, we_under_under, wn_under_roof, we_under_roof, wn_under_low, we_under_low, wn_under_dives, we_under_dives, wn_under_climbs, we_under_climbs, wn_under_quick, we_under_quick, wn_under_slow, we_under_slow, wn_roof_over, we_roof_over, wn_roof_under, we_roof_under, we_roof_roof, wn_roof_low, we_roof_low, wn_roof_dives, we_roof_dives, wn_roof_climbs, we_roof_climbs, wn_roof_quick, we_roof_quick, wn_roof_slow, we_roof_slow, wn_low_over, we_low_over, wn_low_under, we_low_under, wn_low_roof, we_low_roof, we_low_low, wn_low_dives, we_low_dives, wn_low_climbs, we_low_climbs, wn_low_quick, we_low_quick, wn_low_slow, we_low_slow, wn_dives_over, we_dives_over, wn_dives_under, we_dives_under, wn_dives_roof, we_dives_roof, wn_dives_low, we_dives_low, we_dives_dives, wn_dives_climbs, we_dives_climbs, wn_dives_quick, we_dives_quick, wn_dives_slow, we_dives_slow, wn_climbs_over, we_climbs_over, wn_climbs_under, we_climbs_under, wn_climbs_roof, we_climbs_roof, wn_climbs_low, we_climbs_low, wn_climbs_dives, we_climbs_dives, we_climbs_climbs, wn_climbs_quick, we_climbs_quick, wn_climbs_slow, we_climbs_slow, wn_quick_over, we_quick_over, wn_quick_under, we_quick_under, wn_quick_roof, we_quick_roof, wn_quick_low, we_quick_low, wn_quick_dives, we_quick_dives, wn_quick_climbs, we_quick_climbs, we_quick_quick, wn_quick_slow, we_quick_slow, wn_slow_over, we_slow_over, wn_slow_under, we_slow_under, wn_slow_roof, we_slow_roof, wn_slow_low, we_slow_low, wn_slow_dives, we_slow_dives, wn_slow_climbs, we_slow_climbs, wn_slow_quick, we_slow_quick, we_slow_slow, we_upright_upright, wn_upright_upper, we_upright_upper, wn_upright_lower, we_upright_lower, wn_upper_upright, we_upper_upright, we_upper_upper, wn_upper_lower, we_upper_lower, wn_lower_upright, we_lower_upright, wn_lower_upper, we_lower_upper, we_lower_lower, we_least_least, wn_least_most, we_least_most, wn_least_all, we_least_all, wn_least_none, we_least_none, wn_most_least, we_most_least, we_most_most, wn_most_all, we_most_all, wn_most_none, we_most_none, wn_all_least, we_all_least, wn_all_most, we_all_most, we_all_all, wn_all_none, we_all_none, wn_none_least, we_none_least, wn_none_most, we_none_most, wn_none_all, we_none_all, we_none_none, ev_inn, ev_innl, ev_nin, flat_s, flat_i, List.all_cons, List.all_nil, List.any_cons, List.any_nil, Bool.or_false, Bool.false_or, Bool.or_true, Bool.true_or, Bool.and_self, eqv_int, ev_is, ev_isnt, reduceCtorEq, e88, ap_Lplace]
    refine ⟨w0, w1, fun x y x0 zx zy => ?_⟩
    have zp : Zp 8000 x y := (zx.pt zy).mono (by decide)
    simp only [q_Lask_5, wS, wE, wA, wT, wI, wO, ev_add, ev_sub, ev_mul, ev_div, ev_mod, ev_pow, ev_cat, ev_lt, ev_le, ev_gt, ev_ge, ev_eq, ev_ne, ev_eqs, ev_nes, ix_F0, ix_F1, ix_J0, ix_J1, ix_P0, ix_P1, ix_P2, ix_t0, ix_t1, ix_t2, ix_l0, ix_l1, ix_l2, tg_1, tg_F, tg_J, tg_P, tg_2, tg_3, tg_4, fold_J, eq_F, ne_F, eq_J, ne_J, eq_P, ne_P, db_, di_, setVals, setAll, datas, itemsD, truD, List.getElem?_cons_zero, List.getElem?_cons_succ, List.set_cons_zero, List.set_cons_succ, Option.map_some, Option.map_none, Option.some.injEq, exists_eq_left', decide_eq_true_eq, Bool.not_true, Bool.not_false, Bool.false_eq_true, if_false, if_true, true_and, and_true, decide_true, decide_false, List.length_cons, List.length_nil, mx_0, mx_1, mx_2, mx_3, mx_4, mx_5, mx_6, mx_7, mx_8, mx_9, mx_10, mx_11, mx_12, mx_13, mx_14, mx_15, mx_16, mx_17, mx_18, mx_19, mx_20, mx_21, mx_22, mx_23, mx_24, Nat.reduceAdd, Nat.reduceLeDiff, Nat.zero_add, Bool.not_eq_true', decide_eq_false_iff_not, reduceIte, ev_reprb, we_over_over, wn_over_under, we_over_under, wn_over_roof, we_over_roof, wn_over_low, we_over_low, wn_over_dives, we_over_dives, wn_over_climbs, we_over_climbs, wn_over_quick, we_over_quick, wn_over_slow, we_over_slow, wn_under_over, we_under_over, we_under_under, wn_under_roof, we_under_roof, wn_under_low, we_under_low, wn_under_dives, we_under_dives, wn_under_climbs, we_under_climbs, wn_under_quick, we_under_quick, wn_under_slow, we_under_slow, wn_roof_over, we_roof_over, wn_roof_under, we_roof_under, we_roof_roof, wn_roof_low, we_roof_low, wn_roof_dives, we_roof_dives, wn_roof_climbs, we_roof_climbs, wn_roof_quick, we_roof_quick, wn_roof_slow, we_roof_slow, wn_low_over, we_low_over, wn_low_under, we_low_under, wn_low_roof, we_low_roof, we_low_low, wn_low_dives, we_low_dives, wn_low_climbs, we_low_climbs, wn_low_quick, we_low_quick, wn_low_slow, we_low_slow, wn_dives_over, we_dives_over, wn_dives_under, we_dives_under, wn_dives_roof, we_dives_roof, wn_dives_low, we_dives_low, we_dives_dives, wn_dives_climbs, we_dives_climbs, wn_dives_quick, we_dives_quick, wn_dives_slow, we_dives_slow, wn_climbs_over, we_climbs_over, wn_climbs_under, we_climbs_under, wn_climbs_roof, we_climbs_roof, wn_climbs_low, we_climbs_low, wn_climbs_dives, we_climbs_dives, we_climbs_climbs, wn_climbs_quick, we_climbs_quick, wn_climbs_slow, we_climbs_slow, wn_quick_over, we_quick_over, wn_quick_under, we_quick_under, wn_quick_roof, we_quick_roof, wn_quick_low, we_quick_low, wn_quick_dives, we_quick_dives, wn_quick_climbs, we_quick_climbs, we_quick_quick, wn_quick_slow, we_quick_slow, wn_slow_over, we_slow_over, wn_slow_under, we_slow_under, wn_slow_roof, we_slow_roof, wn_slow_low, we_slow_low, wn_slow_dives, we_slow_dives, wn_slow_climbs, we_slow_climbs, wn_slow_quick, we_slow_quick, we_slow_slow, we_upright_upright, wn_upright_upper, we_upright_upper, wn_upright_lower, we_upright_lower, wn_upper_upright, we_upper_upright, we_upper_upper, wn_upper_lower, we_upper_lower, wn_lower_upright, we_lower_upright, wn_lower_upper, we_lower_upper, we_lower_lower, we_least_least, wn_least_most, we_least_most, wn_least_all, we_least_all, wn_least_none, we_least_none, wn_most_least, we_most_least, we_most_most, wn_most_all, we_most_all, wn_most_none, we_most_none, wn_all_least, we_all_least, wn_all_most, we_all_most, we_all_all, wn_all_none, we_all_none, wn_none_least, we_none_least, wn_none_most, we_none_most, wn_none_all, we_none_all, we_none_none, ev_inn, ev_innl, ev_nin, flat_s, flat_i, List.all_cons, List.all_nil, List.any_cons, List.any_nil, Bool.or_false, Bool.false_or, Bool.or_true, Bool.true_or, Bool.and_self, eqv_int, ev_is, ev_isnt, reduceCtorEq, e24, e25, e8, e17, e1, e9, e5, ap_Lfar, ap_Lhigh, ap_Labove, ap_Ladd, ap_Lsome_frac, ap_Lpick]
    refine ⟨zp, by omega, w1, fun d d0 zd => ⟨by walk_at "sz", by walk_at "sz", zp, w0, w1, fun v zv => ⟨by simp, by simp, fun z hz => ?_⟩⟩⟩
    have : ∃ v', z = F v' ∧ Zf 31 v' := by
      simp only [List.mem_cons, List.not_mem_nil, or_false] at hz
      rcases hz with rfl | rfl
      · exact ⟨_, rfl, zy⟩
      · exact ⟨_, rfl, zv⟩
    obtain ⟨v', rfl, zv'⟩ := this
    rw [ap_Lspot]
    refine ⟨by walk_at "sz", by walk_at "sz", ?_⟩
    simp only [q_Lask_6, wS, wE, wA, wT, wI, wO, ev_add, ev_sub, ev_mul, ev_div, ev_mod, ev_pow, ev_cat, ev_lt, ev_le, ev_gt, ev_ge, ev_eq, ev_ne, ev_eqs, ev_nes, ix_F0, ix_F1, ix_J0, ix_J1, ix_P0, ix_P1, ix_P2, ix_t0, ix_t1, ix_t2, ix_l0, ix_l1, ix_l2, tg_1, tg_F, tg_J, tg_P, tg_2, tg_3, tg_4, fold_J, eq_F, ne_F, eq_J, ne_J, eq_P, ne_P, db_, di_, setVals, setAll, datas, itemsD, truD, List.getElem?_cons_zero, List.getElem?_cons_succ, List.set_cons_zero, List.set_cons_succ, Option.map_some, Option.map_none, Option.some.injEq, exists_eq_left', decide_eq_true_eq, Bool.not_true, Bool.not_false, Bool.false_eq_true, if_false, if_true, true_and, and_true, decide_true, decide_false, List.length_cons, List.length_nil, mx_0, mx_1, mx_2, mx_3, mx_4, mx_5, mx_6, mx_7, mx_8, mx_9, mx_10, mx_11, mx_12, mx_13, mx_14, mx_15, mx_16, mx_17, mx_18, mx_19, mx_20, mx_21, mx_22, mx_23, mx_24, Nat.reduceAdd, Nat.reduceLeDiff, Nat.zero_add, Bool.not_eq_true', decide_eq_false_iff_not, reduceIte, ev_reprb]
    exact hq (.roof x y (x + d) v') hx ⟨x0, by grind, zx, zy, by walk_at "sz", zv'⟩
  · simp only [q_Lask_1, q_Lask_2, wS, wE, wA, wT, wI, wO, ev_add, ev_sub, ev_mul, ev_div, ev_mod, ev_pow, ev_cat, ev_lt, ev_le, ev_gt, ev_ge, ev_eq, ev_ne, ev_eqs, ev_nes, ix_F0, ix_F1, ix_J0, ix_J1, ix_P0, ix_P1, ix_P2, ix_t0, ix_t1, ix_t2, ix_l0, ix_l1, ix_l2, tg_1, tg_F, tg_J, tg_P, tg_2, tg_3, tg_4, fold_J, eq_F, ne_F, eq_J, ne_J, eq_P, ne_P, db_, di_, setVals, setAll, datas, itemsD, truD, List.getElem?_cons_zero, List.getElem?_cons_succ, List.set_cons_zero, List.set_cons_succ, Option.map_some, Option.map_none, Option.some.injEq, exists_eq_left', decide_eq_true_eq, Bool.not_true, Bool.not_false, Bool.false_eq_true, if_false, if_true, true_and, and_true, decide_true, decide_false, List.length_cons, List.length_nil, mx_0, mx_1, mx_2, mx_3, mx_4, mx_5, mx_6, mx_7, mx_8, mx_9, mx_10, mx_11, mx_12, mx_13, mx_14, mx_15, mx_16, mx_17, mx_18, mx_19, mx_20, mx_21, mx_22, mx_23, mx_24, Nat.reduceAdd, Nat.reduceLeDiff, Nat.zero_add, Bool.not_eq_true', decide_eq_false_iff_not, reduceIte, ev_reprb, we_over_over, wn_over_under, we_over_under, wn_over_roof, we_over_roof, wn_over_low, we_over_low, wn_over_dives, we_over_dives, wn_over_climbs, we_over_climbs, wn_over_quick, we_over_quick, wn_over_slow, we_over_slow, wn_under_over, we_under_over, we_under_under, wn_under_roof, we_under_roof, wn_under_low, we_under_low, wn_under_dives, we_under_dives, wn_under_climbs, we_under_climbs, wn_under_quick, we_under_quick, wn_under_slow, we_under_slow, wn_roof_over, we_roof_over, wn_roof_under, we_roof_under, we_roof_roof, wn_roof_low, we_roof_low, wn_roof_dives, we_roof_dives, wn_roof_climbs, we_roof_climbs, wn_roof_quick, we_roof_quick, wn_roof_slow, we_roof_slow, wn_low_over, we_low_over, wn_low_under, we_low_under, wn_low_roof, we_low_roof, we_low_low, wn_low_dives, we_low_dives, wn_low_climbs, we_low_climbs, wn_low_quick, we_low_quick, wn_low_slow, we_low_slow, wn_dives_over, we_dives_over, wn_dives_under, we_dives_under, wn_dives_roof, we_dives_roof, wn_dives_low, we_dives_low, we_dives_dives, wn_dives_climbs, we_dives_climbs, wn_dives_quick, we_dives_quick, wn_dives_slow, we_dives_slow, wn_climbs_over, we_climbs_over, wn_climbs_under, we_climbs_under, wn_climbs_roof, we_climbs_roof, wn_climbs_low, we_climbs_low, wn_climbs_dives, we_climbs_dives, we_climbs_climbs, wn_climbs_quick, we_climbs_quick, wn_climbs_slow, we_climbs_slow, wn_quick_over, we_quick_over, wn_quick_under, we_quick_under, wn_quick_roof, we_quick_roof, wn_quick_low, we_quick_low, wn_quick_dives, we_quick_dives, wn_quick_climbs, we_quick_climbs, we_quick_quick, wn_quick_slow, we_quick_slow, wn_slow_over, we_slow_over, wn_slow_under, we_slow_under, wn_slow_roof, we_slow_roof, wn_slow_low, we_slow_low, wn_slow_dives, we_slow_dives, wn_slow_climbs, we_slow_climbs, wn_slow_quick, we_slow_quick, we_slow_slow, we_upright_upright, wn_upright_upper, we_upright_upper, wn_upright_lower, we_upright_lower, wn_upper_upright, we_upper_upright, we_upper_upper, wn_upper_lower, we_upper_lower, wn_lower_upright, we_lower_upright, wn_lower_upper, we_lower_upper, we_lower_lower, we_least_least, wn_least_most, we_least_most, wn_least_all, we_least_all, wn_least_none, we_least_none, wn_most_least, we_most_least, we_most_most, wn_most_all, we_most_all, wn_most_none, we_most_none, wn_all_least, we_all_least, wn_all_most, we_all_most, we_all_all, wn_all_none, we_all_none, wn_none_least, we_none_least, wn_none_most, we_none_most, wn_none_all, we_none_all, we_none_none, ev_inn, ev_innl, ev_nin, flat_s, flat_i, List.all_cons, List.all_nil, List.any_cons, List.any_nil, Bool.or_false, Bool.false_or, Bool.or_true, Bool.true_or, Bool.and_self, eqv_int, ev_is, ev_isnt, reduceCtorEq, e8, ap_Labove]
    exact ⟨by omega, w1, fun B B0 zB => hq (.low B) hx ⟨B0, zB⟩⟩
  · simp only [q_Lask_1, q_Lask_2, q_Lask_3, wS, wE, wA, wT, wI, wO, ev_add, ev_sub, ev_mul, ev_div, ev_mod, ev_pow, ev_cat, ev_lt, ev_le, ev_gt, ev_ge, ev_eq, ev_ne, ev_eqs, ev_nes, ix_F0, ix_F1, ix_J0, ix_J1, ix_P0, ix_P1, ix_P2, ix_t0, ix_t1, ix_t2, ix_l0, ix_l1, ix_l2, tg_1, tg_F, tg_J, tg_P, tg_2, tg_3, tg_4, fold_J, eq_F, ne_F, eq_J, ne_J, eq_P, ne_P, db_, di_, setVals, setAll, datas, itemsD, truD, List.getElem?_cons_zero, List.getElem?_cons_succ, List.set_cons_zero, List.set_cons_succ, Option.map_some, Option.map_none, Option.some.injEq, exists_eq_left', decide_eq_true_eq, Bool.not_true, Bool.not_false, Bool.false_eq_true, if_false, if_true, true_and, and_true, decide_true, decide_false, List.length_cons, List.length_nil, mx_0, mx_1, mx_2, mx_3, mx_4, mx_5, mx_6, mx_7, mx_8, mx_9, mx_10, mx_11, mx_12, mx_13, mx_14, mx_15, mx_16, mx_17, mx_18, mx_19, mx_20, mx_21, mx_22, mx_23, mx_24, Nat.reduceAdd, Nat.reduceLeDiff, Nat.zero_add, Bool.not_eq_true', decide_eq_false_iff_not, reduceIte, ev_reprb, we_over_over, wn_over_under, we_over_under, wn_over_roof, we_over_roof, wn_over_low, we_over_low, wn_over_dives, we_over_dives, wn_over_climbs, we_over_climbs, wn_over_quick, we_over_quick, wn_over_slow, we_over_slow, wn_under_over, we_under_over, we_under_under, wn_under_roof, we_under_roof, wn_under_low, we_under_low, wn_under_dives, we_under_dives, wn_under_climbs, we_under_climbs, wn_under_quick, we_under_quick, wn_under_slow, we_under_slow, wn_roof_over, we_roof_over, wn_roof_under, we_roof_under, we_roof_roof, wn_roof_low, we_roof_low, wn_roof_dives, we_roof_dives, wn_roof_climbs, we_roof_climbs, wn_roof_quick, we_roof_quick, wn_roof_slow, we_roof_slow, wn_low_over, we_low_over, wn_low_under, we_low_under, wn_low_roof, we_low_roof, we_low_low, wn_low_dives, we_low_dives, wn_low_climbs, we_low_climbs, wn_low_quick, we_low_quick, wn_low_slow, we_low_slow, wn_dives_over, we_dives_over, wn_dives_under, we_dives_under, wn_dives_roof, we_dives_roof, wn_dives_low, we_dives_low, we_dives_dives, wn_dives_climbs, we_dives_climbs, wn_dives_quick, we_dives_quick, wn_dives_slow, we_dives_slow, wn_climbs_over, we_climbs_over, wn_climbs_under, we_climbs_under, wn_climbs_roof, we_climbs_roof, wn_climbs_low, we_climbs_low, wn_climbs_dives, we_climbs_dives, we_climbs_climbs, wn_climbs_quick, we_climbs_quick, wn_climbs_slow, we_climbs_slow, wn_quick_over, we_quick_over, wn_quick_under, we_quick_under, wn_quick_roof, we_quick_roof, wn_quick_low, we_quick_low, wn_quick_dives, we_quick_dives, wn_quick_climbs, we_quick_climbs, we_quick_quick, wn_quick_slow, we_quick_slow, wn_slow_over, we_slow_over, wn_slow_under, we_slow_under, wn_slow_roof, we_slow_roof, wn_slow_low, we_slow_low, wn_slow_dives, we_slow_dives, wn_slow_climbs, we_slow_climbs, wn_slow_quick, we_slow_quick, we_slow_slow, we_upright_upright, wn_upright_upper, we_upright_upper, wn_upright_lower, we_upright_lower, wn_upper_upright, we_upper_upright, we_upper_upper, wn_upper_lower, we_upper_lower, wn_lower_upright, we_lower_upright, wn_lower_upper, we_lower_upper, we_lower_lower, we_least_least, wn_least_most, we_least_most, wn_least_all, we_least_all, wn_least_none, we_least_none, wn_most_least, we_most_least, we_most_most, wn_most_all, we_most_all, wn_most_none, we_most_none, wn_all_least, we_all_least, wn_all_most, we_all_most, we_all_all, wn_all_none, we_all_none, wn_none_least, we_none_least, wn_none_most, we_none_most, wn_none_all, we_none_all, we_none_none, ev_inn, ev_innl, ev_nin, flat_s, flat_i, List.all_cons, List.all_nil, List.any_cons, List.any_nil, Bool.or_false, Bool.false_or, Bool.or_true, Bool.true_or, Bool.and_self, eqv_int, ev_is, ev_isnt, reduceCtorEq, e8, e1, ap_Labove, ap_Lpick, lit_0]
    refine ⟨by omega, w1, fun X X0 zX => ⟨by decide, by decide, fun Y Y0 zY => ⟨by simp, by simp, fun z hz => ?_⟩⟩⟩
    have : ∃ v', z = F v' ∧ 0 ≤ v' ∧ Zf 31 v' := by
      simp only [List.mem_cons, List.not_mem_nil, or_false] at hz
      rcases hz with rfl | rfl | rfl
      · exact ⟨_, rfl, by grind, zl0.mono (by decide)⟩
      · exact ⟨_, rfl, by grind, zX⟩
      · exact ⟨_, rfl, by grind, zY⟩
    obtain ⟨X', rfl, X'0, zX'⟩ := this
    simp only [wS, wE, wA, wT, wI, wO, ev_add, ev_sub, ev_mul, ev_div, ev_mod, ev_pow, ev_cat, ev_lt, ev_le, ev_gt, ev_ge, ev_eq, ev_ne, ev_eqs, ev_nes, ix_F0, ix_F1, ix_J0, ix_J1, ix_P0, ix_P1, ix_P2, ix_t0, ix_t1, ix_t2, ix_l0, ix_l1, ix_l2, tg_1, tg_F, tg_J, tg_P, tg_2, tg_3, tg_4, fold_J, eq_F, ne_F, eq_J, ne_J, eq_P, ne_P, db_, di_, setVals, setAll, datas, itemsD, truD, List.getElem?_cons_zero, List.getElem?_cons_succ, List.set_cons_zero, List.set_cons_succ, Option.map_some, Option.map_none, Option.some.injEq, exists_eq_left', decide_eq_true_eq, Bool.not_true, Bool.not_false, Bool.false_eq_true, if_false, if_true, true_and, and_true, decide_true, decide_false, List.length_cons, List.length_nil, mx_0, mx_1, mx_2, mx_3, mx_4, mx_5, mx_6, mx_7, mx_8, mx_9, mx_10, mx_11, mx_12, mx_13, mx_14, mx_15, mx_16, mx_17, mx_18, mx_19, mx_20, mx_21, mx_22, mx_23, mx_24, Nat.reduceAdd, Nat.reduceLeDiff, Nat.zero_add, Bool.not_eq_true', decide_eq_false_iff_not, reduceIte, ev_reprb, e9, ap_Lsome_frac]
    refine ⟨w0, w1, fun M zM => ?_⟩
    exact hq (.dives X' M) hx ⟨X'0, zX', zM⟩
  · simp only [q_Lask_1, q_Lask_2, q_Lask_3, wS, wE, wA, wT, wI, wO, ev_add, ev_sub, ev_mul, ev_div, ev_mod, ev_pow, ev_cat, ev_lt, ev_le, ev_gt, ev_ge, ev_eq, ev_ne, ev_eqs, ev_nes, ix_F0, ix_F1, ix_J0, ix_J1, ix_P0, ix_P1, ix_P2, ix_t0, ix_t1, ix_t2, ix_l0, ix_l1, ix_l2, tg_1, tg_F, tg_J, tg_P, tg_2, tg_3, tg_4, fold_J, eq_F, ne_F, eq_J, ne_J, eq_P, ne_P, db_, di_, setVals, setAll, datas, itemsD, truD, List.getElem?_cons_zero, List.getElem?_cons_succ, List.set_cons_zero, List.set_cons_succ, Option.map_some, Option.map_none, Option.some.injEq, exists_eq_left', decide_eq_true_eq, Bool.not_true, Bool.not_false, Bool.false_eq_true, if_false, if_true, true_and, and_true, decide_true, decide_false, List.length_cons, List.length_nil, mx_0, mx_1, mx_2, mx_3, mx_4, mx_5, mx_6, mx_7, mx_8, mx_9, mx_10, mx_11, mx_12, mx_13, mx_14, mx_15, mx_16, mx_17, mx_18, mx_19, mx_20, mx_21, mx_22, mx_23, mx_24, Nat.reduceAdd, Nat.reduceLeDiff, Nat.zero_add, Bool.not_eq_true', decide_eq_false_iff_not, reduceIte, ev_reprb, we_over_over, wn_over_under, we_over_under, wn_over_roof, we_over_roof, wn_over_low, we_over_low, wn_over_dives, we_over_dives, wn_over_climbs, we_over_climbs, wn_over_quick, we_over_quick, wn_over_slow, we_over_slow, wn_under_over, we_under_over, we_under_under, wn_under_roof, we_under_roof, wn_under_low, we_under_low, wn_under_dives, we_under_dives, wn_under_climbs, we_under_climbs, wn_under_quick, we_under_quick, wn_under_slow, we_under_slow, wn_roof_over, we_roof_over, wn_roof_under, we_roof_under, we_roof_roof, wn_roof_low, we_roof_low, wn_roof_dives, we_roof_dives, wn_roof_climbs, we_roof_climbs, wn_roof_quick, we_roof_quick, wn_roof_slow, we_roof_slow, wn_low_over, we_low_over, wn_low_under, we_low_under, wn_low_roof, we_low_roof, we_low_low, wn_low_dives, we_low_dives, wn_low_climbs, we_low_climbs, wn_low_quick, we_low_quick, wn_low_slow, we_low_slow, wn_dives_over, we_dives_over, wn_dives_under, we_dives_under, wn_dives_roof, we_dives_roof, wn_dives_low, we_dives_low, we_dives_dives, wn_dives_climbs, we_dives_climbs, wn_dives_quick, we_dives_quick, wn_dives_slow, we_dives_slow, wn_climbs_over, we_climbs_over, wn_climbs_under, we_climbs_under, wn_climbs_roof, we_climbs_roof, wn_climbs_low, we_climbs_low, wn_climbs_dives, we_climbs_dives, we_climbs_climbs, wn_climbs_quick, we_climbs_quick, wn_climbs_slow, we_climbs_slow, wn_quick_over, we_quick_over, wn_quick_under, we_quick_under, wn_quick_roof, we_quick_roof, wn_quick_low, we_quick_low, wn_quick_dives, we_quick_dives, wn_quick_climbs, we_quick_climbs, we_quick_quick, wn_quick_slow, we_quick_slow, wn_slow_over, we_slow_over, wn_slow_under, we_slow_under, wn_slow_roof, we_slow_roof, wn_slow_low, we_slow_low, wn_slow_dives, we_slow_dives, wn_slow_climbs, we_slow_climbs, wn_slow_quick, we_slow_quick, we_slow_slow, we_upright_upright, wn_upright_upper, we_upright_upper, wn_upright_lower, we_upright_lower, wn_upper_upright, we_upper_upright, we_upper_upper, wn_upper_lower, we_upper_lower, wn_lower_upright, we_lower_upright, wn_lower_upper, we_lower_upper, we_lower_lower, we_least_least, wn_least_most, we_least_most, wn_least_all, we_least_all, wn_least_none, we_least_none, wn_most_least, we_most_least, we_most_most, wn_most_all, we_most_all, wn_most_none, we_most_none, wn_all_least, we_all_least, wn_all_most, we_all_most, we_all_all, wn_all_none, we_all_none, wn_none_least, we_none_least, wn_none_most, we_none_most, wn_none_all, we_none_all, we_none_none, ev_inn, ev_innl, ev_nin, flat_s, flat_i, List.all_cons, List.all_nil, List.any_cons, List.any_nil, Bool.or_false, Bool.false_or, Bool.or_true, Bool.true_or, Bool.and_self, eqv_int, ev_is, ev_isnt, reduceCtorEq, e8, e1, ap_Labove, ap_Lpick, lit_0]
    refine ⟨by omega, w1, fun X X0 zX => ⟨by decide, by decide, fun Y Y0 zY => ⟨by simp, by simp, fun z hz => ?_⟩⟩⟩
    have : ∃ v', z = F v' ∧ 0 ≤ v' ∧ Zf 31 v' := by
      simp only [List.mem_cons, List.not_mem_nil, or_false] at hz
      rcases hz with rfl | rfl | rfl
      · exact ⟨_, rfl, by grind, zl0.mono (by decide)⟩
      · exact ⟨_, rfl, by grind, zX⟩
      · exact ⟨_, rfl, by grind, zY⟩
    obtain ⟨X', rfl, X'0, zX'⟩ := this
    simp only [wS, wE, wA, wT, wI, wO, ev_add, ev_sub, ev_mul, ev_div, ev_mod, ev_pow, ev_cat, ev_lt, ev_le, ev_gt, ev_ge, ev_eq, ev_ne, ev_eqs, ev_nes, ix_F0, ix_F1, ix_J0, ix_J1, ix_P0, ix_P1, ix_P2, ix_t0, ix_t1, ix_t2, ix_l0, ix_l1, ix_l2, tg_1, tg_F, tg_J, tg_P, tg_2, tg_3, tg_4, fold_J, eq_F, ne_F, eq_J, ne_J, eq_P, ne_P, db_, di_, setVals, setAll, datas, itemsD, truD, List.getElem?_cons_zero, List.getElem?_cons_succ, List.set_cons_zero, List.set_cons_succ, Option.map_some, Option.map_none, Option.some.injEq, exists_eq_left', decide_eq_true_eq, Bool.not_true, Bool.not_false, Bool.false_eq_true, if_false, if_true, true_and, and_true, decide_true, decide_false, List.length_cons, List.length_nil, mx_0, mx_1, mx_2, mx_3, mx_4, mx_5, mx_6, mx_7, mx_8, mx_9, mx_10, mx_11, mx_12, mx_13, mx_14, mx_15, mx_16, mx_17, mx_18, mx_19, mx_20, mx_21, mx_22, mx_23, mx_24, Nat.reduceAdd, Nat.reduceLeDiff, Nat.zero_add, Bool.not_eq_true', decide_eq_false_iff_not, reduceIte, ev_reprb, e9, ap_Lsome_frac]
    refine ⟨w0, w1, fun M zM => ?_⟩
    exact hq (.climbs X' M) hx ⟨X'0, zX', zM⟩
  · simp only [q_Lask_1, q_Lask_2, wS, wE, wA, wT, wI, wO, ev_add, ev_sub, ev_mul, ev_div, ev_mod, ev_pow, ev_cat, ev_lt, ev_le, ev_gt, ev_ge, ev_eq, ev_ne, ev_eqs, ev_nes, ix_F0, ix_F1, ix_J0, ix_J1, ix_P0, ix_P1, ix_P2, ix_t0, ix_t1, ix_t2, ix_l0, ix_l1, ix_l2, tg_1, tg_F, tg_J, tg_P, tg_2, tg_3, tg_4, fold_J, eq_F, ne_F, eq_J, ne_J, eq_P, ne_P, db_, di_, setVals, setAll, datas, itemsD, truD, List.getElem?_cons_zero, List.getElem?_cons_succ, List.set_cons_zero, List.set_cons_succ, Option.map_some, Option.map_none, Option.some.injEq, exists_eq_left', decide_eq_true_eq, Bool.not_true, Bool.not_false, Bool.false_eq_true, if_false, if_true, true_and, and_true, decide_true, decide_false, List.length_cons, List.length_nil, mx_0, mx_1, mx_2, mx_3, mx_4, mx_5, mx_6, mx_7, mx_8, mx_9, mx_10, mx_11, mx_12, mx_13, mx_14, mx_15, mx_16, mx_17, mx_18, mx_19, mx_20, mx_21, mx_22, mx_23, mx_24, Nat.reduceAdd, Nat.reduceLeDiff, Nat.zero_add, Bool.not_eq_true', decide_eq_false_iff_not, reduceIte, ev_reprb, we_over_over, wn_over_under, we_over_under, wn_over_roof, we_over_roof, wn_over_low, we_over_low, wn_over_dives, we_over_dives, wn_over_climbs, we_over_climbs, wn_over_quick, we_over_quick, wn_over_slow, we_over_slow, wn_under_over, we_under_over, we_under_under, wn_under_roof, we_under_roof, wn_under_low, we_under_low, wn_under_dives, we_under_dives, wn_under_climbs, we_under_climbs, wn_under_quick, we_under_quick, wn_under_slow, we_under_slow, wn_roof_over, we_roof_over, wn_roof_under, we_roof_under, we_roof_roof, wn_roof_low, we_roof_low, wn_roof_dives, we_roof_dives, wn_roof_climbs, we_roof_climbs, wn_roof_quick, we_roof_quick, wn_roof_slow, we_roof_slow, wn_low_over, we_low_over, wn_low_under, we_low_under, wn_low_roof, we_low_roof, we_low_low, wn_low_dives, we_low_dives, wn_low_climbs, we_low_climbs, wn_low_quick, we_low_quick, wn_low_slow, we_low_slow, wn_dives_over, we_dives_over, wn_dives_under, we_dives_under, wn_dives_roof, we_dives_roof, wn_dives_low, we_dives_low, we_dives_dives, wn_dives_climbs, we_dives_climbs, wn_dives_quick, we_dives_quick, wn_dives_slow, we_dives_slow, wn_climbs_over, we_climbs_over, wn_climbs_under, we_climbs_under, wn_climbs_roof, we_climbs_roof, wn_climbs_low, we_climbs_low, wn_climbs_dives, we_climbs_dives, we_climbs_climbs, wn_climbs_quick, we_climbs_quick, wn_climbs_slow, we_climbs_slow, wn_quick_over, we_quick_over, wn_quick_under, we_quick_under, wn_quick_roof, we_quick_roof, wn_quick_low, we_quick_low, wn_quick_dives, we_quick_dives, wn_quick_climbs, we_quick_climbs, we_quick_quick, wn_quick_slow, we_quick_slow, wn_slow_over, we_slow_over, wn_slow_under, we_slow_under, wn_slow_roof, we_slow_roof, wn_slow_low, we_slow_low, wn_slow_dives, we_slow_dives, wn_slow_climbs, we_slow_climbs, wn_slow_quick, we_slow_quick, we_slow_slow, we_upright_upright, wn_upright_upper, we_upright_upper, wn_upright_lower, we_upright_lower, wn_upper_upright, we_upper_upright, we_upper_upper, wn_upper_lower, we_upper_lower, wn_lower_upright, we_lower_upright, wn_lower_upper, we_lower_upper, we_lower_lower, we_least_least, wn_least_most, we_least_most, wn_least_all, we_least_all, wn_least_none, we_least_none, wn_most_least, we_most_least, we_most_most, wn_most_all, we_most_all, wn_most_none, we_most_none, wn_all_least, we_all_least, wn_all_most, we_all_most, we_all_all, wn_all_none, we_all_none, wn_none_least, we_none_least, wn_none_most, we_none_most, wn_none_all, we_none_all, we_none_none, ev_inn, ev_innl, ev_nin, flat_s, flat_i, List.all_cons, List.all_nil, List.any_cons, List.any_nil, Bool.or_false, Bool.false_or, Bool.or_true, Bool.true_or, Bool.and_self, eqv_int, ev_is, ev_isnt, reduceCtorEq, e8, ap_Labove]
    exact ⟨by omega, w1, fun B B0 zB => hq (.quick B) hx ⟨B0, zB⟩⟩
  · simp only [q_Lask_1, q_Lask_2, wS, wE, wA, wT, wI, wO, ev_add, ev_sub, ev_mul, ev_div, ev_mod, ev_pow, ev_cat, ev_lt, ev_le, ev_gt, ev_ge, ev_eq, ev_ne, ev_eqs, ev_nes, ix_F0, ix_F1, ix_J0, ix_J1, ix_P0, ix_P1, ix_P2, ix_t0, ix_t1, ix_t2, ix_l0, ix_l1, ix_l2, tg_1, tg_F, tg_J, tg_P, tg_2, tg_3, tg_4, fold_J, eq_F, ne_F, eq_J, ne_J, eq_P, ne_P, db_, di_, setVals, setAll, datas, itemsD, truD, List.getElem?_cons_zero, List.getElem?_cons_succ, List.set_cons_zero, List.set_cons_succ, Option.map_some, Option.map_none, Option.some.injEq, exists_eq_left', decide_eq_true_eq, Bool.not_true, Bool.not_false, Bool.false_eq_true, if_false, if_true, true_and, and_true, decide_true, decide_false, List.length_cons, List.length_nil, mx_0, mx_1, mx_2, mx_3, mx_4, mx_5, mx_6, mx_7, mx_8, mx_9, mx_10, mx_11, mx_12, mx_13, mx_14, mx_15, mx_16, mx_17, mx_18, mx_19, mx_20, mx_21, mx_22, mx_23, mx_24, Nat.reduceAdd, Nat.reduceLeDiff, Nat.zero_add, Bool.not_eq_true', decide_eq_false_iff_not, reduceIte, ev_reprb, we_over_over, wn_over_under, we_over_under, wn_over_roof, we_over_roof, wn_over_low, we_over_low, wn_over_dives, we_over_dives, wn_over_climbs, we_over_climbs, wn_over_quick, we_over_quick, wn_over_slow, we_over_slow, wn_under_over, we_under_over, we_under_under, wn_under_roof, we_under_roof, wn_under_low, we_under_low, wn_under_dives, we_under_dives, wn_under_climbs, we_under_climbs, wn_under_quick, we_under_quick, wn_under_slow, we_under_slow, wn_roof_over, we_roof_over, wn_roof_under, we_roof_under, we_roof_roof, wn_roof_low, we_roof_low, wn_roof_dives, we_roof_dives, wn_roof_climbs, we_roof_climbs, wn_roof_quick, we_roof_quick, wn_roof_slow, we_roof_slow, wn_low_over, we_low_over, wn_low_under, we_low_under, wn_low_roof, we_low_roof, we_low_low, wn_low_dives, we_low_dives, wn_low_climbs, we_low_climbs, wn_low_quick, we_low_quick, wn_low_slow, we_low_slow, wn_dives_over, we_dives_over, wn_dives_under, we_dives_under, wn_dives_roof, we_dives_roof, wn_dives_low, we_dives_low, we_dives_dives, wn_dives_climbs, we_dives_climbs, wn_dives_quick, we_dives_quick, wn_dives_slow, we_dives_slow, wn_climbs_over, we_climbs_over, wn_climbs_under, we_climbs_under, wn_climbs_roof, we_climbs_roof, wn_climbs_low, we_climbs_low, wn_climbs_dives, we_climbs_dives, we_climbs_climbs, wn_climbs_quick, we_climbs_quick, wn_climbs_slow, we_climbs_slow, wn_quick_over, we_quick_over, wn_quick_under, we_quick_under, wn_quick_roof, we_quick_roof, wn_quick_low, we_quick_low, wn_quick_dives, we_quick_dives, wn_quick_climbs, we_quick_climbs, we_quick_quick, wn_quick_slow, we_quick_slow, wn_slow_over, we_slow_over, wn_slow_under, we_slow_under, wn_slow_roof, we_slow_roof, wn_slow_low, we_slow_low, wn_slow_dives, we_slow_dives, wn_slow_climbs, we_slow_climbs, wn_slow_quick, we_slow_quick, we_slow_slow, we_upright_upright, wn_upright_upper, we_upright_upper, wn_upright_lower, we_upright_lower, wn_upper_upright, we_upper_upright, we_upper_upper, wn_upper_lower, we_upper_lower, wn_lower_upright, we_lower_upright, wn_lower_upper, we_lower_upper, we_lower_lower, we_least_least, wn_least_most, we_least_most, wn_least_all, we_least_all, wn_least_none, we_least_none, wn_most_least, we_most_least, we_most_most, wn_most_all, we_most_all, wn_most_none, we_most_none, wn_all_least, we_all_least, wn_all_most, we_all_most, we_all_all, wn_all_none, we_all_none, wn_none_least, we_none_least, wn_none_most, we_none_most, wn_none_all, we_none_all, we_none_none, ev_inn, ev_innl, ev_nin, flat_s, flat_i, List.all_cons, List.all_nil, List.any_cons, List.any_nil, Bool.or_false, Bool.false_or, Bool.or_true, Bool.true_or, Bool.and_self, eqv_int, ev_is, ev_isnt, reduceCtorEq, e8, ap_Labove]
    exact ⟨by omega, w1, fun B B0 zB => hq (.slow B) hx ⟨B0, zB⟩⟩
theorem sem_bound_at (e117 : Φ 117 = sp_check_ask) (e13 : Φ 13 = sp_check_fraction) (e118 : Φ 118 = sp_kind_of) (e125 : Φ 125 = sp_keeps_upright) (e124 : Φ 124 = sp_bound_value) : ∀ ds Q, sp_bound_at ds Q → wS Φ rs_bound_at { nx := fun _ => Q (.d .none), rt := Q } (startD ["x0", "x1", "x2"] ds) := by
  rintro ds Q ⟨a, s, rfl, h, zs, hq⟩
  show wS Φ rs_bound_at _ [some (.val (.d a.dat)), some (.val (.d (F s))), none]
  rw [q_bound_at]
  simp only [q_bound_at_0, q_bound_at_1, q_bound_at_2, wS, wE, wA, wT, wI, wO, ev_add, ev_sub, ev_mul, ev_div, ev_mod, ev_pow, ev_cat, ev_lt, ev_le, ev_gt, ev_ge, ev_eq, ev_ne, ev_eqs, ev_nes, ix_F0, ix_F1, ix_J0, ix_J1, ix_P0, ix_P1, ix_P2, ix_t0, ix_t1, ix_t2, ix_l0, ix_l1, ix_l2, tg_1, tg_F, tg_J, tg_P, tg_2, tg_3, tg_4, fold_J, eq_F, ne_F, eq_J, ne_J, eq_P, ne_P, db_, di_, setVals, setAll, datas, itemsD, truD, List.getElem?_cons_zero, List.getElem?_cons_succ, List.set_cons_zero, List.set_cons_succ, Option.map_some, Option.map_none, Option.some.injEq, exists_eq_left', decide_eq_true_eq, Bool.not_true, Bool.not_false, Bool.false_eq_true, if_false, if_true, true_and, and_true, decide_true, decide_false, List.length_cons, List.length_nil, mx_0, mx_1, mx_2, mx_3, mx_4, mx_5, mx_6, mx_7, mx_8, mx_9, mx_10, mx_11, mx_12, mx_13, mx_14, mx_15, mx_16, mx_17, mx_18, mx_19, mx_20, mx_21, mx_22, mx_23, mx_24, Nat.reduceAdd, Nat.reduceLeDiff, Nat.zero_add, Bool.not_eq_true', decide_eq_false_iff_not, reduceIte, ev_reprb, e117, e13, e118, ap_check_fraction, isF_F]
  refine ⟨_, rfl, h, _, rfl, ?_⟩
  have low : a.kd = Str.ofString "lower" → a.upr = false → a.lw = Str.ofString "least" → wS Φ q_bound_at_3 { nx := fun _ => Q (.d .none), rt := Q } [some (.val (.d a.dat)), some (.val (.d (F s))), some (.val (.d (.str a.kd)))] := by
    intro e eu el
    unfold Ask.bd at hq
    rw [eu, el] at hq
    rw [e]
    simp only [q_bound_at_3, q_bound_at_4, wS, wE, wA, wT, wI, wO, ev_add, ev_sub, ev_mul, ev_div, ev_mod, ev_pow, ev_cat, ev_lt, ev_le, ev_gt, ev_ge, ev_eq, ev_ne, ev_eqs, ev_nes, ix_F0, ix_F1, ix_J0, ix_J1, ix_P0, ix_P1, ix_P2, ix_t0, ix_t1, ix_t2, ix_l0, ix_l1, ix_l2, tg_1, tg_F, tg_J, tg_P, tg_2, tg_3, tg_4, fold_J, eq_F, ne_F, eq_J, ne_J, eq_P, ne_P, db_, di_, setVals, setAll, datas, itemsD, truD, List.getElem?_cons_zero, List.getElem?_cons_succ, List.set_cons_zero, List.set_cons_succ, Option.map_some, Option.map_none, Option.some.injEq, exists_eq_left', decide_eq_true_eq, Bool.not_true, Bool.not_false, Bool.false_eq_true, if_false, if_true, true_and, and_true, decide_true, decide_false, List.length_cons, List.length_nil, mx_0, mx_1, mx_2, mx_3, mx_4, mx_5, mx_6, mx_7, mx_8, mx_9, mx_10, mx_11, mx_12, mx_13, mx_14, mx_15, mx_16, mx_17, mx_18, mx_19, mx_20, mx_21, mx_22, mx_23, mx_24, Nat.reduceAdd, Nat.reduceLeDiff, Nat.zero_add, Bool.not_eq_true', decide_eq_false_iff_not, reduceIte, ev_reprb, we_over_over, wn_over_under, we_over_under, wn_over_roof, we_over_roof, wn_over_low, we_over_low, wn_over_dives, we_over_dives, wn_over_climbs, we_over_climbs, wn_over_quick, we_over_quick, wn_over_slow, we_over_slow, wn_under_over, we_under_over, we_under_under, wn_under_roof, we_under_roof, wn_under_low, we_under_low, wn_under_dives, we_under_dives, wn_under_climbs, we_under_climbs, wn_under_quick, we_under_quick, wn_under_slow, we_under_slow, wn_roof_over, we_roof_over, wn_roof_under, we_roof_under, we_roof_roof, wn_roof_low, we_roof_low, wn_roof_dives, we_roof_dives, wn_roof_climbs, we_roof_climbs, wn_roof_quick, we_roof_quick, wn_roof_slow, we_roof_slow, wn_low_over, we_low_over, wn_low_under, we_low_under, wn_low_roof, we_low_roof, we_low_low, wn_low_dives, we_low_dives, wn_low_climbs, we_low_climbs, wn_low_quick, we_low_quick, wn_low_slow, we_low_slow, wn_dives_over, we_dives_over, wn_dives_under, we_dives_under, wn_dives_roof, we_dives_roof, wn_dives_low, we_dives_low, we_dives_dives, wn_dives_climbs, we_dives_climbs, wn_dives_quick, we_dives_quick, wn_dives_slow, we_dives_slow, wn_climbs_over, we_climbs_over, wn_climbs_under, we_climbs_under, wn_climbs_roof, we_climbs_roof, wn_climbs_low, we_climbs_low, wn_climbs_dives, we_climbs_dives, we_climbs_climbs, wn_climbs_quick, we_climbs_quick, wn_climbs_slow, we_climbs_slow, wn_quick_over, we_quick_over, wn_quick_under, we_quick_under, wn_quick_roof, we_quick_roof, wn_quick_low, we_quick_low, wn_quick_dives, we_quick_dives, wn_quick_climbs, we_quick_climbs, we_quick_quick, wn_quick_slow, we_quick_slow, wn_slow_over, we_slow_over, wn_slow_under, we_slow_under, wn_slow_roof, we_slow_roof, wn_slow_low, we_slow_low, wn_slow_dives, we_slow_dives, wn_slow_climbs, we_slow_climbs, wn_slow_quick, we_slow_quick, we_slow_slow, we_upright_upright, wn_upright_upper, we_upright_upper, wn_upright_lower, we_upright_lower, wn_upper_upright, we_upper_upright, we_upper_upper, wn_upper_lower, we_upper_lower, wn_lower_upright, we_lower_upright, wn_lower_upper, we_lower_upper, we_lower_lower, we_least_least, wn_least_most, we_least_most, wn_least_all, we_least_all, wn_least_none, we_least_none, wn_most_least, we_most_least, we_most_most, wn_most_all, we_most_all, wn_most_none, we_most_none, wn_all_least, we_all_least, wn_all_most, we_all_most, we_all_all, wn_all_none, we_all_none, wn_none_least, we_none_least, wn_none_most, we_none_most, wn_none_all, we_none_all, we_none_none, ev_inn, ev_innl, ev_nin, flat_s, flat_i, List.all_cons, List.all_nil, List.any_cons, List.any_nil, Bool.or_false, Bool.false_or, Bool.or_true, Bool.true_or, Bool.and_self, eqv_int, ev_is, ev_isnt, reduceCtorEq, e124] at hq ⊢
    refine ⟨_, _, rfl, h, by rw [e]; decide +kernel, zs, ?_⟩
    simp only [wS, wE, wA, wT, wI, wO, ev_add, ev_sub, ev_mul, ev_div, ev_mod, ev_pow, ev_cat, ev_lt, ev_le, ev_gt, ev_ge, ev_eq, ev_ne, ev_eqs, ev_nes, ix_F0, ix_F1, ix_J0, ix_J1, ix_P0, ix_P1, ix_P2, ix_t0, ix_t1, ix_t2, ix_l0, ix_l1, ix_l2, tg_1, tg_F, tg_J, tg_P, tg_2, tg_3, tg_4, fold_J, eq_F, ne_F, eq_J, ne_J, eq_P, ne_P, db_, di_, setVals, setAll, datas, itemsD, truD, List.getElem?_cons_zero, List.getElem?_cons_succ, List.set_cons_zero, List.set_cons_succ, Option.map_some, Option.map_none, Option.some.injEq, exists_eq_left', decide_eq_true_eq, Bool.not_true, Bool.not_false, Bool.false_eq_true, if_false, if_true, true_and, and_true, decide_true, decide_false, List.length_cons, List.length_nil, mx_0, mx_1, mx_2, mx_3, mx_4, mx_5, mx_6, mx_7, mx_8, mx_9, mx_10, mx_11, mx_12, mx_13, mx_14, mx_15, mx_16, mx_17, mx_18, mx_19, mx_20, mx_21, mx_22, mx_23, mx_24, Nat.reduceAdd, Nat.reduceLeDiff, Nat.zero_add, Bool.not_eq_true', decide_eq_false_iff_not, reduceIte, ev_reprb]
    exact hq
  have upp : a.kd = Str.ofString "upper" → a.upr = false → a.lw = Str.ofString "most" → wS Φ q_bound_at_3 { nx := fun _ => Q (.d .none), rt := Q } [some (.val (.d a.dat)), some (.val (.d (F s))), some (.val (.d (.str a.kd)))] := by
    intro e eu el
    unfold Ask.bd at hq
    rw [eu, el] at hq
    rw [e]
    simp only [q_bound_at_3, q_bound_at_4, wS, wE, wA, wT, wI, wO, ev_add, ev_sub, ev_mul, ev_div, ev_mod, ev_pow, ev_cat, ev_lt, ev_le, ev_gt, ev_ge, ev_eq, ev_ne, ev_eqs, ev_nes, ix_F0, ix_F1, ix_J0, ix_J1, ix_P0, ix_P1, ix_P2, ix_t0, ix_t1, ix_t2, ix_l0, ix_l1, ix_l2, tg_1, tg_F, tg_J, tg_P, tg_2, tg_3, tg_4, fold_J, eq_F, ne_F, eq_J, ne_J, eq_P, ne_P, db_, di_, setVals, setAll, datas, itemsD, truD, List.getElem?_cons_zero, List.getElem?_cons_succ, List.set_cons_zero, List.set_cons_succ, Option.map_some, Option.map_none, Option.some.injEq, exists_eq_left', decide_eq_true_eq, Bool.not_true, Bool.not_false, Bool.false_eq_true, if_false, if_true, true_and, and_true, decide_true, decide_false, List.length_cons, List.length_nil, mx_0, mx_1, mx_2, mx_3, mx_4, mx_5, mx_6, mx_7, mx_8, mx_9, mx_10, mx_11, mx_12, mx_13, mx_14, mx_15, mx_16, mx_17, mx_18, mx_19, mx_20, mx_21, mx_22, mx_23, mx_24, Nat.reduceAdd, Nat.reduceLeDiff, Nat.zero_add, Bool.not_eq_true', decide_eq_false_iff_not, reduceIte, ev_reprb, we_over_over, wn_over_under, we_over_under, wn_over_roof, we_over_roof, wn_over_low, we_over_low, wn_over_dives, we_over_dives, wn_over_climbs, we_over_climbs, wn_over_quick, we_over_quick, wn_over_slow, we_over_slow, wn_under_over, we_under_over, we_under_under, wn_under_roof, we_under_roof, wn_under_low, we_under_low, wn_under_dives, we_under_dives, wn_under_climbs, we_under_climbs, wn_under_quick, we_under_quick, wn_under_slow, we_under_slow, wn_roof_over, we_roof_over, wn_roof_under, we_roof_under, we_roof_roof, wn_roof_low, we_roof_low, wn_roof_dives, we_roof_dives, wn_roof_climbs, we_roof_climbs, wn_roof_quick, we_roof_quick, wn_roof_slow, we_roof_slow, wn_low_over, we_low_over, wn_low_under, we_low_under, wn_low_roof, we_low_roof, we_low_low, wn_low_dives, we_low_dives, wn_low_climbs, we_low_climbs, wn_low_quick, we_low_quick, wn_low_slow, we_low_slow, wn_dives_over, we_dives_over, wn_dives_under, we_dives_under, wn_dives_roof, we_dives_roof, wn_dives_low, we_dives_low, we_dives_dives, wn_dives_climbs, we_dives_climbs, wn_dives_quick, we_dives_quick, wn_dives_slow, we_dives_slow, wn_climbs_over, we_climbs_over, wn_climbs_under, we_climbs_under, wn_climbs_roof, we_climbs_roof, wn_climbs_low, we_climbs_low, wn_climbs_dives, we_climbs_dives, we_climbs_climbs, wn_climbs_quick, we_climbs_quick, wn_climbs_slow, we_climbs_slow, wn_quick_over, we_quick_over, wn_quick_under, we_quick_under, wn_quick_roof, we_quick_roof, wn_quick_low, we_quick_low, wn_quick_dives, we_quick_dives, wn_quick_climbs, we_quick_climbs, we_quick_quick, wn_quick_slow, we_quick_slow, wn_slow_over, we_slow_over, wn_slow_under, we_slow_under, wn_slow_roof, we_slow_roof, wn_slow_low, we_slow_low, wn_slow_dives, we_slow_dives, wn_slow_climbs, we_slow_climbs, wn_slow_quick, we_slow_quick, we_slow_slow, we_upright_upright, wn_upright_upper, we_upright_upper, wn_upright_lower, we_upright_lower, wn_upper_upright, we_upper_upright, we_upper_upper, wn_upper_lower, we_upper_lower, wn_lower_upright, we_lower_upright, wn_lower_upper, we_lower_upper, we_lower_lower, we_least_least, wn_least_most, we_least_most, wn_least_all, we_least_all, wn_least_none, we_least_none, wn_most_least, we_most_least, we_most_most, wn_most_all, we_most_all, wn_most_none, we_most_none, wn_all_least, we_all_least, wn_all_most, we_all_most, we_all_all, wn_all_none, we_all_none, wn_none_least, we_none_least, wn_none_most, we_none_most, wn_none_all, we_none_all, we_none_none, ev_inn, ev_innl, ev_nin, flat_s, flat_i, List.all_cons, List.all_nil, List.any_cons, List.any_nil, Bool.or_false, Bool.false_or, Bool.or_true, Bool.true_or, Bool.and_self, eqv_int, ev_is, ev_isnt, reduceCtorEq, e124] at hq ⊢
    refine ⟨_, _, rfl, h, by rw [e]; decide +kernel, zs, ?_⟩
    simp only [wS, wE, wA, wT, wI, wO, ev_add, ev_sub, ev_mul, ev_div, ev_mod, ev_pow, ev_cat, ev_lt, ev_le, ev_gt, ev_ge, ev_eq, ev_ne, ev_eqs, ev_nes, ix_F0, ix_F1, ix_J0, ix_J1, ix_P0, ix_P1, ix_P2, ix_t0, ix_t1, ix_t2, ix_l0, ix_l1, ix_l2, tg_1, tg_F, tg_J, tg_P, tg_2, tg_3, tg_4, fold_J, eq_F, ne_F, eq_J, ne_J, eq_P, ne_P, db_, di_, setVals, setAll, datas, itemsD, truD, List.getElem?_cons_zero, List.getElem?_cons_succ, List.set_cons_zero, List.set_cons_succ, Option.map_some, Option.map_none, Option.some.injEq, exists_eq_left', decide_eq_true_eq, Bool.not_true, Bool.not_false, Bool.false_eq_true, if_false, if_true, true_and, and_true, decide_true, decide_false, List.length_cons, List.length_nil, mx_0, mx_1, mx_2, mx_3, mx_4, mx_5, mx_6, mx_7, mx_8, mx_9, mx_10, mx_11, mx_12, mx_13, mx_14, mx_15, mx_16, mx_17, mx_18, mx_19, mx_20, mx_21, mx_22, mx_23, mx_24, Nat.reduceAdd, Nat.reduceLeDiff, Nat.zero_add, Bool.not_eq_true', decide_eq_false_iff_not, reduceIte, ev_reprb]
    exact hq
  cases a with
  | over x y => exact upp rfl rfl rfl
  | under x y => exact low rfl rfl rfl
  | roof x y u v => exact low rfl rfl rfl
  | low B => exact low rfl rfl rfl
  | quick B => exact upp rfl rfl rfl
  | slow B => exact low rfl rfl rfl
  | dives X M =>
    by_cases e : X = 0
    · have ek : (Ask.dives X M).kd = Str.ofString "upright" := if_pos e
      simp only [Ask.bd, Ask.upr, Ask.dn, e, decide_true, if_true] at hq
      rw [ek]
      simp only [q_bound_at_3, wS, wE, wA, wT, wI, wO, ev_add, ev_sub, ev_mul, ev_div, ev_mod, ev_pow, ev_cat, ev_lt, ev_le, ev_gt, ev_ge, ev_eq, ev_ne, ev_eqs, ev_nes, ix_F0, ix_F1, ix_J0, ix_J1, ix_P0, ix_P1, ix_P2, ix_t0, ix_t1, ix_t2, ix_l0, ix_l1, ix_l2, tg_1, tg_F, tg_J, tg_P, tg_2, tg_3, tg_4, fold_J, eq_F, ne_F, eq_J, ne_J, eq_P, ne_P, db_, di_, setVals, setAll, datas, itemsD, truD, List.getElem?_cons_zero, List.getElem?_cons_succ, List.set_cons_zero, List.set_cons_succ, Option.map_some, Option.map_none, Option.some.injEq, exists_eq_left', decide_eq_true_eq, Bool.not_true, Bool.not_false, Bool.false_eq_true, if_false, if_true, true_and, and_true, decide_true, decide_false, List.length_cons, List.length_nil, mx_0, mx_1, mx_2, mx_3, mx_4, mx_5, mx_6, mx_7, mx_8, mx_9, mx_10, mx_11, mx_12, mx_13, mx_14, mx_15, mx_16, mx_17, mx_18, mx_19, mx_20, mx_21, mx_22, mx_23, mx_24, Nat.reduceAdd, Nat.reduceLeDiff, Nat.zero_add, Bool.not_eq_true', decide_eq_false_iff_not, reduceIte, ev_reprb, we_over_over, wn_over_under, we_over_under, wn_over_roof, we_over_roof, wn_over_low, we_over_low, wn_over_dives, we_over_dives, wn_over_climbs, we_over_climbs, wn_over_quick, we_over_quick, wn_over_slow, we_over_slow, wn_under_over, we_under_over, we_under_under, wn_under_roof, we_under_roof, wn_under_low, we_under_low, wn_under_dives, we_under_dives, wn_under_climbs, we_under_climbs, wn_under_quick, we_under_quick, wn_under_slow, we_under_slow, wn_roof_over, we_roof_over, wn_roof_under, we_roof_under, we_roof_roof, wn_roof_low, we_roof_low, wn_roof_dives, we_roof_dives, wn_roof_climbs, we_roof_climbs, wn_roof_quick, we_roof_quick, wn_roof_slow, we_roof_slow, wn_low_over, we_low_over, wn_low_under, we_low_under, wn_low_roof, we_low_roof, we_low_low, wn_low_dives, we_low_dives, wn_low_climbs, we_low_climbs, wn_low_quick, we_low_quick, wn_low_slow, we_low_slow, wn_dives_over, we_dives_over, wn_dives_under, we_dives_under, wn_dives_roof, we_dives_roof, wn_dives_low, we_dives_low, we_dives_dives, wn_dives_climbs, we_dives_climbs, wn_dives_quick, we_dives_quick, wn_dives_slow, we_dives_slow, wn_climbs_over, we_climbs_over, wn_climbs_under, we_climbs_under, wn_climbs_roof, we_climbs_roof, wn_climbs_low, we_climbs_low, wn_climbs_dives, we_climbs_dives, we_climbs_climbs, wn_climbs_quick, we_climbs_quick, wn_climbs_slow, we_climbs_slow, wn_quick_over, we_quick_over, wn_quick_under, we_quick_under, wn_quick_roof, we_quick_roof, wn_quick_low, we_quick_low, wn_quick_dives, we_quick_dives, wn_quick_climbs, we_quick_climbs, we_quick_quick, wn_quick_slow, we_quick_slow, wn_slow_over, we_slow_over, wn_slow_under, we_slow_under, wn_slow_roof, we_slow_roof, wn_slow_low, we_slow_low, wn_slow_dives, we_slow_dives, wn_slow_climbs, we_slow_climbs, wn_slow_quick, we_slow_quick, we_slow_slow, we_upright_upright, wn_upright_upper, we_upright_upper, wn_upright_lower, we_upright_lower, wn_upper_upright, we_upper_upright, we_upper_upper, wn_upper_lower, we_upper_lower, wn_lower_upright, we_lower_upright, wn_lower_upper, we_lower_upper, we_lower_lower, we_least_least, wn_least_most, we_least_most, wn_least_all, we_least_all, wn_least_none, we_least_none, wn_most_least, we_most_least, we_most_most, wn_most_all, we_most_all, wn_most_none, we_most_none, wn_all_least, we_all_least, wn_all_most, we_all_most, we_all_all, wn_all_none, we_all_none, wn_none_least, we_none_least, wn_none_most, we_none_most, wn_none_all, we_none_all, we_none_none, ev_inn, ev_innl, ev_nin, flat_s, flat_i, List.all_cons, List.all_nil, List.any_cons, List.any_nil, Bool.or_false, Bool.false_or, Bool.or_true, Bool.true_or, Bool.and_self, eqv_int, ev_is, ev_isnt, reduceCtorEq, e125]
      refine ⟨_, _, rfl, zs.mono (by decide), .inl ⟨X, M, rfl, h.2.2, ?_⟩⟩
      simp only [wS, wE, wA, wT, wI, wO, ev_add, ev_sub, ev_mul, ev_div, ev_mod, ev_pow, ev_cat, ev_lt, ev_le, ev_gt, ev_ge, ev_eq, ev_ne, ev_eqs, ev_nes, ix_F0, ix_F1, ix_J0, ix_J1, ix_P0, ix_P1, ix_P2, ix_t0, ix_t1, ix_t2, ix_l0, ix_l1, ix_l2, tg_1, tg_F, tg_J, tg_P, tg_2, tg_3, tg_4, fold_J, eq_F, ne_F, eq_J, ne_J, eq_P, ne_P, db_, di_, setVals, setAll, datas, itemsD, truD, List.getElem?_cons_zero, List.getElem?_cons_succ, List.set_cons_zero, List.set_cons_succ, Option.map_some, Option.map_none, Option.some.injEq, exists_eq_left', decide_eq_true_eq, Bool.not_true, Bool.not_false, Bool.false_eq_true, if_false, if_true, true_and, and_true, decide_true, decide_false, List.length_cons, List.length_nil, mx_0, mx_1, mx_2, mx_3, mx_4, mx_5, mx_6, mx_7, mx_8, mx_9, mx_10, mx_11, mx_12, mx_13, mx_14, mx_15, mx_16, mx_17, mx_18, mx_19, mx_20, mx_21, mx_22, mx_23, mx_24, Nat.reduceAdd, Nat.reduceLeDiff, Nat.zero_add, Bool.not_eq_true', decide_eq_false_iff_not, reduceIte, ev_reprb]
      by_cases hM : M < s
      · simp only [hM, not_true, decide_true, Bool.not_true, Bool.false_eq_true, if_false, if_true] at hq ⊢
        exact hq
      · simp only [hM, not_false_eq_true, decide_false, Bool.not_false, if_true, if_false] at hq ⊢
        exact hq
    · exact low (if_neg e) (decide_eq_false e) rfl
  | climbs X M =>
    by_cases e : X = 0
    · have ek : (Ask.climbs X M).kd = Str.ofString "upright" := if_pos e
      simp only [Ask.bd, Ask.upr, Ask.dn, e, decide_true, if_true] at hq
      rw [ek]
      simp only [q_bound_at_3, wS, wE, wA, wT, wI, wO, ev_add, ev_sub, ev_mul, ev_div, ev_mod, ev_pow, ev_cat, ev_lt, ev_le, ev_gt, ev_ge, ev_eq, ev_ne, ev_eqs, ev_nes, ix_F0, ix_F1, ix_J0, ix_J1, ix_P0, ix_P1, ix_P2, ix_t0, ix_t1, ix_t2, ix_l0, ix_l1, ix_l2, tg_1, tg_F, tg_J, tg_P, tg_2, tg_3, tg_4, fold_J, eq_F, ne_F, eq_J, ne_J, eq_P, ne_P, db_, di_, setVals, setAll, datas, itemsD, truD, List.getElem?_cons_zero, List.getElem?_cons_succ, List.set_cons_zero, List.set_cons_succ, Option.map_some, Option.map_none, Option.some.injEq, exists_eq_left', decide_eq_true_eq, Bool.not_true, Bool.not_false, Bool.false_eq_true, if_false, if_true, true_and, and_true, decide_true, decide_false, List.length_cons, List.length_nil, mx_0, mx_1, mx_2, mx_3, mx_4, mx_5, mx_6, mx_7, mx_8, mx_9, mx_10, mx_11, mx_12, mx_13, mx_14, mx_15, mx_16, mx_17, mx_18, mx_19, mx_20, mx_21, mx_22, mx_23, mx_24, Nat.reduceAdd, Nat.reduceLeDiff, Nat.zero_add, Bool.not_eq_true', decide_eq_false_iff_not, reduceIte, ev_reprb, we_over_over, wn_over_under, we_over_under, wn_over_roof, we_over_roof, wn_over_low, we_over_low, wn_over_dives, we_over_dives, wn_over_climbs, we_over_climbs, wn_over_quick, we_over_quick, wn_over_slow, we_over_slow, wn_under_over, we_under_over, we_under_under, wn_under_roof, we_under_roof, wn_under_low, we_under_low, wn_under_dives, we_under_dives, wn_under_climbs, we_under_climbs, wn_under_quick, we_under_quick, wn_under_slow, we_under_slow, wn_roof_over, we_roof_over, wn_roof_under, we_roof_under, we_roof_roof, wn_roof_low, we_roof_low, wn_roof_dives, we_roof_dives, wn_roof_climbs, we_roof_climbs, wn_roof_quick, we_roof_quick, wn_roof_slow, we_roof_slow, wn_low_over, we_low_over, wn_low_under, we_low_under, wn_low_roof, we_low_roof, we_low_low, wn_low_dives, we_low_dives, wn_low_climbs, we_low_climbs, wn_low_quick, we_low_quick, wn_low_slow, we_low_slow, wn_dives_over, we_dives_over, wn_dives_under, we_dives_under, wn_dives_roof, we_dives_roof, wn_dives_low, we_dives_low, we_dives_dives, wn_dives_climbs, we_dives_climbs, wn_dives_quick, we_dives_quick, wn_dives_slow, we_dives_slow, wn_climbs_over, we_climbs_over, wn_climbs_under, we_climbs_under, wn_climbs_roof, we_climbs_roof, wn_climbs_low, we_climbs_low, wn_climbs_dives, we_climbs_dives, we_climbs_climbs, wn_climbs_quick, we_climbs_quick, wn_climbs_slow, we_climbs_slow, wn_quick_over, we_quick_over, wn_quick_under, we_quick_under, wn_quick_roof, we_quick_roof, wn_quick_low, we_quick_low, wn_quick_dives, we_quick_dives, wn_quick_climbs, we_quick_climbs, we_quick_quick, wn_quick_slow, we_quick_slow, wn_slow_over, we_slow_over, wn_slow_under, we_slow_under, wn_slow_roof, we_slow_roof, wn_slow_low, we_slow_low, wn_slow_dives, we_slow_dives, wn_slow_climbs, we_slow_climbs, wn_slow_quick, we_slow_quick, we_slow_slow, we_upright_upright, wn_upright_upper, we_upright_upper, wn_upright_lower, we_upright_lower, wn_upper_upright, we_upper_upright, we_upper_upper, wn_upper_lower, we_upper_lower, wn_lower_upright, we_lower_upright, wn_lower_upper, we_lower_upper, we_lower_lower, we_least_least, wn_least_most, we_least_most, wn_least_all, we_least_all, wn_least_none, we_least_none, wn_most_least, we_most_least, we_most_most, wn_most_all, we_most_all, wn_most_none, we_most_none, wn_all_least, we_all_least, wn_all_most, we_all_most, we_all_all, wn_all_none, we_all_none, wn_none_least, we_none_least, wn_none_most, we_none_most, wn_none_all, we_none_all, we_none_none, ev_inn, ev_innl, ev_nin, flat_s, flat_i, List.all_cons, List.all_nil, List.any_cons, List.any_nil, Bool.or_false, Bool.false_or, Bool.or_true, Bool.true_or, Bool.and_self, eqv_int, ev_is, ev_isnt, reduceCtorEq, e125]
      refine ⟨_, _, rfl, zs.mono (by decide), .inr ⟨X, M, rfl, h.2.2, ?_⟩⟩
      simp only [wS, wE, wA, wT, wI, wO, ev_add, ev_sub, ev_mul, ev_div, ev_mod, ev_pow, ev_cat, ev_lt, ev_le, ev_gt, ev_ge, ev_eq, ev_ne, ev_eqs, ev_nes, ix_F0, ix_F1, ix_J0, ix_J1, ix_P0, ix_P1, ix_P2, ix_t0, ix_t1, ix_t2, ix_l0, ix_l1, ix_l2, tg_1, tg_F, tg_J, tg_P, tg_2, tg_3, tg_4, fold_J, eq_F, ne_F, eq_J, ne_J, eq_P, ne_P, db_, di_, setVals, setAll, datas, itemsD, truD, List.getElem?_cons_zero, List.getElem?_cons_succ, List.set_cons_zero, List.set_cons_succ, Option.map_some, Option.map_none, Option.some.injEq, exists_eq_left', decide_eq_true_eq, Bool.not_true, Bool.not_false, Bool.false_eq_true, if_false, if_true, true_and, and_true, decide_true, decide_false, List.length_cons, List.length_nil, mx_0, mx_1, mx_2, mx_3, mx_4, mx_5, mx_6, mx_7, mx_8, mx_9, mx_10, mx_11, mx_12, mx_13, mx_14, mx_15, mx_16, mx_17, mx_18, mx_19, mx_20, mx_21, mx_22, mx_23, mx_24, Nat.reduceAdd, Nat.reduceLeDiff, Nat.zero_add, Bool.not_eq_true', decide_eq_false_iff_not, reduceIte, ev_reprb]
      by_cases hM : s < M
      · simp only [hM, not_true, decide_true, Bool.not_true, Bool.false_eq_true, if_false, if_true] at hq ⊢
        exact hq
      · simp only [hM, not_false_eq_true, decide_false, Bool.not_false, if_true, if_false] at hq ⊢
        exact hq
    · exact upp (if_neg e) (decide_eq_false e) rfl
theorem lb_t1 (e16 : Φ 16 = sp_Lmul) (e23 : Φ 23 = sp_Lsub) {D : PD} {L k t : Rat} (zL : Zf 200 L) (zk : Zf 221 k) (zt : Zf 500 t) {o0 o1 o2 o3 o4 o5 o6 o7 o11 o12 o14 : Option SD}
    (h : D.nx [o0, o1, o2, o3, o4, o5, o6, o7, some (.val (.d (F k))), some (.val (.d (F (wv L k t)))), some (.val (.d (F L))), o11, o12, some (.val (.d (F t))), some (.val (.d (F (wv L k t))))]) :
    wS Φ q_Lbound_11_b_0 D [o0, o1, o2, o3, o4, o5, o6, o7, some (.val (.d (F k))), some (.val (.d .none)), some (.val (.d (F L))), o11, o12, some (.val (.d (F t))), o14] := by
  have e : L * t - k * (t * t) = wv L k t := rfl
  simp only [q_Lbound_11_b_0, wS, wE, wA, wT, wI, wO, ev_add, ev_sub, ev_mul, ev_div, ev_mod, ev_pow, ev_cat, ev_lt, ev_le, ev_gt, ev_ge, ev_eq, ev_ne, ev_eqs, ev_nes, ix_F0, ix_F1, ix_J0, ix_J1, ix_P0, ix_P1, ix_P2, ix_t0, ix_t1, ix_t2, ix_l0, ix_l1, ix_l2, tg_1, tg_F, tg_J, tg_P, tg_2, tg_3, tg_4, fold_J, eq_F, ne_F, eq_J, ne_J, eq_P, ne_P, db_, di_, setVals, setAll, datas, itemsD, truD, List.getElem?_cons_zero, List.getElem?_cons_succ, List.set_cons_zero, List.set_cons_succ, Option.map_some, Option.map_none, Option.some.injEq, exists_eq_left', decide_eq_true_eq, Bool.not_true, Bool.not_false, Bool.false_eq_true, if_false, if_true, true_and, and_true, decide_true, decide_false, List.length_cons, List.length_nil, mx_0, mx_1, mx_2, mx_3, mx_4, mx_5, mx_6, mx_7, mx_8, mx_9, mx_10, mx_11, mx_12, mx_13, mx_14, mx_15, mx_16, mx_17, mx_18, mx_19, mx_20, mx_21, mx_22, mx_23, mx_24, Nat.reduceAdd, Nat.reduceLeDiff, Nat.zero_add, Bool.not_eq_true', decide_eq_false_iff_not, reduceIte, ev_reprb, e16, e23, ap_Lmul, ap_Lsub, e]
  refine ⟨by walk_at "sz", by walk_at "sz", by walk_at "sz", by walk_at "sz", by walk_at "sz", by walk_at "sz", by walk_at "sz", by walk_at "sz", ?_⟩
  simp only [q_Lbound_11_b_1, wS, wE, wA, wT, wI, wO, ev_add, ev_sub, ev_mul, ev_div, ev_mod, ev_pow, ev_cat, ev_lt, ev_le, ev_gt, ev_ge, ev_eq, ev_ne, ev_eqs, ev_nes, ix_F0, ix_F1, ix_J0, ix_J1, ix_P0, ix_P1, ix_P2, ix_t0, ix_t1, ix_t2, ix_l0, ix_l1, ix_l2, tg_1, tg_F, tg_J, tg_P, tg_2, tg_3, tg_4, fold_J, eq_F, ne_F, eq_J, ne_J, eq_P, ne_P, db_, di_, setVals, setAll, datas, itemsD, truD, List.getElem?_cons_zero, List.getElem?_cons_succ, List.set_cons_zero, List.set_cons_succ, Option.map_some, Option.map_none, Option.some.injEq, exists_eq_left', decide_eq_true_eq, Bool.not_true, Bool.not_false, Bool.false_eq_true, if_false, if_true, true_and, and_true, decide_true, decide_false, List.length_cons, List.length_nil, mx_0, mx_1, mx_2, mx_3, mx_4, mx_5, mx_6, mx_7, mx_8, mx_9, mx_10, mx_11, mx_12, mx_13, mx_14, mx_15, mx_16, mx_17, mx_18, mx_19, mx_20, mx_21, mx_22, mx_23, mx_24, Nat.reduceAdd, Nat.reduceLeDiff, Nat.zero_add, Bool.not_eq_true', decide_eq_false_iff_not, reduceIte, ev_reprb]
  exact h
theorem lb_t2 (e16 : Φ 16 = sp_Lmul) (e23 : Φ 23 = sp_Lsub) (e59 : Φ 59 = sp_Lless) {D : PD} {L k t w : Rat} (zL : Zf 200 L) (zk : Zf 221 k) (zt : Zf 500 t) (zw : Zf 3000 w) (zv : Zf 3000 (wv L k t)) {o0 o1 o2 o3 o4 o5 o6 o7 o11 o12 o14 : Option SD}
    (h : D.nx [o0, o1, o2, o3, o4, o5, o6, o7, some (.val (.d (F k))), some (.val (.d (F (mxQ w (wv L k t))))), some (.val (.d (F L))), o11, o12, some (.val (.d (F t))), some (.val (.d (F (wv L k t))))]) :
    wS Φ q_Lbound_11_b_0 D [o0, o1, o2, o3, o4, o5, o6, o7, some (.val (.d (F k))), some (.val (.d (F w))), some (.val (.d (F L))), o11, o12, some (.val (.d (F t))), o14] := by
  have e : L * t - k * (t * t) = wv L k t := rfl
  have isN_F : ∀ q : Rat, (match F q with | .none => true | _ => false) = false := fun _ => rfl
  simp only [q_Lbound_11_b_0, wS, wE, wA, wT, wI, wO, ev_add, ev_sub, ev_mul, ev_div, ev_mod, ev_pow, ev_cat, ev_lt, ev_le, ev_gt, ev_ge, ev_eq, ev_ne, ev_eqs, ev_nes, ix_F0, ix_F1, ix_J0, ix_J1, ix_P0, ix_P1, ix_P2, ix_t0, ix_t1, ix_t2, ix_l0, ix_l1, ix_l2, tg_1, tg_F, tg_J, tg_P, tg_2, tg_3, tg_4, fold_J, eq_F, ne_F, eq_J, ne_J, eq_P, ne_P, db_, di_, setVals, setAll, datas, itemsD, truD, List.getElem?_cons_zero, List.getElem?_cons_succ, List.set_cons_zero, List.set_cons_succ, Option.map_some, Option.map_none, Option.some.injEq, exists_eq_left', decide_eq_true_eq, Bool.not_true, Bool.not_false, Bool.false_eq_true, if_false, if_true, true_and, and_true, decide_true, decide_false, List.length_cons, List.length_nil, mx_0, mx_1, mx_2, mx_3, mx_4, mx_5, mx_6, mx_7, mx_8, mx_9, mx_10, mx_11, mx_12, mx_13, mx_14, mx_15, mx_16, mx_17, mx_18, mx_19, mx_20, mx_21, mx_22, mx_23, mx_24, Nat.reduceAdd, Nat.reduceLeDiff, Nat.zero_add, Bool.not_eq_true', decide_eq_false_iff_not, reduceIte, ev_reprb, e16, e23, ap_Lmul, ap_Lsub, e]
  refine ⟨by walk_at "sz", by walk_at "sz", by walk_at "sz", by walk_at "sz", by walk_at "sz", by walk_at "sz", by walk_at "sz", by walk_at "sz", ?_⟩
  simp only [q_Lbound_11_b_1, wS, wE, wA, wT, wI, wO, ev_add, ev_sub, ev_mul, ev_div, ev_mod, ev_pow, ev_cat, ev_lt, ev_le, ev_gt, ev_ge, ev_eq, ev_ne, ev_eqs, ev_nes, ix_F0, ix_F1, ix_J0, ix_J1, ix_P0, ix_P1, ix_P2, ix_t0, ix_t1, ix_t2, ix_l0, ix_l1, ix_l2, tg_1, tg_F, tg_J, tg_P, tg_2, tg_3, tg_4, fold_J, eq_F, ne_F, eq_J, ne_J, eq_P, ne_P, db_, di_, setVals, setAll, datas, itemsD, truD, List.getElem?_cons_zero, List.getElem?_cons_succ, List.set_cons_zero, List.set_cons_succ, Option.map_some, Option.map_none, Option.some.injEq, exists_eq_left', decide_eq_true_eq, Bool.not_true, Bool.not_false, Bool.false_eq_true, if_false, if_true, true_and, and_true, decide_true, decide_false, List.length_cons, List.length_nil, mx_0, mx_1, mx_2, mx_3, mx_4, mx_5, mx_6, mx_7, mx_8, mx_9, mx_10, mx_11, mx_12, mx_13, mx_14, mx_15, mx_16, mx_17, mx_18, mx_19, mx_20, mx_21, mx_22, mx_23, mx_24, Nat.reduceAdd, Nat.reduceLeDiff, Nat.zero_add, Bool.not_eq_true', decide_eq_false_iff_not, reduceIte, ev_reprb, isN_F, e59, ap_Lless]
  refine ⟨zw, zv, ?_⟩
  unfold mxQ at h
  split
  · rename_i hl
    rw [if_pos hl] at h
    exact h
  · rename_i hl
    rw [if_neg hl] at h
    exact h
theorem sem_Lbound (e23 : Φ 23 = sp_Lsub) (e31 : Φ 31 = sp_Ldiv) (e16 : Φ 16 = sp_Lmul) (e24 : Φ 24 = sp_Lfar) (e25 : Φ 25 = sp_Lhigh) (e59 : Φ 59 = sp_Lless) : ∀ ds Q, sp_Lbound ds Q → wS Φ rs_Lbound { nx := fun _ => Q (.d .none), rt := Q } (startD ["x0", "x1", "x2", "x3", "x4", "x5", "x6", "x7", "x8", "x9", "x10", "x11", "x12", "x13", "x14"] ds) := by
  rintro ds Q ⟨a, s, rfl, h, zs, hq⟩
  show wS Φ rs_Lbound _ [some (.val (.d a.dat)), some (.val (.d (F s))), none, none, none, none, none, none, none, none, none, none, none, none, none]
  rw [q_Lbound]
  cases a
  all_goals simp only [Ask.dat, q_Lbound_0, wS, wE, wA, wT, wI, wO, ev_add, ev_sub, ev_mul, ev_div, ev_mod, ev_pow, ev_cat, ev_lt, ev_le, ev_gt, ev_ge, ev_eq, ev_ne, ev_eqs, ev_nes, ix_F0, ix_F1, ix_J0, ix_J1, ix_P0, ix_P1, ix_P2, ix_t0, ix_t1, ix_t2, ix_l0, ix_l1, ix_l2, tg_1, tg_F, tg_J, tg_P, tg_2, tg_3, tg_4, fold_J, eq_F, ne_F, eq_J, ne_J, eq_P, ne_P, db_, di_, setVals, setAll, datas, itemsD, truD, List.getElem?_cons_zero, List.getElem?_cons_succ, List.set_cons_zero, List.set_cons_succ, Option.map_some, Option.map_none, Option.some.injEq, exists_eq_left', decide_eq_true_eq, Bool.not_true, Bool.not_false, Bool.false_eq_true, if_false, if_true, true_and, and_true, decide_true, decide_false, List.length_cons, List.length_nil, mx_0, mx_1, mx_2, mx_3, mx_4, mx_5, mx_6, mx_7, mx_8, mx_9, mx_10, mx_11, mx_12, mx_13, mx_14, mx_15, mx_16, mx_17, mx_18, mx_19, mx_20, mx_21, mx_22, mx_23, mx_24, Nat.reduceAdd, Nat.reduceLeDiff, Nat.zero_add, Bool.not_eq_true', decide_eq_false_iff_not, reduceIte, ev_reprb, we_over_over, wn_over_under, we_over_under, wn_over_roof, we_over_roof, wn_over_low, we_over_low, wn_over_dives, we_over_dives, wn_over_climbs, we_over_climbs, wn_over_quick, we_over_quick, wn_over_slow, we_over_slow, wn_under_over, we_under_over, we_under_under, wn_under_roof, we_under_roof, wn_under_low, we_under_low, wn_under_dives, we_under_dives, wn_under_climbs, we_under_climbs, wn_under_quick, we_under_quick, wn_under_slow, we_under_slow, wn_roof_over, we_roof_over, wn_roof_under, we_roof_under, we_roof_roof, wn_roof_low, we_roof_low, wn_roof_dives, we_roof_dives, wn_roof_climbs, we_roof_climbs, wn_roof_quick, we_roof_quick, wn_roof_slow, we_roof_slow, wn_low_over, we_low_over, wn_low_under, we_low_under, wn_low_roof, we_low_roof, we_low_low, wn_low_dives, we_low_dives, wn_low_climbs, we_low_climbs, wn_low_quick, we_low_quick, wn_low_slow, we_low_slow, wn_dives_over, we_dives_over, wn_dives_under, we_dives_under, wn_dives_roof, we_dives_roof, wn_dives_low, we_dives_low, we_dives_dives, wn_dives_climbs, we_dives_climbs, wn_dives_quick, we_dives_quick, wn_dives_slow, we_dives_slow, wn_climbs_over, we_climbs_over, wn_climbs_under, we_climbs_under, wn_climbs_roof, we_climbs_roof, wn_climbs_low, we_climbs_low, wn_climbs_dives, we_climbs_dives, we_climbs_climbs, wn_climbs_quick, we_climbs_quick, wn_climbs_slow, we_climbs_slow, wn_quick_over, we_quick_over, wn_quick_under, we_quick_under, wn_quick_roof, we_quick_roof, wn_quick_low, we_quick_low, wn_quick_dives, we_quick_dives, wn_quick_climbs, we_quick_climbs, we_quick_quick, wn_quick_slow, we_quick_slow, wn_slow_over, we_slow_over, wn_slow_under, we_slow_under, wn_slow_roof, we_slow_roof, wn_slow_low, we_slow_low, wn_slow_dives, we_slow_dives, wn_slow_climbs, we_slow_climbs, wn_slow_quick, we_slow_quick, we_slow_slow, we_upright_upright, wn_upright_upper, we_upright_upper, wn_upright_lower, we_upright_lower, wn_upper_upright, we_upper_upright, we_upper_upper, wn_upper_lower, we_upper_lower, wn_lower_upright, we_lower_upright, wn_lower_upper, we_lower_upper, we_lower_lower, we_least_least, wn_least_most, we_least_most, wn_least_all, we_least_all, wn_least_none, we_least_none, wn_most_least, we_most_least, we_most_most, wn_most_all, we_most_all, wn_most_none, we_most_none, wn_all_least, we_all_least, wn_all_most, we_all_most, we_all_all, wn_all_none, we_all_none, wn_none_least, we_none_least, wn_none_most, we_none_most, wn_none_all, we_none_all, we_none_none, ev_inn, ev_innl, ev_nin, flat_s, flat_i, List.all_cons, List.all_nil, List.any_cons, List.any_nil, Bool.or_false, Bool.false_or, Bool.or_true, Bool.true_or, Bool.and_self, eqv_int, ev_is, ev_isnt, reduceCtorEq]
  · rename_i x y
    obtain ⟨h0, zx, zy⟩ := h
    have zp : Zp 8000 x y := (zx.pt zy).mono (by decide)
    have hxx : x * x ≠ 0 := by
      have := Rat.mul_pos h0 h0
      grind
    simp only [q_Lbound_1, q_Lbound_2, q_Lbound_3, q_Lbound_4, q_Lbound_4_t_0, q_Lbound_4_t_1, wS, wE, wA, wT, wI, wO, ev_add, ev_sub, ev_mul, ev_div, ev_mod, ev_pow, ev_cat, ev_lt, ev_le, ev_gt, ev_ge, ev_eq, ev_ne, ev_eqs, ev_nes, ix_F0, ix_F1, ix_J0, ix_J1, ix_P0, ix_P1, ix_P2, ix_t0, ix_t1, ix_t2, ix_l0, ix_l1, ix_l2, tg_1, tg_F, tg_J, tg_P, tg_2, tg_3, tg_4, fold_J, eq_F, ne_F, eq_J, ne_J, eq_P, ne_P, db_, di_, setVals, setAll, datas, itemsD, truD, List.getElem?_cons_zero, List.getElem?_cons_succ, List.set_cons_zero, List.set_cons_succ, Option.map_some, Option.map_none, Option.some.injEq, exists_eq_left', decide_eq_true_eq, Bool.not_true, Bool.not_false, Bool.false_eq_true, if_false, if_true, true_and, and_true, decide_true, decide_false, List.length_cons, List.length_nil, mx_0, mx_1, mx_2, mx_3, mx_4, mx_5, mx_6, mx_7, mx_8, mx_9, mx_10, mx_11, mx_12, mx_13, mx_14, mx_15, mx_16, mx_17, mx_18, mx_19, mx_20, mx_21, mx_22, mx_23, mx_24, Nat.reduceAdd, Nat.reduceLeDiff, Nat.zero_add, Bool.not_eq_true', decide_eq_false_iff_not, reduceIte, ev_reprb, we_over_over, wn_over_under, we_over_under, wn_over_roof, we_over_roof, wn_over_low, we_over_low, wn_over_dives, we_over_dives, wn_over_climbs, we_over_climbs, wn_over_quick, we_over_quick, wn_over_slow, we_over_slow, wn_under_over, we_under_over, we_under_under, wn_under_roof, we_under_roof, wn_under_low, we_under_low, wn_under_dives, we_under_dives, wn_under_climbs, we_under_climbs, wn_under_quick, we_under_quick, wn_under_slow, we_under_slow, wn_roof_over, we_roof_over, wn_roof_under, we_roof_under, we_roof_roof, wn_roof_low, we_roof_low, wn_roof_dives, we_roof_dives, wn_roof_climbs, we_roof_climbs, wn_roof_quick, we_roof_quick, wn_roof_slow, we_roof_slow, wn_low_over, we_low_over, wn_low_under, we_low_under, wn_low_roof, we_low_roof, we_low_low, wn_low_dives, we_low_dives, wn_low_climbs, we_low_climbs, wn_low_quick, we_low_quick, wn_low_slow, we_low_slow, wn_dives_over, we_dives_over, wn_dives_under, we_dives_under, wn_dives_roof, we_dives_roof, wn_dives_low, we_dives_low, we_dives_dives, wn_dives_climbs, we_dives_climbs, wn_dives_quick, we_dives_quick, wn_dives_slow, we_dives_slow, wn_climbs_over, we_climbs_over, wn_climbs_under, we_climbs_under, wn_climbs_roof, we_climbs_roof, wn_climbs_low, we_climbs_low, wn_climbs_dives, we_climbs_dives, we_climbs_climbs, wn_climbs_quick, we_climbs_quick, wn_climbs_slow, we_climbs_slow, wn_quick_over, we_quick_over, wn_quick_under, we_quick_under, wn_quick_roof, we_quick_roof, wn_quick_low, we_quick_low, wn_quick_dives, we_quick_dives, wn_quick_climbs, we_quick_climbs, we_quick_quick, wn_quick_slow, we_quick_slow, wn_slow_over, we_slow_over, wn_slow_under, we_slow_under, wn_slow_roof, we_slow_roof, wn_slow_low, we_slow_low, wn_slow_dives, we_slow_dives, wn_slow_climbs, we_slow_climbs, wn_slow_quick, we_slow_quick, we_slow_slow, we_upright_upright, wn_upright_upper, we_upright_upper, wn_upright_lower, we_upright_lower, wn_upper_upright, we_upper_upright, we_upper_upper, wn_upper_lower, we_upper_lower, wn_lower_upright, we_lower_upright, wn_lower_upper, we_lower_upper, we_lower_lower, we_least_least, wn_least_most, we_least_most, wn_least_all, we_least_all, wn_least_none, we_least_none, wn_most_least, we_most_least, we_most_most, wn_most_all, we_most_all, wn_most_none, we_most_none, wn_all_least, we_all_least, wn_all_most, we_all_most, we_all_all, wn_all_none, we_all_none, wn_none_least, we_none_least, wn_none_most, we_none_most, wn_none_all, we_none_all, we_none_none, ev_inn, ev_innl, ev_nin, flat_s, flat_i, List.all_cons, List.all_nil, List.any_cons, List.any_nil, Bool.or_false, Bool.false_or, Bool.or_true, Bool.true_or, Bool.and_self, eqv_int, ev_is, ev_isnt, reduceCtorEq, e24, e25, e16, e23, e31, ap_Lfar, ap_Lhigh, ap_Lmul, ap_Lsub, ap_Ldiv]
    refine ⟨zp, by walk_at "sz", by walk_at "sz", zp, by walk_at "sz", by walk_at "sz", by walk_at "sz", by walk_at "sz", hxx, by walk_at "sz", by walk_at "sz", ?_⟩
    rw [lnp_eq h0]
    exact hq
  · rename_i x y
    obtain ⟨h0, zx, zy⟩ := h
    have zp : Zp 8000 x y := (zx.pt zy).mono (by decide)
    have hxx : x * x ≠ 0 := by
      have := Rat.mul_pos h0 h0
      grind
    simp only [q_Lbound_1, q_Lbound_2, q_Lbound_3, q_Lbound_4, q_Lbound_4_t_0, q_Lbound_4_t_1, wS, wE, wA, wT, wI, wO, ev_add, ev_sub, ev_mul, ev_div, ev_mod, ev_pow, ev_cat, ev_lt, ev_le, ev_gt, ev_ge, ev_eq, ev_ne, ev_eqs, ev_nes, ix_F0, ix_F1, ix_J0, ix_J1, ix_P0, ix_P1, ix_P2, ix_t0, ix_t1, ix_t2, ix_l0, ix_l1, ix_l2, tg_1, tg_F, tg_J, tg_P, tg_2, tg_3, tg_4, fold_J, eq_F, ne_F, eq_J, ne_J, eq_P, ne_P, db_, di_, setVals, setAll, datas, itemsD, truD, List.getElem?_cons_zero, List.getElem?_cons_succ, List.set_cons_zero, List.set_cons_succ, Option.map_some, Option.map_none, Option.some.injEq, exists_eq_left', decide_eq_true_eq, Bool.not_true, Bool.not_false, Bool.false_eq_true, if_false, if_true, true_and, and_true, decide_true, decide_false, List.length_cons, List.length_nil, mx_0, mx_1, mx_2, mx_3, mx_4, mx_5, mx_6, mx_7, mx_8, mx_9, mx_10, mx_11, mx_12, mx_13, mx_14, mx_15, mx_16, mx_17, mx_18, mx_19, mx_20, mx_21, mx_22, mx_23, mx_24, Nat.reduceAdd, Nat.reduceLeDiff, Nat.zero_add, Bool.not_eq_true', decide_eq_false_iff_not, reduceIte, ev_reprb, we_over_over, wn_over_under, we_over_under, wn_over_roof, we_over_roof, wn_over_low, we_over_low, wn_over_dives, we_over_dives, wn_over_climbs, we_over_climbs, wn_over_quick, we_over_quick, wn_over_slow, we_over_slow, wn_under_over, we_under_over, we_under_under, wn_under_roof, we_under_roof, wn_under_low, we_under_low, wn_under_dives, we_under_dives, wn_under_climbs, we_under_climbs, wn_under_quick, we_under_quick, wn_under_slow, we_under_slow, wn_roof_over, we_roof_over, wn_roof_under, we_roof_under, we_roof_roof, wn_roof_low, we_roof_low, wn_roof_dives, we_roof_dives, wn_roof_climbs, we_roof_climbs, wn_roof_quick, we_roof_quick, wn_roof_slow, we_roof_slow, wn_low_over, we_low_over, wn_low_under, we_low_under, wn_low_roof, we_low_roof, we_low_low, wn_low_dives, we_low_dives, wn_low_climbs, we_low_climbs, wn_low_quick, we_low_quick, wn_low_slow, we_low_slow, wn_dives_over, we_dives_over, wn_dives_under, we_dives_under, wn_dives_roof, we_dives_roof, wn_dives_low, we_dives_low, we_dives_dives, wn_dives_climbs, we_dives_climbs, wn_dives_quick, we_dives_quick, wn_dives_slow, we_dives_slow, wn_climbs_over, we_climbs_over, wn_climbs_under, we_climbs_under, wn_climbs_roof, we_climbs_roof, wn_climbs_low, we_climbs_low, wn_climbs_dives, we_climbs_dives, we_climbs_climbs, wn_climbs_quick, we_climbs_quick, wn_climbs_slow, we_climbs_slow, wn_quick_over, we_quick_over, wn_quick_under, we_quick_under, wn_quick_roof, we_quick_roof, wn_quick_low, we_quick_low, wn_quick_dives, we_quick_dives, wn_quick_climbs, we_quick_climbs, we_quick_quick, wn_quick_slow, we_quick_slow, wn_slow_over, we_slow_over, wn_slow_under, we_slow_under, wn_slow_roof, we_slow_roof, wn_slow_low, we_slow_low, wn_slow_dives, we_slow_dives, wn_slow_climbs, we_slow_climbs, wn_slow_quick, we_slow_quick, we_slow_slow, we_upright_upright, wn_upright_upper, we_upright_upper, wn_upright_lower, we_upright_lower, wn_upper_upright, we_upper_upright, we_upper_upper, wn_upper_lower, we_upper_lower, wn_lower_upright, we_lower_upright, wn_lower_upper, we_lower_upper, we_lower_lower, we_least_least, wn_least_most, we_least_most, wn_least_all, we_least_all, wn_least_none, we_least_none, wn_most_least, we_most_least, we_most_most, wn_most_all, we_most_all, wn_most_none, we_most_none, wn_all_least, we_all_least, wn_all_most, we_all_most, we_all_all, wn_all_none, we_all_none, wn_none_least, we_none_least, wn_none_most, we_none_most, wn_none_all, we_none_all, we_none_none, ev_inn, ev_innl, ev_nin, flat_s, flat_i, List.all_cons, List.all_nil, List.any_cons, List.any_nil, Bool.or_false, Bool.false_or, Bool.or_true, Bool.true_or, Bool.and_self, eqv_int, ev_is, ev_isnt, reduceCtorEq, e24, e25, e16, e23, e31, ap_Lfar, ap_Lhigh, ap_Lmul, ap_Lsub, ap_Ldiv]
    refine ⟨zp, by walk_at "sz", by walk_at "sz", zp, by walk_at "sz", by walk_at "sz", by walk_at "sz", by walk_at "sz", hxx, by walk_at "sz", by walk_at "sz", ?_⟩
    rw [lnp_eq h0]
    exact hq
  · rename_i x y u v
    obtain ⟨h0, h1, zx, zy, zu, zv⟩ := h
    have u0 : 0 < u := by grind
    have zp1 : Zp 8000 x y := (zx.pt zy).mono (by decide)
    have zp2 : Zp 8000 u v := (zu.pt zv).mono (by decide)
    have zm := zf_mm zx zy zu zv
    have zk := zf_kk zx zy zu zv
    have em : (v - y) / (u - x) = mm x y u v := rfl
    have ek : y - mm x y u v * x = kk x y u v := rfl
    have E := roof_own (y := y) (v := v) (s := s) h0 h1
    have hq' : Q (.d (.tuple [.str (Str.ofString "least"), F ((Ask.roof x y u v).bv s)])) := hq
    rw [E] at hq'
    simp only [q_Lbound_1, q_Lbound_2, q_Lbound_3, q_Lbound_4, wS, wE, wA, wT, wI, wO, ev_add, ev_sub, ev_mul, ev_div, ev_mod, ev_pow, ev_cat, ev_lt, ev_le, ev_gt, ev_ge, ev_eq, ev_ne, ev_eqs, ev_nes, ix_F0, ix_F1, ix_J0, ix_J1, ix_P0, ix_P1, ix_P2, ix_t0, ix_t1, ix_t2, ix_l0, ix_l1, ix_l2, tg_1, tg_F, tg_J, tg_P, tg_2, tg_3, tg_4, fold_J, eq_F, ne_F, eq_J, ne_J, eq_P, ne_P, db_, di_, setVals, setAll, datas, itemsD, truD, List.getElem?_cons_zero, List.getElem?_cons_succ, List.set_cons_zero, List.set_cons_succ, Option.map_some, Option.map_none, Option.some.injEq, exists_eq_left', decide_eq_true_eq, Bool.not_true, Bool.not_false, Bool.false_eq_true, if_false, if_true, true_and, and_true, decide_true, decide_false, List.length_cons, List.length_nil, mx_0, mx_1, mx_2, mx_3, mx_4, mx_5, mx_6, mx_7, mx_8, mx_9, mx_10, mx_11, mx_12, mx_13, mx_14, mx_15, mx_16, mx_17, mx_18, mx_19, mx_20, mx_21, mx_22, mx_23, mx_24, Nat.reduceAdd, Nat.reduceLeDiff, Nat.zero_add, Bool.not_eq_true', decide_eq_false_iff_not, reduceIte, ev_reprb, we_over_over, wn_over_under, we_over_under, wn_over_roof, we_over_roof, wn_over_low, we_over_low, wn_over_dives, we_over_dives, wn_over_climbs, we_over_climbs, wn_over_quick, we_over_quick, wn_over_slow, we_over_slow, wn_under_over, we_under_over, we_under_under, wn_under_roof, we_under_roof, wn_under_low, we_under_low, wn_under_dives, we_under_dives, wn_under_climbs, we_under_climbs, wn_under_quick, we_under_quick, wn_under_slow, we_under_slow, wn_roof_over, we_roof_over, wn_roof_under, we_roof_under, we_roof_roof, wn_roof_low, we_roof_low, wn_roof_dives, we_roof_dives, wn_roof_climbs, we_roof_climbs, wn_roof_quick, we_roof_quick, wn_roof_slow, we_roof_slow, wn_low_over, we_low_over, wn_low_under, we_low_under, wn_low_roof, we_low_roof, we_low_low, wn_low_dives, we_low_dives, wn_low_climbs, we_low_climbs, wn_low_quick, we_low_quick, wn_low_slow, we_low_slow, wn_dives_over, we_dives_over, wn_dives_under, we_dives_under, wn_dives_roof, we_dives_roof, wn_dives_low, we_dives_low, we_dives_dives, wn_dives_climbs, we_dives_climbs, wn_dives_quick, we_dives_quick, wn_dives_slow, we_dives_slow, wn_climbs_over, we_climbs_over, wn_climbs_under, we_climbs_under, wn_climbs_roof, we_climbs_roof, wn_climbs_low, we_climbs_low, wn_climbs_dives, we_climbs_dives, we_climbs_climbs, wn_climbs_quick, we_climbs_quick, wn_climbs_slow, we_climbs_slow, wn_quick_over, we_quick_over, wn_quick_under, we_quick_under, wn_quick_roof, we_quick_roof, wn_quick_low, we_quick_low, wn_quick_dives, we_quick_dives, wn_quick_climbs, we_quick_climbs, we_quick_quick, wn_quick_slow, we_quick_slow, wn_slow_over, we_slow_over, wn_slow_under, we_slow_under, wn_slow_roof, we_slow_roof, wn_slow_low, we_slow_low, wn_slow_dives, we_slow_dives, wn_slow_climbs, we_slow_climbs, wn_slow_quick, we_slow_quick, we_slow_slow, we_upright_upright, wn_upright_upper, we_upright_upper, wn_upright_lower, we_upright_lower, wn_upper_upright, we_upper_upright, we_upper_upper, wn_upper_lower, we_upper_lower, wn_lower_upright, we_lower_upright, wn_lower_upper, we_lower_upper, we_lower_lower, we_least_least, wn_least_most, we_least_most, wn_least_all, we_least_all, wn_least_none, we_least_none, wn_most_least, we_most_least, we_most_most, wn_most_all, we_most_all, wn_most_none, we_most_none, wn_all_least, we_all_least, wn_all_most, we_all_most, we_all_all, wn_all_none, we_all_none, wn_none_least, we_none_least, wn_none_most, we_none_most, wn_none_all, we_none_all, we_none_none, ev_inn, ev_innl, ev_nin, flat_s, flat_i, List.all_cons, List.all_nil, List.any_cons, List.any_nil, Bool.or_false, Bool.false_or, Bool.or_true, Bool.true_or, Bool.and_self, eqv_int, ev_is, ev_isnt, reduceCtorEq]
    simp only [q_Lbound_5, wS, wE, wA, wT, wI, wO, ev_add, ev_sub, ev_mul, ev_div, ev_mod, ev_pow, ev_cat, ev_lt, ev_le, ev_gt, ev_ge, ev_eq, ev_ne, ev_eqs, ev_nes, ix_F0, ix_F1, ix_J0, ix_J1, ix_P0, ix_P1, ix_P2, ix_t0, ix_t1, ix_t2, ix_l0, ix_l1, ix_l2, tg_1, tg_F, tg_J, tg_P, tg_2, tg_3, tg_4, fold_J, eq_F, ne_F, eq_J, ne_J, eq_P, ne_P, db_, di_, setVals, setAll, datas, itemsD, truD, List.getElem?_cons_zero, List.getElem?_cons_succ, List.set_cons_zero, List.set_cons_succ, Option.map_some, Option.map_none, Option.some.injEq, exists_eq_left', decide_eq_true_eq, Bool.not_true, Bool.not_false, Bool.false_eq_true, if_false, if_true, true_and, and_true, decide_true, decide_false, List.length_cons, List.length_nil, mx_0, mx_1, mx_2, mx_3, mx_4, mx_5, mx_6, mx_7, mx_8, mx_9, mx_10, mx_11, mx_12, mx_13, mx_14, mx_15, mx_16, mx_17, mx_18, mx_19, mx_20, mx_21, mx_22, mx_23, mx_24, Nat.reduceAdd, Nat.reduceLeDiff, Nat.zero_add, Bool.not_eq_true', decide_eq_false_iff_not, reduceIte, ev_reprb, e24, ap_Lfar]
    refine ⟨zp1, zp2, ?_⟩
    simp only [q_Lbound_6, wS, wE, wA, wT, wI, wO, ev_add, ev_sub, ev_mul, ev_div, ev_mod, ev_pow, ev_cat, ev_lt, ev_le, ev_gt, ev_ge, ev_eq, ev_ne, ev_eqs, ev_nes, ix_F0, ix_F1, ix_J0, ix_J1, ix_P0, ix_P1, ix_P2, ix_t0, ix_t1, ix_t2, ix_l0, ix_l1, ix_l2, tg_1, tg_F, tg_J, tg_P, tg_2, tg_3, tg_4, fold_J, eq_F, ne_F, eq_J, ne_J, eq_P, ne_P, db_, di_, setVals, setAll, datas, itemsD, truD, List.getElem?_cons_zero, List.getElem?_cons_succ, List.set_cons_zero, List.set_cons_succ, Option.map_some, Option.map_none, Option.some.injEq, exists_eq_left', decide_eq_true_eq, Bool.not_true, Bool.not_false, Bool.false_eq_true, if_false, if_true, true_and, and_true, decide_true, decide_false, List.length_cons, List.length_nil, mx_0, mx_1, mx_2, mx_3, mx_4, mx_5, mx_6, mx_7, mx_8, mx_9, mx_10, mx_11, mx_12, mx_13, mx_14, mx_15, mx_16, mx_17, mx_18, mx_19, mx_20, mx_21, mx_22, mx_23, mx_24, Nat.reduceAdd, Nat.reduceLeDiff, Nat.zero_add, Bool.not_eq_true', decide_eq_false_iff_not, reduceIte, ev_reprb, e25, e23, e31, ap_Lhigh, ap_Lsub, ap_Ldiv, em]
    refine ⟨zp2, zp1, by walk_at "sz", by walk_at "sz", by walk_at "sz", by walk_at "sz", by grind, by walk_at "sz", by walk_at "sz", ?_⟩
    simp only [q_Lbound_7, wS, wE, wA, wT, wI, wO, ev_add, ev_sub, ev_mul, ev_div, ev_mod, ev_pow, ev_cat, ev_lt, ev_le, ev_gt, ev_ge, ev_eq, ev_ne, ev_eqs, ev_nes, ix_F0, ix_F1, ix_J0, ix_J1, ix_P0, ix_P1, ix_P2, ix_t0, ix_t1, ix_t2, ix_l0, ix_l1, ix_l2, tg_1, tg_F, tg_J, tg_P, tg_2, tg_3, tg_4, fold_J, eq_F, ne_F, eq_J, ne_J, eq_P, ne_P, db_, di_, setVals, setAll, datas, itemsD, truD, List.getElem?_cons_zero, List.getElem?_cons_succ, List.set_cons_zero, List.set_cons_succ, Option.map_some, Option.map_none, Option.some.injEq, exists_eq_left', decide_eq_true_eq, Bool.not_true, Bool.not_false, Bool.false_eq_true, if_false, if_true, true_and, and_true, decide_true, decide_false, List.length_cons, List.length_nil, mx_0, mx_1, mx_2, mx_3, mx_4, mx_5, mx_6, mx_7, mx_8, mx_9, mx_10, mx_11, mx_12, mx_13, mx_14, mx_15, mx_16, mx_17, mx_18, mx_19, mx_20, mx_21, mx_22, mx_23, mx_24, Nat.reduceAdd, Nat.reduceLeDiff, Nat.zero_add, Bool.not_eq_true', decide_eq_false_iff_not, reduceIte, ev_reprb, e25, e16, e23, ap_Lhigh, ap_Lmul, ap_Lsub, ek]
    refine ⟨zp1, by walk_at "sz", by walk_at "sz", by walk_at "sz", by walk_at "sz", ?_⟩
    generalize hkk : kk x y u v = k at *
    generalize hmm : mm x y u v = m at *
    have zL : Zf 200 (s - m) := by walk_at "sz"
    have zp : Zf 50 (1 / x) := by walk_at "sz"
    have zq : Zf 70 (1 / u) := by walk_at "sz"
    have zr : Zf 500 ((s - m) / (2 * k)) := by walk_at "sz"
    have zw : ∀ t, Zf 500 t → Zf 3000 (wv (s - m) k t) := fun t ht => by
      unfold wv
      walk_at "sz"
    have hx : x ≠ 0 := by grind
    have hu : u ≠ 0 := by grind
    simp only [q_Lbound_8, wS, wE, wA, wT, wI, wO, ev_add, ev_sub, ev_mul, ev_div, ev_mod, ev_pow, ev_cat, ev_lt, ev_le, ev_gt, ev_ge, ev_eq, ev_ne, ev_eqs, ev_nes, ix_F0, ix_F1, ix_J0, ix_J1, ix_P0, ix_P1, ix_P2, ix_t0, ix_t1, ix_t2, ix_l0, ix_l1, ix_l2, tg_1, tg_F, tg_J, tg_P, tg_2, tg_3, tg_4, fold_J, eq_F, ne_F, eq_J, ne_J, eq_P, ne_P, db_, di_, setVals, setAll, datas, itemsD, truD, List.getElem?_cons_zero, List.getElem?_cons_succ, List.set_cons_zero, List.set_cons_succ, Option.map_some, Option.map_none, Option.some.injEq, exists_eq_left', decide_eq_true_eq, Bool.not_true, Bool.not_false, Bool.false_eq_true, if_false, if_true, true_and, and_true, decide_true, decide_false, List.length_cons, List.length_nil, mx_0, mx_1, mx_2, mx_3, mx_4, mx_5, mx_6, mx_7, mx_8, mx_9, mx_10, mx_11, mx_12, mx_13, mx_14, mx_15, mx_16, mx_17, mx_18, mx_19, mx_20, mx_21, mx_22, mx_23, mx_24, Nat.reduceAdd, Nat.reduceLeDiff, Nat.zero_add, Bool.not_eq_true', decide_eq_false_iff_not, reduceIte, ev_reprb, e23, ap_Lsub]
    refine ⟨by walk_at "sz", by walk_at "sz", ?_⟩
    simp only [q_Lbound_9, wS, wE, wA, wT, wI, wO, ev_add, ev_sub, ev_mul, ev_div, ev_mod, ev_pow, ev_cat, ev_lt, ev_le, ev_gt, ev_ge, ev_eq, ev_ne, ev_eqs, ev_nes, ix_F0, ix_F1, ix_J0, ix_J1, ix_P0, ix_P1, ix_P2, ix_t0, ix_t1, ix_t2, ix_l0, ix_l1, ix_l2, tg_1, tg_F, tg_J, tg_P, tg_2, tg_3, tg_4, fold_J, eq_F, ne_F, eq_J, ne_J, eq_P, ne_P, db_, di_, setVals, setAll, datas, itemsD, truD, List.getElem?_cons_zero, List.getElem?_cons_succ, List.set_cons_zero, List.set_cons_succ, Option.map_some, Option.map_none, Option.some.injEq, exists_eq_left', decide_eq_true_eq, Bool.not_true, Bool.not_false, Bool.false_eq_true, if_false, if_true, true_and, and_true, decide_true, decide_false, List.length_cons, List.length_nil, mx_0, mx_1, mx_2, mx_3, mx_4, mx_5, mx_6, mx_7, mx_8, mx_9, mx_10, mx_11, mx_12, mx_13, mx_14, mx_15, mx_16, mx_17, mx_18, mx_19, mx_20, mx_21, mx_22, mx_23, mx_24, Nat.reduceAdd, Nat.reduceLeDiff, Nat.zero_add, Bool.not_eq_true', decide_eq_false_iff_not, reduceIte, ev_reprb, e31, ap_Ldiv, lit_1]
    refine ⟨hx, by walk_at "sz", by walk_at "sz", hu, by walk_at "sz", by walk_at "sz", ?_⟩
    have two : ∀ o12, Q (.d (.tuple [.str (Str.ofString "least"), F (mxQ (wv (s - m) k (1 / x)) (wv (s - m) k (1 / u)))])) → wS Φ q_Lbound_11 { nx := fun _ => Q (.d .none), rt := Q } [some (.val (.d (.tuple [.str (Str.ofString "roof"), P3 x y, P3 u v]))), some (.val (.d (F s))), some (.val (.d (.str (Str.ofString "roof")))), some (.val (.d (.str (Str.ofString "least")))), none, some (.val (.d (F u))), some (.val (.d (F x))), some (.val (.d (F m))), some (.val (.d (F k))), some (.val (.d .none)), some (.val (.d (F (s - m)))), some (.val (.d (.list [F (1 / x), F (1 / u)]))), o12, none, none] := by
      intro o12 hv
      simp only [q_Lbound_11, wS, wE, wA, wT, wI, wO, ev_add, ev_sub, ev_mul, ev_div, ev_mod, ev_pow, ev_cat, ev_lt, ev_le, ev_gt, ev_ge, ev_eq, ev_ne, ev_eqs, ev_nes, ix_F0, ix_F1, ix_J0, ix_J1, ix_P0, ix_P1, ix_P2, ix_t0, ix_t1, ix_t2, ix_l0, ix_l1, ix_l2, tg_1, tg_F, tg_J, tg_P, tg_2, tg_3, tg_4, fold_J, eq_F, ne_F, eq_J, ne_J, eq_P, ne_P, db_, di_, setVals, setAll, datas, itemsD, truD, List.getElem?_cons_zero, List.getElem?_cons_succ, List.set_cons_zero, List.set_cons_succ, Option.map_some, Option.map_none, Option.some.injEq, exists_eq_left', decide_eq_true_eq, Bool.not_true, Bool.not_false, Bool.false_eq_true, if_false, if_true, true_and, and_true, decide_true, decide_false, List.length_cons, List.length_nil, mx_0, mx_1, mx_2, mx_3, mx_4, mx_5, mx_6, mx_7, mx_8, mx_9, mx_10, mx_11, mx_12, mx_13, mx_14, mx_15, mx_16, mx_17, mx_18, mx_19, mx_20, mx_21, mx_22, mx_23, mx_24, Nat.reduceAdd, Nat.reduceLeDiff, Nat.zero_add, Bool.not_eq_true', decide_eq_false_iff_not, reduceIte, ev_reprb, List.map_cons, List.map_nil, goFor]
      refine lb_t1 e16 e23 zL zk (zp.mono (by decide)) ?_
      simp only [wS, wE, wA, wT, wI, wO, ev_add, ev_sub, ev_mul, ev_div, ev_mod, ev_pow, ev_cat, ev_lt, ev_le, ev_gt, ev_ge, ev_eq, ev_ne, ev_eqs, ev_nes, ix_F0, ix_F1, ix_J0, ix_J1, ix_P0, ix_P1, ix_P2, ix_t0, ix_t1, ix_t2, ix_l0, ix_l1, ix_l2, tg_1, tg_F, tg_J, tg_P, tg_2, tg_3, tg_4, fold_J, eq_F, ne_F, eq_J, ne_J, eq_P, ne_P, db_, di_, setVals, setAll, datas, itemsD, truD, List.getElem?_cons_zero, List.getElem?_cons_succ, List.set_cons_zero, List.set_cons_succ, Option.map_some, Option.map_none, Option.some.injEq, exists_eq_left', decide_eq_true_eq, Bool.not_true, Bool.not_false, Bool.false_eq_true, if_false, if_true, true_and, and_true, decide_true, decide_false, List.length_cons, List.length_nil, mx_0, mx_1, mx_2, mx_3, mx_4, mx_5, mx_6, mx_7, mx_8, mx_9, mx_10, mx_11, mx_12, mx_13, mx_14, mx_15, mx_16, mx_17, mx_18, mx_19, mx_20, mx_21, mx_22, mx_23, mx_24, Nat.reduceAdd, Nat.reduceLeDiff, Nat.zero_add, Bool.not_eq_true', decide_eq_false_iff_not, reduceIte, ev_reprb]
      refine lb_t2 e16 e23 e59 zL zk (zq.mono (by decide)) (zw _ (zp.mono (by decide))) (zw _ (zq.mono (by decide))) ?_
      simp only [q_Lbound_12, wS, wE, wA, wT, wI, wO, ev_add, ev_sub, ev_mul, ev_div, ev_mod, ev_pow, ev_cat, ev_lt, ev_le, ev_gt, ev_ge, ev_eq, ev_ne, ev_eqs, ev_nes, ix_F0, ix_F1, ix_J0, ix_J1, ix_P0, ix_P1, ix_P2, ix_t0, ix_t1, ix_t2, ix_l0, ix_l1, ix_l2, tg_1, tg_F, tg_J, tg_P, tg_2, tg_3, tg_4, fold_J, eq_F, ne_F, eq_J, ne_J, eq_P, ne_P, db_, di_, setVals, setAll, datas, itemsD, truD, List.getElem?_cons_zero, List.getElem?_cons_succ, List.set_cons_zero, List.set_cons_succ, Option.map_some, Option.map_none, Option.some.injEq, exists_eq_left', decide_eq_true_eq, Bool.not_true, Bool.not_false, Bool.false_eq_true, if_false, if_true, true_and, and_true, decide_true, decide_false, List.length_cons, List.length_nil, mx_0, mx_1, mx_2, mx_3, mx_4, mx_5, mx_6, mx_7, mx_8, mx_9, mx_10, mx_11, mx_12, mx_13, mx_14, mx_15, mx_16, mx_17, mx_18, mx_19, mx_20, mx_21, mx_22, mx_23, mx_24, Nat.reduceAdd, Nat.reduceLeDiff, Nat.zero_add, Bool.not_eq_true', decide_eq_false_iff_not, reduceIte, ev_reprb]
      exact hv
    simp only [q_Lbound_10, wS, wE, wA, wT, wI, wO, ev_add, ev_sub, ev_mul, ev_div, ev_mod, ev_pow, ev_cat, ev_lt, ev_le, ev_gt, ev_ge, ev_eq, ev_ne, ev_eqs, ev_nes, ix_F0, ix_F1, ix_J0, ix_J1, ix_P0, ix_P1, ix_P2, ix_t0, ix_t1, ix_t2, ix_l0, ix_l1, ix_l2, tg_1, tg_F, tg_J, tg_P, tg_2, tg_3, tg_4, fold_J, eq_F, ne_F, eq_J, ne_J, eq_P, ne_P, db_, di_, setVals, setAll, datas, itemsD, truD, List.getElem?_cons_zero, List.getElem?_cons_succ, List.set_cons_zero, List.set_cons_succ, Option.map_some, Option.map_none, Option.some.injEq, exists_eq_left', decide_eq_true_eq, Bool.not_true, Bool.not_false, Bool.false_eq_true, if_false, if_true, true_and, and_true, decide_true, decide_false, List.length_cons, List.length_nil, mx_0, mx_1, mx_2, mx_3, mx_4, mx_5, mx_6, mx_7, mx_8, mx_9, mx_10, mx_11, mx_12, mx_13, mx_14, mx_15, mx_16, mx_17, mx_18, mx_19, mx_20, mx_21, mx_22, mx_23, mx_24, Nat.reduceAdd, Nat.reduceLeDiff, Nat.zero_add, Bool.not_eq_true', decide_eq_false_iff_not, reduceIte, ev_reprb, num_pos]
    by_cases k0 : 0 < k
    · rw [if_pos k0]
      simp only [q_Lbound_10_t_0, wS, wE, wA, wT, wI, wO, ev_add, ev_sub, ev_mul, ev_div, ev_mod, ev_pow, ev_cat, ev_lt, ev_le, ev_gt, ev_ge, ev_eq, ev_ne, ev_eqs, ev_nes, ix_F0, ix_F1, ix_J0, ix_J1, ix_P0, ix_P1, ix_P2, ix_t0, ix_t1, ix_t2, ix_l0, ix_l1, ix_l2, tg_1, tg_F, tg_J, tg_P, tg_2, tg_3, tg_4, fold_J, eq_F, ne_F, eq_J, ne_J, eq_P, ne_P, db_, di_, setVals, setAll, datas, itemsD, truD, List.getElem?_cons_zero, List.getElem?_cons_succ, List.set_cons_zero, List.set_cons_succ, Option.map_some, Option.map_none, Option.some.injEq, exists_eq_left', decide_eq_true_eq, Bool.not_true, Bool.not_false, Bool.false_eq_true, if_false, if_true, true_and, and_true, decide_true, decide_false, List.length_cons, List.length_nil, mx_0, mx_1, mx_2, mx_3, mx_4, mx_5, mx_6, mx_7, mx_8, mx_9, mx_10, mx_11, mx_12, mx_13, mx_14, mx_15, mx_16, mx_17, mx_18, mx_19, mx_20, mx_21, mx_22, mx_23, mx_24, Nat.reduceAdd, Nat.reduceLeDiff, Nat.zero_add, Bool.not_eq_true', decide_eq_false_iff_not, reduceIte, ev_reprb, e16, e31, ap_Lmul, ap_Ldiv, lit_2]
      refine ⟨by walk_at "sz", by walk_at "sz", by grind, by walk_at "sz", by walk_at "sz", ?_⟩
      simp only [q_Lbound_10_t_1, wS, wE, wA, wT, wI, wO, ev_add, ev_sub, ev_mul, ev_div, ev_mod, ev_pow, ev_cat, ev_lt, ev_le, ev_gt, ev_ge, ev_eq, ev_ne, ev_eqs, ev_nes, ix_F0, ix_F1, ix_J0, ix_J1, ix_P0, ix_P1, ix_P2, ix_t0, ix_t1, ix_t2, ix_l0, ix_l1, ix_l2, tg_1, tg_F, tg_J, tg_P, tg_2, tg_3, tg_4, fold_J, eq_F, ne_F, eq_J, ne_J, eq_P, ne_P, db_, di_, setVals, setAll, datas, itemsD, truD, List.getElem?_cons_zero, List.getElem?_cons_succ, List.set_cons_zero, List.set_cons_succ, Option.map_some, Option.map_none, Option.some.injEq, exists_eq_left', decide_eq_true_eq, Bool.not_true, Bool.not_false, Bool.false_eq_true, if_false, if_true, true_and, and_true, decide_true, decide_false, List.length_cons, List.length_nil, mx_0, mx_1, mx_2, mx_3, mx_4, mx_5, mx_6, mx_7, mx_8, mx_9, mx_10, mx_11, mx_12, mx_13, mx_14, mx_15, mx_16, mx_17, mx_18, mx_19, mx_20, mx_21, mx_22, mx_23, mx_24, Nat.reduceAdd, Nat.reduceLeDiff, Nat.zero_add, Bool.not_eq_true', decide_eq_false_iff_not, reduceIte, ev_reprb, e59, ap_Lless, List.append_nil, List.cons_append, List.nil_append]
      refine ⟨by walk_at "sz", by walk_at "sz", ?_⟩
      by_cases c1 : 1 / u < (s - m) / (2 * k)
      · rw [if_pos c1]
        refine ⟨by walk_at "sz", by walk_at "sz", ?_⟩
        by_cases c2 : (s - m) / (2 * k) < 1 / x
        · rw [if_pos c2]
          rw [if_pos ⟨k0, c1, c2⟩] at hq'
          simp only [q_Lbound_11, wS, wE, wA, wT, wI, wO, ev_add, ev_sub, ev_mul, ev_div, ev_mod, ev_pow, ev_cat, ev_lt, ev_le, ev_gt, ev_ge, ev_eq, ev_ne, ev_eqs, ev_nes, ix_F0, ix_F1, ix_J0, ix_J1, ix_P0, ix_P1, ix_P2, ix_t0, ix_t1, ix_t2, ix_l0, ix_l1, ix_l2, tg_1, tg_F, tg_J, tg_P, tg_2, tg_3, tg_4, fold_J, eq_F, ne_F, eq_J, ne_J, eq_P, ne_P, db_, di_, setVals, setAll, datas, itemsD, truD, List.getElem?_cons_zero, List.getElem?_cons_succ, List.set_cons_zero, List.set_cons_succ, Option.map_some, Option.map_none, Option.some.injEq, exists_eq_left', decide_eq_true_eq, Bool.not_true, Bool.not_false, Bool.false_eq_true, if_false, if_true, true_and, and_true, decide_true, decide_false, List.length_cons, List.length_nil, mx_0, mx_1, mx_2, mx_3, mx_4, mx_5, mx_6, mx_7, mx_8, mx_9, mx_10, mx_11, mx_12, mx_13, mx_14, mx_15, mx_16, mx_17, mx_18, mx_19, mx_20, mx_21, mx_22, mx_23, mx_24, Nat.reduceAdd, Nat.reduceLeDiff, Nat.zero_add, Bool.not_eq_true', decide_eq_false_iff_not, reduceIte, ev_reprb, List.map_cons, List.map_nil, goFor]
          refine lb_t1 e16 e23 zL zk (zp.mono (by decide)) ?_
          simp only [wS, wE, wA, wT, wI, wO, ev_add, ev_sub, ev_mul, ev_div, ev_mod, ev_pow, ev_cat, ev_lt, ev_le, ev_gt, ev_ge, ev_eq, ev_ne, ev_eqs, ev_nes, ix_F0, ix_F1, ix_J0, ix_J1, ix_P0, ix_P1, ix_P2, ix_t0, ix_t1, ix_t2, ix_l0, ix_l1, ix_l2, tg_1, tg_F, tg_J, tg_P, tg_2, tg_3, tg_4, fold_J, eq_F, ne_F, eq_J, ne_J, eq_P, ne_P, db_, di_, setVals, setAll, datas, itemsD, truD, List.getElem?_cons_zero, List.getElem?_cons_succ, List.set_cons_zero, List.set_cons_succ, Option.map_some, Option.map_none, Option.some.injEq, exists_eq_left', decide_eq_true_eq, Bool.not_true, Bool.not_false, Bool.false_eq_true, if_false, if_true, true_and, and_true, decide_true, decide_false, List.length_cons, List.length_nil, mx_0, mx_1, mx_2, mx_3, mx_4, mx_5, mx_6, mx_7, mx_8, mx_9, mx_10, mx_11, mx_12, mx_13, mx_14, mx_15, mx_16, mx_17, mx_18, mx_19, mx_20, mx_21, mx_22, mx_23, mx_24, Nat.reduceAdd, Nat.reduceLeDiff, Nat.zero_add, Bool.not_eq_true', decide_eq_false_iff_not, reduceIte, ev_reprb]
          refine lb_t2 e16 e23 e59 zL zk (zq.mono (by decide)) (zw _ (zp.mono (by decide))) (zw _ (zq.mono (by decide))) ?_
          simp only [wS, wE, wA, wT, wI, wO, ev_add, ev_sub, ev_mul, ev_div, ev_mod, ev_pow, ev_cat, ev_lt, ev_le, ev_gt, ev_ge, ev_eq, ev_ne, ev_eqs, ev_nes, ix_F0, ix_F1, ix_J0, ix_J1, ix_P0, ix_P1, ix_P2, ix_t0, ix_t1, ix_t2, ix_l0, ix_l1, ix_l2, tg_1, tg_F, tg_J, tg_P, tg_2, tg_3, tg_4, fold_J, eq_F, ne_F, eq_J, ne_J, eq_P, ne_P, db_, di_, setVals, setAll, datas, itemsD, truD, List.getElem?_cons_zero, List.getElem?_cons_succ, List.set_cons_zero, List.set_cons_succ, Option.map_some, Option.map_none, Option.some.injEq, exists_eq_left', decide_eq_true_eq, Bool.not_true, Bool.not_false, Bool.false_eq_true, if_false, if_true, true_and, and_true, decide_true, decide_false, List.length_cons, List.length_nil, mx_0, mx_1, mx_2, mx_3, mx_4, mx_5, mx_6, mx_7, mx_8, mx_9, mx_10, mx_11, mx_12, mx_13, mx_14, mx_15, mx_16, mx_17, mx_18, mx_19, mx_20, mx_21, mx_22, mx_23, mx_24, Nat.reduceAdd, Nat.reduceLeDiff, Nat.zero_add, Bool.not_eq_true', decide_eq_false_iff_not, reduceIte, ev_reprb]
          refine lb_t2 e16 e23 e59 zL zk zr ?_ (zw _ zr) ?_
          · unfold mxQ
            split
            · exact zw _ (zq.mono (by decide))
            · exact zw _ (zp.mono (by decide))
          simp only [q_Lbound_12, wS, wE, wA, wT, wI, wO, ev_add, ev_sub, ev_mul, ev_div, ev_mod, ev_pow, ev_cat, ev_lt, ev_le, ev_gt, ev_ge, ev_eq, ev_ne, ev_eqs, ev_nes, ix_F0, ix_F1, ix_J0, ix_J1, ix_P0, ix_P1, ix_P2, ix_t0, ix_t1, ix_t2, ix_l0, ix_l1, ix_l2, tg_1, tg_F, tg_J, tg_P, tg_2, tg_3, tg_4, fold_J, eq_F, ne_F, eq_J, ne_J, eq_P, ne_P, db_, di_, setVals, setAll, datas, itemsD, truD, List.getElem?_cons_zero, List.getElem?_cons_succ, List.set_cons_zero, List.set_cons_succ, Option.map_some, Option.map_none, Option.some.injEq, exists_eq_left', decide_eq_true_eq, Bool.not_true, Bool.not_false, Bool.false_eq_true, if_false, if_true, true_and, and_true, decide_true, decide_false, List.length_cons, List.length_nil, mx_0, mx_1, mx_2, mx_3, mx_4, mx_5, mx_6, mx_7, mx_8, mx_9, mx_10, mx_11, mx_12, mx_13, mx_14, mx_15, mx_16, mx_17, mx_18, mx_19, mx_20, mx_21, mx_22, mx_23, mx_24, Nat.reduceAdd, Nat.reduceLeDiff, Nat.zero_add, Bool.not_eq_true', decide_eq_false_iff_not, reduceIte, ev_reprb]
          exact hq'
        · rw [if_neg c2]
          rw [if_neg (fun z => c2 z.2.2)] at hq'
          exact two _ hq'
      · rw [if_neg c1]
        rw [if_neg (fun z => c1 z.2.1)] at hq'
        exact two _ hq'
    · rw [if_neg k0]
      rw [if_neg (fun z => k0 z.1)] at hq'
      exact two _ hq'
  · rename_i B
    obtain ⟨h0, zB⟩ := h
    have hq' : Q (.d (.tuple [.str (Str.ofString "least"), F ((Ask.low B).bv s)])) := hq
    simp only [Ask.bv] at hq'
    simp only [q_Lbound_1, q_Lbound_2, q_Lbound_3, wS, wE, wA, wT, wI, wO, ev_add, ev_sub, ev_mul, ev_div, ev_mod, ev_pow, ev_cat, ev_lt, ev_le, ev_gt, ev_ge, ev_eq, ev_ne, ev_eqs, ev_nes, ix_F0, ix_F1, ix_J0, ix_J1, ix_P0, ix_P1, ix_P2, ix_t0, ix_t1, ix_t2, ix_l0, ix_l1, ix_l2, tg_1, tg_F, tg_J, tg_P, tg_2, tg_3, tg_4, fold_J, eq_F, ne_F, eq_J, ne_J, eq_P, ne_P, db_, di_, setVals, setAll, datas, itemsD, truD, List.getElem?_cons_zero, List.getElem?_cons_succ, List.set_cons_zero, List.set_cons_succ, Option.map_some, Option.map_none, Option.some.injEq, exists_eq_left', decide_eq_true_eq, Bool.not_true, Bool.not_false, Bool.false_eq_true, if_false, if_true, true_and, and_true, decide_true, decide_false, List.length_cons, List.length_nil, mx_0, mx_1, mx_2, mx_3, mx_4, mx_5, mx_6, mx_7, mx_8, mx_9, mx_10, mx_11, mx_12, mx_13, mx_14, mx_15, mx_16, mx_17, mx_18, mx_19, mx_20, mx_21, mx_22, mx_23, mx_24, Nat.reduceAdd, Nat.reduceLeDiff, Nat.zero_add, Bool.not_eq_true', decide_eq_false_iff_not, reduceIte, ev_reprb, we_over_over, wn_over_under, we_over_under, wn_over_roof, we_over_roof, wn_over_low, we_over_low, wn_over_dives, we_over_dives, wn_over_climbs, we_over_climbs, wn_over_quick, we_over_quick, wn_over_slow, we_over_slow, wn_under_over, we_under_over, we_under_under, wn_under_roof, we_under_roof, wn_under_low, we_under_low, wn_under_dives, we_under_dives, wn_under_climbs, we_under_climbs, wn_under_quick, we_under_quick, wn_under_slow, we_under_slow, wn_roof_over, we_roof_over, wn_roof_under, we_roof_under, we_roof_roof, wn_roof_low, we_roof_low, wn_roof_dives, we_roof_dives, wn_roof_climbs, we_roof_climbs, wn_roof_quick, we_roof_quick, wn_roof_slow, we_roof_slow, wn_low_over, we_low_over, wn_low_under, we_low_under, wn_low_roof, we_low_roof, we_low_low, wn_low_dives, we_low_dives, wn_low_climbs, we_low_climbs, wn_low_quick, we_low_quick, wn_low_slow, we_low_slow, wn_dives_over, we_dives_over, wn_dives_under, we_dives_under, wn_dives_roof, we_dives_roof, wn_dives_low, we_dives_low, we_dives_dives, wn_dives_climbs, we_dives_climbs, wn_dives_quick, we_dives_quick, wn_dives_slow, we_dives_slow, wn_climbs_over, we_climbs_over, wn_climbs_under, we_climbs_under, wn_climbs_roof, we_climbs_roof, wn_climbs_low, we_climbs_low, wn_climbs_dives, we_climbs_dives, we_climbs_climbs, wn_climbs_quick, we_climbs_quick, wn_climbs_slow, we_climbs_slow, wn_quick_over, we_quick_over, wn_quick_under, we_quick_under, wn_quick_roof, we_quick_roof, wn_quick_low, we_quick_low, wn_quick_dives, we_quick_dives, wn_quick_climbs, we_quick_climbs, we_quick_quick, wn_quick_slow, we_quick_slow, wn_slow_over, we_slow_over, wn_slow_under, we_slow_under, wn_slow_roof, we_slow_roof, wn_slow_low, we_slow_low, wn_slow_dives, we_slow_dives, wn_slow_climbs, we_slow_climbs, wn_slow_quick, we_slow_quick, we_slow_slow, we_upright_upright, wn_upright_upper, we_upright_upper, wn_upright_lower, we_upright_lower, wn_upper_upright, we_upper_upright, we_upper_upper, wn_upper_lower, we_upper_lower, wn_lower_upright, we_lower_upright, wn_lower_upper, we_lower_upper, we_lower_lower, we_least_least, wn_least_most, we_least_most, wn_least_all, we_least_all, wn_least_none, we_least_none, wn_most_least, we_most_least, we_most_most, wn_most_all, we_most_all, wn_most_none, we_most_none, wn_all_least, we_all_least, wn_all_most, we_all_most, we_all_all, wn_all_none, we_all_none, wn_none_least, we_none_least, wn_none_most, we_none_most, wn_none_all, we_none_all, we_none_none, ev_inn, ev_innl, ev_nin, flat_s, flat_i, List.all_cons, List.all_nil, List.any_cons, List.any_nil, Bool.or_false, Bool.false_or, Bool.or_true, Bool.true_or, Bool.and_self, eqv_int, ev_is, ev_isnt, reduceCtorEq, num_pos, e16, e31, ap_Lmul, ap_Ldiv, lit_0, lit_4]
    split
    · rename_i hs
      rw [if_pos hs] at hq'
      refine ⟨by walk_at "sz", by walk_at "sz", by walk_at "sz", by walk_at "sz", by grind, by walk_at "sz", by walk_at "sz", ?_⟩
      have e : s * s / (4 * B) = 0 + s * (0 + 1 / 4 / B * s) := by
        have : B ≠ 0 := by grind
        grind
      rw [e]
      exact hq'
    · rename_i hs
      rw [if_neg hs] at hq'
      have e : (0 : Rat) = 0 + s * (0 + 0 * s) := by grind
      rw [← e] at hq'
      exact hq'
  · rename_i X M
    obtain ⟨h0, zX, zM⟩ := h
    simp only [q_Lbound_1, q_Lbound_2, q_Lbound_2_t_0, wS, wE, wA, wT, wI, wO, ev_add, ev_sub, ev_mul, ev_div, ev_mod, ev_pow, ev_cat, ev_lt, ev_le, ev_gt, ev_ge, ev_eq, ev_ne, ev_eqs, ev_nes, ix_F0, ix_F1, ix_J0, ix_J1, ix_P0, ix_P1, ix_P2, ix_t0, ix_t1, ix_t2, ix_l0, ix_l1, ix_l2, tg_1, tg_F, tg_J, tg_P, tg_2, tg_3, tg_4, fold_J, eq_F, ne_F, eq_J, ne_J, eq_P, ne_P, db_, di_, setVals, setAll, datas, itemsD, truD, List.getElem?_cons_zero, List.getElem?_cons_succ, List.set_cons_zero, List.set_cons_succ, Option.map_some, Option.map_none, Option.some.injEq, exists_eq_left', decide_eq_true_eq, Bool.not_true, Bool.not_false, Bool.false_eq_true, if_false, if_true, true_and, and_true, decide_true, decide_false, List.length_cons, List.length_nil, mx_0, mx_1, mx_2, mx_3, mx_4, mx_5, mx_6, mx_7, mx_8, mx_9, mx_10, mx_11, mx_12, mx_13, mx_14, mx_15, mx_16, mx_17, mx_18, mx_19, mx_20, mx_21, mx_22, mx_23, mx_24, Nat.reduceAdd, Nat.reduceLeDiff, Nat.zero_add, Bool.not_eq_true', decide_eq_false_iff_not, reduceIte, ev_reprb, we_over_over, wn_over_under, we_over_under, wn_over_roof, we_over_roof, wn_over_low, we_over_low, wn_over_dives, we_over_dives, wn_over_climbs, we_over_climbs, wn_over_quick, we_over_quick, wn_over_slow, we_over_slow, wn_under_over, we_under_over, we_under_under, wn_under_roof, we_under_roof, wn_under_low, we_under_low, wn_under_dives, we_under_dives, wn_under_climbs, we_under_climbs, wn_under_quick, we_under_quick, wn_under_slow, we_under_slow, wn_roof_over, we_roof_over, wn_roof_under, we_roof_under, we_roof_roof, wn_roof_low, we_roof_low, wn_roof_dives, we_roof_dives, wn_roof_climbs, we_roof_climbs, wn_roof_quick, we_roof_quick, wn_roof_slow, we_roof_slow, wn_low_over, we_low_over, wn_low_under, we_low_under, wn_low_roof, we_low_roof, we_low_low, wn_low_dives, we_low_dives, wn_low_climbs, we_low_climbs, wn_low_quick, we_low_quick, wn_low_slow, we_low_slow, wn_dives_over, we_dives_over, wn_dives_under, we_dives_under, wn_dives_roof, we_dives_roof, wn_dives_low, we_dives_low, we_dives_dives, wn_dives_climbs, we_dives_climbs, wn_dives_quick, we_dives_quick, wn_dives_slow, we_dives_slow, wn_climbs_over, we_climbs_over, wn_climbs_under, we_climbs_under, wn_climbs_roof, we_climbs_roof, wn_climbs_low, we_climbs_low, wn_climbs_dives, we_climbs_dives, we_climbs_climbs, wn_climbs_quick, we_climbs_quick, wn_climbs_slow, we_climbs_slow, wn_quick_over, we_quick_over, wn_quick_under, we_quick_under, wn_quick_roof, we_quick_roof, wn_quick_low, we_quick_low, wn_quick_dives, we_quick_dives, wn_quick_climbs, we_quick_climbs, we_quick_quick, wn_quick_slow, we_quick_slow, wn_slow_over, we_slow_over, wn_slow_under, we_slow_under, wn_slow_roof, we_slow_roof, wn_slow_low, we_slow_low, wn_slow_dives, we_slow_dives, wn_slow_climbs, we_slow_climbs, wn_slow_quick, we_slow_quick, we_slow_slow, we_upright_upright, wn_upright_upper, we_upright_upper, wn_upright_lower, we_upright_lower, wn_upper_upright, we_upper_upright, we_upper_upper, wn_upper_lower, we_upper_lower, wn_lower_upright, we_lower_upright, wn_lower_upper, we_lower_upper, we_lower_lower, we_least_least, wn_least_most, we_least_most, wn_least_all, we_least_all, wn_least_none, we_least_none, wn_most_least, we_most_least, we_most_most, wn_most_all, we_most_all, wn_most_none, we_most_none, wn_all_least, we_all_least, wn_all_most, we_all_most, we_all_all, wn_all_none, we_all_none, wn_none_least, we_none_least, wn_none_most, we_none_most, wn_none_all, we_none_all, we_none_none, ev_inn, ev_innl, ev_nin, flat_s, flat_i, List.all_cons, List.all_nil, List.any_cons, List.any_nil, Bool.or_false, Bool.false_or, Bool.or_true, Bool.true_or, Bool.and_self, eqv_int, ev_is, ev_isnt, reduceCtorEq, e23, ap_Lsub]
    refine ⟨by walk_at "sz", by walk_at "sz", ?_⟩
    simp only [q_Lbound_2_t_1, wS, wE, wA, wT, wI, wO, ev_add, ev_sub, ev_mul, ev_div, ev_mod, ev_pow, ev_cat, ev_lt, ev_le, ev_gt, ev_ge, ev_eq, ev_ne, ev_eqs, ev_nes, ix_F0, ix_F1, ix_J0, ix_J1, ix_P0, ix_P1, ix_P2, ix_t0, ix_t1, ix_t2, ix_l0, ix_l1, ix_l2, tg_1, tg_F, tg_J, tg_P, tg_2, tg_3, tg_4, fold_J, eq_F, ne_F, eq_J, ne_J, eq_P, ne_P, db_, di_, setVals, setAll, datas, itemsD, truD, List.getElem?_cons_zero, List.getElem?_cons_succ, List.set_cons_zero, List.set_cons_succ, Option.map_some, Option.map_none, Option.some.injEq, exists_eq_left', decide_eq_true_eq, Bool.not_true, Bool.not_false, Bool.false_eq_true, if_false, if_true, true_and, and_true, decide_true, decide_false, List.length_cons, List.length_nil, mx_0, mx_1, mx_2, mx_3, mx_4, mx_5, mx_6, mx_7, mx_8, mx_9, mx_10, mx_11, mx_12, mx_13, mx_14, mx_15, mx_16, mx_17, mx_18, mx_19, mx_20, mx_21, mx_22, mx_23, mx_24, Nat.reduceAdd, Nat.reduceLeDiff, Nat.zero_add, Bool.not_eq_true', decide_eq_false_iff_not, reduceIte, ev_reprb, we_over_over, wn_over_under, we_over_under, wn_over_roof, we_over_roof, wn_over_low, we_over_low, wn_over_dives, we_over_dives, wn_over_climbs, we_over_climbs, wn_over_quick, we_over_quick, wn_over_slow, we_over_slow, wn_under_over, we_under_over, we_under_under, wn_under_roof, we_under_roof, wn_under_low, we_under_low, wn_under_dives, we_under_dives, wn_under_climbs, we_under_climbs, wn_under_quick, we_under_quick, wn_under_slow, we_under_slow, wn_roof_over, we_roof_over, wn_roof_under, we_roof_under, we_roof_roof, wn_roof_low, we_roof_low, wn_roof_dives, we_roof_dives, wn_roof_climbs, we_roof_climbs, wn_roof_quick, we_roof_quick, wn_roof_slow, we_roof_slow, wn_low_over, we_low_over, wn_low_under, we_low_under, wn_low_roof, we_low_roof, we_low_low, wn_low_dives, we_low_dives, wn_low_climbs, we_low_climbs, wn_low_quick, we_low_quick, wn_low_slow, we_low_slow, wn_dives_over, we_dives_over, wn_dives_under, we_dives_under, wn_dives_roof, we_dives_roof, wn_dives_low, we_dives_low, we_dives_dives, wn_dives_climbs, we_dives_climbs, wn_dives_quick, we_dives_quick, wn_dives_slow, we_dives_slow, wn_climbs_over, we_climbs_over, wn_climbs_under, we_climbs_under, wn_climbs_roof, we_climbs_roof, wn_climbs_low, we_climbs_low, wn_climbs_dives, we_climbs_dives, we_climbs_climbs, wn_climbs_quick, we_climbs_quick, wn_climbs_slow, we_climbs_slow, wn_quick_over, we_quick_over, wn_quick_under, we_quick_under, wn_quick_roof, we_quick_roof, wn_quick_low, we_quick_low, wn_quick_dives, we_quick_dives, wn_quick_climbs, we_quick_climbs, we_quick_quick, wn_quick_slow, we_quick_slow, wn_slow_over, we_slow_over, wn_slow_under, we_slow_under, wn_slow_roof, we_slow_roof, wn_slow_low, we_slow_low, wn_slow_dives, we_slow_dives, wn_slow_climbs, we_slow_climbs, wn_slow_quick, we_slow_quick, we_slow_slow, we_upright_upright, wn_upright_upper, we_upright_upper, wn_upright_lower, we_upright_lower, wn_upper_upright, we_upper_upright, we_upper_upper, wn_upper_lower, we_upper_lower, wn_lower_upright, we_lower_upright, wn_lower_upper, we_lower_upper, we_lower_lower, we_least_least, wn_least_most, we_least_most, wn_least_all, we_least_all, wn_least_none, we_least_none, wn_most_least, we_most_least, we_most_most, wn_most_all, we_most_all, wn_most_none, we_most_none, wn_all_least, we_all_least, wn_all_most, we_all_most, we_all_all, wn_all_none, we_all_none, wn_none_least, we_none_least, wn_none_most, we_none_most, wn_none_all, we_none_all, we_none_none, ev_inn, ev_innl, ev_nin, flat_s, flat_i, List.all_cons, List.all_nil, List.any_cons, List.any_nil, Bool.or_false, Bool.false_or, Bool.or_true, Bool.true_or, Bool.and_self, eqv_int, ev_is, ev_isnt, reduceCtorEq, num_zero, num_neg]
    by_cases e : X = 0
    · rw [if_pos e]
      simp only [Ask.bd, Ask.upr, Ask.dn, e, decide_true, if_true] at hq
      by_cases e2 : s - M = 0
      · rw [if_pos e2]
        rw [if_pos (by simp; grind)] at hq
        exact hq
      · rw [if_neg e2]
        rw [eq_gen rfl]
        refine ⟨lay_shaped ((lay_bool _).mono (by decide)), lay_shaped ((lay_bool _).mono (by decide)), ?_⟩
        by_cases e3 : s - M < 0
        · rw [if_pos (by simp; grind)] at hq
          simpa [e3, PyData.eqv, dbool] using hq
        · rw [if_neg (by simp; grind)] at hq
          simpa [e3, PyData.eqv, dbool] using hq
    · rw [if_neg e]
      simp only [q_Lbound_2_t_2, wS, wE, wA, wT, wI, wO, ev_add, ev_sub, ev_mul, ev_div, ev_mod, ev_pow, ev_cat, ev_lt, ev_le, ev_gt, ev_ge, ev_eq, ev_ne, ev_eqs, ev_nes, ix_F0, ix_F1, ix_J0, ix_J1, ix_P0, ix_P1, ix_P2, ix_t0, ix_t1, ix_t2, ix_l0, ix_l1, ix_l2, tg_1, tg_F, tg_J, tg_P, tg_2, tg_3, tg_4, fold_J, eq_F, ne_F, eq_J, ne_J, eq_P, ne_P, db_, di_, setVals, setAll, datas, itemsD, truD, List.getElem?_cons_zero, List.getElem?_cons_succ, List.set_cons_zero, List.set_cons_succ, Option.map_some, Option.map_none, Option.some.injEq, exists_eq_left', decide_eq_true_eq, Bool.not_true, Bool.not_false, Bool.false_eq_true, if_false, if_true, true_and, and_true, decide_true, decide_false, List.length_cons, List.length_nil, mx_0, mx_1, mx_2, mx_3, mx_4, mx_5, mx_6, mx_7, mx_8, mx_9, mx_10, mx_11, mx_12, mx_13, mx_14, mx_15, mx_16, mx_17, mx_18, mx_19, mx_20, mx_21, mx_22, mx_23, mx_24, Nat.reduceAdd, Nat.reduceLeDiff, Nat.zero_add, Bool.not_eq_true', decide_eq_false_iff_not, reduceIte, ev_reprb, e16, e31, ap_Lmul, ap_Ldiv, lit_2]
      simp only [Ask.bd, Ask.upr, Ask.lw, Ask.bv, e, decide_false, Bool.false_eq_true, if_false] at hq
      refine ⟨by walk_at "sz", by walk_at "sz", by grind, by walk_at "sz", by walk_at "sz", ?_⟩
      have ee : (s - M) / (2 * X) = -(1 / 2 / X * M) + s * (1 / 2 / X + 0 * s) := by grind
      rw [ee]
      exact hq
  · rename_i X M
    obtain ⟨h0, zX, zM⟩ := h
    simp only [q_Lbound_1, q_Lbound_2, q_Lbound_2_t_0, wS, wE, wA, wT, wI, wO, ev_add, ev_sub, ev_mul, ev_div, ev_mod, ev_pow, ev_cat, ev_lt, ev_le, ev_gt, ev_ge, ev_eq, ev_ne, ev_eqs, ev_nes, ix_F0, ix_F1, ix_J0, ix_J1, ix_P0, ix_P1, ix_P2, ix_t0, ix_t1, ix_t2, ix_l0, ix_l1, ix_l2, tg_1, tg_F, tg_J, tg_P, tg_2, tg_3, tg_4, fold_J, eq_F, ne_F, eq_J, ne_J, eq_P, ne_P, db_, di_, setVals, setAll, datas, itemsD, truD, List.getElem?_cons_zero, List.getElem?_cons_succ, List.set_cons_zero, List.set_cons_succ, Option.map_some, Option.map_none, Option.some.injEq, exists_eq_left', decide_eq_true_eq, Bool.not_true, Bool.not_false, Bool.false_eq_true, if_false, if_true, true_and, and_true, decide_true, decide_false, List.length_cons, List.length_nil, mx_0, mx_1, mx_2, mx_3, mx_4, mx_5, mx_6, mx_7, mx_8, mx_9, mx_10, mx_11, mx_12, mx_13, mx_14, mx_15, mx_16, mx_17, mx_18, mx_19, mx_20, mx_21, mx_22, mx_23, mx_24, Nat.reduceAdd, Nat.reduceLeDiff, Nat.zero_add, Bool.not_eq_true', decide_eq_false_iff_not, reduceIte, ev_reprb, we_over_over, wn_over_under, we_over_under, wn_over_roof, we_over_roof, wn_over_low, we_over_low, wn_over_dives, we_over_dives, wn_over_climbs, we_over_climbs, wn_over_quick, we_over_quick, wn_over_slow, we_over_slow, wn_under_over, we_under_over, we_under_under, wn_under_roof, we_under_roof, wn_under_low, we_under_low, wn_under_dives, we_under_dives, wn_under_climbs, we_under_climbs, wn_under_quick, we_under_quick, wn_under_slow, we_under_slow, wn_roof_over, we_roof_over, wn_roof_under, we_roof_under, we_roof_roof, wn_roof_low, we_roof_low, wn_roof_dives, we_roof_dives, wn_roof_climbs, we_roof_climbs, wn_roof_quick, we_roof_quick, wn_roof_slow, we_roof_slow, wn_low_over, we_low_over, wn_low_under, we_low_under, wn_low_roof, we_low_roof, we_low_low, wn_low_dives, we_low_dives, wn_low_climbs, we_low_climbs, wn_low_quick, we_low_quick, wn_low_slow, we_low_slow, wn_dives_over, we_dives_over, wn_dives_under, we_dives_under, wn_dives_roof, we_dives_roof, wn_dives_low, we_dives_low, we_dives_dives, wn_dives_climbs, we_dives_climbs, wn_dives_quick, we_dives_quick, wn_dives_slow, we_dives_slow, wn_climbs_over, we_climbs_over, wn_climbs_under, we_climbs_under, wn_climbs_roof, we_climbs_roof, wn_climbs_low, we_climbs_low, wn_climbs_dives, we_climbs_dives, we_climbs_climbs, wn_climbs_quick, we_climbs_quick, wn_climbs_slow, we_climbs_slow, wn_quick_over, we_quick_over, wn_quick_under, we_quick_under, wn_quick_roof, we_quick_roof, wn_quick_low, we_quick_low, wn_quick_dives, we_quick_dives, wn_quick_climbs, we_quick_climbs, we_quick_quick, wn_quick_slow, we_quick_slow, wn_slow_over, we_slow_over, wn_slow_under, we_slow_under, wn_slow_roof, we_slow_roof, wn_slow_low, we_slow_low, wn_slow_dives, we_slow_dives, wn_slow_climbs, we_slow_climbs, wn_slow_quick, we_slow_quick, we_slow_slow, we_upright_upright, wn_upright_upper, we_upright_upper, wn_upright_lower, we_upright_lower, wn_upper_upright, we_upper_upright, we_upper_upper, wn_upper_lower, we_upper_lower, wn_lower_upright, we_lower_upright, wn_lower_upper, we_lower_upper, we_lower_lower, we_least_least, wn_least_most, we_least_most, wn_least_all, we_least_all, wn_least_none, we_least_none, wn_most_least, we_most_least, we_most_most, wn_most_all, we_most_all, wn_most_none, we_most_none, wn_all_least, we_all_least, wn_all_most, we_all_most, we_all_all, wn_all_none, we_all_none, wn_none_least, we_none_least, wn_none_most, we_none_most, wn_none_all, we_none_all, we_none_none, ev_inn, ev_innl, ev_nin, flat_s, flat_i, List.all_cons, List.all_nil, List.any_cons, List.any_nil, Bool.or_false, Bool.false_or, Bool.or_true, Bool.true_or, Bool.and_self, eqv_int, ev_is, ev_isnt, reduceCtorEq, e23, ap_Lsub]
    refine ⟨by walk_at "sz", by walk_at "sz", ?_⟩
    simp only [q_Lbound_2_t_1, wS, wE, wA, wT, wI, wO, ev_add, ev_sub, ev_mul, ev_div, ev_mod, ev_pow, ev_cat, ev_lt, ev_le, ev_gt, ev_ge, ev_eq, ev_ne, ev_eqs, ev_nes, ix_F0, ix_F1, ix_J0, ix_J1, ix_P0, ix_P1, ix_P2, ix_t0, ix_t1, ix_t2, ix_l0, ix_l1, ix_l2, tg_1, tg_F, tg_J, tg_P, tg_2, tg_3, tg_4, fold_J, eq_F, ne_F, eq_J, ne_J, eq_P, ne_P, db_, di_, setVals, setAll, datas, itemsD, truD, List.getElem?_cons_zero, List.getElem?_cons_succ, List.set_cons_zero, List.set_cons_succ, Option.map_some, Option.map_none, Option.some.injEq, exists_eq_left', decide_eq_true_eq, Bool.not_true, Bool.not_false, Bool.false_eq_true, if_false, if_true, true_and, and_true, decide_true, decide_false, List.length_cons, List.length_nil, mx_0, mx_1, mx_2, mx_3, mx_4, mx_5, mx_6, mx_7, mx_8, mx_9, mx_10, mx_11, mx_12, mx_13, mx_14, mx_15, mx_16, mx_17, mx_18, mx_19, mx_20, mx_21, mx_22, mx_23, mx_24, Nat.reduceAdd, Nat.reduceLeDiff, Nat.zero_add, Bool.not_eq_true', decide_eq_false_iff_not, reduceIte, ev_reprb, we_over_over, wn_over_under, we_over_under, wn_over_roof, we_over_roof, wn_over_low, we_over_low, wn_over_dives, we_over_dives, wn_over_climbs, we_over_climbs, wn_over_quick, we_over_quick, wn_over_slow, we_over_slow, wn_under_over, we_under_over, we_under_under, wn_under_roof, we_under_roof, wn_under_low, we_under_low, wn_under_dives, we_under_dives, wn_under_climbs, we_under_climbs, wn_under_quick, we_under_quick, wn_under_slow, we_under_slow, wn_roof_over, we_roof_over, wn_roof_under, we_roof_under, we_roof_roof, wn_roof_low, we_roof_low, wn_roof_dives, we_roof_dives, wn_roof_climbs, we_roof_climbs, wn_roof_quick, we_roof_quick, wn_roof_slow, we_roof_slow, wn_low_over, we_low_over, wn_low_under, we_low_under, wn_low_roof, we_low_roof, we_low_low, wn_low_dives, we_low_dives, wn_low_climbs, we_low_climbs, wn_low_quick, we_low_quick, wn_low_slow, we_low_slow, wn_dives_over, we_dives_over, wn_dives_under, we_dives_under, wn_dives_roof, we_dives_roof, wn_dives_low, we_dives_low, we_dives_dives, wn_dives_climbs, we_dives_climbs, wn_dives_quick, we_dives_quick, wn_dives_slow, we_dives_slow, wn_climbs_over, we_climbs_over, wn_climbs_under, we_climbs_under, wn_climbs_roof, we_climbs_roof, wn_climbs_low, we_climbs_low, wn_climbs_dives, we_climbs_dives, we_climbs_climbs, wn_climbs_quick, we_climbs_quick, wn_climbs_slow, we_climbs_slow, wn_quick_over, we_quick_over, wn_quick_under, we_quick_under, wn_quick_roof, we_quick_roof, wn_quick_low, we_quick_low, wn_quick_dives, we_quick_dives, wn_quick_climbs, we_quick_climbs, we_quick_quick, wn_quick_slow, we_quick_slow, wn_slow_over, we_slow_over, wn_slow_under, we_slow_under, wn_slow_roof, we_slow_roof, wn_slow_low, we_slow_low, wn_slow_dives, we_slow_dives, wn_slow_climbs, we_slow_climbs, wn_slow_quick, we_slow_quick, we_slow_slow, we_upright_upright, wn_upright_upper, we_upright_upper, wn_upright_lower, we_upright_lower, wn_upper_upright, we_upper_upright, we_upper_upper, wn_upper_lower, we_upper_lower, wn_lower_upright, we_lower_upright, wn_lower_upper, we_lower_upper, we_lower_lower, we_least_least, wn_least_most, we_least_most, wn_least_all, we_least_all, wn_least_none, we_least_none, wn_most_least, we_most_least, we_most_most, wn_most_all, we_most_all, wn_most_none, we_most_none, wn_all_least, we_all_least, wn_all_most, we_all_most, we_all_all, wn_all_none, we_all_none, wn_none_least, we_none_least, wn_none_most, we_none_most, wn_none_all, we_none_all, we_none_none, ev_inn, ev_innl, ev_nin, flat_s, flat_i, List.all_cons, List.all_nil, List.any_cons, List.any_nil, Bool.or_false, Bool.false_or, Bool.or_true, Bool.true_or, Bool.and_self, eqv_int, ev_is, ev_isnt, reduceCtorEq, num_zero, num_neg]
    by_cases e : X = 0
    · rw [if_pos e]
      simp only [Ask.bd, Ask.upr, Ask.dn, e, decide_true, if_true] at hq
      by_cases e2 : s - M = 0
      · rw [if_pos e2]
        rw [if_pos (by simp; grind)] at hq
        exact hq
      · rw [if_neg e2]
        rw [eq_gen rfl]
        refine ⟨lay_shaped ((lay_bool _).mono (by decide)), lay_shaped ((lay_bool _).mono (by decide)), ?_⟩
        by_cases e3 : s - M < 0
        · rw [if_neg (by simp; grind)] at hq
          simpa [e3, PyData.eqv, dbool] using hq
        · rw [if_pos (by simp; grind)] at hq
          simpa [e3, PyData.eqv, dbool] using hq
    · rw [if_neg e]
      simp only [q_Lbound_2_t_2, wS, wE, wA, wT, wI, wO, ev_add, ev_sub, ev_mul, ev_div, ev_mod, ev_pow, ev_cat, ev_lt, ev_le, ev_gt, ev_ge, ev_eq, ev_ne, ev_eqs, ev_nes, ix_F0, ix_F1, ix_J0, ix_J1, ix_P0, ix_P1, ix_P2, ix_t0, ix_t1, ix_t2, ix_l0, ix_l1, ix_l2, tg_1, tg_F, tg_J, tg_P, tg_2, tg_3, tg_4, fold_J, eq_F, ne_F, eq_J, ne_J, eq_P, ne_P, db_, di_, setVals, setAll, datas, itemsD, truD, List.getElem?_cons_zero, List.getElem?_cons_succ, List.set_cons_zero, List.set_cons_succ, Option.map_some, Option.map_none, Option.some.injEq, exists_eq_left', decide_eq_true_eq, Bool.not_true, Bool.not_false, Bool.false_eq_true, if_false, if_true, true_and, and_true, decide_true, decide_false, List.length_cons, List.length_nil, mx_0, mx_1, mx_2, mx_3, mx_4, mx_5, mx_6, mx_7, mx_8, mx_9, mx_10, mx_11, mx_12, mx_13, mx_14, mx_15, mx_16, mx_17, mx_18, mx_19, mx_20, mx_21, mx_22, mx_23, mx_24, Nat.reduceAdd, Nat.reduceLeDiff, Nat.zero_add, Bool.not_eq_true', decide_eq_false_iff_not, reduceIte, ev_reprb, e16, e31, ap_Lmul, ap_Ldiv, lit_2]
      simp only [Ask.bd, Ask.upr, Ask.lw, Ask.bv, e, decide_false, Bool.false_eq_true, if_false] at hq
      refine ⟨by walk_at "sz", by walk_at "sz", by grind, by walk_at "sz", by walk_at "sz", ?_⟩
      have ee : (s - M) / (2 * X) = -(1 / 2 / X * M) + s * (1 / 2 / X + 0 * s) := by grind
      rw [ee]
      exact hq
  · rename_i B
    have hq' : Q (.d (.tuple [.str (Str.ofString "most"), F ((Ask.quick B).bv s)])) := hq
    simp only [Ask.bv] at hq'
    simp only [q_Lbound_1, wS, wE, wA, wT, wI, wO, ev_add, ev_sub, ev_mul, ev_div, ev_mod, ev_pow, ev_cat, ev_lt, ev_le, ev_gt, ev_ge, ev_eq, ev_ne, ev_eqs, ev_nes, ix_F0, ix_F1, ix_J0, ix_J1, ix_P0, ix_P1, ix_P2, ix_t0, ix_t1, ix_t2, ix_l0, ix_l1, ix_l2, tg_1, tg_F, tg_J, tg_P, tg_2, tg_3, tg_4, fold_J, eq_F, ne_F, eq_J, ne_J, eq_P, ne_P, db_, di_, setVals, setAll, datas, itemsD, truD, List.getElem?_cons_zero, List.getElem?_cons_succ, List.set_cons_zero, List.set_cons_succ, Option.map_some, Option.map_none, Option.some.injEq, exists_eq_left', decide_eq_true_eq, Bool.not_true, Bool.not_false, Bool.false_eq_true, if_false, if_true, true_and, and_true, decide_true, decide_false, List.length_cons, List.length_nil, mx_0, mx_1, mx_2, mx_3, mx_4, mx_5, mx_6, mx_7, mx_8, mx_9, mx_10, mx_11, mx_12, mx_13, mx_14, mx_15, mx_16, mx_17, mx_18, mx_19, mx_20, mx_21, mx_22, mx_23, mx_24, Nat.reduceAdd, Nat.reduceLeDiff, Nat.zero_add, Bool.not_eq_true', decide_eq_false_iff_not, reduceIte, ev_reprb, we_over_over, wn_over_under, we_over_under, wn_over_roof, we_over_roof, wn_over_low, we_over_low, wn_over_dives, we_over_dives, wn_over_climbs, we_over_climbs, wn_over_quick, we_over_quick, wn_over_slow, we_over_slow, wn_under_over, we_under_over, we_under_under, wn_under_roof, we_under_roof, wn_under_low, we_under_low, wn_under_dives, we_under_dives, wn_under_climbs, we_under_climbs, wn_under_quick, we_under_quick, wn_under_slow, we_under_slow, wn_roof_over, we_roof_over, wn_roof_under, we_roof_under, we_roof_roof, wn_roof_low, we_roof_low, wn_roof_dives, we_roof_dives, wn_roof_climbs, we_roof_climbs, wn_roof_quick, we_roof_quick, wn_roof_slow, we_roof_slow, wn_low_over, we_low_over, wn_low_under, we_low_under, wn_low_roof, we_low_roof, we_low_low, wn_low_dives, we_low_dives, wn_low_climbs, we_low_climbs, wn_low_quick, we_low_quick, wn_low_slow, we_low_slow, wn_dives_over, we_dives_over, wn_dives_under, we_dives_under, wn_dives_roof, we_dives_roof, wn_dives_low, we_dives_low, we_dives_dives, wn_dives_climbs, we_dives_climbs, wn_dives_quick, we_dives_quick, wn_dives_slow, we_dives_slow, wn_climbs_over, we_climbs_over, wn_climbs_under, we_climbs_under, wn_climbs_roof, we_climbs_roof, wn_climbs_low, we_climbs_low, wn_climbs_dives, we_climbs_dives, we_climbs_climbs, wn_climbs_quick, we_climbs_quick, wn_climbs_slow, we_climbs_slow, wn_quick_over, we_quick_over, wn_quick_under, we_quick_under, wn_quick_roof, we_quick_roof, wn_quick_low, we_quick_low, wn_quick_dives, we_quick_dives, wn_quick_climbs, we_quick_climbs, we_quick_quick, wn_quick_slow, we_quick_slow, wn_slow_over, we_slow_over, wn_slow_under, we_slow_under, wn_slow_roof, we_slow_roof, wn_slow_low, we_slow_low, wn_slow_dives, we_slow_dives, wn_slow_climbs, we_slow_climbs, wn_slow_quick, we_slow_quick, we_slow_slow, we_upright_upright, wn_upright_upper, we_upright_upper, wn_upright_lower, we_upright_lower, wn_upper_upright, we_upper_upright, we_upper_upper, wn_upper_lower, we_upper_lower, wn_lower_upright, we_lower_upright, wn_lower_upper, we_lower_upper, we_lower_lower, we_least_least, wn_least_most, we_least_most, wn_least_all, we_least_all, wn_least_none, we_least_none, wn_most_least, we_most_least, we_most_most, wn_most_all, we_most_all, wn_most_none, we_most_none, wn_all_least, we_all_least, wn_all_most, we_all_most, we_all_all, wn_all_none, we_all_none, wn_none_least, we_none_least, wn_none_most, we_none_most, wn_none_all, we_none_all, we_none_none, ev_inn, ev_innl, ev_nin, flat_s, flat_i, List.all_cons, List.all_nil, List.any_cons, List.any_nil, Bool.or_false, Bool.false_or, Bool.or_true, Bool.true_or, Bool.and_self, eqv_int, ev_is, ev_isnt, reduceCtorEq]
    have e : B + s * (0 + 0 * s) = B := by grind
    rw [e] at hq'
    exact hq'
  · rename_i B
    have hq' : Q (.d (.tuple [.str (Str.ofString "least"), F ((Ask.slow B).bv s)])) := hq
    simp only [Ask.bv] at hq'
    simp only [q_Lbound_1, wS, wE, wA, wT, wI, wO, ev_add, ev_sub, ev_mul, ev_div, ev_mod, ev_pow, ev_cat, ev_lt, ev_le, ev_gt, ev_ge, ev_eq, ev_ne, ev_eqs, ev_nes, ix_F0, ix_F1, ix_J0, ix_J1, ix_P0, ix_P1, ix_P2, ix_t0, ix_t1, ix_t2, ix_l0, ix_l1, ix_l2, tg_1, tg_F, tg_J, tg_P, tg_2, tg_3, tg_4, fold_J, eq_F, ne_F, eq_J, ne_J, eq_P, ne_P, db_, di_, setVals, setAll, datas, itemsD, truD, List.getElem?_cons_zero, List.getElem?_cons_succ, List.set_cons_zero, List.set_cons_succ, Option.map_some, Option.map_none, Option.some.injEq, exists_eq_left', decide_eq_true_eq, Bool.not_true, Bool.not_false, Bool.false_eq_true, if_false, if_true, true_and, and_true, decide_true, decide_false, List.length_cons, List.length_nil, mx_0, mx_1, mx_2, mx_3, mx_4, mx_5, mx_6, mx_7, mx_8, mx_9, mx_10, mx_11, mx_12, mx_13, mx_14, mx_15, mx_16, mx_17, mx_18, mx_19, mx_20, mx_21, mx_22, mx_23, mx_24, Nat.reduceAdd, Nat.reduceLeDiff, Nat.zero_add, Bool.not_eq_true', decide_eq_false_iff_not, reduceIte, ev_reprb, we_over_over, wn_over_under, we_over_under, wn_over_roof, we_over_roof, wn_over_low, we_over_low, wn_over_dives, we_over_dives, wn_over_climbs, we_over_climbs, wn_over_quick, we_over_quick, wn_over_slow, we_over_slow, wn_under_over, we_under_over, we_under_under, wn_under_roof, we_under_roof, wn_under_low, we_under_low, wn_under_dives, we_under_dives, wn_under_climbs, we_under_climbs, wn_under_quick, we_under_quick, wn_under_slow, we_under_slow, wn_roof_over, we_roof_over, wn_roof_under, we_roof_under, we_roof_roof, wn_roof_low, we_roof_low, wn_roof_dives, we_roof_dives, wn_roof_climbs, we_roof_climbs, wn_roof_quick, we_roof_quick, wn_roof_slow, we_roof_slow, wn_low_over, we_low_over, wn_low_under, we_low_under, wn_low_roof, we_low_roof, we_low_low, wn_low_dives, we_low_dives, wn_low_climbs, we_low_climbs, wn_low_quick, we_low_quick, wn_low_slow, we_low_slow, wn_dives_over, we_dives_over, wn_dives_under, we_dives_under, wn_dives_roof, we_dives_roof, wn_dives_low, we_dives_low, we_dives_dives, wn_dives_climbs, we_dives_climbs, wn_dives_quick, we_dives_quick, wn_dives_slow, we_dives_slow, wn_climbs_over, we_climbs_over, wn_climbs_under, we_climbs_under, wn_climbs_roof, we_climbs_roof, wn_climbs_low, we_climbs_low, wn_climbs_dives, we_climbs_dives, we_climbs_climbs, wn_climbs_quick, we_climbs_quick, wn_climbs_slow, we_climbs_slow, wn_quick_over, we_quick_over, wn_quick_under, we_quick_under, wn_quick_roof, we_quick_roof, wn_quick_low, we_quick_low, wn_quick_dives, we_quick_dives, wn_quick_climbs, we_quick_climbs, we_quick_quick, wn_quick_slow, we_quick_slow, wn_slow_over, we_slow_over, wn_slow_under, we_slow_under, wn_slow_roof, we_slow_roof, wn_slow_low, we_slow_low, wn_slow_dives, we_slow_dives, wn_slow_climbs, we_slow_climbs, wn_slow_quick, we_slow_quick, we_slow_slow, we_upright_upright, wn_upright_upper, we_upright_upper, wn_upright_lower, we_upright_lower, wn_upper_upright, we_upper_upright, we_upper_upper, wn_upper_lower, we_upper_lower, wn_lower_upright, we_lower_upright, wn_lower_upper, we_lower_upper, we_lower_lower, we_least_least, wn_least_most, we_least_most, wn_least_all, we_least_all, wn_least_none, we_least_none, wn_most_least, we_most_least, we_most_most, wn_most_all, we_most_all, wn_most_none, we_most_none, wn_all_least, we_all_least, wn_all_most, we_all_most, we_all_all, wn_all_none, we_all_none, wn_none_least, we_none_least, wn_none_most, we_none_most, wn_none_all, we_none_all, we_none_none, ev_inn, ev_innl, ev_nin, flat_s, flat_i, List.all_cons, List.all_nil, List.any_cons, List.any_nil, Bool.or_false, Bool.false_or, Bool.or_true, Bool.true_or, Bool.and_self, eqv_int, ev_is, ev_isnt, reduceCtorEq]
    have e : B + s * (0 + 0 * s) = B := by grind
    rw [e] at hq'
    exact hq'
end
def q_Lright_1_b_5_t_0 : RS := (.iff (.bl (.cmp .ne (.call 127 (.cons (.tup (.cons (.var 6) (.cons (.var 2) .nil))) (.cons (.var 5) .nil))) (.cmp .eq (.idx (.var 7) (.con (.int 0))) (.con (.str (Str.ofString "all")))))) (.ret (.con (.bool false))) .skip)
def q_Lright_1_b_5_e_0_b_0 : RS := (.iff (.and (.bl (.cmp .gt (.idx (.var 8) (.con (.int 0))) (.con (.int 0)))) (.bl (.cmp .ne (.bi .repr (.cons (.call 127 (.cons (.tup (.cons (.var 6) (.cons (.var 8) .nil))) (.cons (.var 5) .nil))) .nil)) (.bi .repr (.cons (.var 9) .nil))))) (.ret (.con (.bool false))) .skip)
def q_Lright_1_b_5_e_0 : RS := (.for (.many [8, 9]) (.seq (.lst (.cons (.tup (.cons (.idx (.var 7) (.con (.int 1))) (.cons (.con (.bool true)) .nil))) (.cons (.tup (.cons (.call 17 (.cons (.idx (.var 7) (.con (.int 1))) (.cons (.var 2) .nil))) (.cons (.cmp .eq (.idx (.var 7) (.con (.int 0))) (.con (.str (Str.ofString "least")))) .nil))) (.cons (.tup (.cons (.call 23 (.cons (.idx (.var 7) (.con (.int 1))) (.cons (.var 2) .nil))) (.cons (.cmp .eq (.idx (.var 7) (.con (.int 0))) (.con (.str (Str.ofString "most")))) .nil))) .nil))))) q_Lright_1_b_5_e_0_b_0)
def q_Lright_1_b_5 : RS := (.iff (.bl (.isN (.idx (.var 7) (.con (.int 1))))) q_Lright_1_b_5_t_0 q_Lright_1_b_5_e_0)
def q_Lright_1_b_4 : RS := (.seq (.iff (.bl (.cmp .ne (.bi .repr (.cons (.lst (.cons (.call 136 (.cons (.var 5) (.cons (.var 6) .nil))) (.cons (.callK 136 0 2 [1, 0] .nil (.cons (.var 6) (.cons (.var 5) .nil))) .nil))) .nil)) (.bi .repr (.cons (.lst (.cons (.var 7) (.cons (.var 7) .nil))) .nil)))) (.ret (.con (.bool false))) .skip) q_Lright_1_b_5)
def q_Lright_1_b_3 : RS := (.seq (.asg 7 (.call 135 (.cons (.var 5) (.cons (.var 6) .nil)))) q_Lright_1_b_4)
def q_Lright_1_b_2 : RS := (.seq (.iff (.and (.bl (.cmp .inn (.var 3) (.lst (.cons (.con (.str (Str.ofString "dives"))) (.cons (.con (.str (Str.ofString "climbs"))) .nil))))) (.bl (.cmp .eq (.call 0 (.cons (.var 0) (.cons (.con (.int 3)) .nil))) (.con (.int 0))))) (.asg 6 (.idx (.var 5) (.con (.int 2)))) .skip) q_Lright_1_b_3)
def q_Lright_1_b_1 : RS := (.seq (.par [5, 6] (.cons (.call 104 (.cons (.var 0) (.cons (.lst (.cons (.var 3) .nil)) (.cons (.var 4) .nil)))) (.cons (.call 9 (.cons (.var 0) (.cons (.var 4) .nil))) .nil))) q_Lright_1_b_2)
def q_Lright_1_b_0 : RS := (.seq (.asg 4 (.call 2 (.cons (.var 0) .nil))) q_Lright_1_b_1)
def q_Lright_2 : RS := (.ret (.con (.bool true)))
def q_Lright_1 : RS := (.seq (.for (.one 3) (.seq (.var 1)) q_Lright_1_b_0) q_Lright_2)
def q_Lright_0 : RS := (.seq (.par [1, 2] (.cons (.call 103 .nil) (.cons (.call 6 (.cons (.con (.int 1)) (.cons (.bin .add (.con (.int 1)) (.call 0 (.cons (.var 0) (.cons (.con (.int 99)) .nil)))) .nil))) .nil))) q_Lright_1)
theorem q_Lright : rs_Lright = q_Lright_0 := rfl
section
variable {Φ : Nat → PSp}
theorem dn_at {a : Ask} {s b : Rat} (hu : a.upr = false) : a.dn s b = if a.lw = Str.ofString "least" then !decide (b < a.bv s) else !decide (a.bv s < b) := by
  cases a <;> simp only [Ask.dn, Ask.lw, Ask.upr, decide_eq_false_iff_not, wn_most_least, if_true, if_false] at hu ⊢
  all_goals simp only [hu, if_false]
theorem lw_or (a : Ask) : (a.lw = Str.ofString "least" ∧ ¬ a.lw = Str.ofString "most") ∨ (a.lw = Str.ofString "most" ∧ ¬ a.lw = Str.ofString "least") := by
  cases a <;> simp only [Ask.lw] <;> first | exact .inl ⟨trivial, by decide +kernel⟩ | exact .inr ⟨trivial, by decide +kernel⟩ | exact .inl ⟨rfl, by decide +kernel⟩ | exact .inr ⟨rfl, by decide +kernel⟩
theorem tl_bd {a : Ask} {s : Rat} (h : a.sm) (zs : Zf 40 s) : Tl (a.bd s) := by
  have shs : ∀ x : Str, x = Str.ofString "all" ∨ x = Str.ofString "none" ∨ x = Str.ofString "least" ∨ x = Str.ofString "most" → Shw 100 0 (.str x) := by
    rintro x (rfl | rfl | rfl | rfl)
    all_goals exact ⟨by simp only [PyData.showable], by simp only [PyData.hasDict], by simp [PyData.depth], by simp only [PyData.shown]; decide +kernel⟩
  unfold Ask.bd
  split
  · refine Shw.mono (shw_tuple (n := 100) (k := 0) ?_) (by simp) (by decide)
    intro x hx
    simp only [List.mem_cons, List.not_mem_nil, or_false] at hx
    rcases hx with rfl | rfl
    · split <;> exact shs _ (by simp)
    · exact shw_none.mono (by decide) (by decide)
  · refine Shw.mono (shw_tuple (n := 4000) (k := 1) ?_) (by simp) (by decide)
    intro x hx
    simp only [List.mem_cons, List.not_mem_nil, or_false] at hx
    rcases hx with rfl | rfl
    · rcases lw_or a with z | z <;> rw [z.1] <;> exact (shs _ (by simp)).mono (by decide) (by decide)
    · exact shwF ((zf_bvs h zs).mono (by decide))
theorem side_20 (e_Lall_words : Φ 103 = sp_Lall_words) (e_Lfrac : Φ 6 = sp_Lfrac) (e_Ldraw : Φ 0 = sp_Ldraw) (e_Lsize : Φ 2 = sp_Lsize) (e_Lask : Φ 104 = sp_Lask) (e_Lsome_frac : Φ 9 = sp_Lsome_frac) (e_Lbound : Φ 135 = sp_Lbound) (e_bound_at : Φ 136 = sp_bound_at) (e_does : Φ 127 = sp_does) (e_Ladd : Φ 17 = sp_Ladd) (e_Lsub : Φ 23 = sp_Lsub) {a : Ask} {s b : Rat} {r : Bool} (h : a.sm) (zs : Zf 40 s) (zb : Zf 2000 b) (hu : a.upr = false) (hr : 0 < b → a.dn s b = r) {D : PD} {o0 o1 o2 o3 o4 o7 : Option SD}
    (hn : D.nx [o0, o1, o2, o3, o4, some (.val (.d a.dat)), some (.val (.d (F s))), o7, some (.val (.d (F b))), some (.val (.d (.bool r)))]) :
    wS Φ q_Lright_1_b_5_e_0_b_0 D [o0, o1, o2, o3, o4, some (.val (.d a.dat)), some (.val (.d (F s))), o7, some (.val (.d (F b))), some (.val (.d (.bool r)))] := by
  simp only [q_Lright_1_b_5_e_0_b_0, wS, wE, wA, wT, wI, wO, ev_add, ev_sub, ev_mul, ev_div, ev_mod, ev_pow, ev_cat, ev_lt, ev_le, ev_gt, ev_ge, ev_eq, ev_ne, ev_eqs, ev_nes, ix_F0, ix_F1, ix_J0, ix_J1, ix_P0, ix_P1, ix_P2, ix_t0, ix_t1, ix_t2, ix_l0, ix_l1, ix_l2, tg_1, tg_F, tg_J, tg_P, tg_2, tg_3, tg_4, fold_J, eq_F, ne_F, eq_J, ne_J, eq_P, ne_P, db_, di_, setVals, setAll, datas, itemsD, truD, List.getElem?_cons_zero, List.getElem?_cons_succ, List.set_cons_zero, List.set_cons_succ, Option.map_some, Option.map_none, Option.some.injEq, exists_eq_left', decide_eq_true_eq, Bool.not_true, Bool.not_false, Bool.false_eq_true, if_false, if_true, true_and, and_true, decide_true, decide_false, List.length_cons, List.length_nil, mx_0, mx_1, mx_2, mx_3, mx_4, mx_5, mx_6, mx_7, mx_8, mx_9, mx_10, mx_11, mx_12, mx_13, mx_14, mx_15, mx_16, mx_17, mx_18, mx_19, mx_20, mx_21, mx_22, mx_23, mx_24, Nat.reduceAdd, Nat.reduceLeDiff, Nat.zero_add, Bool.not_eq_true', decide_eq_false_iff_not, reduceIte, ev_reprb, num_pos, e_does]
  by_cases b0 : 0 < b
  · rw [if_pos b0]
    refine ⟨_, _, _, rfl, b0, h.ok, zs.mono (by decide), zb, ?_⟩
    rw [hr b0]
    simp only [wS, wE, wA, wT, wI, wO, ev_add, ev_sub, ev_mul, ev_div, ev_mod, ev_pow, ev_cat, ev_lt, ev_le, ev_gt, ev_ge, ev_eq, ev_ne, ev_eqs, ev_nes, ix_F0, ix_F1, ix_J0, ix_J1, ix_P0, ix_P1, ix_P2, ix_t0, ix_t1, ix_t2, ix_l0, ix_l1, ix_l2, tg_1, tg_F, tg_J, tg_P, tg_2, tg_3, tg_4, fold_J, eq_F, ne_F, eq_J, ne_J, eq_P, ne_P, db_, di_, setVals, setAll, datas, itemsD, truD, List.getElem?_cons_zero, List.getElem?_cons_succ, List.set_cons_zero, List.set_cons_succ, Option.map_some, Option.map_none, Option.some.injEq, exists_eq_left', decide_eq_true_eq, Bool.not_true, Bool.not_false, Bool.false_eq_true, if_false, if_true, true_and, and_true, decide_true, decide_false, List.length_cons, List.length_nil, mx_0, mx_1, mx_2, mx_3, mx_4, mx_5, mx_6, mx_7, mx_8, mx_9, mx_10, mx_11, mx_12, mx_13, mx_14, mx_15, mx_16, mx_17, mx_18, mx_19, mx_20, mx_21, mx_22, mx_23, mx_24, Nat.reduceAdd, Nat.reduceLeDiff, Nat.zero_add, Bool.not_eq_true', decide_eq_false_iff_not, reduceIte, ev_reprb]
    exact hn
  · rw [if_neg b0]
    exact hn
theorem rest_20 (e_Lall_words : Φ 103 = sp_Lall_words) (e_Lfrac : Φ 6 = sp_Lfrac) (e_Ldraw : Φ 0 = sp_Ldraw) (e_Lsize : Φ 2 = sp_Lsize) (e_Lask : Φ 104 = sp_Lask) (e_Lsome_frac : Φ 9 = sp_Lsome_frac) (e_Lbound : Φ 135 = sp_Lbound) (e_bound_at : Φ 136 = sp_bound_at) (e_does : Φ 127 = sp_does) (e_Ladd : Φ 17 = sp_Ladd) (e_Lsub : Φ 23 = sp_Lsub) {Q : DV → Prop} {a : Ask} {s t : Rat} (h : a.sm) (zs : Zf 40 s) (t0 : 0 < t) (zt : Zf 40 t) {k : SDs → Prop} {P : SDs → Prop} {o0 o1 o3 o4 o7 o8 o9 : Option SD}
    (hk : ∀ o7 o8 o9, k [o0, o1, some (.val (.d (F t))), o3, o4, some (.val (.d a.dat)), some (.val (.d (F s))), o7, o8, o9]) :
    wS Φ q_Lright_1_b_3 { nx := k, rt := Q, bk := P, ct := k } [o0, o1, some (.val (.d (F t))), o3, o4, some (.val (.d a.dat)), some (.val (.d (F s))), o7, o8, o9] := by
  simp only [q_Lright_1_b_3, wS, wE, wA, wT, wI, wO, ev_add, ev_sub, ev_mul, ev_div, ev_mod, ev_pow, ev_cat, ev_lt, ev_le, ev_gt, ev_ge, ev_eq, ev_ne, ev_eqs, ev_nes, ix_F0, ix_F1, ix_J0, ix_J1, ix_P0, ix_P1, ix_P2, ix_t0, ix_t1, ix_t2, ix_l0, ix_l1, ix_l2, tg_1, tg_F, tg_J, tg_P, tg_2, tg_3, tg_4, fold_J, eq_F, ne_F, eq_J, ne_J, eq_P, ne_P, db_, di_, setVals, setAll, datas, itemsD, truD, List.getElem?_cons_zero, List.getElem?_cons_succ, List.set_cons_zero, List.set_cons_succ, Option.map_some, Option.map_none, Option.some.injEq, exists_eq_left', decide_eq_true_eq, Bool.not_true, Bool.not_false, Bool.false_eq_true, if_false, if_true, true_and, and_true, decide_true, decide_false, List.length_cons, List.length_nil, mx_0, mx_1, mx_2, mx_3, mx_4, mx_5, mx_6, mx_7, mx_8, mx_9, mx_10, mx_11, mx_12, mx_13, mx_14, mx_15, mx_16, mx_17, mx_18, mx_19, mx_20, mx_21, mx_22, mx_23, mx_24, Nat.reduceAdd, Nat.reduceLeDiff, Nat.zero_add, Bool.not_eq_true', decide_eq_false_iff_not, reduceIte, ev_reprb, e_Lbound]
  refine ⟨_, _, rfl, h, zs, ?_⟩
  have tb := tl_bd h zs
  simp only [q_Lright_1_b_4, wS, wE, wA, wT, wI, wO, ev_add, ev_sub, ev_mul, ev_div, ev_mod, ev_pow, ev_cat, ev_lt, ev_le, ev_gt, ev_ge, ev_eq, ev_ne, ev_eqs, ev_nes, ix_F0, ix_F1, ix_J0, ix_J1, ix_P0, ix_P1, ix_P2, ix_t0, ix_t1, ix_t2, ix_l0, ix_l1, ix_l2, tg_1, tg_F, tg_J, tg_P, tg_2, tg_3, tg_4, fold_J, eq_F, ne_F, eq_J, ne_J, eq_P, ne_P, db_, di_, setVals, setAll, datas, itemsD, truD, List.getElem?_cons_zero, List.getElem?_cons_succ, List.set_cons_zero, List.set_cons_succ, Option.map_some, Option.map_none, Option.some.injEq, exists_eq_left', decide_eq_true_eq, Bool.not_true, Bool.not_false, Bool.false_eq_true, if_false, if_true, true_and, and_true, decide_true, decide_false, List.length_cons, List.length_nil, mx_0, mx_1, mx_2, mx_3, mx_4, mx_5, mx_6, mx_7, mx_8, mx_9, mx_10, mx_11, mx_12, mx_13, mx_14, mx_15, mx_16, mx_17, mx_18, mx_19, mx_20, mx_21, mx_22, mx_23, mx_24, Nat.reduceAdd, Nat.reduceLeDiff, Nat.zero_add, Bool.not_eq_true', decide_eq_false_iff_not, reduceIte, ev_reprb, e_bound_at, pm_10, List.nil_append]
  refine ⟨_, _, rfl, h.ok, zs.mono (by decide), ?_⟩
  simp only [wS, wE, wA, wT, wI, wO, ev_add, ev_sub, ev_mul, ev_div, ev_mod, ev_pow, ev_cat, ev_lt, ev_le, ev_gt, ev_ge, ev_eq, ev_ne, ev_eqs, ev_nes, ix_F0, ix_F1, ix_J0, ix_J1, ix_P0, ix_P1, ix_P2, ix_t0, ix_t1, ix_t2, ix_l0, ix_l1, ix_l2, tg_1, tg_F, tg_J, tg_P, tg_2, tg_3, tg_4, fold_J, eq_F, ne_F, eq_J, ne_J, eq_P, ne_P, db_, di_, setVals, setAll, datas, itemsD, truD, List.getElem?_cons_zero, List.getElem?_cons_succ, List.set_cons_zero, List.set_cons_succ, Option.map_some, Option.map_none, Option.some.injEq, exists_eq_left', decide_eq_true_eq, Bool.not_true, Bool.not_false, Bool.false_eq_true, if_false, if_true, true_and, and_true, decide_true, decide_false, List.length_cons, List.length_nil, mx_0, mx_1, mx_2, mx_3, mx_4, mx_5, mx_6, mx_7, mx_8, mx_9, mx_10, mx_11, mx_12, mx_13, mx_14, mx_15, mx_16, mx_17, mx_18, mx_19, mx_20, mx_21, mx_22, mx_23, mx_24, Nat.reduceAdd, Nat.reduceLeDiff, Nat.zero_add, Bool.not_eq_true', decide_eq_false_iff_not, reduceIte, ev_reprb, pm_10, List.nil_append]
  refine ⟨_, _, rfl, h.ok, zs.mono (by decide), ?_⟩
  simp only [wS, wE, wA, wT, wI, wO, ev_add, ev_sub, ev_mul, ev_div, ev_mod, ev_pow, ev_cat, ev_lt, ev_le, ev_gt, ev_ge, ev_eq, ev_ne, ev_eqs, ev_nes, ix_F0, ix_F1, ix_J0, ix_J1, ix_P0, ix_P1, ix_P2, ix_t0, ix_t1, ix_t2, ix_l0, ix_l1, ix_l2, tg_1, tg_F, tg_J, tg_P, tg_2, tg_3, tg_4, fold_J, eq_F, ne_F, eq_J, ne_J, eq_P, ne_P, db_, di_, setVals, setAll, datas, itemsD, truD, List.getElem?_cons_zero, List.getElem?_cons_succ, List.set_cons_zero, List.set_cons_succ, Option.map_some, Option.map_none, Option.some.injEq, exists_eq_left', decide_eq_true_eq, Bool.not_true, Bool.not_false, Bool.false_eq_true, if_false, if_true, true_and, and_true, decide_true, decide_false, List.length_cons, List.length_nil, mx_0, mx_1, mx_2, mx_3, mx_4, mx_5, mx_6, mx_7, mx_8, mx_9, mx_10, mx_11, mx_12, mx_13, mx_14, mx_15, mx_16, mx_17, mx_18, mx_19, mx_20, mx_21, mx_22, mx_23, mx_24, Nat.reduceAdd, Nat.reduceLeDiff, Nat.zero_add, Bool.not_eq_true', decide_eq_false_iff_not, reduceIte, ev_reprb]
  walk_at "rp"
  walk_at "rp"
  simp only [wS, wE, wA, wT, wI, wO, ev_add, ev_sub, ev_mul, ev_div, ev_mod, ev_pow, ev_cat, ev_lt, ev_le, ev_gt, ev_ge, ev_eq, ev_ne, ev_eqs, ev_nes, ix_F0, ix_F1, ix_J0, ix_J1, ix_P0, ix_P1, ix_P2, ix_t0, ix_t1, ix_t2, ix_l0, ix_l1, ix_l2, tg_1, tg_F, tg_J, tg_P, tg_2, tg_3, tg_4, fold_J, eq_F, ne_F, eq_J, ne_J, eq_P, ne_P, db_, di_, setVals, setAll, datas, itemsD, truD, List.getElem?_cons_zero, List.getElem?_cons_succ, List.set_cons_zero, List.set_cons_succ, Option.map_some, Option.map_none, Option.some.injEq, exists_eq_left', decide_eq_true_eq, Bool.not_true, Bool.not_false, Bool.false_eq_true, if_false, if_true, true_and, and_true, decide_true, decide_false, List.length_cons, List.length_nil, mx_0, mx_1, mx_2, mx_3, mx_4, mx_5, mx_6, mx_7, mx_8, mx_9, mx_10, mx_11, mx_12, mx_13, mx_14, mx_15, mx_16, mx_17, mx_18, mx_19, mx_20, mx_21, mx_22, mx_23, mx_24, Nat.reduceAdd, Nat.reduceLeDiff, Nat.zero_add, Bool.not_eq_true', decide_eq_false_iff_not, reduceIte, ev_reprb]
  by_cases hu : a.upr = true
  · have e : a.bd s = .tuple [.str (if a.dn s 1 = true then Str.ofString "all" else Str.ofString "none"), .none] := if_pos hu
    have ed : a.dn s t = a.dn s 1 := by
      cases a <;> simp only [Ask.upr, decide_eq_true_eq, reduceCtorEq] at hu
      · simp only [Ask.dn, hu, if_true]
      · simp only [Ask.dn, hu, if_true]
    rw [e]
    simp only [q_Lright_1_b_5, q_Lright_1_b_5_t_0, wS, wE, wA, wT, wI, wO, ev_add, ev_sub, ev_mul, ev_div, ev_mod, ev_pow, ev_cat, ev_lt, ev_le, ev_gt, ev_ge, ev_eq, ev_ne, ev_eqs, ev_nes, ix_F0, ix_F1, ix_J0, ix_J1, ix_P0, ix_P1, ix_P2, ix_t0, ix_t1, ix_t2, ix_l0, ix_l1, ix_l2, tg_1, tg_F, tg_J, tg_P, tg_2, tg_3, tg_4, fold_J, eq_F, ne_F, eq_J, ne_J, eq_P, ne_P, db_, di_, setVals, setAll, datas, itemsD, truD, List.getElem?_cons_zero, List.getElem?_cons_succ, List.set_cons_zero, List.set_cons_succ, Option.map_some, Option.map_none, Option.some.injEq, exists_eq_left', decide_eq_true_eq, Bool.not_true, Bool.not_false, Bool.false_eq_true, if_false, if_true, true_and, and_true, decide_true, decide_false, List.length_cons, List.length_nil, mx_0, mx_1, mx_2, mx_3, mx_4, mx_5, mx_6, mx_7, mx_8, mx_9, mx_10, mx_11, mx_12, mx_13, mx_14, mx_15, mx_16, mx_17, mx_18, mx_19, mx_20, mx_21, mx_22, mx_23, mx_24, Nat.reduceAdd, Nat.reduceLeDiff, Nat.zero_add, Bool.not_eq_true', decide_eq_false_iff_not, reduceIte, ev_reprb, e_does]
    refine ⟨_, _, _, rfl, t0, h.ok, zs.mono (by decide), zt.mono (by decide), ?_⟩
    rw [ed]
    simp only [wS, wE, wA, wT, wI, wO, ev_add, ev_sub, ev_mul, ev_div, ev_mod, ev_pow, ev_cat, ev_lt, ev_le, ev_gt, ev_ge, ev_eq, ev_ne, ev_eqs, ev_nes, ix_F0, ix_F1, ix_J0, ix_J1, ix_P0, ix_P1, ix_P2, ix_t0, ix_t1, ix_t2, ix_l0, ix_l1, ix_l2, tg_1, tg_F, tg_J, tg_P, tg_2, tg_3, tg_4, fold_J, eq_F, ne_F, eq_J, ne_J, eq_P, ne_P, db_, di_, setVals, setAll, datas, itemsD, truD, List.getElem?_cons_zero, List.getElem?_cons_succ, List.set_cons_zero, List.set_cons_succ, Option.map_some, Option.map_none, Option.some.injEq, exists_eq_left', decide_eq_true_eq, Bool.not_true, Bool.not_false, Bool.false_eq_true, if_false, if_true, true_and, and_true, decide_true, decide_false, List.length_cons, List.length_nil, mx_0, mx_1, mx_2, mx_3, mx_4, mx_5, mx_6, mx_7, mx_8, mx_9, mx_10, mx_11, mx_12, mx_13, mx_14, mx_15, mx_16, mx_17, mx_18, mx_19, mx_20, mx_21, mx_22, mx_23, mx_24, Nat.reduceAdd, Nat.reduceLeDiff, Nat.zero_add, Bool.not_eq_true', decide_eq_false_iff_not, reduceIte, ev_reprb, ne_b]
    have fin : a.dn s 1 = decide ((if a.dn s 1 = true then Str.ofString "all" else Str.ofString "none") = Str.ofString "all") := by
      cases a.dn s 1
      · simp only [Bool.false_eq_true, if_false]
        simp only [wn_none_all, decide_false]
      · simp only [if_true]
        simp
    rw [if_neg (by intro hh; exact hh fin)]
    exact hk _ _ _
  · have hu : a.upr = false := by simpa using hu
    have e : a.bd s = .tuple [.str a.lw, F (a.bv s)] := if_neg (by rw [hu]; decide)
    have isN_F : ∀ q : Rat, (match F q with | .none => true | _ => false) = false := fun _ => rfl
    have zv := zf_bvs h zs
    rw [e]
    simp only [q_Lright_1_b_5, q_Lright_1_b_5_e_0, wS, wE, wA, wT, wI, wO, ev_add, ev_sub, ev_mul, ev_div, ev_mod, ev_pow, ev_cat, ev_lt, ev_le, ev_gt, ev_ge, ev_eq, ev_ne, ev_eqs, ev_nes, ix_F0, ix_F1, ix_J0, ix_J1, ix_P0, ix_P1, ix_P2, ix_t0, ix_t1, ix_t2, ix_l0, ix_l1, ix_l2, tg_1, tg_F, tg_J, tg_P, tg_2, tg_3, tg_4, fold_J, eq_F, ne_F, eq_J, ne_J, eq_P, ne_P, db_, di_, setVals, setAll, datas, itemsD, truD, List.getElem?_cons_zero, List.getElem?_cons_succ, List.set_cons_zero, List.set_cons_succ, Option.map_some, Option.map_none, Option.some.injEq, exists_eq_left', decide_eq_true_eq, Bool.not_true, Bool.not_false, Bool.false_eq_true, if_false, if_true, true_and, and_true, decide_true, decide_false, List.length_cons, List.length_nil, mx_0, mx_1, mx_2, mx_3, mx_4, mx_5, mx_6, mx_7, mx_8, mx_9, mx_10, mx_11, mx_12, mx_13, mx_14, mx_15, mx_16, mx_17, mx_18, mx_19, mx_20, mx_21, mx_22, mx_23, mx_24, Nat.reduceAdd, Nat.reduceLeDiff, Nat.zero_add, Bool.not_eq_true', decide_eq_false_iff_not, reduceIte, ev_reprb, isN_F, e_Ladd, e_Lsub, ap_Ladd, ap_Lsub]
    refine ⟨by walk_at "sz", by walk_at "sz", by walk_at "sz", by walk_at "sz", ?_⟩
    simp only [List.map_cons, List.map_nil, goFor, wS, wE, wA, wT, wI, wO, ev_add, ev_sub, ev_mul, ev_div, ev_mod, ev_pow, ev_cat, ev_lt, ev_le, ev_gt, ev_ge, ev_eq, ev_ne, ev_eqs, ev_nes, ix_F0, ix_F1, ix_J0, ix_J1, ix_P0, ix_P1, ix_P2, ix_t0, ix_t1, ix_t2, ix_l0, ix_l1, ix_l2, tg_1, tg_F, tg_J, tg_P, tg_2, tg_3, tg_4, fold_J, eq_F, ne_F, eq_J, ne_J, eq_P, ne_P, db_, di_, setVals, setAll, datas, itemsD, truD, List.getElem?_cons_zero, List.getElem?_cons_succ, List.set_cons_zero, List.set_cons_succ, Option.map_some, Option.map_none, Option.some.injEq, exists_eq_left', decide_eq_true_eq, Bool.not_true, Bool.not_false, Bool.false_eq_true, if_false, if_true, true_and, and_true, decide_true, decide_false, List.length_cons, List.length_nil, mx_0, mx_1, mx_2, mx_3, mx_4, mx_5, mx_6, mx_7, mx_8, mx_9, mx_10, mx_11, mx_12, mx_13, mx_14, mx_15, mx_16, mx_17, mx_18, mx_19, mx_20, mx_21, mx_22, mx_23, mx_24, Nat.reduceAdd, Nat.reduceLeDiff, Nat.zero_add, Bool.not_eq_true', decide_eq_false_iff_not, reduceIte, ev_reprb]
    refine side_20 e_Lall_words e_Lfrac e_Ldraw e_Lsize e_Lask e_Lsome_frac e_Lbound e_bound_at e_does e_Ladd e_Lsub h zs (by walk_at "sz") hu (fun b0 => ?_) ?_
    · rw [dn_at hu]
      split <;> simp [Rat.lt_irrefl]
    simp only [wS, wE, wA, wT, wI, wO, ev_add, ev_sub, ev_mul, ev_div, ev_mod, ev_pow, ev_cat, ev_lt, ev_le, ev_gt, ev_ge, ev_eq, ev_ne, ev_eqs, ev_nes, ix_F0, ix_F1, ix_J0, ix_J1, ix_P0, ix_P1, ix_P2, ix_t0, ix_t1, ix_t2, ix_l0, ix_l1, ix_l2, tg_1, tg_F, tg_J, tg_P, tg_2, tg_3, tg_4, fold_J, eq_F, ne_F, eq_J, ne_J, eq_P, ne_P, db_, di_, setVals, setAll, datas, itemsD, truD, List.getElem?_cons_zero, List.getElem?_cons_succ, List.set_cons_zero, List.set_cons_succ, Option.map_some, Option.map_none, Option.some.injEq, exists_eq_left', decide_eq_true_eq, Bool.not_true, Bool.not_false, Bool.false_eq_true, if_false, if_true, true_and, and_true, decide_true, decide_false, List.length_cons, List.length_nil, mx_0, mx_1, mx_2, mx_3, mx_4, mx_5, mx_6, mx_7, mx_8, mx_9, mx_10, mx_11, mx_12, mx_13, mx_14, mx_15, mx_16, mx_17, mx_18, mx_19, mx_20, mx_21, mx_22, mx_23, mx_24, Nat.reduceAdd, Nat.reduceLeDiff, Nat.zero_add, Bool.not_eq_true', decide_eq_false_iff_not, reduceIte, ev_reprb]
    refine side_20 e_Lall_words e_Lfrac e_Ldraw e_Lsize e_Lask e_Lsome_frac e_Lbound e_bound_at e_does e_Ladd e_Lsub h zs (by walk_at "sz") hu (fun b0 => ?_) ?_
    · rw [dn_at hu]
      rcases lw_or a with z | z
      · rw [if_pos z.1]
        simp [z.1]
        grind
      · rw [if_neg z.2]
        simp [z.2]
        grind
    simp only [wS, wE, wA, wT, wI, wO, ev_add, ev_sub, ev_mul, ev_div, ev_mod, ev_pow, ev_cat, ev_lt, ev_le, ev_gt, ev_ge, ev_eq, ev_ne, ev_eqs, ev_nes, ix_F0, ix_F1, ix_J0, ix_J1, ix_P0, ix_P1, ix_P2, ix_t0, ix_t1, ix_t2, ix_l0, ix_l1, ix_l2, tg_1, tg_F, tg_J, tg_P, tg_2, tg_3, tg_4, fold_J, eq_F, ne_F, eq_J, ne_J, eq_P, ne_P, db_, di_, setVals, setAll, datas, itemsD, truD, List.getElem?_cons_zero, List.getElem?_cons_succ, List.set_cons_zero, List.set_cons_succ, Option.map_some, Option.map_none, Option.some.injEq, exists_eq_left', decide_eq_true_eq, Bool.not_true, Bool.not_false, Bool.false_eq_true, if_false, if_true, true_and, and_true, decide_true, decide_false, List.length_cons, List.length_nil, mx_0, mx_1, mx_2, mx_3, mx_4, mx_5, mx_6, mx_7, mx_8, mx_9, mx_10, mx_11, mx_12, mx_13, mx_14, mx_15, mx_16, mx_17, mx_18, mx_19, mx_20, mx_21, mx_22, mx_23, mx_24, Nat.reduceAdd, Nat.reduceLeDiff, Nat.zero_add, Bool.not_eq_true', decide_eq_false_iff_not, reduceIte, ev_reprb]
    refine side_20 e_Lall_words e_Lfrac e_Ldraw e_Lsize e_Lask e_Lsome_frac e_Lbound e_bound_at e_does e_Ladd e_Lsub h zs (by walk_at "sz") hu (fun b0 => ?_) ?_
    · rw [dn_at hu]
      rcases lw_or a with z | z
      · rw [if_pos z.1]
        simp [z.2]
        grind
      · rw [if_neg z.2]
        simp [z.1]
        grind
    exact hk _ _ _
theorem sem_Lright (e_Lall_words : Φ 103 = sp_Lall_words) (e_Lfrac : Φ 6 = sp_Lfrac) (e_Ldraw : Φ 0 = sp_Ldraw) (e_Lsize : Φ 2 = sp_Lsize) (e_Lask : Φ 104 = sp_Lask) (e_Lsome_frac : Φ 9 = sp_Lsome_frac) (e_Lbound : Φ 135 = sp_Lbound) (e_bound_at : Φ 136 = sp_bound_at) (e_does : Φ 127 = sp_does) (e_Ladd : Φ 17 = sp_Ladd) (e_Lsub : Φ 23 = sp_Lsub) : ∀ ds Q, sp_Lright ds Q → wS Φ rs_Lright { nx := fun _ => Q (.d .none), rt := Q } (startD ["x0", "x1", "x2", "x3", "x4", "x5", "x6", "x7", "x8", "x9"] ds) := by
  rintro ds Q ⟨rfl, hq⟩
  show wS Φ rs_Lright _ [some (.val .vat), none, none, none, none, none, none, none, none, none]
  rw [q_Lright]
  simp only [q_Lright_0, wS, wE, wA, wT, wI, wO, ev_add, ev_sub, ev_mul, ev_div, ev_mod, ev_pow, ev_cat, ev_lt, ev_le, ev_gt, ev_ge, ev_eq, ev_ne, ev_eqs, ev_nes, ix_F0, ix_F1, ix_J0, ix_J1, ix_P0, ix_P1, ix_P2, ix_t0, ix_t1, ix_t2, ix_l0, ix_l1, ix_l2, tg_1, tg_F, tg_J, tg_P, tg_2, tg_3, tg_4, fold_J, eq_F, ne_F, eq_J, ne_J, eq_P, ne_P, db_, di_, setVals, setAll, datas, itemsD, truD, List.getElem?_cons_zero, List.getElem?_cons_succ, List.set_cons_zero, List.set_cons_succ, Option.map_some, Option.map_none, Option.some.injEq, exists_eq_left', decide_eq_true_eq, Bool.not_true, Bool.not_false, Bool.false_eq_true, if_false, if_true, true_and, and_true, decide_true, decide_false, List.length_cons, List.length_nil, mx_0, mx_1, mx_2, mx_3, mx_4, mx_5, mx_6, mx_7, mx_8, mx_9, mx_10, mx_11, mx_12, mx_13, mx_14, mx_15, mx_16, mx_17, mx_18, mx_19, mx_20, mx_21, mx_22, mx_23, mx_24, Nat.reduceAdd, Nat.reduceLeDiff, Nat.zero_add, Bool.not_eq_true', decide_eq_false_iff_not, reduceIte, ev_reprb, e_Lall_words, e_Ldraw, e_Lfrac, ap_Ldraw, ap_Lfrac]
  refine ⟨rfl, by decide, by decide, fun r r0 r1 => ⟨by omega, (sz31 (by omega) (by omega)).mono (by decide), ?_⟩⟩
  have t0 : (0 : Rat) < ((1 : Int) : Rat) / ((1 + r : Int) : Rat) := div_pos (Rat.intCast_pos.mpr (by omega)) (Rat.intCast_pos.mpr (by omega))
  have zt : Zf 40 (((1 : Int) : Rat) / ((1 + r : Int) : Rat)) := (zf31 (by omega) (sz31 (by omega) (by omega)) (sz31 (by omega) (by omega))).mono (by decide)
  generalize ((1 : Int) : Rat) / ((1 + r : Int) : Rat) = t at *
  simp only [q_Lright_1, wS, wE, wA, wT, wI, wO, ev_add, ev_sub, ev_mul, ev_div, ev_mod, ev_pow, ev_cat, ev_lt, ev_le, ev_gt, ev_ge, ev_eq, ev_ne, ev_eqs, ev_nes, ix_F0, ix_F1, ix_J0, ix_J1, ix_P0, ix_P1, ix_P2, ix_t0, ix_t1, ix_t2, ix_l0, ix_l1, ix_l2, tg_1, tg_F, tg_J, tg_P, tg_2, tg_3, tg_4, fold_J, eq_F, ne_F, eq_J, ne_J, eq_P, ne_P, db_, di_, setVals, setAll, datas, itemsD, truD, List.getElem?_cons_zero, List.getElem?_cons_succ, List.set_cons_zero, List.set_cons_succ, Option.map_some, Option.map_none, Option.some.injEq, exists_eq_left', decide_eq_true_eq, Bool.not_true, Bool.not_false, Bool.false_eq_true, if_false, if_true, true_and, and_true, decide_true, decide_false, List.length_cons, List.length_nil, mx_0, mx_1, mx_2, mx_3, mx_4, mx_5, mx_6, mx_7, mx_8, mx_9, mx_10, mx_11, mx_12, mx_13, mx_14, mx_15, mx_16, mx_17, mx_18, mx_19, mx_20, mx_21, mx_22, mx_23, mx_24, Nat.reduceAdd, Nat.reduceLeDiff, Nat.zero_add, Bool.not_eq_true', decide_eq_false_iff_not, reduceIte, ev_reprb]
  refine for_inv (fun τ => ∃ o3 o4 o5 o6 o7 o8 o9 : Option SD, τ = [some (.val .vat), some (.val (.d (.list wordsL))), some (.val (.d (F t))), o3, o4, o5, o6, o7, o8, o9]) _ ?_ _ ⟨none, none, none, none, none, none, none, rfl⟩ ?_
  · rintro x hx τ k ⟨o3, o4, o5, o6, o7, o8, o9, rfl⟩ hk
    obtain ⟨wd, hwd, rfl⟩ := List.mem_map.mp hx
    simp only [q_Lright_1_b_0, wS, wE, wA, wT, wI, wO, ev_add, ev_sub, ev_mul, ev_div, ev_mod, ev_pow, ev_cat, ev_lt, ev_le, ev_gt, ev_ge, ev_eq, ev_ne, ev_eqs, ev_nes, ix_F0, ix_F1, ix_J0, ix_J1, ix_P0, ix_P1, ix_P2, ix_t0, ix_t1, ix_t2, ix_l0, ix_l1, ix_l2, tg_1, tg_F, tg_J, tg_P, tg_2, tg_3, tg_4, fold_J, eq_F, ne_F, eq_J, ne_J, eq_P, ne_P, db_, di_, setVals, setAll, datas, itemsD, truD, List.getElem?_cons_zero, List.getElem?_cons_succ, List.set_cons_zero, List.set_cons_succ, Option.map_some, Option.map_none, Option.some.injEq, exists_eq_left', decide_eq_true_eq, Bool.not_true, Bool.not_false, Bool.false_eq_true, if_false, if_true, true_and, and_true, decide_true, decide_false, List.length_cons, List.length_nil, mx_0, mx_1, mx_2, mx_3, mx_4, mx_5, mx_6, mx_7, mx_8, mx_9, mx_10, mx_11, mx_12, mx_13, mx_14, mx_15, mx_16, mx_17, mx_18, mx_19, mx_20, mx_21, mx_22, mx_23, mx_24, Nat.reduceAdd, Nat.reduceLeDiff, Nat.zero_add, Bool.not_eq_true', decide_eq_false_iff_not, reduceIte, ev_reprb, e_Lsize, ap_Lsize]
    intro w w0 w1
    simp only [q_Lright_1_b_1, wS, wE, wA, wT, wI, wO, ev_add, ev_sub, ev_mul, ev_div, ev_mod, ev_pow, ev_cat, ev_lt, ev_le, ev_gt, ev_ge, ev_eq, ev_ne, ev_eqs, ev_nes, ix_F0, ix_F1, ix_J0, ix_J1, ix_P0, ix_P1, ix_P2, ix_t0, ix_t1, ix_t2, ix_l0, ix_l1, ix_l2, tg_1, tg_F, tg_J, tg_P, tg_2, tg_3, tg_4, fold_J, eq_F, ne_F, eq_J, ne_J, eq_P, ne_P, db_, di_, setVals, setAll, datas, itemsD, truD, List.getElem?_cons_zero, List.getElem?_cons_succ, List.set_cons_zero, List.set_cons_succ, Option.map_some, Option.map_none, Option.some.injEq, exists_eq_left', decide_eq_true_eq, Bool.not_true, Bool.not_false, Bool.false_eq_true, if_false, if_true, true_and, and_true, decide_true, decide_false, List.length_cons, List.length_nil, mx_0, mx_1, mx_2, mx_3, mx_4, mx_5, mx_6, mx_7, mx_8, mx_9, mx_10, mx_11, mx_12, mx_13, mx_14, mx_15, mx_16, mx_17, mx_18, mx_19, mx_20, mx_21, mx_22, mx_23, mx_24, Nat.reduceAdd, Nat.reduceLeDiff, Nat.zero_add, Bool.not_eq_true', decide_eq_false_iff_not, reduceIte, ev_reprb, e_Lask]
    refine ⟨_, _, rfl, by simp, by simp, by simpa using hwd, w0, w1, fun a ha hsm => ?_⟩
    have ha : a.word = wd := by simpa using ha
    subst ha
    simp only [wS, wE, wA, wT, wI, wO, ev_add, ev_sub, ev_mul, ev_div, ev_mod, ev_pow, ev_cat, ev_lt, ev_le, ev_gt, ev_ge, ev_eq, ev_ne, ev_eqs, ev_nes, ix_F0, ix_F1, ix_J0, ix_J1, ix_P0, ix_P1, ix_P2, ix_t0, ix_t1, ix_t2, ix_l0, ix_l1, ix_l2, tg_1, tg_F, tg_J, tg_P, tg_2, tg_3, tg_4, fold_J, eq_F, ne_F, eq_J, ne_J, eq_P, ne_P, db_, di_, setVals, setAll, datas, itemsD, truD, List.getElem?_cons_zero, List.getElem?_cons_succ, List.set_cons_zero, List.set_cons_succ, Option.map_some, Option.map_none, Option.some.injEq, exists_eq_left', decide_eq_true_eq, Bool.not_true, Bool.not_false, Bool.false_eq_true, if_false, if_true, true_and, and_true, decide_true, decide_false, List.length_cons, List.length_nil, mx_0, mx_1, mx_2, mx_3, mx_4, mx_5, mx_6, mx_7, mx_8, mx_9, mx_10, mx_11, mx_12, mx_13, mx_14, mx_15, mx_16, mx_17, mx_18, mx_19, mx_20, mx_21, mx_22, mx_23, mx_24, Nat.reduceAdd, Nat.reduceLeDiff, Nat.zero_add, Bool.not_eq_true', decide_eq_false_iff_not, reduceIte, ev_reprb, e_Lsome_frac, ap_Lsome_frac]
    refine ⟨w0, w1, fun s zs => ?_⟩
    have go : ∀ s' : Rat, Zf 31 s' → wS Φ q_Lright_1_b_3 { nx := k, rt := Q, bk := fun τ2 => wS Φ q_Lright_2 { nx := fun _ => Q (.d .none), rt := Q } τ2, ct := k } [some (.val .vat), some (.val (.d (.list wordsL))), some (.val (.d (F t))), some (.val (.d a.word)), some (.val (.d (.int w))), some (.val (.d a.dat)), some (.val (.d (F s'))), o7, o8, o9] := fun s' zs' =>
      rest_20 e_Lall_words e_Lfrac e_Ldraw e_Lsize e_Lask e_Lsome_frac e_Lbound e_bound_at e_does e_Ladd e_Lsub hsm (zs'.mono (by decide)) t0 zt fun o7 o8 o9 => hk _ ⟨_, _, _, _, _, _, _, rfl⟩
    cases a
    all_goals
      simp only [q_Lright_1_b_2, Ask.word, Ask.dat, wS, wE, wA, wT, wI, wO, ev_add, ev_sub, ev_mul, ev_div, ev_mod, ev_pow, ev_cat, ev_lt, ev_le, ev_gt, ev_ge, ev_eq, ev_ne, ev_eqs, ev_nes, ix_F0, ix_F1, ix_J0, ix_J1, ix_P0, ix_P1, ix_P2, ix_t0, ix_t1, ix_t2, ix_l0, ix_l1, ix_l2, tg_1, tg_F, tg_J, tg_P, tg_2, tg_3, tg_4, fold_J, eq_F, ne_F, eq_J, ne_J, eq_P, ne_P, db_, di_, setVals, setAll, datas, itemsD, truD, List.getElem?_cons_zero, List.getElem?_cons_succ, List.set_cons_zero, List.set_cons_succ, Option.map_some, Option.map_none, Option.some.injEq, exists_eq_left', decide_eq_true_eq, Bool.not_true, Bool.not_false, Bool.false_eq_true, if_false, if_true, true_and, and_true, decide_true, decide_false, List.length_cons, List.length_nil, mx_0, mx_1, mx_2, mx_3, mx_4, mx_5, mx_6, mx_7, mx_8, mx_9, mx_10, mx_11, mx_12, mx_13, mx_14, mx_15, mx_16, mx_17, mx_18, mx_19, mx_20, mx_21, mx_22, mx_23, mx_24, Nat.reduceAdd, Nat.reduceLeDiff, Nat.zero_add, Bool.not_eq_true', decide_eq_false_iff_not, reduceIte, ev_reprb, we_over_over, wn_over_under, we_over_under, wn_over_roof, we_over_roof, wn_over_low, we_over_low, wn_over_dives, we_over_dives, wn_over_climbs, we_over_climbs, wn_over_quick, we_over_quick, wn_over_slow, we_over_slow, wn_under_over, we_under_over, we_under_under, wn_under_roof, we_under_roof, wn_under_low, we_under_low, wn_under_dives, we_under_dives, wn_under_climbs, we_under_climbs, wn_under_quick, we_under_quick, wn_under_slow, we_under_slow, wn_roof_over, we_roof_over, wn_roof_under, we_roof_under, we_roof_roof, wn_roof_low, we_roof_low, wn_roof_dives, we_roof_dives, wn_roof_climbs, we_roof_climbs, wn_roof_quick, we_roof_quick, wn_roof_slow, we_roof_slow, wn_low_over, we_low_over, wn_low_under, we_low_under, wn_low_roof, we_low_roof, we_low_low, wn_low_dives, we_low_dives, wn_low_climbs, we_low_climbs, wn_low_quick, we_low_quick, wn_low_slow, we_low_slow, wn_dives_over, we_dives_over, wn_dives_under, we_dives_under, wn_dives_roof, we_dives_roof, wn_dives_low, we_dives_low, we_dives_dives, wn_dives_climbs, we_dives_climbs, wn_dives_quick, we_dives_quick, wn_dives_slow, we_dives_slow, wn_climbs_over, we_climbs_over, wn_climbs_under, we_climbs_under, wn_climbs_roof, we_climbs_roof, wn_climbs_low, we_climbs_low, wn_climbs_dives, we_climbs_dives, we_climbs_climbs, wn_climbs_quick, we_climbs_quick, wn_climbs_slow, we_climbs_slow, wn_quick_over, we_quick_over, wn_quick_under, we_quick_under, wn_quick_roof, we_quick_roof, wn_quick_low, we_quick_low, wn_quick_dives, we_quick_dives, wn_quick_climbs, we_quick_climbs, we_quick_quick, wn_quick_slow, we_quick_slow, wn_slow_over, we_slow_over, wn_slow_under, we_slow_under, wn_slow_roof, we_slow_roof, wn_slow_low, we_slow_low, wn_slow_dives, we_slow_dives, wn_slow_climbs, we_slow_climbs, wn_slow_quick, we_slow_quick, we_slow_slow, we_upright_upright, wn_upright_upper, we_upright_upper, wn_upright_lower, we_upright_lower, wn_upper_upright, we_upper_upright, we_upper_upper, wn_upper_lower, we_upper_lower, wn_lower_upright, we_lower_upright, wn_lower_upper, we_lower_upper, we_lower_lower, we_least_least, wn_least_most, we_least_most, wn_least_all, we_least_all, wn_least_none, we_least_none, wn_most_least, we_most_least, we_most_most, wn_most_all, we_most_all, wn_most_none, we_most_none, wn_all_least, we_all_least, wn_all_most, we_all_most, we_all_all, wn_all_none, we_all_none, wn_none_least, we_none_least, wn_none_most, we_none_most, wn_none_all, we_none_all, we_none_none, ev_inn, ev_innl, ev_nin, flat_s, flat_i, List.all_cons, List.all_nil, List.any_cons, List.any_nil, Bool.or_false, Bool.false_or, Bool.or_true, Bool.true_or, Bool.and_self, eqv_int, ev_is, ev_isnt, reduceCtorEq, e_Ldraw, ap_Ldraw]
      first
        | exact go s zs
        | (refine ⟨by decide, by decide, fun r r0 r1 => ?_⟩
           split
           · exact go _ hsm.2.2
           · exact go s zs)
  · rintro τ ⟨o3, o4, o5, o6, o7, o8, o9, rfl⟩
    simp only [q_Lright_2, wS, wE, wA, wT, wI, wO, ev_add, ev_sub, ev_mul, ev_div, ev_mod, ev_pow, ev_cat, ev_lt, ev_le, ev_gt, ev_ge, ev_eq, ev_ne, ev_eqs, ev_nes, ix_F0, ix_F1, ix_J0, ix_J1, ix_P0, ix_P1, ix_P2, ix_t0, ix_t1, ix_t2, ix_l0, ix_l1, ix_l2, tg_1, tg_F, tg_J, tg_P, tg_2, tg_3, tg_4, fold_J, eq_F, ne_F, eq_J, ne_J, eq_P, ne_P, db_, di_, setVals, setAll, datas, itemsD, truD, List.getElem?_cons_zero, List.getElem?_cons_succ, List.set_cons_zero, List.set_cons_succ, Option.map_some, Option.map_none, Option.some.injEq, exists_eq_left', decide_eq_true_eq, Bool.not_true, Bool.not_false, Bool.false_eq_true, if_false, if_true, true_and, and_true, decide_true, decide_false, List.length_cons, List.length_nil, mx_0, mx_1, mx_2, mx_3, mx_4, mx_5, mx_6, mx_7, mx_8, mx_9, mx_10, mx_11, mx_12, mx_13, mx_14, mx_15, mx_16, mx_17, mx_18, mx_19, mx_20, mx_21, mx_22, mx_23, mx_24, Nat.reduceAdd, Nat.reduceLeDiff, Nat.zero_add, Bool.not_eq_true', decide_eq_false_iff_not, reduceIte, ev_reprb]
    exact hq

end
def topS (i : Nat) : Stmt := PySem.Challenge.pw_spoutlines_k20_whole_bounds_at_slopes.main.body.getD i (.Pass ⟨0, 0, 0, 0⟩)
abbrev st_Lall_words : Stmt := topS 72
def cc_Lall_words : CC := { N := [], sc := defScope st_Lall_words, fn := fun _ => true, fs := [], kb := [], ms := [], bs := [], ap := [], gs := [] }
theorem c_Lall_words : cSs 60 cc_Lall_words (defBody st_Lall_words) = some rs_Lall_words := by kernel_rfl
theorem sc_Lall_words : FnScope cc_Lall_words.N [] cc_Lall_words.sc := ⟨rfl, rfl, rfl, by decide +kernel, rfl, by decide +kernel, by decide +kernel⟩
abbrev st_Lgcd : Stmt := topS 56
def cc_Lgcd : CC := { N := ["_law_one", "_law_two"], sc := defScope st_Lgcd, fn := fun _ => true, fs := [], kb := [], ms := [], bs := ["abs", "int"], ap := [], gs := [] }
theorem c_Lgcd : cSs 60 cc_Lgcd (defBody st_Lgcd) = some rs_Lgcd := by kernel_rfl
theorem sc_Lgcd : FnScope cc_Lgcd.N ["_law_one", "_law_two"] cc_Lgcd.sc := ⟨rfl, rfl, rfl, by decide +kernel, rfl, by decide +kernel, by decide +kernel⟩
abbrev st_Llow : Stmt := topS 57
def cc_Llow : CC := { N := ["_law_numbers", "_law_common", "_law_each"], sc := defScope st_Llow, fn := fun _ => true, fs := [("_law_gcd", 3)], kb := [], ms := [], bs := ["tuple"], ap := [], gs := [] }
theorem c_Llow : cSs 60 cc_Llow (defBody st_Llow) = some rs_Llow := by kernel_rfl
theorem sc_Llow : FnScope cc_Llow.N ["_law_numbers"] cc_Llow.sc := ⟨rfl, rfl, rfl, by decide +kernel, rfl, by decide +kernel, by decide +kernel⟩
abbrev st_Lfrac : Stmt := topS 58
def cc_Lfrac : CC := { N := ["_law_top", "_law_deep"], sc := defScope st_Lfrac, fn := fun _ => true, fs := [("_law_low", 4)], kb := [], ms := [], bs := [], ap := [], gs := [] }
theorem c_Lfrac : cSs 60 cc_Lfrac (defBody st_Lfrac) = some rs_Lfrac := by kernel_rfl
theorem sc_Lfrac : FnScope cc_Lfrac.N ["_law_top", "_law_deep"] cc_Lfrac.sc := ⟨rfl, rfl, rfl, by decide +kernel, rfl, by decide +kernel, by decide +kernel⟩
abbrev st_Ldraw : Stmt := topS 53
def cc_Ldraw : CC := { N := ["_law_vat_here", "_law_many", "_law_digit", "_law_factor"], sc := defScope st_Ldraw, fn := fun _ => true, fs := [], kb := [], ms := [], bs := ["divmod", "int"], ap := [], gs := [] }
theorem c_Ldraw : cSs 60 cc_Ldraw (defBody st_Ldraw) = some rs_Ldraw := by kernel_rfl
theorem sc_Ldraw : FnScope cc_Ldraw.N ["_law_vat_here", "_law_many"] cc_Ldraw.sc := ⟨rfl, rfl, rfl, by decide +kernel, rfl, by decide +kernel, by decide +kernel⟩
abbrev st_Lpick : Stmt := topS 54
def cc_Lpick : CC := { N := ["_law_vat_here", "_law_some"], sc := defScope st_Lpick, fn := fun _ => true, fs := [("_law_draw", 0)], kb := [], ms := [], bs := ["len"], ap := [], gs := [] }
theorem c_Lpick : cSs 60 cc_Lpick (defBody st_Lpick) = some rs_Lpick := by kernel_rfl
theorem sc_Lpick : FnScope cc_Lpick.N ["_law_vat_here", "_law_some"] cc_Lpick.sc := ⟨rfl, rfl, rfl, by decide +kernel, rfl, by decide +kernel, by decide +kernel⟩
abbrev st_Lsize : Stmt := topS 64
def cc_Lsize : CC := { N := ["_law_vat_here"], sc := defScope st_Lsize, fn := fun _ => true, fs := [("_law_pick", 1)], kb := [], ms := [], bs := [], ap := [], gs := [] }
theorem c_Lsize : cSs 60 cc_Lsize (defBody st_Lsize) = some rs_Lsize := by kernel_rfl
theorem sc_Lsize : FnScope cc_Lsize.N ["_law_vat_here"] cc_Lsize.sc := ⟨rfl, rfl, rfl, by decide +kernel, rfl, by decide +kernel, by decide +kernel⟩
abbrev st_Ldiv : Stmt := topS 62
def cc_Ldiv : CC := { N := ["_law_one", "_law_two"], sc := defScope st_Ldiv, fn := fun _ => true, fs := [("_law_frac", 6)], kb := [], ms := [], bs := [], ap := [], gs := [] }
theorem c_Ldiv : cSs 60 cc_Ldiv (defBody st_Ldiv) = some rs_Ldiv := by kernel_rfl
theorem sc_Ldiv : FnScope cc_Ldiv.N ["_law_one", "_law_two"] cc_Ldiv.sc := ⟨rfl, rfl, rfl, by decide +kernel, rfl, by decide +kernel, by decide +kernel⟩
abbrev st_Lsub : Stmt := topS 60
def cc_Lsub : CC := { N := ["_law_one", "_law_two"], sc := defScope st_Lsub, fn := fun _ => true, fs := [("_law_frac", 6)], kb := [], ms := [], bs := [], ap := [], gs := [] }
theorem c_Lsub : cSs 60 cc_Lsub (defBody st_Lsub) = some rs_Lsub := by kernel_rfl
theorem sc_Lsub : FnScope cc_Lsub.N ["_law_one", "_law_two"] cc_Lsub.sc := ⟨rfl, rfl, rfl, by decide +kernel, rfl, by decide +kernel, by decide +kernel⟩
abbrev st_Lfar : Stmt := topS 68
def cc_Lfar : CC := { N := ["_law_place_here"], sc := defScope st_Lfar, fn := fun _ => true, fs := [("_law_frac", 6)], kb := [], ms := [], bs := [], ap := [], gs := [] }
theorem c_Lfar : cSs 60 cc_Lfar (defBody st_Lfar) = some rs_Lfar := by kernel_rfl
theorem sc_Lfar : FnScope cc_Lfar.N ["_law_place_here"] cc_Lfar.sc := ⟨rfl, rfl, rfl, by decide +kernel, rfl, by decide +kernel, by decide +kernel⟩
abbrev st_Lhigh : Stmt := topS 69
def cc_Lhigh : CC := { N := ["_law_place_here"], sc := defScope st_Lhigh, fn := fun _ => true, fs := [("_law_frac", 6)], kb := [], ms := [], bs := [], ap := [], gs := [] }
theorem c_Lhigh : cSs 60 cc_Lhigh (defBody st_Lhigh) = some rs_Lhigh := by kernel_rfl
theorem sc_Lhigh : FnScope cc_Lhigh.N ["_law_place_here"] cc_Lhigh.sc := ⟨rfl, rfl, rfl, by decide +kernel, rfl, by decide +kernel, by decide +kernel⟩
abbrev st_Lmul : Stmt := topS 61
def cc_Lmul : CC := { N := ["_law_one", "_law_two"], sc := defScope st_Lmul, fn := fun _ => true, fs := [("_law_frac", 6)], kb := [], ms := [], bs := [], ap := [], gs := [] }
theorem c_Lmul : cSs 60 cc_Lmul (defBody st_Lmul) = some rs_Lmul := by kernel_rfl
theorem sc_Lmul : FnScope cc_Lmul.N ["_law_one", "_law_two"] cc_Lmul.sc := ⟨rfl, rfl, rfl, by decide +kernel, rfl, by decide +kernel, by decide +kernel⟩
abbrev st_Lless : Stmt := topS 63
def cc_Lless : CC := { N := ["_law_one", "_law_two"], sc := defScope st_Lless, fn := fun _ => true, fs := [], kb := [], ms := [], bs := [], ap := [], gs := [] }
theorem c_Lless : cSs 60 cc_Lless (defBody st_Lless) = some rs_Lless := by kernel_rfl
theorem sc_Lless : FnScope cc_Lless.N ["_law_one", "_law_two"] cc_Lless.sc := ⟨rfl, rfl, rfl, by decide +kernel, rfl, by decide +kernel, by decide +kernel⟩
abbrev st_Lbound : Stmt := topS 73
def cc_Lbound : CC := { N := ["_law_ask_here", "_law_slope", "_law_word", "_law_least", "_law_gap", "_law_far_here", "_law_near", "_law_rise", "_law_level", "_law_best", "_law_lean", "_law_steep", "_law_middle", "_law_each", "_law_worth"], sc := defScope st_Lbound, fn := fun _ => true, fs := [("_law_div", 31), ("_law_sub", 23), ("_law_far", 24), ("_law_high", 25), ("_law_mul", 16), ("_law_less", 59)], kb := [], ms := [], bs := [], ap := [], gs := [] }
theorem c_Lbound : cSs 60 cc_Lbound (defBody st_Lbound) = some rs_Lbound := by kernel_rfl
theorem sc_Lbound : FnScope cc_Lbound.N ["_law_ask_here", "_law_slope"] cc_Lbound.sc := ⟨rfl, rfl, rfl, by decide +kernel, rfl, by decide +kernel, by decide +kernel⟩
abbrev st_Lspot : Stmt := topS 67
def cc_Lspot : CC := { N := ["_law_x", "_law_y"], sc := defScope st_Lspot, fn := fun _ => true, fs := [("_law_low", 4)], kb := [], ms := [], bs := [], ap := [], gs := [] }
theorem c_Lspot : cSs 60 cc_Lspot (defBody st_Lspot) = some rs_Lspot := by kernel_rfl
theorem sc_Lspot : FnScope cc_Lspot.N ["_law_x", "_law_y"] cc_Lspot.sc := ⟨rfl, rfl, rfl, by decide +kernel, rfl, by decide +kernel, by decide +kernel⟩
abbrev st_Labout : Stmt := topS 55
def cc_Labout : CC := { N := ["_law_vat_here", "_law_wide", "_law_high_here"], sc := defScope st_Labout, fn := fun _ => true, fs := [("_law_draw", 0)], kb := [], ms := [], bs := ["int"], ap := [], gs := [] }
theorem c_Labout : cSs 60 cc_Labout (defBody st_Labout) = some rs_Labout := by kernel_rfl
theorem sc_Labout : FnScope cc_Labout.N ["_law_vat_here", "_law_wide"] cc_Labout.sc := ⟨rfl, rfl, rfl, by decide +kernel, rfl, by decide +kernel, by decide +kernel⟩
abbrev st_Labove : Stmt := topS 66
def cc_Labove : CC := { N := ["_law_vat_here", "_law_wide"], sc := defScope st_Labove, fn := fun _ => true, fs := [("_law_frac", 6), ("_law_draw", 0), ("_law_about", 7), ("_law_pick", 1)], kb := [], ms := [], bs := ["abs"], ap := [], gs := [] }
theorem c_Labove : cSs 60 cc_Labove (defBody st_Labove) = some rs_Labove := by kernel_rfl
theorem sc_Labove : FnScope cc_Labove.N ["_law_vat_here", "_law_wide"] cc_Labove.sc := ⟨rfl, rfl, rfl, by decide +kernel, rfl, by decide +kernel, by decide +kernel⟩
abbrev st_Lsome_frac : Stmt := topS 65
def cc_Lsome_frac : CC := { N := ["_law_vat_here", "_law_wide"], sc := defScope st_Lsome_frac, fn := fun _ => true, fs := [("_law_frac", 6), ("_law_about", 7), ("_law_draw", 0), ("_law_pick", 1)], kb := [], ms := [], bs := ["min"], ap := [], gs := [] }
theorem c_Lsome_frac : cSs 60 cc_Lsome_frac (defBody st_Lsome_frac) = some rs_Lsome_frac := by kernel_rfl
theorem sc_Lsome_frac : FnScope cc_Lsome_frac.N ["_law_vat_here", "_law_wide"] cc_Lsome_frac.sc := ⟨rfl, rfl, rfl, by decide +kernel, rfl, by decide +kernel, by decide +kernel⟩
abbrev st_Lplace : Stmt := topS 70
def cc_Lplace : CC := { N := ["_law_vat_here", "_law_wide"], sc := defScope st_Lplace, fn := fun _ => true, fs := [("_law_spot", 5), ("_law_above", 8), ("_law_some_frac", 9)], kb := [], ms := [], bs := [], ap := [], gs := [] }
theorem c_Lplace : cSs 60 cc_Lplace (defBody st_Lplace) = some rs_Lplace := by kernel_rfl
theorem sc_Lplace : FnScope cc_Lplace.N ["_law_vat_here", "_law_wide"] cc_Lplace.sc := ⟨rfl, rfl, rfl, by decide +kernel, rfl, by decide +kernel, by decide +kernel⟩
abbrev st_Ladd : Stmt := topS 59
def cc_Ladd : CC := { N := ["_law_one", "_law_two"], sc := defScope st_Ladd, fn := fun _ => true, fs := [("_law_frac", 6)], kb := [], ms := [], bs := [], ap := [], gs := [] }
theorem c_Ladd : cSs 60 cc_Ladd (defBody st_Ladd) = some rs_Ladd := by kernel_rfl
theorem sc_Ladd : FnScope cc_Ladd.N ["_law_one", "_law_two"] cc_Ladd.sc := ⟨rfl, rfl, rfl, by decide +kernel, rfl, by decide +kernel, by decide +kernel⟩
abbrev st_Lask : Stmt := topS 71
def cc_Lask : CC := { N := ["_law_vat_here", "_law_words", "_law_wide", "_law_word", "_law_near", "_law_far_here"], sc := defScope st_Lask, fn := fun _ => true, fs := [("_law_pick", 1), ("_law_place", 88), ("_law_spot", 5), ("_law_add", 17), ("_law_above", 8), ("_law_some_frac", 9), ("_law_far", 24), ("_law_high", 25)], kb := [], ms := [], bs := [], ap := [], gs := [] }
theorem c_Lask : cSs 60 cc_Lask (defBody st_Lask) = some rs_Lask := by kernel_rfl
theorem sc_Lask : FnScope cc_Lask.N ["_law_vat_here", "_law_words", "_law_wide"] cc_Lask.sc := ⟨rfl, rfl, rfl, by decide +kernel, rfl, by decide +kernel, by decide +kernel⟩
abbrev st_is_whole : Stmt := topS 4
def cc_is_whole : CC := { N := ["value"], sc := defScope st_is_whole, fn := fun _ => true, fs := [], kb := [], ms := [], bs := ["isinstance", "int", "bool"], ap := [], gs := [] }
theorem c_is_whole : cSs 60 cc_is_whole (defBody st_is_whole) = some rs_is_whole := by kernel_rfl
theorem sc_is_whole : FnScope cc_is_whole.N ["value"] cc_is_whole.sc := ⟨rfl, rfl, rfl, by decide +kernel, rfl, by decide +kernel, by decide +kernel⟩
abbrev st_is_fraction : Stmt := topS 19
def cc_is_fraction : CC := { N := ["value", "upper", "lower"], sc := defScope st_is_fraction, fn := fun _ => true, fs := [("is_whole", 10)], kb := [], ms := [("gcd", 2, .gcd2), ("gcd", 3, .gcd3)], bs := ["isinstance", "tuple", "len"], ap := [], gs := [] }
theorem c_is_fraction : cSs 60 cc_is_fraction (defBody st_is_fraction) = some rs_is_fraction := by kernel_rfl
theorem sc_is_fraction : FnScope cc_is_fraction.N ["value"] cc_is_fraction.sc := ⟨rfl, rfl, rfl, by decide +kernel, rfl, by decide +kernel, by decide +kernel⟩
abbrev st_is_jet : Stmt := topS 41
def cc_is_jet : CC := { N := ["value", "slope", "bend"], sc := defScope st_is_jet, fn := fun _ => true, fs := [("is_fraction", 11)], kb := [], ms := [], bs := ["isinstance", "tuple", "len"], ap := [], gs := [] }
theorem c_is_jet : cSs 60 cc_is_jet (defBody st_is_jet) = some rs_is_jet := by kernel_rfl
theorem sc_is_jet : FnScope cc_is_jet.N ["value"] cc_is_jet.sc := ⟨rfl, rfl, rfl, by decide +kernel, rfl, by decide +kernel, by decide +kernel⟩
abbrev st_check_jet : Stmt := topS 42
def cc_check_jet : CC := { N := ["value"], sc := defScope st_check_jet, fn := fun _ => true, fs := [("is_jet", 72)], kb := [], ms := [], bs := [], ap := [], gs := [] }
theorem c_check_jet : cSs 60 cc_check_jet (defBody st_check_jet) = some rs_check_jet := by kernel_rfl
theorem sc_check_jet : FnScope cc_check_jet.N ["value"] cc_check_jet.sc := ⟨rfl, rfl, rfl, by decide +kernel, rfl, by decide +kernel, by decide +kernel⟩
abbrev st_is_point : Stmt := topS 22
def cc_is_point : CC := { N := ["value", "right", "up", "unit"], sc := defScope st_is_point, fn := fun _ => true, fs := [("is_whole", 10)], kb := [], ms := [("gcd", 2, .gcd2), ("gcd", 3, .gcd3)], bs := ["isinstance", "tuple", "len"], ap := [], gs := [] }
theorem c_is_point : cSs 60 cc_is_point (defBody st_is_point) = some rs_is_point := by kernel_rfl
theorem sc_is_point : FnScope cc_is_point.N ["value"] cc_is_point.sc := ⟨rfl, rfl, rfl, by decide +kernel, rfl, by decide +kernel, by decide +kernel⟩
abbrev st_is_place : Stmt := topS 23
def cc_is_place : CC := { N := ["value"], sc := defScope st_is_place, fn := fun _ => true, fs := [("is_point", 18)], kb := [], ms := [], bs := [], ap := [], gs := [] }
theorem c_is_place : cSs 60 cc_is_place (defBody st_is_place) = some rs_is_place := by kernel_rfl
theorem sc_is_place : FnScope cc_is_place.N ["value"] cc_is_place.sc := ⟨rfl, rfl, rfl, by decide +kernel, rfl, by decide +kernel, by decide +kernel⟩
abbrev st_is_below : Stmt := topS 11
def cc_is_below : CC := { N := ["one", "other"], sc := defScope st_is_below, fn := fun _ => true, fs := [], kb := [], ms := [], bs := [], ap := [], gs := [] }
theorem c_is_below : cSs 60 cc_is_below (defBody st_is_below) = some rs_is_below := by kernel_rfl
theorem sc_is_below : FnScope cc_is_below.N ["one", "other"] cc_is_below.sc := ⟨rfl, rfl, rfl, by decide +kernel, rfl, by decide +kernel, by decide +kernel⟩
abbrev st_check_place : Stmt := topS 24
def cc_check_place : CC := { N := ["value"], sc := defScope st_check_place, fn := fun _ => true, fs := [("is_place", 19)], kb := [], ms := [], bs := [], ap := [], gs := [] }
theorem c_check_place : cSs 60 cc_check_place (defBody st_check_place) = some rs_check_place := by kernel_rfl
theorem sc_check_place : FnScope cc_check_place.N ["value"] cc_check_place.sc := ⟨rfl, rfl, rfl, by decide +kernel, rfl, by decide +kernel, by decide +kernel⟩
abbrev st_reduced : Stmt := topS 5
def cc_reduced : CC := { N := ["upper", "lower", "common"], sc := defScope st_reduced, fn := fun _ => true, fs := [], kb := [], ms := [("gcd", 2, .gcd2), ("gcd", 3, .gcd3)], bs := [], ap := [], gs := [] }
theorem c_reduced : cSs 60 cc_reduced (defBody st_reduced) = some rs_reduced := by kernel_rfl
theorem sc_reduced : FnScope cc_reduced.N ["upper", "lower"] cc_reduced.sc := ⟨rfl, rfl, rfl, by decide +kernel, rfl, by decide +kernel, by decide +kernel⟩
abbrev st_distance_of : Stmt := topS 25
def cc_distance_of : CC := { N := ["place"], sc := defScope st_distance_of, fn := fun _ => true, fs := [("check_place", 20), ("reduced", 33)], kb := [], ms := [], bs := [], ap := [], gs := [] }
theorem c_distance_of : cSs 60 cc_distance_of (defBody st_distance_of) = some rs_distance_of := by kernel_rfl
theorem sc_distance_of : FnScope cc_distance_of.N ["place"] cc_distance_of.sc := ⟨rfl, rfl, rfl, by decide +kernel, rfl, by decide +kernel, by decide +kernel⟩
abbrev st_is_ask_of_two : Stmt := topS 46
def cc_is_ask_of_two : CC := { N := ["word", "value", "other"], sc := defScope st_is_ask_of_two, fn := fun _ => true, fs := [("is_fraction", 11), ("is_place", 19), ("is_below", 91), ("distance_of", 34)], kb := [], ms := [], bs := [], ap := [], gs := [] }
theorem c_is_ask_of_two : cSs 60 cc_is_ask_of_two (defBody st_is_ask_of_two) = some rs_is_ask_of_two := by kernel_rfl
theorem sc_is_ask_of_two : FnScope cc_is_ask_of_two.N ["word", "value", "other"] cc_is_ask_of_two.sc := ⟨rfl, rfl, rfl, by decide +kernel, rfl, by decide +kernel, by decide +kernel⟩
abbrev st_is_above_zero : Stmt := topS 44
def cc_is_above_zero : CC := { N := ["value"], sc := defScope st_is_above_zero, fn := fun _ => true, fs := [("is_fraction", 11)], kb := [], ms := [], bs := [], ap := [], gs := [] }
theorem c_is_above_zero : cSs 60 cc_is_above_zero (defBody st_is_above_zero) = some rs_is_above_zero := by kernel_rfl
theorem sc_is_above_zero : FnScope cc_is_above_zero.N ["value"] cc_is_above_zero.sc := ⟨rfl, rfl, rfl, by decide +kernel, rfl, by decide +kernel, by decide +kernel⟩
abbrev st_is_ask_of_one : Stmt := topS 45
def cc_is_ask_of_one : CC := { N := ["word", "value"], sc := defScope st_is_ask_of_one, fn := fun _ => true, fs := [("is_place", 19), ("is_above_zero", 109)], kb := [], ms := [], bs := [], ap := [], gs := [] }
theorem c_is_ask_of_one : cSs 60 cc_is_ask_of_one (defBody st_is_ask_of_one) = some rs_is_ask_of_one := by kernel_rfl
theorem sc_is_ask_of_one : FnScope cc_is_ask_of_one.N ["word", "value"] cc_is_ask_of_one.sc := ⟨rfl, rfl, rfl, by decide +kernel, rfl, by decide +kernel, by decide +kernel⟩
abbrev st_is_ask : Stmt := topS 47
def cc_is_ask : CC := { N := ["value"], sc := defScope st_is_ask, fn := fun _ => true, fs := [("is_ask_of_two", 108), ("is_ask_of_one", 110)], kb := [], ms := [], bs := ["len", "isinstance", "tuple", "str"], ap := [], gs := [] }
theorem c_is_ask : cSs 60 cc_is_ask (defBody st_is_ask) = some rs_is_ask := by kernel_rfl
theorem sc_is_ask : FnScope cc_is_ask.N ["value"] cc_is_ask.sc := ⟨rfl, rfl, rfl, by decide +kernel, rfl, by decide +kernel, by decide +kernel⟩
abbrev st_check_ask : Stmt := topS 48
def cc_check_ask : CC := { N := ["value"], sc := defScope st_check_ask, fn := fun _ => true, fs := [("is_ask", 111)], kb := [], ms := [], bs := [], ap := [], gs := [] }
theorem c_check_ask : cSs 60 cc_check_ask (defBody st_check_ask) = some rs_check_ask := by kernel_rfl
theorem sc_check_ask : FnScope cc_check_ask.N ["value"] cc_check_ask.sc := ⟨rfl, rfl, rfl, by decide +kernel, rfl, by decide +kernel, by decide +kernel⟩
abbrev st_kind_of : Stmt := topS 31
def cc_kind_of : CC := { N := ["ask", "word"], sc := defScope st_kind_of, fn := fun _ => true, fs := [], kb := [], ms := [], bs := [], ap := [], gs := [("ZERO", (.tuple [(.int 0), (.int 1)]))] }
theorem c_kind_of : cSs 60 cc_kind_of (defBody st_kind_of) = some rs_kind_of := by kernel_rfl
theorem sc_kind_of : FnScope cc_kind_of.N ["ask"] cc_kind_of.sc := ⟨rfl, rfl, rfl, by decide +kernel, rfl, by decide +kernel, by decide +kernel⟩
abbrev st_quotient : Stmt := topS 9
def cc_quotient : CC := { N := ["one", "other", "upper", "lower"], sc := defScope st_quotient, fn := fun _ => true, fs := [("reduced", 33)], kb := [], ms := [], bs := [], ap := [], gs := [] }
theorem c_quotient : cSs 60 cc_quotient (defBody st_quotient) = some rs_quotient := by kernel_rfl
theorem sc_quotient : FnScope cc_quotient.N ["one", "other"] cc_quotient.sc := ⟨rfl, rfl, rfl, by decide +kernel, rfl, by decide +kernel, by decide +kernel⟩
abbrev st_height_of : Stmt := topS 26
def cc_height_of : CC := { N := ["place"], sc := defScope st_height_of, fn := fun _ => true, fs := [("check_place", 20), ("reduced", 33)], kb := [], ms := [], bs := [], ap := [], gs := [] }
theorem c_height_of : cSs 60 cc_height_of (defBody st_height_of) = some rs_height_of := by kernel_rfl
theorem sc_height_of : FnScope cc_height_of.N ["place"] cc_height_of.sc := ⟨rfl, rfl, rfl, by decide +kernel, rfl, by decide +kernel, by decide +kernel⟩
abbrev st_minus : Stmt := topS 7
def cc_minus : CC := { N := ["one", "other"], sc := defScope st_minus, fn := fun _ => true, fs := [("reduced", 33)], kb := [], ms := [], bs := [], ap := [], gs := [] }
theorem c_minus : cSs 60 cc_minus (defBody st_minus) = some rs_minus := by kernel_rfl
theorem sc_minus : FnScope cc_minus.N ["one", "other"] cc_minus.sc := ⟨rfl, rfl, rfl, by decide +kernel, rfl, by decide +kernel, by decide +kernel⟩
abbrev st_times : Stmt := topS 8
def cc_times : CC := { N := ["one", "other"], sc := defScope st_times, fn := fun _ => true, fs := [("reduced", 33)], kb := [], ms := [], bs := [], ap := [], gs := [] }
theorem c_times : cSs 60 cc_times (defBody st_times) = some rs_times := by kernel_rfl
theorem sc_times : FnScope cc_times.N ["one", "other"] cc_times.sc := ⟨rfl, rfl, rfl, by decide +kernel, rfl, by decide +kernel, by decide +kernel⟩
abbrev st_straight_way : Stmt := topS 32
def cc_straight_way : CC := { N := ["place", "other", "distance", "height", "rise"], sc := defScope st_straight_way, fn := fun _ => true, fs := [("quotient", 82), ("distance_of", 34), ("height_of", 35), ("minus", 65), ("times", 51)], kb := [], ms := [], bs := [], ap := [], gs := [] }
theorem c_straight_way : cSs 60 cc_straight_way (defBody st_straight_way) = some rs_straight_way := by kernel_rfl
theorem sc_straight_way : FnScope cc_straight_way.N ["place", "other"] cc_straight_way.sc := ⟨rfl, rfl, rfl, by decide +kernel, rfl, by decide +kernel, by decide +kernel⟩
abbrev st_negative : Stmt := topS 10
def cc_negative : CC := { N := ["fraction"], sc := defScope st_negative, fn := fun _ => true, fs := [], kb := [], ms := [], bs := [], ap := [], gs := [] }
theorem c_negative : cSs 60 cc_negative (defBody st_negative) = some rs_negative := by kernel_rfl
theorem sc_negative : FnScope cc_negative.N ["fraction"] cc_negative.sc := ⟨rfl, rfl, rfl, by decide +kernel, rfl, by decide +kernel, by decide +kernel⟩
abbrev st_line_at : Stmt := topS 33
def cc_line_at : CC := { N := ["distance", "height"], sc := defScope st_line_at, fn := fun _ => true, fs := [("negative", 76), ("quotient", 82), ("times", 51)], kb := [], ms := [], bs := [], ap := [], gs := [("ZERO", (.tuple [(.int 0), (.int 1)])), ("ONE", (.tuple [(.int 1), (.int 1)]))] }
theorem c_line_at : cSs 60 cc_line_at (defBody st_line_at) = some rs_line_at := by kernel_rfl
theorem sc_line_at : FnScope cc_line_at.N ["distance", "height"] cc_line_at.sc := ⟨rfl, rfl, rfl, by decide +kernel, rfl, by decide +kernel, by decide +kernel⟩
abbrev st_plus : Stmt := topS 6
def cc_plus : CC := { N := ["one", "other"], sc := defScope st_plus, fn := fun _ => true, fs := [("reduced", 33)], kb := [], ms := [], bs := [], ap := [], gs := [] }
theorem c_plus : cSs 60 cc_plus (defBody st_plus) = some rs_plus := by kernel_rfl
theorem sc_plus : FnScope cc_plus.N ["one", "other"] cc_plus.sc := ⟨rfl, rfl, rfl, by decide +kernel, rfl, by decide +kernel, by decide +kernel⟩
abbrev st_roof_parts : Stmt := topS 34
def cc_roof_parts : CC := { N := ["near_place", "far_place", "start", "rise", "near_end", "far_end", "far_line", "near_line", "joint", "twice", "low", "high", "square", "arc"], sc := defScope st_roof_parts, fn := fun _ => true, fs := [("straight_way", 119), ("line_at", 120), ("times", 51), ("quotient", 82), ("distance_of", 34), ("height_of", 35), ("plus", 48), ("negative", 76)], kb := [], ms := [], bs := [], ap := [], gs := [("ONE", (.tuple [(.int 1), (.int 1)]))] }
theorem c_roof_parts : cSs 60 cc_roof_parts (defBody st_roof_parts) = some rs_roof_parts := by kernel_rfl
theorem sc_roof_parts : FnScope cc_roof_parts.N ["near_place", "far_place"] cc_roof_parts.sc := ⟨rfl, rfl, rfl, by decide +kernel, rfl, by decide +kernel, by decide +kernel⟩
abbrev st_low_parts : Stmt := topS 35
def cc_low_parts : CC := { N := ["height"], sc := defScope st_low_parts, fn := fun _ => true, fs := [("quotient", 82)], kb := [], ms := [], bs := [], ap := [], gs := [("ZERO", (.tuple [(.int 0), (.int 1)])), ("NOUGHT", (.tuple [(.tuple [(.int 0), (.int 1)]), (.tuple [(.int 0), (.int 1)]), (.tuple [(.int 0), (.int 1)])]))] }
theorem c_low_parts : cSs 60 cc_low_parts (defBody st_low_parts) = some rs_low_parts := by kernel_rfl
theorem sc_low_parts : FnScope cc_low_parts.N ["height"] cc_low_parts.sc := ⟨rfl, rfl, rfl, by decide +kernel, rfl, by decide +kernel, by decide +kernel⟩
abbrev st_parts_of : Stmt := topS 36
def cc_parts_of : CC := { N := ["ask", "word", "line", "growth"], sc := defScope st_parts_of, fn := fun _ => true, fs := [("roof_parts", 121), ("low_parts", 122), ("line_at", 120), ("distance_of", 34), ("height_of", 35), ("quotient", 82), ("negative", 76), ("times", 51)], kb := [], ms := [], bs := [], ap := [], gs := [("ZERO", (.tuple [(.int 0), (.int 1)]))] }
theorem c_parts_of : cSs 60 cc_parts_of (defBody st_parts_of) = some rs_parts_of := by kernel_rfl
theorem sc_parts_of : FnScope cc_parts_of.N ["ask"] cc_parts_of.sc := ⟨rfl, rfl, rfl, by decide +kernel, rfl, by decide +kernel, by decide +kernel⟩
abbrev st_value_at : Stmt := topS 29
def cc_value_at : CC := { N := ["polynomial", "number", "constant", "growth", "square"], sc := defScope st_value_at, fn := fun _ => true, fs := [("plus", 48), ("times", 51)], kb := [], ms := [], bs := [], ap := [], gs := [] }
theorem c_value_at : cSs 60 cc_value_at (defBody st_value_at) = some rs_value_at := by kernel_rfl
theorem sc_value_at : FnScope cc_value_at.N ["polynomial", "number"] cc_value_at.sc := ⟨rfl, rfl, rfl, by decide +kernel, rfl, by decide +kernel, by decide +kernel⟩
abbrev st_bound_value : Stmt := topS 37
def cc_bound_value : CC := { N := ["ask", "slope", "parts", "at"], sc := defScope st_bound_value, fn := fun _ => true, fs := [("parts_of", 123), ("value_at", 75), ("is_below", 91)], kb := [], ms := [], bs := [], ap := [], gs := [] }
theorem c_bound_value : cSs 60 cc_bound_value (defBody st_bound_value) = some rs_bound_value := by kernel_rfl
theorem sc_bound_value : FnScope cc_bound_value.N ["ask", "slope"] cc_bound_value.sc := ⟨rfl, rfl, rfl, by decide +kernel, rfl, by decide +kernel, by decide +kernel⟩
abbrev st_keeps_upright : Stmt := topS 38
def cc_keeps_upright : CC := { N := ["ask", "slope"], sc := defScope st_keeps_upright, fn := fun _ => true, fs := [("is_below", 91)], kb := [], ms := [], bs := [], ap := [], gs := [] }
theorem c_keeps_upright : cSs 60 cc_keeps_upright (defBody st_keeps_upright) = some rs_keeps_upright := by kernel_rfl
theorem sc_keeps_upright : FnScope cc_keeps_upright.N ["ask", "slope"] cc_keeps_upright.sc := ⟨rfl, rfl, rfl, by decide +kernel, rfl, by decide +kernel, by decide +kernel⟩
abbrev st_keeps : Stmt := topS 39
def cc_keeps : CC := { N := ["jet", "ask", "slope", "bend", "kind", "bound"], sc := defScope st_keeps, fn := fun _ => true, fs := [("kind_of", 118), ("bound_value", 124), ("keeps_upright", 125), ("is_below", 91)], kb := [], ms := [], bs := [], ap := [], gs := [] }
theorem c_keeps : cSs 60 cc_keeps (defBody st_keeps) = some rs_keeps := by kernel_rfl
theorem sc_keeps : FnScope cc_keeps.N ["jet", "ask"] cc_keeps.sc := ⟨rfl, rfl, rfl, by decide +kernel, rfl, by decide +kernel, by decide +kernel⟩
abbrev st_does : Stmt := topS 49
def cc_does : CC := { N := ["jet", "ask"], sc := defScope st_does, fn := fun _ => true, fs := [("check_jet", 73), ("check_ask", 117), ("keeps", 126)], kb := [], ms := [], bs := [], ap := [], gs := [] }
theorem c_does : cSs 60 cc_does (defBody st_does) = some rs_does := by kernel_rfl
theorem sc_does : FnScope cc_does.N ["jet", "ask"] cc_does.sc := ⟨rfl, rfl, rfl, by decide +kernel, rfl, by decide +kernel, by decide +kernel⟩
abbrev st_check_fraction : Stmt := topS 20
def cc_check_fraction : CC := { N := ["value"], sc := defScope st_check_fraction, fn := fun _ => true, fs := [("is_fraction", 11)], kb := [], ms := [], bs := [], ap := [], gs := [] }
theorem c_check_fraction : cSs 60 cc_check_fraction (defBody st_check_fraction) = some rs_check_fraction := by kernel_rfl
theorem sc_check_fraction : FnScope cc_check_fraction.N ["value"] cc_check_fraction.sc := ⟨rfl, rfl, rfl, by decide +kernel, rfl, by decide +kernel, by decide +kernel⟩
abbrev st_bound_at : Stmt := topS 50
def cc_bound_at : CC := { N := ["ask", "slope", "kind"], sc := defScope st_bound_at, fn := fun _ => true, fs := [("check_ask", 117), ("check_fraction", 13), ("kind_of", 118), ("bound_value", 124), ("keeps_upright", 125)], kb := [], ms := [], bs := [], ap := [], gs := [] }
theorem c_bound_at : cSs 60 cc_bound_at (defBody st_bound_at) = some rs_bound_at := by kernel_rfl
theorem sc_bound_at : FnScope cc_bound_at.N ["ask", "slope"] cc_bound_at.sc := ⟨rfl, rfl, rfl, by decide +kernel, rfl, by decide +kernel, by decide +kernel⟩
abbrev st_Lright : Stmt := topS 74
def cc_Lright : CC := { N := ["_law_vat_here", "_law_words", "_law_step", "_law_word", "_law_wide", "_law_ask_here", "_law_slope", "_law_due", "_law_bend", "_law_is_side"], sc := defScope st_Lright, fn := fun _ => true, fs := [("_law_all_words", 103), ("_law_frac", 6), ("_law_size", 2), ("_law_bound", 135), ("_law_ask", 104), ("_law_some_frac", 9), ("_law_draw", 0), ("does", 127), ("bound_at", 136), ("_law_add", 17), ("_law_sub", 23)], kb := [("bound_at", 0, ["slope", "ask"], [1, 0])], ms := [], bs := ["repr"], ap := [], gs := [] }
theorem c_Lright : cSs 60 cc_Lright (defBody st_Lright) = some rs_Lright := by kernel_rfl
theorem sc_Lright : FnScope cc_Lright.N ["_law_vat_here"] cc_Lright.sc := ⟨rfl, rfl, rfl, by decide +kernel, rfl, by decide +kernel, by decide +kernel⟩
abbrev st_Lvat : Stmt := topS 52
def cc_Lvat : CC := { N := ["_law_script", "_law_lap", "_law_cell", "_law_churn", "_law_each"], sc := defScope st_Lvat, fn := fun _ => true, fs := [], kb := [], ms := [], bs := ["int", "len", "abs", "sum"], ap := [1000], gs := [] }
theorem c_Lvat : cSs 60 cc_Lvat (defBody st_Lvat) = some rs_Lvat := by kernel_rfl
theorem sc_Lvat : FnScope cc_Lvat.N ["_law_script", "_law_lap"] cc_Lvat.sc := ⟨rfl, rfl, rfl, by decide +kernel, rfl, by decide +kernel, by decide +kernel⟩
abbrev st_law : Stmt := topS 75
def cc_law : CC := { N := ["_law_script", "_law_lap"], sc := defScope st_law, fn := fun _ => true, fs := [("_law_right", 36), ("_law_vat", 37)], kb := [], ms := [], bs := ["all", "range", "max", "min", "len"], ap := [], gs := [] }
theorem c_law : cSs 60 cc_law (defBody st_law) = some rs_law := by kernel_rfl
theorem sc_law : FnScope cc_law.N ["_law_script"] cc_law.sc := ⟨rfl, rfl, rfl, by decide +kernel, rfl, by decide +kernel, by decide +kernel⟩
def Phi : Nat → PSp
  | 0 => sp_Ldraw
  | 1 => sp_Lpick
  | 2 => sp_Lsize
  | 3 => sp_Lgcd
  | 4 => sp_Llow
  | 5 => sp_Lspot
  | 6 => sp_Lfrac
  | 7 => sp_Labout
  | 8 => sp_Labove
  | 9 => sp_Lsome_frac
  | 10 => sp_is_whole
  | 11 => sp_is_fraction
  | 13 => sp_check_fraction
  | 16 => sp_Lmul
  | 17 => sp_Ladd
  | 18 => sp_is_point
  | 19 => sp_is_place
  | 20 => sp_check_place
  | 23 => sp_Lsub
  | 24 => sp_Lfar
  | 25 => sp_Lhigh
  | 31 => sp_Ldiv
  | 33 => sp_reduced
  | 34 => sp_distance_of
  | 35 => sp_height_of
  | 36 => sp_Lright
  | 37 => sp_Lvat
  | 38 => sp_law
  | 48 => sp_plus
  | 51 => sp_times
  | 59 => sp_Lless
  | 65 => sp_pminus
  | 72 => sp_is_jet
  | 73 => sp_check_jet
  | 75 => sp_value_at
  | 76 => sp_negative
  | 82 => sp_quotient
  | 88 => sp_Lplace
  | 91 => sp_is_below
  | 103 => sp_Lall_words
  | 104 => sp_Lask
  | 108 => sp_is_ask_of_two
  | 109 => sp_is_above_zero
  | 110 => sp_is_ask_of_one
  | 111 => sp_is_ask
  | 117 => sp_check_ask
  | 118 => sp_kind_of
  | 119 => sp_straight_way
  | 120 => sp_line_at
  | 121 => sp_roof_parts
  | 122 => sp_low_parts
  | 123 => sp_parts_of
  | 124 => sp_bound_value
  | 125 => sp_keeps_upright
  | 126 => sp_keeps
  | 127 => sp_does
  | 135 => sp_Lbound
  | 136 => sp_bound_at
  | _ => fun _ _ => False
theorem len_Ldraw {ds : List DV} {Q : DV → Prop} (h : Phi 0 ds Q) : ds.length = 2 := by
  have h : sp_Ldraw ds Q := h
  obtain ⟨_, rfl, _⟩ := h
  rfl
theorem sem_Ldraw_ : ∀ ds Q, Phi 0 ds Q → wS Phi rs_Ldraw { nx := fun _ => Q (.d .none), rt := Q } (startD cc_Ldraw.N ds) := sem_Ldraw
theorem len_Lpick {ds : List DV} {Q : DV → Prop} (h : Phi 1 ds Q) : ds.length = 2 := by
  have h : sp_Lpick ds Q := h
  obtain ⟨_, rfl, _⟩ := h
  rfl
theorem sem_Lpick_ : ∀ ds Q, Phi 1 ds Q → wS Phi rs_Lpick { nx := fun _ => Q (.d .none), rt := Q } (startD cc_Lpick.N ds) := sem_Lpick rfl
theorem len_Lsize {ds : List DV} {Q : DV → Prop} (h : Phi 2 ds Q) : ds.length = 1 := by
  have h : sp_Lsize ds Q := h
  obtain ⟨rfl, _⟩ := h
  rfl
theorem sem_Lsize_ : ∀ ds Q, Phi 2 ds Q → wS Phi rs_Lsize { nx := fun _ => Q (.d .none), rt := Q } (startD cc_Lsize.N ds) := sem_Lsize rfl
theorem len_Lgcd {ds : List DV} {Q : DV → Prop} (h : Phi 3 ds Q) : ds.length = 2 := by
  have h : sp_Lgcd ds Q := h
  obtain ⟨_, _, rfl, _⟩ := h
  rfl
theorem sem_Lgcd_ : ∀ ds Q, Phi 3 ds Q → wS Phi rs_Lgcd { nx := fun _ => Q (.d .none), rt := Q } (startD cc_Lgcd.N ds) := sem_Lgcd
theorem len_Llow {ds : List DV} {Q : DV → Prop} (h : Phi 4 ds Q) : ds.length = 1 := by
  have h : sp_Llow ds Q := h
  rcases h with ⟨_, _, rfl, _⟩ | ⟨_, _, _, rfl, _⟩ <;> rfl
theorem sem_Llow_ : ∀ ds Q, Phi 4 ds Q → wS Phi rs_Llow { nx := fun _ => Q (.d .none), rt := Q } (startD cc_Llow.N ds) := sem_Llow rfl
theorem len_Lspot {ds : List DV} {Q : DV → Prop} (h : Phi 5 ds Q) : ds.length = 2 := by
  have h : sp_Lspot ds Q := h
  obtain ⟨_, _, rfl, _⟩ := h
  rfl
theorem sem_Lspot_ : ∀ ds Q, Phi 5 ds Q → wS Phi rs_Lspot { nx := fun _ => Q (.d .none), rt := Q } (startD cc_Lspot.N ds) := sem_Lspot rfl
theorem len_Lfrac {ds : List DV} {Q : DV → Prop} (h : Phi 6 ds Q) : ds.length = 2 := by
  have h : sp_Lfrac ds Q := h
  obtain ⟨_, _, rfl, _⟩ := h
  rfl
theorem sem_Lfrac_ : ∀ ds Q, Phi 6 ds Q → wS Phi rs_Lfrac { nx := fun _ => Q (.d .none), rt := Q } (startD cc_Lfrac.N ds) := sem_Lfrac rfl
theorem len_Labout {ds : List DV} {Q : DV → Prop} (h : Phi 7 ds Q) : ds.length = 2 := by
  have h : sp_Labout ds Q := h
  obtain ⟨_, rfl, _⟩ := h
  rfl
theorem sem_Labout_ : ∀ ds Q, Phi 7 ds Q → wS Phi rs_Labout { nx := fun _ => Q (.d .none), rt := Q } (startD cc_Labout.N ds) := sem_Labout rfl
theorem len_Labove {ds : List DV} {Q : DV → Prop} (h : Phi 8 ds Q) : ds.length = 2 := by
  have h : sp_Labove ds Q := h
  obtain ⟨_, rfl, _⟩ := h
  rfl
theorem sem_Labove_ : ∀ ds Q, Phi 8 ds Q → wS Phi rs_Labove { nx := fun _ => Q (.d .none), rt := Q } (startD cc_Labove.N ds) := sem_Labove rfl rfl rfl rfl
theorem len_Lsome_frac {ds : List DV} {Q : DV → Prop} (h : Phi 9 ds Q) : ds.length = 2 := by
  have h : sp_Lsome_frac ds Q := h
  obtain ⟨_, rfl, _⟩ := h
  rfl
theorem sem_Lsome_frac_ : ∀ ds Q, Phi 9 ds Q → wS Phi rs_Lsome_frac { nx := fun _ => Q (.d .none), rt := Q } (startD cc_Lsome_frac.N ds) := sem_Lsome_frac rfl rfl rfl rfl
theorem len_is_whole {ds : List DV} {Q : DV → Prop} (h : Phi 10 ds Q) : ds.length = 1 := by
  have h : sp_is_whole ds Q := h
  obtain ⟨_, rfl, _⟩ := h
  rfl
theorem sem_is_whole_ : ∀ ds Q, Phi 10 ds Q → wS Phi rs_is_whole { nx := fun _ => Q (.d .none), rt := Q } (startD cc_is_whole.N ds) := sem_is_whole
theorem len_is_fraction {ds : List DV} {Q : DV → Prop} (h : Phi 11 ds Q) : ds.length = 1 := by
  have h : sp_is_fraction ds Q := h
  obtain ⟨_, rfl, _⟩ := h
  rfl
theorem sem_is_fraction_ : ∀ ds Q, Phi 11 ds Q → wS Phi rs_is_fraction { nx := fun _ => Q (.d .none), rt := Q } (startD cc_is_fraction.N ds) := sem_is_fraction rfl
theorem len_check_fraction {ds : List DV} {Q : DV → Prop} (h : Phi 13 ds Q) : ds.length = 1 := by
  have h : sp_check_fraction ds Q := h
  obtain ⟨_, rfl, _⟩ := h
  rfl
theorem sem_check_fraction_ : ∀ ds Q, Phi 13 ds Q → wS Phi rs_check_fraction { nx := fun _ => Q (.d .none), rt := Q } (startD cc_check_fraction.N ds) := sem_check_fraction rfl
theorem len_Lmul {ds : List DV} {Q : DV → Prop} (h : Phi 16 ds Q) : ds.length = 2 := by
  have h : sp_Lmul ds Q := h
  obtain ⟨_, _, rfl, _⟩ := h
  rfl
theorem sem_Lmul_ : ∀ ds Q, Phi 16 ds Q → wS Phi rs_Lmul { nx := fun _ => Q (.d .none), rt := Q } (startD cc_Lmul.N ds) := sem_Lmul rfl
theorem len_Ladd {ds : List DV} {Q : DV → Prop} (h : Phi 17 ds Q) : ds.length = 2 := by
  have h : sp_Ladd ds Q := h
  obtain ⟨_, _, rfl, _⟩ := h
  rfl
theorem sem_Ladd_ : ∀ ds Q, Phi 17 ds Q → wS Phi rs_Ladd { nx := fun _ => Q (.d .none), rt := Q } (startD cc_Ladd.N ds) := sem_Ladd rfl
theorem len_is_point {ds : List DV} {Q : DV → Prop} (h : Phi 18 ds Q) : ds.length = 1 := by
  have h : sp_is_point ds Q := h
  obtain ⟨_, rfl, _⟩ := h
  rfl
theorem sem_is_point_ : ∀ ds Q, Phi 18 ds Q → wS Phi rs_is_point { nx := fun _ => Q (.d .none), rt := Q } (startD cc_is_point.N ds) := sem_is_point rfl
theorem len_is_place {ds : List DV} {Q : DV → Prop} (h : Phi 19 ds Q) : ds.length = 1 := by
  have h : sp_is_place ds Q := h
  obtain ⟨_, rfl, _⟩ := h
  rfl
theorem sem_is_place_ : ∀ ds Q, Phi 19 ds Q → wS Phi rs_is_place { nx := fun _ => Q (.d .none), rt := Q } (startD cc_is_place.N ds) := sem_is_place rfl
theorem len_check_place {ds : List DV} {Q : DV → Prop} (h : Phi 20 ds Q) : ds.length = 1 := by
  have h : sp_check_place ds Q := h
  obtain ⟨_, rfl, _⟩ := h
  rfl
theorem sem_check_place_ : ∀ ds Q, Phi 20 ds Q → wS Phi rs_check_place { nx := fun _ => Q (.d .none), rt := Q } (startD cc_check_place.N ds) := sem_check_place rfl
theorem len_Lsub {ds : List DV} {Q : DV → Prop} (h : Phi 23 ds Q) : ds.length = 2 := by
  have h : sp_Lsub ds Q := h
  obtain ⟨_, _, rfl, _⟩ := h
  rfl
theorem sem_Lsub_ : ∀ ds Q, Phi 23 ds Q → wS Phi rs_Lsub { nx := fun _ => Q (.d .none), rt := Q } (startD cc_Lsub.N ds) := sem_Lsub rfl
theorem len_Lfar {ds : List DV} {Q : DV → Prop} (h : Phi 24 ds Q) : ds.length = 1 := by
  have h : sp_Lfar ds Q := h
  obtain ⟨_, _, rfl, _⟩ := h
  rfl
theorem sem_Lfar_ : ∀ ds Q, Phi 24 ds Q → wS Phi rs_Lfar { nx := fun _ => Q (.d .none), rt := Q } (startD cc_Lfar.N ds) := sem_Lfar rfl
theorem len_Lhigh {ds : List DV} {Q : DV → Prop} (h : Phi 25 ds Q) : ds.length = 1 := by
  have h : sp_Lhigh ds Q := h
  obtain ⟨_, _, rfl, _⟩ := h
  rfl
theorem sem_Lhigh_ : ∀ ds Q, Phi 25 ds Q → wS Phi rs_Lhigh { nx := fun _ => Q (.d .none), rt := Q } (startD cc_Lhigh.N ds) := sem_Lhigh rfl
theorem len_Ldiv {ds : List DV} {Q : DV → Prop} (h : Phi 31 ds Q) : ds.length = 2 := by
  have h : sp_Ldiv ds Q := h
  obtain ⟨_, _, rfl, _⟩ := h
  rfl
theorem sem_Ldiv_ : ∀ ds Q, Phi 31 ds Q → wS Phi rs_Ldiv { nx := fun _ => Q (.d .none), rt := Q } (startD cc_Ldiv.N ds) := sem_Ldiv rfl
theorem len_reduced {ds : List DV} {Q : DV → Prop} (h : Phi 33 ds Q) : ds.length = 2 := by
  have h : sp_reduced ds Q := h
  obtain ⟨_, _, rfl, _⟩ := h
  rfl
theorem sem_reduced_ : ∀ ds Q, Phi 33 ds Q → wS Phi rs_reduced { nx := fun _ => Q (.d .none), rt := Q } (startD cc_reduced.N ds) := sem_reduced
theorem len_distance_of {ds : List DV} {Q : DV → Prop} (h : Phi 34 ds Q) : ds.length = 1 := by
  have h : sp_distance_of ds Q := h
  obtain ⟨_, _, rfl, _⟩ := h
  rfl
theorem sem_distance_of_ : ∀ ds Q, Phi 34 ds Q → wS Phi rs_distance_of { nx := fun _ => Q (.d .none), rt := Q } (startD cc_distance_of.N ds) := sem_distance_of rfl rfl
theorem len_height_of {ds : List DV} {Q : DV → Prop} (h : Phi 35 ds Q) : ds.length = 1 := by
  have h : sp_height_of ds Q := h
  obtain ⟨_, _, rfl, _⟩ := h
  rfl
theorem sem_height_of_ : ∀ ds Q, Phi 35 ds Q → wS Phi rs_height_of { nx := fun _ => Q (.d .none), rt := Q } (startD cc_height_of.N ds) := sem_height_of rfl rfl
theorem len_Lright {ds : List DV} {Q : DV → Prop} (h : Phi 36 ds Q) : ds.length = 1 := by
  have h : sp_Lright ds Q := h
  obtain ⟨rfl, _⟩ := h
  rfl
theorem sem_Lright_ : ∀ ds Q, Phi 36 ds Q → wS Phi rs_Lright { nx := fun _ => Q (.d .none), rt := Q } (startD cc_Lright.N ds) := sem_Lright rfl rfl rfl rfl rfl rfl rfl rfl rfl rfl rfl
theorem len_Lvat {ds : List DV} {Q : DV → Prop} (h : Phi 37 ds Q) : ds.length = 2 := by
  have h : sp_Lvat ds Q := h
  obtain ⟨_, _, rfl, _⟩ := h
  rfl
theorem sem_Lvat_ : ∀ ds Q, Phi 37 ds Q → wS Phi rs_Lvat { nx := fun _ => Q (.d .none), rt := Q } (startD cc_Lvat.N ds) := sem_Lvat
theorem len_law {ds : List DV} {Q : DV → Prop} (h : Phi 38 ds Q) : ds.length = 1 := by
  have h : sp_law ds Q := h
  obtain ⟨_, rfl, _⟩ := h
  rfl
theorem sem_law_ : ∀ ds Q, Phi 38 ds Q → wS Phi rs_law { nx := fun _ => Q (.d .none), rt := Q } (startD cc_law.N ds) := sem_law rfl rfl
theorem len_plus {ds : List DV} {Q : DV → Prop} (h : Phi 48 ds Q) : ds.length = 2 := by
  have h : sp_plus ds Q := h
  obtain ⟨_, _, rfl, _⟩ := h
  rfl
theorem sem_plus_ : ∀ ds Q, Phi 48 ds Q → wS Phi rs_plus { nx := fun _ => Q (.d .none), rt := Q } (startD cc_plus.N ds) := sem_plus rfl
theorem len_times {ds : List DV} {Q : DV → Prop} (h : Phi 51 ds Q) : ds.length = 2 := by
  have h : sp_times ds Q := h
  obtain ⟨_, _, rfl, _⟩ := h
  rfl
theorem sem_times_ : ∀ ds Q, Phi 51 ds Q → wS Phi rs_times { nx := fun _ => Q (.d .none), rt := Q } (startD cc_times.N ds) := sem_times rfl
theorem len_Lless {ds : List DV} {Q : DV → Prop} (h : Phi 59 ds Q) : ds.length = 2 := by
  have h : sp_Lless ds Q := h
  obtain ⟨_, _, rfl, _⟩ := h
  rfl
theorem sem_Lless_ : ∀ ds Q, Phi 59 ds Q → wS Phi rs_Lless { nx := fun _ => Q (.d .none), rt := Q } (startD cc_Lless.N ds) := sem_Lless
theorem len_minus {ds : List DV} {Q : DV → Prop} (h : Phi 65 ds Q) : ds.length = 2 := by
  have h : sp_pminus ds Q := h
  obtain ⟨_, _, rfl, _⟩ := h
  rfl
theorem sem_minus_ : ∀ ds Q, Phi 65 ds Q → wS Phi rs_minus { nx := fun _ => Q (.d .none), rt := Q } (startD cc_minus.N ds) := sem_pminus rfl
theorem len_is_jet {ds : List DV} {Q : DV → Prop} (h : Phi 72 ds Q) : ds.length = 1 := by
  have h : sp_is_jet ds Q := h
  obtain ⟨_, rfl, _⟩ := h
  rfl
theorem sem_is_jet_ : ∀ ds Q, Phi 72 ds Q → wS Phi rs_is_jet { nx := fun _ => Q (.d .none), rt := Q } (startD cc_is_jet.N ds) := sem_is_jet rfl
theorem len_check_jet {ds : List DV} {Q : DV → Prop} (h : Phi 73 ds Q) : ds.length = 1 := by
  have h : sp_check_jet ds Q := h
  obtain ⟨_, rfl, _⟩ := h
  rfl
theorem sem_check_jet_ : ∀ ds Q, Phi 73 ds Q → wS Phi rs_check_jet { nx := fun _ => Q (.d .none), rt := Q } (startD cc_check_jet.N ds) := sem_check_jet rfl
theorem len_value_at {ds : List DV} {Q : DV → Prop} (h : Phi 75 ds Q) : ds.length = 2 := by
  have h : sp_value_at ds Q := h
  obtain ⟨_, _, _, _, rfl, _⟩ := h
  rfl
theorem sem_value_at_ : ∀ ds Q, Phi 75 ds Q → wS Phi rs_value_at { nx := fun _ => Q (.d .none), rt := Q } (startD cc_value_at.N ds) := sem_value_at rfl rfl
theorem len_negative {ds : List DV} {Q : DV → Prop} (h : Phi 76 ds Q) : ds.length = 1 := by
  have h : sp_negative ds Q := h
  obtain ⟨_, rfl, _⟩ := h
  rfl
theorem sem_negative_ : ∀ ds Q, Phi 76 ds Q → wS Phi rs_negative { nx := fun _ => Q (.d .none), rt := Q } (startD cc_negative.N ds) := sem_negative
theorem len_quotient {ds : List DV} {Q : DV → Prop} (h : Phi 82 ds Q) : ds.length = 2 := by
  have h : sp_quotient ds Q := h
  obtain ⟨_, _, rfl, _⟩ := h
  rfl
theorem sem_quotient_ : ∀ ds Q, Phi 82 ds Q → wS Phi rs_quotient { nx := fun _ => Q (.d .none), rt := Q } (startD cc_quotient.N ds) := sem_quotient rfl
theorem len_Lplace {ds : List DV} {Q : DV → Prop} (h : Phi 88 ds Q) : ds.length = 2 := by
  have h : sp_Lplace ds Q := h
  obtain ⟨_, rfl, _⟩ := h
  rfl
theorem sem_Lplace_ : ∀ ds Q, Phi 88 ds Q → wS Phi rs_Lplace { nx := fun _ => Q (.d .none), rt := Q } (startD cc_Lplace.N ds) := sem_Lplace rfl rfl rfl
theorem len_is_below {ds : List DV} {Q : DV → Prop} (h : Phi 91 ds Q) : ds.length = 2 := by
  have h : sp_is_below ds Q := h
  obtain ⟨_, _, rfl, _⟩ := h
  rfl
theorem sem_is_below_ : ∀ ds Q, Phi 91 ds Q → wS Phi rs_is_below { nx := fun _ => Q (.d .none), rt := Q } (startD cc_is_below.N ds) := sem_is_below
theorem len_Lall_words {ds : List DV} {Q : DV → Prop} (h : Phi 103 ds Q) : ds.length = 0 := by
  have h : sp_Lall_words ds Q := h
  obtain ⟨rfl, _⟩ := h
  rfl
theorem sem_Lall_words_ : ∀ ds Q, Phi 103 ds Q → wS Phi rs_Lall_words { nx := fun _ => Q (.d .none), rt := Q } (startD cc_Lall_words.N ds) := sem_Lall_words
theorem len_Lask {ds : List DV} {Q : DV → Prop} (h : Phi 104 ds Q) : ds.length = 3 := by
  have h : sp_Lask ds Q := h
  obtain ⟨_, _, rfl, _⟩ := h
  rfl
theorem sem_Lask_ : ∀ ds Q, Phi 104 ds Q → wS Phi rs_Lask { nx := fun _ => Q (.d .none), rt := Q } (startD cc_Lask.N ds) := sem_Lask rfl rfl rfl rfl rfl rfl rfl rfl
theorem len_is_ask_of_two {ds : List DV} {Q : DV → Prop} (h : Phi 108 ds Q) : ds.length = 3 := by
  have h : sp_is_ask_of_two ds Q := h
  obtain ⟨_, _, _, rfl, _⟩ := h
  rfl
theorem sem_is_ask_of_two_ : ∀ ds Q, Phi 108 ds Q → wS Phi rs_is_ask_of_two { nx := fun _ => Q (.d .none), rt := Q } (startD cc_is_ask_of_two.N ds) := sem_is_ask_of_two rfl rfl rfl rfl
theorem len_is_above_zero {ds : List DV} {Q : DV → Prop} (h : Phi 109 ds Q) : ds.length = 1 := by
  have h : sp_is_above_zero ds Q := h
  obtain ⟨_, rfl, _⟩ := h
  rfl
theorem sem_is_above_zero_ : ∀ ds Q, Phi 109 ds Q → wS Phi rs_is_above_zero { nx := fun _ => Q (.d .none), rt := Q } (startD cc_is_above_zero.N ds) := sem_is_above_zero rfl
theorem len_is_ask_of_one {ds : List DV} {Q : DV → Prop} (h : Phi 110 ds Q) : ds.length = 2 := by
  have h : sp_is_ask_of_one ds Q := h
  obtain ⟨_, _, rfl, _⟩ := h
  rfl
theorem sem_is_ask_of_one_ : ∀ ds Q, Phi 110 ds Q → wS Phi rs_is_ask_of_one { nx := fun _ => Q (.d .none), rt := Q } (startD cc_is_ask_of_one.N ds) := sem_is_ask_of_one rfl rfl
theorem len_is_ask {ds : List DV} {Q : DV → Prop} (h : Phi 111 ds Q) : ds.length = 1 := by
  have h : sp_is_ask ds Q := h
  obtain ⟨_, rfl, _⟩ := h
  rfl
theorem sem_is_ask_ : ∀ ds Q, Phi 111 ds Q → wS Phi rs_is_ask { nx := fun _ => Q (.d .none), rt := Q } (startD cc_is_ask.N ds) := sem_is_ask rfl rfl
theorem len_check_ask {ds : List DV} {Q : DV → Prop} (h : Phi 117 ds Q) : ds.length = 1 := by
  have h : sp_check_ask ds Q := h
  obtain ⟨_, rfl, _⟩ := h
  rfl
theorem sem_check_ask_ : ∀ ds Q, Phi 117 ds Q → wS Phi rs_check_ask { nx := fun _ => Q (.d .none), rt := Q } (startD cc_check_ask.N ds) := sem_check_ask rfl
theorem len_kind_of {ds : List DV} {Q : DV → Prop} (h : Phi 118 ds Q) : ds.length = 1 := by
  have h : sp_kind_of ds Q := h
  obtain ⟨_, rfl, _⟩ := h
  rfl
theorem sem_kind_of_ : ∀ ds Q, Phi 118 ds Q → wS Phi rs_kind_of { nx := fun _ => Q (.d .none), rt := Q } (startD cc_kind_of.N ds) := sem_kind_of
theorem len_straight_way {ds : List DV} {Q : DV → Prop} (h : Phi 119 ds Q) : ds.length = 2 := by
  have h : sp_straight_way ds Q := h
  obtain ⟨_, _, _, _, rfl, _⟩ := h
  rfl
theorem sem_straight_way_ : ∀ ds Q, Phi 119 ds Q → wS Phi rs_straight_way { nx := fun _ => Q (.d .none), rt := Q } (startD cc_straight_way.N ds) := sem_straight_way rfl rfl rfl rfl rfl
theorem len_line_at {ds : List DV} {Q : DV → Prop} (h : Phi 120 ds Q) : ds.length = 2 := by
  have h : sp_line_at ds Q := h
  obtain ⟨_, _, rfl, _⟩ := h
  rfl
theorem sem_line_at_ : ∀ ds Q, Phi 120 ds Q → wS Phi rs_line_at { nx := fun _ => Q (.d .none), rt := Q } (startD cc_line_at.N ds) := sem_line_at rfl rfl rfl
theorem len_roof_parts {ds : List DV} {Q : DV → Prop} (h : Phi 121 ds Q) : ds.length = 2 := by
  have h : sp_roof_parts ds Q := h
  obtain ⟨_, _, _, _, rfl, _⟩ := h
  rfl
theorem sem_roof_parts_ : ∀ ds Q, Phi 121 ds Q → wS Phi rs_roof_parts { nx := fun _ => Q (.d .none), rt := Q } (startD cc_roof_parts.N ds) := sem_roof_parts rfl rfl rfl rfl rfl rfl rfl rfl
theorem len_low_parts {ds : List DV} {Q : DV → Prop} (h : Phi 122 ds Q) : ds.length = 1 := by
  have h : sp_low_parts ds Q := h
  obtain ⟨_, rfl, _⟩ := h
  rfl
theorem sem_low_parts_ : ∀ ds Q, Phi 122 ds Q → wS Phi rs_low_parts { nx := fun _ => Q (.d .none), rt := Q } (startD cc_low_parts.N ds) := sem_low_parts rfl
theorem len_parts_of {ds : List DV} {Q : DV → Prop} (h : Phi 123 ds Q) : ds.length = 1 := by
  have h : sp_parts_of ds Q := h
  obtain ⟨_, rfl, _⟩ := h
  rfl
theorem sem_parts_of_ : ∀ ds Q, Phi 123 ds Q → wS Phi rs_parts_of { nx := fun _ => Q (.d .none), rt := Q } (startD cc_parts_of.N ds) := sem_parts_of rfl rfl rfl rfl rfl rfl rfl rfl
theorem len_bound_value {ds : List DV} {Q : DV → Prop} (h : Phi 124 ds Q) : ds.length = 2 := by
  have h : sp_bound_value ds Q := h
  obtain ⟨_, _, rfl, _⟩ := h
  rfl
theorem sem_bound_value_ : ∀ ds Q, Phi 124 ds Q → wS Phi rs_bound_value { nx := fun _ => Q (.d .none), rt := Q } (startD cc_bound_value.N ds) := sem_bound_value rfl rfl rfl
theorem len_keeps_upright {ds : List DV} {Q : DV → Prop} (h : Phi 125 ds Q) : ds.length = 2 := by
  have h : sp_keeps_upright ds Q := h
  obtain ⟨_, _, rfl, _⟩ := h
  rfl
theorem sem_keeps_upright_ : ∀ ds Q, Phi 125 ds Q → wS Phi rs_keeps_upright { nx := fun _ => Q (.d .none), rt := Q } (startD cc_keeps_upright.N ds) := sem_keeps_upright rfl
theorem len_keeps {ds : List DV} {Q : DV → Prop} (h : Phi 126 ds Q) : ds.length = 2 := by
  have h : sp_keeps ds Q := h
  obtain ⟨_, _, _, rfl, _⟩ := h
  rfl
theorem sem_keeps_ : ∀ ds Q, Phi 126 ds Q → wS Phi rs_keeps { nx := fun _ => Q (.d .none), rt := Q } (startD cc_keeps.N ds) := sem_keeps rfl rfl rfl rfl
theorem len_does {ds : List DV} {Q : DV → Prop} (h : Phi 127 ds Q) : ds.length = 2 := by
  have h : sp_does ds Q := h
  obtain ⟨_, _, _, rfl, _⟩ := h
  rfl
theorem sem_does_ : ∀ ds Q, Phi 127 ds Q → wS Phi rs_does { nx := fun _ => Q (.d .none), rt := Q } (startD cc_does.N ds) := sem_does rfl rfl rfl
theorem len_Lbound {ds : List DV} {Q : DV → Prop} (h : Phi 135 ds Q) : ds.length = 2 := by
  have h : sp_Lbound ds Q := h
  obtain ⟨_, _, rfl, _⟩ := h
  rfl
theorem sem_Lbound_ : ∀ ds Q, Phi 135 ds Q → wS Phi rs_Lbound { nx := fun _ => Q (.d .none), rt := Q } (startD cc_Lbound.N ds) := sem_Lbound rfl rfl rfl rfl rfl rfl
theorem len_bound_at {ds : List DV} {Q : DV → Prop} (h : Phi 136 ds Q) : ds.length = 2 := by
  have h : sp_bound_at ds Q := h
  obtain ⟨_, _, rfl, _⟩ := h
  rfl
theorem sem_bound_at_ : ∀ ds Q, Phi 136 ds Q → wS Phi rs_bound_at { nx := fun _ => Q (.d .none), rt := Q } (startD cc_bound_at.N ds) := sem_bound_at rfl rfl rfl rfl rfl
section
variable {P : Program} {w : World} {K : Fg} {mg : Str → Option Value} {base : Heap}
structure Txt (K : Fg) (mg : Str → Option Value) : Prop where
  f_Lall_words : ∃ (f : Addr) (fd : FuncData), mg "_law_all_words" = some (.ref f) ∧ Fun K "_law_all_words" "_law_all_words" st_Lall_words f fd
  f_Lgcd : ∃ (f : Addr) (fd : FuncData), mg "_law_gcd" = some (.ref f) ∧ Fun K "_law_gcd" "_law_gcd" st_Lgcd f fd
  f_Llow : ∃ (f : Addr) (fd : FuncData), mg "_law_low" = some (.ref f) ∧ Fun K "_law_low" "_law_low" st_Llow f fd
  f_Lfrac : ∃ (f : Addr) (fd : FuncData), mg "_law_frac" = some (.ref f) ∧ Fun K "_law_frac" "_law_frac" st_Lfrac f fd
  f_Ldraw : ∃ (f : Addr) (fd : FuncData), mg "_law_draw" = some (.ref f) ∧ Fun K "_law_draw" "_law_draw" st_Ldraw f fd
  f_Lpick : ∃ (f : Addr) (fd : FuncData), mg "_law_pick" = some (.ref f) ∧ Fun K "_law_pick" "_law_pick" st_Lpick f fd
  f_Lsize : ∃ (f : Addr) (fd : FuncData), mg "_law_size" = some (.ref f) ∧ Fun K "_law_size" "_law_size" st_Lsize f fd
  f_Ldiv : ∃ (f : Addr) (fd : FuncData), mg "_law_div" = some (.ref f) ∧ Fun K "_law_div" "_law_div" st_Ldiv f fd
  f_Lsub : ∃ (f : Addr) (fd : FuncData), mg "_law_sub" = some (.ref f) ∧ Fun K "_law_sub" "_law_sub" st_Lsub f fd
  f_Lfar : ∃ (f : Addr) (fd : FuncData), mg "_law_far" = some (.ref f) ∧ Fun K "_law_far" "_law_far" st_Lfar f fd
  f_Lhigh : ∃ (f : Addr) (fd : FuncData), mg "_law_high" = some (.ref f) ∧ Fun K "_law_high" "_law_high" st_Lhigh f fd
  f_Lmul : ∃ (f : Addr) (fd : FuncData), mg "_law_mul" = some (.ref f) ∧ Fun K "_law_mul" "_law_mul" st_Lmul f fd
  f_Lless : ∃ (f : Addr) (fd : FuncData), mg "_law_less" = some (.ref f) ∧ Fun K "_law_less" "_law_less" st_Lless f fd
  f_Lbound : ∃ (f : Addr) (fd : FuncData), mg "_law_bound" = some (.ref f) ∧ Fun K "_law_bound" "_law_bound" st_Lbound f fd
  f_Lspot : ∃ (f : Addr) (fd : FuncData), mg "_law_spot" = some (.ref f) ∧ Fun K "_law_spot" "_law_spot" st_Lspot f fd
  f_Labout : ∃ (f : Addr) (fd : FuncData), mg "_law_about" = some (.ref f) ∧ Fun K "_law_about" "_law_about" st_Labout f fd
  f_Labove : ∃ (f : Addr) (fd : FuncData), mg "_law_above" = some (.ref f) ∧ Fun K "_law_above" "_law_above" st_Labove f fd
  f_Lsome_frac : ∃ (f : Addr) (fd : FuncData), mg "_law_some_frac" = some (.ref f) ∧ Fun K "_law_some_frac" "_law_some_frac" st_Lsome_frac f fd
  f_Lplace : ∃ (f : Addr) (fd : FuncData), mg "_law_place" = some (.ref f) ∧ Fun K "_law_place" "_law_place" st_Lplace f fd
  f_Ladd : ∃ (f : Addr) (fd : FuncData), mg "_law_add" = some (.ref f) ∧ Fun K "_law_add" "_law_add" st_Ladd f fd
  f_Lask : ∃ (f : Addr) (fd : FuncData), mg "_law_ask" = some (.ref f) ∧ Fun K "_law_ask" "_law_ask" st_Lask f fd
  f_is_whole : ∃ (f : Addr) (fd : FuncData), mg "is_whole" = some (.ref f) ∧ Fun K "is_whole" "is_whole" st_is_whole f fd
  f_is_fraction : ∃ (f : Addr) (fd : FuncData), mg "is_fraction" = some (.ref f) ∧ Fun K "is_fraction" "is_fraction" st_is_fraction f fd
  f_is_jet : ∃ (f : Addr) (fd : FuncData), mg "is_jet" = some (.ref f) ∧ Fun K "is_jet" "is_jet" st_is_jet f fd
  f_check_jet : ∃ (f : Addr) (fd : FuncData), mg "check_jet" = some (.ref f) ∧ Fun K "check_jet" "check_jet" st_check_jet f fd
  f_is_point : ∃ (f : Addr) (fd : FuncData), mg "is_point" = some (.ref f) ∧ Fun K "is_point" "is_point" st_is_point f fd
  f_is_place : ∃ (f : Addr) (fd : FuncData), mg "is_place" = some (.ref f) ∧ Fun K "is_place" "is_place" st_is_place f fd
  f_is_below : ∃ (f : Addr) (fd : FuncData), mg "is_below" = some (.ref f) ∧ Fun K "is_below" "is_below" st_is_below f fd
  f_check_place : ∃ (f : Addr) (fd : FuncData), mg "check_place" = some (.ref f) ∧ Fun K "check_place" "check_place" st_check_place f fd
  f_reduced : ∃ (f : Addr) (fd : FuncData), mg "reduced" = some (.ref f) ∧ Fun K "reduced" "reduced" st_reduced f fd
  f_distance_of : ∃ (f : Addr) (fd : FuncData), mg "distance_of" = some (.ref f) ∧ Fun K "distance_of" "distance_of" st_distance_of f fd
  f_is_ask_of_two : ∃ (f : Addr) (fd : FuncData), mg "is_ask_of_two" = some (.ref f) ∧ Fun K "is_ask_of_two" "is_ask_of_two" st_is_ask_of_two f fd
  f_is_above_zero : ∃ (f : Addr) (fd : FuncData), mg "is_above_zero" = some (.ref f) ∧ Fun K "is_above_zero" "is_above_zero" st_is_above_zero f fd
  f_is_ask_of_one : ∃ (f : Addr) (fd : FuncData), mg "is_ask_of_one" = some (.ref f) ∧ Fun K "is_ask_of_one" "is_ask_of_one" st_is_ask_of_one f fd
  f_is_ask : ∃ (f : Addr) (fd : FuncData), mg "is_ask" = some (.ref f) ∧ Fun K "is_ask" "is_ask" st_is_ask f fd
  f_check_ask : ∃ (f : Addr) (fd : FuncData), mg "check_ask" = some (.ref f) ∧ Fun K "check_ask" "check_ask" st_check_ask f fd
  f_kind_of : ∃ (f : Addr) (fd : FuncData), mg "kind_of" = some (.ref f) ∧ Fun K "kind_of" "kind_of" st_kind_of f fd
  f_quotient : ∃ (f : Addr) (fd : FuncData), mg "quotient" = some (.ref f) ∧ Fun K "quotient" "quotient" st_quotient f fd
  f_height_of : ∃ (f : Addr) (fd : FuncData), mg "height_of" = some (.ref f) ∧ Fun K "height_of" "height_of" st_height_of f fd
  f_minus : ∃ (f : Addr) (fd : FuncData), mg "minus" = some (.ref f) ∧ Fun K "minus" "minus" st_minus f fd
  f_times : ∃ (f : Addr) (fd : FuncData), mg "times" = some (.ref f) ∧ Fun K "times" "times" st_times f fd
  f_straight_way : ∃ (f : Addr) (fd : FuncData), mg "straight_way" = some (.ref f) ∧ Fun K "straight_way" "straight_way" st_straight_way f fd
  f_negative : ∃ (f : Addr) (fd : FuncData), mg "negative" = some (.ref f) ∧ Fun K "negative" "negative" st_negative f fd
  f_line_at : ∃ (f : Addr) (fd : FuncData), mg "line_at" = some (.ref f) ∧ Fun K "line_at" "line_at" st_line_at f fd
  f_plus : ∃ (f : Addr) (fd : FuncData), mg "plus" = some (.ref f) ∧ Fun K "plus" "plus" st_plus f fd
  f_roof_parts : ∃ (f : Addr) (fd : FuncData), mg "roof_parts" = some (.ref f) ∧ Fun K "roof_parts" "roof_parts" st_roof_parts f fd
  f_low_parts : ∃ (f : Addr) (fd : FuncData), mg "low_parts" = some (.ref f) ∧ Fun K "low_parts" "low_parts" st_low_parts f fd
  f_parts_of : ∃ (f : Addr) (fd : FuncData), mg "parts_of" = some (.ref f) ∧ Fun K "parts_of" "parts_of" st_parts_of f fd
  f_value_at : ∃ (f : Addr) (fd : FuncData), mg "value_at" = some (.ref f) ∧ Fun K "value_at" "value_at" st_value_at f fd
  f_bound_value : ∃ (f : Addr) (fd : FuncData), mg "bound_value" = some (.ref f) ∧ Fun K "bound_value" "bound_value" st_bound_value f fd
  f_keeps_upright : ∃ (f : Addr) (fd : FuncData), mg "keeps_upright" = some (.ref f) ∧ Fun K "keeps_upright" "keeps_upright" st_keeps_upright f fd
  f_keeps : ∃ (f : Addr) (fd : FuncData), mg "keeps" = some (.ref f) ∧ Fun K "keeps" "keeps" st_keeps f fd
  f_does : ∃ (f : Addr) (fd : FuncData), mg "does" = some (.ref f) ∧ Fun K "does" "does" st_does f fd
  f_check_fraction : ∃ (f : Addr) (fd : FuncData), mg "check_fraction" = some (.ref f) ∧ Fun K "check_fraction" "check_fraction" st_check_fraction f fd
  f_bound_at : ∃ (f : Addr) (fd : FuncData), mg "bound_at" = some (.ref f) ∧ Fun K "bound_at" "bound_at" st_bound_at f fd
  f_Lright : ∃ (f : Addr) (fd : FuncData), mg "_law_right" = some (.ref f) ∧ Fun K "_law_right" "_law_right" st_Lright f fd
  f_Lvat : ∃ (f : Addr) (fd : FuncData), mg "_law_vat" = some (.ref f) ∧ Fun K "_law_vat" "_law_vat" st_Lvat f fd
  f_law : ∃ (f : Addr) (fd : FuncData), mg "law" = some (.ref f) ∧ Fun K "law" "law" st_law f fd
  b_abs : mg "abs" = none
  b_int : mg "int" = none
  b_tuple : mg "tuple" = none
  b_divmod : mg "divmod" = none
  b_len : mg "len" = none
  b_min : mg "min" = none
  b_isinstance : mg "isinstance" = none
  b_bool : mg "bool" = none
  b_str : mg "str" = none
  b_repr : mg "repr" = none
  b_sum : mg "sum" = none
  b_all : mg "all" = none
  b_range : mg "range" = none
  b_max : mg "max" = none
  g_ZERO : ∃ (v : V) (u : Value), mg "ZERO" = some u ∧ RelV v u ∧ ∀ W : Wd, R K W v (.tuple [(.int 0), (.int 1)])
  g_ONE : ∃ (v : V) (u : Value), mg "ONE" = some u ∧ RelV v u ∧ ∀ W : Wd, R K W v (.tuple [(.int 1), (.int 1)])
  g_NOUGHT : ∃ (v : V) (u : Value), mg "NOUGHT" = some u ∧ RelV v u ∧ ∀ W : Wd, R K W v (.tuple [(.tuple [(.int 0), (.int 1)]), (.tuple [(.int 0), (.int 1)]), (.tuple [(.int 0), (.int 1)])])
  m_gcd : mg "gcd" = some (.builtin "math.gcd")
theorem ff_Lall_words (T : Txt K mg) : FF P w K mg base Phi 1 st_Lall_words [] "_law_all_words" 103 := by
  obtain ⟨f, fd, hg, F⟩ := T.f_Lall_words
  exact ff_of (lv := 0) F hg sc_Lall_words rfl rfl (glo (fn0) (fn0) (fn0) (fn0) (fn0)) c_Lall_words (fun _ _ _ _ _ _ us hl => match us, hl with | [], _ => rfl) (fun ds Q h => len_Lall_words h) (fun ds Q h => sem_Lall_words_ ds Q h)
theorem ff_Lgcd (T : Txt K mg) : FF P w K mg base Phi 1 st_Lgcd ["_law_one", "_law_two"] "_law_gcd" 3 := by
  obtain ⟨f, fd, hg, F⟩ := T.f_Lgcd
  exact ff_of (lv := 0) F hg sc_Lgcd rfl rfl (glo (fn0) (fn0) (fn0) ((fa T.b_abs (fa T.b_int fn0))) (fn0)) c_Lgcd (fun _ _ _ _ _ _ us hl => match us, hl with | [_, _], _ => rfl) (fun ds Q h => len_Lgcd h) (fun ds Q h => sem_Lgcd_ ds Q h)
theorem ff_Llow (T : Txt K mg) : FF P w K mg base Phi 2 st_Llow ["_law_numbers"] "_law_low" 4 := by
  obtain ⟨f, fd, hg, F⟩ := T.f_Llow
  exact ff_of (lv := 1) F hg sc_Llow rfl rfl (glo ((fa ((ff_Lgcd T).g (by decide)) fn0)) (fn0) (fn0) ((fa T.b_tuple fn0)) (fn0)) c_Llow (fun _ _ _ _ _ _ us hl => match us, hl with | [_], _ => rfl) (fun ds Q h => len_Llow h) (fun ds Q h => sem_Llow_ ds Q h)
theorem ff_Lfrac (T : Txt K mg) : FF P w K mg base Phi 3 st_Lfrac ["_law_top", "_law_deep"] "_law_frac" 6 := by
  obtain ⟨f, fd, hg, F⟩ := T.f_Lfrac
  exact ff_of (lv := 2) F hg sc_Lfrac rfl rfl (glo ((fa ((ff_Llow T).g (by decide)) fn0)) (fn0) (fn0) (fn0) (fn0)) c_Lfrac (fun _ _ _ _ _ _ us hl => match us, hl with | [_, _], _ => rfl) (fun ds Q h => len_Lfrac h) (fun ds Q h => sem_Lfrac_ ds Q h)
theorem ff_Ldraw (T : Txt K mg) : FF P w K mg base Phi 1 st_Ldraw ["_law_vat_here", "_law_many"] "_law_draw" 0 := by
  obtain ⟨f, fd, hg, F⟩ := T.f_Ldraw
  exact ff_of (lv := 0) F hg sc_Ldraw rfl rfl (glo (fn0) (fn0) (fn0) ((fa T.b_divmod (fa T.b_int fn0))) (fn0)) c_Ldraw (fun _ _ _ _ _ _ us hl => match us, hl with | [_, _], _ => rfl) (fun ds Q h => len_Ldraw h) (fun ds Q h => sem_Ldraw_ ds Q h)
theorem ff_Lpick (T : Txt K mg) : FF P w K mg base Phi 2 st_Lpick ["_law_vat_here", "_law_some"] "_law_pick" 1 := by
  obtain ⟨f, fd, hg, F⟩ := T.f_Lpick
  exact ff_of (lv := 1) F hg sc_Lpick rfl rfl (glo ((fa ((ff_Ldraw T).g (by decide)) fn0)) (fn0) (fn0) ((fa T.b_len fn0)) (fn0)) c_Lpick (fun _ _ _ _ _ _ us hl => match us, hl with | [_, _], _ => rfl) (fun ds Q h => len_Lpick h) (fun ds Q h => sem_Lpick_ ds Q h)
theorem ff_Lsize (T : Txt K mg) : FF P w K mg base Phi 3 st_Lsize ["_law_vat_here"] "_law_size" 2 := by
  obtain ⟨f, fd, hg, F⟩ := T.f_Lsize
  exact ff_of (lv := 2) F hg sc_Lsize rfl rfl (glo ((fa ((ff_Lpick T).g (by decide)) fn0)) (fn0) (fn0) (fn0) (fn0)) c_Lsize (fun _ _ _ _ _ _ us hl => match us, hl with | [_], _ => rfl) (fun ds Q h => len_Lsize h) (fun ds Q h => sem_Lsize_ ds Q h)
theorem ff_Ldiv (T : Txt K mg) : FF P w K mg base Phi 4 st_Ldiv ["_law_one", "_law_two"] "_law_div" 31 := by
  obtain ⟨f, fd, hg, F⟩ := T.f_Ldiv
  exact ff_of (lv := 3) F hg sc_Ldiv rfl rfl (glo ((fa ((ff_Lfrac T).g (by decide)) fn0)) (fn0) (fn0) (fn0) (fn0)) c_Ldiv (fun _ _ _ _ _ _ us hl => match us, hl with | [_, _], _ => rfl) (fun ds Q h => len_Ldiv h) (fun ds Q h => sem_Ldiv_ ds Q h)
theorem ff_Lsub (T : Txt K mg) : FF P w K mg base Phi 4 st_Lsub ["_law_one", "_law_two"] "_law_sub" 23 := by
  obtain ⟨f, fd, hg, F⟩ := T.f_Lsub
  exact ff_of (lv := 3) F hg sc_Lsub rfl rfl (glo ((fa ((ff_Lfrac T).g (by decide)) fn0)) (fn0) (fn0) (fn0) (fn0)) c_Lsub (fun _ _ _ _ _ _ us hl => match us, hl with | [_, _], _ => rfl) (fun ds Q h => len_Lsub h) (fun ds Q h => sem_Lsub_ ds Q h)
theorem ff_Lfar (T : Txt K mg) : FF P w K mg base Phi 4 st_Lfar ["_law_place_here"] "_law_far" 24 := by
  obtain ⟨f, fd, hg, F⟩ := T.f_Lfar
  exact ff_of (lv := 3) F hg sc_Lfar rfl rfl (glo ((fa ((ff_Lfrac T).g (by decide)) fn0)) (fn0) (fn0) (fn0) (fn0)) c_Lfar (fun _ _ _ _ _ _ us hl => match us, hl with | [_], _ => rfl) (fun ds Q h => len_Lfar h) (fun ds Q h => sem_Lfar_ ds Q h)
theorem ff_Lhigh (T : Txt K mg) : FF P w K mg base Phi 4 st_Lhigh ["_law_place_here"] "_law_high" 25 := by
  obtain ⟨f, fd, hg, F⟩ := T.f_Lhigh
  exact ff_of (lv := 3) F hg sc_Lhigh rfl rfl (glo ((fa ((ff_Lfrac T).g (by decide)) fn0)) (fn0) (fn0) (fn0) (fn0)) c_Lhigh (fun _ _ _ _ _ _ us hl => match us, hl with | [_], _ => rfl) (fun ds Q h => len_Lhigh h) (fun ds Q h => sem_Lhigh_ ds Q h)
theorem ff_Lmul (T : Txt K mg) : FF P w K mg base Phi 4 st_Lmul ["_law_one", "_law_two"] "_law_mul" 16 := by
  obtain ⟨f, fd, hg, F⟩ := T.f_Lmul
  exact ff_of (lv := 3) F hg sc_Lmul rfl rfl (glo ((fa ((ff_Lfrac T).g (by decide)) fn0)) (fn0) (fn0) (fn0) (fn0)) c_Lmul (fun _ _ _ _ _ _ us hl => match us, hl with | [_, _], _ => rfl) (fun ds Q h => len_Lmul h) (fun ds Q h => sem_Lmul_ ds Q h)
theorem ff_Lless (T : Txt K mg) : FF P w K mg base Phi 1 st_Lless ["_law_one", "_law_two"] "_law_less" 59 := by
  obtain ⟨f, fd, hg, F⟩ := T.f_Lless
  exact ff_of (lv := 0) F hg sc_Lless rfl rfl (glo (fn0) (fn0) (fn0) (fn0) (fn0)) c_Lless (fun _ _ _ _ _ _ us hl => match us, hl with | [_, _], _ => rfl) (fun ds Q h => len_Lless h) (fun ds Q h => sem_Lless_ ds Q h)
theorem ff_Lbound (T : Txt K mg) : FF P w K mg base Phi 5 st_Lbound ["_law_ask_here", "_law_slope"] "_law_bound" 135 := by
  obtain ⟨f, fd, hg, F⟩ := T.f_Lbound
  exact ff_of (lv := 4) F hg sc_Lbound rfl rfl (glo ((fa ((ff_Ldiv T).g (by decide)) (fa ((ff_Lsub T).g (by decide)) (fa ((ff_Lfar T).g (by decide)) (fa ((ff_Lhigh T).g (by decide)) (fa ((ff_Lmul T).g (by decide)) (fa ((ff_Lless T).g (by decide)) fn0))))))) (fn0) (fn0) (fn0) (fn0)) c_Lbound (fun _ _ _ _ _ _ us hl => match us, hl with | [_, _], _ => rfl) (fun ds Q h => len_Lbound h) (fun ds Q h => sem_Lbound_ ds Q h)
theorem ff_Lspot (T : Txt K mg) : FF P w K mg base Phi 3 st_Lspot ["_law_x", "_law_y"] "_law_spot" 5 := by
  obtain ⟨f, fd, hg, F⟩ := T.f_Lspot
  exact ff_of (lv := 2) F hg sc_Lspot rfl rfl (glo ((fa ((ff_Llow T).g (by decide)) fn0)) (fn0) (fn0) (fn0) (fn0)) c_Lspot (fun _ _ _ _ _ _ us hl => match us, hl with | [_, _], _ => rfl) (fun ds Q h => len_Lspot h) (fun ds Q h => sem_Lspot_ ds Q h)
theorem ff_Labout (T : Txt K mg) : FF P w K mg base Phi 2 st_Labout ["_law_vat_here", "_law_wide"] "_law_about" 7 := by
  obtain ⟨f, fd, hg, F⟩ := T.f_Labout
  exact ff_of (lv := 1) F hg sc_Labout rfl rfl (glo ((fa ((ff_Ldraw T).g (by decide)) fn0)) (fn0) (fn0) ((fa T.b_int fn0)) (fn0)) c_Labout (fun _ _ _ _ _ _ us hl => match us, hl with | [_, _], _ => rfl) (fun ds Q h => len_Labout h) (fun ds Q h => sem_Labout_ ds Q h)
theorem ff_Labove (T : Txt K mg) : FF P w K mg base Phi 4 st_Labove ["_law_vat_here", "_law_wide"] "_law_above" 8 := by
  obtain ⟨f, fd, hg, F⟩ := T.f_Labove
  exact ff_of (lv := 3) F hg sc_Labove rfl rfl (glo ((fa ((ff_Lfrac T).g (by decide)) (fa ((ff_Ldraw T).g (by decide)) (fa ((ff_Labout T).g (by decide)) (fa ((ff_Lpick T).g (by decide)) fn0))))) (fn0) (fn0) ((fa T.b_abs fn0)) (fn0)) c_Labove (fun _ _ _ _ _ _ us hl => match us, hl with | [_, _], _ => rfl) (fun ds Q h => len_Labove h) (fun ds Q h => sem_Labove_ ds Q h)
theorem ff_Lsome_frac (T : Txt K mg) : FF P w K mg base Phi 4 st_Lsome_frac ["_law_vat_here", "_law_wide"] "_law_some_frac" 9 := by
  obtain ⟨f, fd, hg, F⟩ := T.f_Lsome_frac
  exact ff_of (lv := 3) F hg sc_Lsome_frac rfl rfl (glo ((fa ((ff_Lfrac T).g (by decide)) (fa ((ff_Labout T).g (by decide)) (fa ((ff_Ldraw T).g (by decide)) (fa ((ff_Lpick T).g (by decide)) fn0))))) (fn0) (fn0) ((fa T.b_min fn0)) (fn0)) c_Lsome_frac (fun _ _ _ _ _ _ us hl => match us, hl with | [_, _], _ => rfl) (fun ds Q h => len_Lsome_frac h) (fun ds Q h => sem_Lsome_frac_ ds Q h)
theorem ff_Lplace (T : Txt K mg) : FF P w K mg base Phi 5 st_Lplace ["_law_vat_here", "_law_wide"] "_law_place" 88 := by
  obtain ⟨f, fd, hg, F⟩ := T.f_Lplace
  exact ff_of (lv := 4) F hg sc_Lplace rfl rfl (glo ((fa ((ff_Lspot T).g (by decide)) (fa ((ff_Labove T).g (by decide)) (fa ((ff_Lsome_frac T).g (by decide)) fn0)))) (fn0) (fn0) (fn0) (fn0)) c_Lplace (fun _ _ _ _ _ _ us hl => match us, hl with | [_, _], _ => rfl) (fun ds Q h => len_Lplace h) (fun ds Q h => sem_Lplace_ ds Q h)
theorem ff_Ladd (T : Txt K mg) : FF P w K mg base Phi 4 st_Ladd ["_law_one", "_law_two"] "_law_add" 17 := by
  obtain ⟨f, fd, hg, F⟩ := T.f_Ladd
  exact ff_of (lv := 3) F hg sc_Ladd rfl rfl (glo ((fa ((ff_Lfrac T).g (by decide)) fn0)) (fn0) (fn0) (fn0) (fn0)) c_Ladd (fun _ _ _ _ _ _ us hl => match us, hl with | [_, _], _ => rfl) (fun ds Q h => len_Ladd h) (fun ds Q h => sem_Ladd_ ds Q h)
theorem ff_Lask (T : Txt K mg) : FF P w K mg base Phi 6 st_Lask ["_law_vat_here", "_law_words", "_law_wide"] "_law_ask" 104 := by
  obtain ⟨f, fd, hg, F⟩ := T.f_Lask
  exact ff_of (lv := 5) F hg sc_Lask rfl rfl (glo ((fa ((ff_Lpick T).g (by decide)) (fa ((ff_Lplace T).g (by decide)) (fa ((ff_Lspot T).g (by decide)) (fa ((ff_Ladd T).g (by decide)) (fa ((ff_Labove T).g (by decide)) (fa ((ff_Lsome_frac T).g (by decide)) (fa ((ff_Lfar T).g (by decide)) (fa ((ff_Lhigh T).g (by decide)) fn0))))))))) (fn0) (fn0) (fn0) (fn0)) c_Lask (fun _ _ _ _ _ _ us hl => match us, hl with | [_, _, _], _ => rfl) (fun ds Q h => len_Lask h) (fun ds Q h => sem_Lask_ ds Q h)
theorem ff_is_whole (T : Txt K mg) : FF P w K mg base Phi 1 st_is_whole ["value"] "is_whole" 10 := by
  obtain ⟨f, fd, hg, F⟩ := T.f_is_whole
  exact ff_of (lv := 0) F hg sc_is_whole rfl rfl (glo (fn0) (fn0) (fn0) ((fa T.b_isinstance (fa T.b_int (fa T.b_bool fn0)))) (fn0)) c_is_whole (fun _ _ _ _ _ _ us hl => match us, hl with | [_], _ => rfl) (fun ds Q h => len_is_whole h) (fun ds Q h => sem_is_whole_ ds Q h)
theorem ff_is_fraction (T : Txt K mg) : FF P w K mg base Phi 2 st_is_fraction ["value"] "is_fraction" 11 := by
  obtain ⟨f, fd, hg, F⟩ := T.f_is_fraction
  exact ff_of (lv := 1) F hg sc_is_fraction rfl rfl (glo ((fa ((ff_is_whole T).g (by decide)) fn0)) (fn0) ((fa ⟨T.m_gcd, by decide, ⟨_, rfl⟩⟩ (fa ⟨T.m_gcd, by decide, ⟨_, rfl⟩⟩ fn0))) ((fa T.b_isinstance (fa T.b_tuple (fa T.b_len fn0)))) (fn0)) c_is_fraction (fun _ _ _ _ _ _ us hl => match us, hl with | [_], _ => rfl) (fun ds Q h => len_is_fraction h) (fun ds Q h => sem_is_fraction_ ds Q h)
theorem ff_is_jet (T : Txt K mg) : FF P w K mg base Phi 3 st_is_jet ["value"] "is_jet" 72 := by
  obtain ⟨f, fd, hg, F⟩ := T.f_is_jet
  exact ff_of (lv := 2) F hg sc_is_jet rfl rfl (glo ((fa ((ff_is_fraction T).g (by decide)) fn0)) (fn0) (fn0) ((fa T.b_isinstance (fa T.b_tuple (fa T.b_len fn0)))) (fn0)) c_is_jet (fun _ _ _ _ _ _ us hl => match us, hl with | [_], _ => rfl) (fun ds Q h => len_is_jet h) (fun ds Q h => sem_is_jet_ ds Q h)
theorem ff_check_jet (T : Txt K mg) : FF P w K mg base Phi 4 st_check_jet ["value"] "check_jet" 73 := by
  obtain ⟨f, fd, hg, F⟩ := T.f_check_jet
  exact ff_of (lv := 3) F hg sc_check_jet rfl rfl (glo ((fa ((ff_is_jet T).g (by decide)) fn0)) (fn0) (fn0) (fn0) (fn0)) c_check_jet (fun _ _ _ _ _ _ us hl => match us, hl with | [_], _ => rfl) (fun ds Q h => len_check_jet h) (fun ds Q h => sem_check_jet_ ds Q h)
theorem ff_is_point (T : Txt K mg) : FF P w K mg base Phi 2 st_is_point ["value"] "is_point" 18 := by
  obtain ⟨f, fd, hg, F⟩ := T.f_is_point
  exact ff_of (lv := 1) F hg sc_is_point rfl rfl (glo ((fa ((ff_is_whole T).g (by decide)) fn0)) (fn0) ((fa ⟨T.m_gcd, by decide, ⟨_, rfl⟩⟩ (fa ⟨T.m_gcd, by decide, ⟨_, rfl⟩⟩ fn0))) ((fa T.b_isinstance (fa T.b_tuple (fa T.b_len fn0)))) (fn0)) c_is_point (fun _ _ _ _ _ _ us hl => match us, hl with | [_], _ => rfl) (fun ds Q h => len_is_point h) (fun ds Q h => sem_is_point_ ds Q h)
theorem ff_is_place (T : Txt K mg) : FF P w K mg base Phi 3 st_is_place ["value"] "is_place" 19 := by
  obtain ⟨f, fd, hg, F⟩ := T.f_is_place
  exact ff_of (lv := 2) F hg sc_is_place rfl rfl (glo ((fa ((ff_is_point T).g (by decide)) fn0)) (fn0) (fn0) (fn0) (fn0)) c_is_place (fun _ _ _ _ _ _ us hl => match us, hl with | [_], _ => rfl) (fun ds Q h => len_is_place h) (fun ds Q h => sem_is_place_ ds Q h)
theorem ff_is_below (T : Txt K mg) : FF P w K mg base Phi 1 st_is_below ["one", "other"] "is_below" 91 := by
  obtain ⟨f, fd, hg, F⟩ := T.f_is_below
  exact ff_of (lv := 0) F hg sc_is_below rfl rfl (glo (fn0) (fn0) (fn0) (fn0) (fn0)) c_is_below (fun _ _ _ _ _ _ us hl => match us, hl with | [_, _], _ => rfl) (fun ds Q h => len_is_below h) (fun ds Q h => sem_is_below_ ds Q h)
theorem ff_check_place (T : Txt K mg) : FF P w K mg base Phi 4 st_check_place ["value"] "check_place" 20 := by
  obtain ⟨f, fd, hg, F⟩ := T.f_check_place
  exact ff_of (lv := 3) F hg sc_check_place rfl rfl (glo ((fa ((ff_is_place T).g (by decide)) fn0)) (fn0) (fn0) (fn0) (fn0)) c_check_place (fun _ _ _ _ _ _ us hl => match us, hl with | [_], _ => rfl) (fun ds Q h => len_check_place h) (fun ds Q h => sem_check_place_ ds Q h)
theorem ff_reduced (T : Txt K mg) : FF P w K mg base Phi 1 st_reduced ["upper", "lower"] "reduced" 33 := by
  obtain ⟨f, fd, hg, F⟩ := T.f_reduced
  exact ff_of (lv := 0) F hg sc_reduced rfl rfl (glo (fn0) (fn0) ((fa ⟨T.m_gcd, by decide, ⟨_, rfl⟩⟩ (fa ⟨T.m_gcd, by decide, ⟨_, rfl⟩⟩ fn0))) (fn0) (fn0)) c_reduced (fun _ _ _ _ _ _ us hl => match us, hl with | [_, _], _ => rfl) (fun ds Q h => len_reduced h) (fun ds Q h => sem_reduced_ ds Q h)
theorem ff_distance_of (T : Txt K mg) : FF P w K mg base Phi 5 st_distance_of ["place"] "distance_of" 34 := by
  obtain ⟨f, fd, hg, F⟩ := T.f_distance_of
  exact ff_of (lv := 4) F hg sc_distance_of rfl rfl (glo ((fa ((ff_check_place T).g (by decide)) (fa ((ff_reduced T).g (by decide)) fn0))) (fn0) (fn0) (fn0) (fn0)) c_distance_of (fun _ _ _ _ _ _ us hl => match us, hl with | [_], _ => rfl) (fun ds Q h => len_distance_of h) (fun ds Q h => sem_distance_of_ ds Q h)
theorem ff_is_ask_of_two (T : Txt K mg) : FF P w K mg base Phi 6 st_is_ask_of_two ["word", "value", "other"] "is_ask_of_two" 108 := by
  obtain ⟨f, fd, hg, F⟩ := T.f_is_ask_of_two
  exact ff_of (lv := 5) F hg sc_is_ask_of_two rfl rfl (glo ((fa ((ff_is_fraction T).g (by decide)) (fa ((ff_is_place T).g (by decide)) (fa ((ff_is_below T).g (by decide)) (fa ((ff_distance_of T).g (by decide)) fn0))))) (fn0) (fn0) (fn0) (fn0)) c_is_ask_of_two (fun _ _ _ _ _ _ us hl => match us, hl with | [_, _, _], _ => rfl) (fun ds Q h => len_is_ask_of_two h) (fun ds Q h => sem_is_ask_of_two_ ds Q h)
theorem ff_is_above_zero (T : Txt K mg) : FF P w K mg base Phi 3 st_is_above_zero ["value"] "is_above_zero" 109 := by
  obtain ⟨f, fd, hg, F⟩ := T.f_is_above_zero
  exact ff_of (lv := 2) F hg sc_is_above_zero rfl rfl (glo ((fa ((ff_is_fraction T).g (by decide)) fn0)) (fn0) (fn0) (fn0) (fn0)) c_is_above_zero (fun _ _ _ _ _ _ us hl => match us, hl with | [_], _ => rfl) (fun ds Q h => len_is_above_zero h) (fun ds Q h => sem_is_above_zero_ ds Q h)
theorem ff_is_ask_of_one (T : Txt K mg) : FF P w K mg base Phi 4 st_is_ask_of_one ["word", "value"] "is_ask_of_one" 110 := by
  obtain ⟨f, fd, hg, F⟩ := T.f_is_ask_of_one
  exact ff_of (lv := 3) F hg sc_is_ask_of_one rfl rfl (glo ((fa ((ff_is_place T).g (by decide)) (fa ((ff_is_above_zero T).g (by decide)) fn0))) (fn0) (fn0) (fn0) (fn0)) c_is_ask_of_one (fun _ _ _ _ _ _ us hl => match us, hl with | [_, _], _ => rfl) (fun ds Q h => len_is_ask_of_one h) (fun ds Q h => sem_is_ask_of_one_ ds Q h)
theorem ff_is_ask (T : Txt K mg) : FF P w K mg base Phi 7 st_is_ask ["value"] "is_ask" 111 := by
  obtain ⟨f, fd, hg, F⟩ := T.f_is_ask
  exact ff_of (lv := 6) F hg sc_is_ask rfl rfl (glo ((fa ((ff_is_ask_of_two T).g (by decide)) (fa ((ff_is_ask_of_one T).g (by decide)) fn0))) (fn0) (fn0) ((fa T.b_len (fa T.b_isinstance (fa T.b_tuple (fa T.b_str fn0))))) (fn0)) c_is_ask (fun _ _ _ _ _ _ us hl => match us, hl with | [_], _ => rfl) (fun ds Q h => len_is_ask h) (fun ds Q h => sem_is_ask_ ds Q h)
theorem ff_check_ask (T : Txt K mg) : FF P w K mg base Phi 8 st_check_ask ["value"] "check_ask" 117 := by
  obtain ⟨f, fd, hg, F⟩ := T.f_check_ask
  exact ff_of (lv := 7) F hg sc_check_ask rfl rfl (glo ((fa ((ff_is_ask T).g (by decide)) fn0)) (fn0) (fn0) (fn0) (fn0)) c_check_ask (fun _ _ _ _ _ _ us hl => match us, hl with | [_], _ => rfl) (fun ds Q h => len_check_ask h) (fun ds Q h => sem_check_ask_ ds Q h)
theorem ff_kind_of (T : Txt K mg) : FF P w K mg base Phi 1 st_kind_of ["ask"] "kind_of" 118 := by
  obtain ⟨f, fd, hg, F⟩ := T.f_kind_of
  exact ff_of (lv := 0) F hg sc_kind_of rfl rfl (glo (fn0) (fn0) (fn0) (fn0) ((fa T.g_ZERO fn0))) c_kind_of (fun _ _ _ _ _ _ us hl => match us, hl with | [_], _ => rfl) (fun ds Q h => len_kind_of h) (fun ds Q h => sem_kind_of_ ds Q h)
theorem ff_quotient (T : Txt K mg) : FF P w K mg base Phi 2 st_quotient ["one", "other"] "quotient" 82 := by
  obtain ⟨f, fd, hg, F⟩ := T.f_quotient
  exact ff_of (lv := 1) F hg sc_quotient rfl rfl (glo ((fa ((ff_reduced T).g (by decide)) fn0)) (fn0) (fn0) (fn0) (fn0)) c_quotient (fun _ _ _ _ _ _ us hl => match us, hl with | [_, _], _ => rfl) (fun ds Q h => len_quotient h) (fun ds Q h => sem_quotient_ ds Q h)
theorem ff_height_of (T : Txt K mg) : FF P w K mg base Phi 5 st_height_of ["place"] "height_of" 35 := by
  obtain ⟨f, fd, hg, F⟩ := T.f_height_of
  exact ff_of (lv := 4) F hg sc_height_of rfl rfl (glo ((fa ((ff_check_place T).g (by decide)) (fa ((ff_reduced T).g (by decide)) fn0))) (fn0) (fn0) (fn0) (fn0)) c_height_of (fun _ _ _ _ _ _ us hl => match us, hl with | [_], _ => rfl) (fun ds Q h => len_height_of h) (fun ds Q h => sem_height_of_ ds Q h)
theorem ff_minus (T : Txt K mg) : FF P w K mg base Phi 2 st_minus ["one", "other"] "minus" 65 := by
  obtain ⟨f, fd, hg, F⟩ := T.f_minus
  exact ff_of (lv := 1) F hg sc_minus rfl rfl (glo ((fa ((ff_reduced T).g (by decide)) fn0)) (fn0) (fn0) (fn0) (fn0)) c_minus (fun _ _ _ _ _ _ us hl => match us, hl with | [_, _], _ => rfl) (fun ds Q h => len_minus h) (fun ds Q h => sem_minus_ ds Q h)
theorem ff_times (T : Txt K mg) : FF P w K mg base Phi 2 st_times ["one", "other"] "times" 51 := by
  obtain ⟨f, fd, hg, F⟩ := T.f_times
  exact ff_of (lv := 1) F hg sc_times rfl rfl (glo ((fa ((ff_reduced T).g (by decide)) fn0)) (fn0) (fn0) (fn0) (fn0)) c_times (fun _ _ _ _ _ _ us hl => match us, hl with | [_, _], _ => rfl) (fun ds Q h => len_times h) (fun ds Q h => sem_times_ ds Q h)
theorem ff_straight_way (T : Txt K mg) : FF P w K mg base Phi 6 st_straight_way ["place", "other"] "straight_way" 119 := by
  obtain ⟨f, fd, hg, F⟩ := T.f_straight_way
  exact ff_of (lv := 5) F hg sc_straight_way rfl rfl (glo ((fa ((ff_quotient T).g (by decide)) (fa ((ff_distance_of T).g (by decide)) (fa ((ff_height_of T).g (by decide)) (fa ((ff_minus T).g (by decide)) (fa ((ff_times T).g (by decide)) fn0)))))) (fn0) (fn0) (fn0) (fn0)) c_straight_way (fun _ _ _ _ _ _ us hl => match us, hl with | [_, _], _ => rfl) (fun ds Q h => len_straight_way h) (fun ds Q h => sem_straight_way_ ds Q h)
theorem ff_negative (T : Txt K mg) : FF P w K mg base Phi 1 st_negative ["fraction"] "negative" 76 := by
  obtain ⟨f, fd, hg, F⟩ := T.f_negative
  exact ff_of (lv := 0) F hg sc_negative rfl rfl (glo (fn0) (fn0) (fn0) (fn0) (fn0)) c_negative (fun _ _ _ _ _ _ us hl => match us, hl with | [_], _ => rfl) (fun ds Q h => len_negative h) (fun ds Q h => sem_negative_ ds Q h)
theorem ff_line_at (T : Txt K mg) : FF P w K mg base Phi 3 st_line_at ["distance", "height"] "line_at" 120 := by
  obtain ⟨f, fd, hg, F⟩ := T.f_line_at
  exact ff_of (lv := 2) F hg sc_line_at rfl rfl (glo ((fa ((ff_negative T).g (by decide)) (fa ((ff_quotient T).g (by decide)) (fa ((ff_times T).g (by decide)) fn0)))) (fn0) (fn0) (fn0) ((fa T.g_ZERO (fa T.g_ONE fn0)))) c_line_at (fun _ _ _ _ _ _ us hl => match us, hl with | [_, _], _ => rfl) (fun ds Q h => len_line_at h) (fun ds Q h => sem_line_at_ ds Q h)
theorem ff_plus (T : Txt K mg) : FF P w K mg base Phi 2 st_plus ["one", "other"] "plus" 48 := by
  obtain ⟨f, fd, hg, F⟩ := T.f_plus
  exact ff_of (lv := 1) F hg sc_plus rfl rfl (glo ((fa ((ff_reduced T).g (by decide)) fn0)) (fn0) (fn0) (fn0) (fn0)) c_plus (fun _ _ _ _ _ _ us hl => match us, hl with | [_, _], _ => rfl) (fun ds Q h => len_plus h) (fun ds Q h => sem_plus_ ds Q h)
theorem ff_roof_parts (T : Txt K mg) : FF P w K mg base Phi 7 st_roof_parts ["near_place", "far_place"] "roof_parts" 121 := by
  obtain ⟨f, fd, hg, F⟩ := T.f_roof_parts
  exact ff_of (lv := 6) F hg sc_roof_parts rfl rfl (glo ((fa ((ff_straight_way T).g (by decide)) (fa ((ff_line_at T).g (by decide)) (fa ((ff_times T).g (by decide)) (fa ((ff_quotient T).g (by decide)) (fa ((ff_distance_of T).g (by decide)) (fa ((ff_height_of T).g (by decide)) (fa ((ff_plus T).g (by decide)) (fa ((ff_negative T).g (by decide)) fn0))))))))) (fn0) (fn0) (fn0) ((fa T.g_ONE fn0))) c_roof_parts (fun _ _ _ _ _ _ us hl => match us, hl with | [_, _], _ => rfl) (fun ds Q h => len_roof_parts h) (fun ds Q h => sem_roof_parts_ ds Q h)
theorem ff_low_parts (T : Txt K mg) : FF P w K mg base Phi 3 st_low_parts ["height"] "low_parts" 122 := by
  obtain ⟨f, fd, hg, F⟩ := T.f_low_parts
  exact ff_of (lv := 2) F hg sc_low_parts rfl rfl (glo ((fa ((ff_quotient T).g (by decide)) fn0)) (fn0) (fn0) (fn0) ((fa T.g_ZERO (fa T.g_NOUGHT fn0)))) c_low_parts (fun _ _ _ _ _ _ us hl => match us, hl with | [_], _ => rfl) (fun ds Q h => len_low_parts h) (fun ds Q h => sem_low_parts_ ds Q h)
theorem ff_parts_of (T : Txt K mg) : FF P w K mg base Phi 8 st_parts_of ["ask"] "parts_of" 123 := by
  obtain ⟨f, fd, hg, F⟩ := T.f_parts_of
  exact ff_of (lv := 7) F hg sc_parts_of rfl rfl (glo ((fa ((ff_roof_parts T).g (by decide)) (fa ((ff_low_parts T).g (by decide)) (fa ((ff_line_at T).g (by decide)) (fa ((ff_distance_of T).g (by decide)) (fa ((ff_height_of T).g (by decide)) (fa ((ff_quotient T).g (by decide)) (fa ((ff_negative T).g (by decide)) (fa ((ff_times T).g (by decide)) fn0))))))))) (fn0) (fn0) (fn0) ((fa T.g_ZERO fn0))) c_parts_of (fun _ _ _ _ _ _ us hl => match us, hl with | [_], _ => rfl) (fun ds Q h => len_parts_of h) (fun ds Q h => sem_parts_of_ ds Q h)
theorem ff_value_at (T : Txt K mg) : FF P w K mg base Phi 3 st_value_at ["polynomial", "number"] "value_at" 75 := by
  obtain ⟨f, fd, hg, F⟩ := T.f_value_at
  exact ff_of (lv := 2) F hg sc_value_at rfl rfl (glo ((fa ((ff_plus T).g (by decide)) (fa ((ff_times T).g (by decide)) fn0))) (fn0) (fn0) (fn0) (fn0)) c_value_at (fun _ _ _ _ _ _ us hl => match us, hl with | [_, _], _ => rfl) (fun ds Q h => len_value_at h) (fun ds Q h => sem_value_at_ ds Q h)
theorem ff_bound_value (T : Txt K mg) : FF P w K mg base Phi 9 st_bound_value ["ask", "slope"] "bound_value" 124 := by
  obtain ⟨f, fd, hg, F⟩ := T.f_bound_value
  exact ff_of (lv := 8) F hg sc_bound_value rfl rfl (glo ((fa ((ff_parts_of T).g (by decide)) (fa ((ff_value_at T).g (by decide)) (fa ((ff_is_below T).g (by decide)) fn0)))) (fn0) (fn0) (fn0) (fn0)) c_bound_value (fun _ _ _ _ _ _ us hl => match us, hl with | [_, _], _ => rfl) (fun ds Q h => len_bound_value h) (fun ds Q h => sem_bound_value_ ds Q h)
theorem ff_keeps_upright (T : Txt K mg) : FF P w K mg base Phi 2 st_keeps_upright ["ask", "slope"] "keeps_upright" 125 := by
  obtain ⟨f, fd, hg, F⟩ := T.f_keeps_upright
  exact ff_of (lv := 1) F hg sc_keeps_upright rfl rfl (glo ((fa ((ff_is_below T).g (by decide)) fn0)) (fn0) (fn0) (fn0) (fn0)) c_keeps_upright (fun _ _ _ _ _ _ us hl => match us, hl with | [_, _], _ => rfl) (fun ds Q h => len_keeps_upright h) (fun ds Q h => sem_keeps_upright_ ds Q h)
theorem ff_keeps (T : Txt K mg) : FF P w K mg base Phi 10 st_keeps ["jet", "ask"] "keeps" 126 := by
  obtain ⟨f, fd, hg, F⟩ := T.f_keeps
  exact ff_of (lv := 9) F hg sc_keeps rfl rfl (glo ((fa ((ff_kind_of T).g (by decide)) (fa ((ff_bound_value T).g (by decide)) (fa ((ff_keeps_upright T).g (by decide)) (fa ((ff_is_below T).g (by decide)) fn0))))) (fn0) (fn0) (fn0) (fn0)) c_keeps (fun _ _ _ _ _ _ us hl => match us, hl with | [_, _], _ => rfl) (fun ds Q h => len_keeps h) (fun ds Q h => sem_keeps_ ds Q h)
theorem ff_does (T : Txt K mg) : FF P w K mg base Phi 11 st_does ["jet", "ask"] "does" 127 := by
  obtain ⟨f, fd, hg, F⟩ := T.f_does
  exact ff_of (lv := 10) F hg sc_does rfl rfl (glo ((fa ((ff_check_jet T).g (by decide)) (fa ((ff_check_ask T).g (by decide)) (fa ((ff_keeps T).g (by decide)) fn0)))) (fn0) (fn0) (fn0) (fn0)) c_does (fun _ _ _ _ _ _ us hl => match us, hl with | [_, _], _ => rfl) (fun ds Q h => len_does h) (fun ds Q h => sem_does_ ds Q h)
theorem ff_check_fraction (T : Txt K mg) : FF P w K mg base Phi 3 st_check_fraction ["value"] "check_fraction" 13 := by
  obtain ⟨f, fd, hg, F⟩ := T.f_check_fraction
  exact ff_of (lv := 2) F hg sc_check_fraction rfl rfl (glo ((fa ((ff_is_fraction T).g (by decide)) fn0)) (fn0) (fn0) (fn0) (fn0)) c_check_fraction (fun _ _ _ _ _ _ us hl => match us, hl with | [_], _ => rfl) (fun ds Q h => len_check_fraction h) (fun ds Q h => sem_check_fraction_ ds Q h)
theorem ff_bound_at (T : Txt K mg) : FF P w K mg base Phi 10 st_bound_at ["ask", "slope"] "bound_at" 136 := by
  obtain ⟨f, fd, hg, F⟩ := T.f_bound_at
  exact ff_of (lv := 9) F hg sc_bound_at rfl rfl (glo ((fa ((ff_check_ask T).g (by decide)) (fa ((ff_check_fraction T).g (by decide)) (fa ((ff_kind_of T).g (by decide)) (fa ((ff_bound_value T).g (by decide)) (fa ((ff_keeps_upright T).g (by decide)) fn0)))))) (fn0) (fn0) (fn0) (fn0)) c_bound_at (fun _ _ _ _ _ _ us hl => match us, hl with | [_, _], _ => rfl) (fun ds Q h => len_bound_at h) (fun ds Q h => sem_bound_at_ ds Q h)
theorem ff_Lright (T : Txt K mg) : FF P w K mg base Phi 12 st_Lright ["_law_vat_here"] "_law_right" 36 := by
  obtain ⟨f, fd, hg, F⟩ := T.f_Lright
  exact ff_of (lv := 11) F hg sc_Lright rfl rfl (glo ((fa ((ff_Lall_words T).g (by decide)) (fa ((ff_Lfrac T).g (by decide)) (fa ((ff_Lsize T).g (by decide)) (fa ((ff_Lbound T).g (by decide)) (fa ((ff_Lask T).g (by decide)) (fa ((ff_Lsome_frac T).g (by decide)) (fa ((ff_Ldraw T).g (by decide)) (fa ((ff_does T).g (by decide)) (fa ((ff_bound_at T).g (by decide)) (fa ((ff_Ladd T).g (by decide)) (fa ((ff_Lsub T).g (by decide)) fn0)))))))))))) ((fa ((ff_bound_at T).k (by decide) rfl fun _ _ _ _ _ _ us ws h1 h2 => match us, ws, h1, h2 with | [], [_, _], _, _ => rfl) fn0)) (fn0) ((fa T.b_repr fn0)) (fn0)) c_Lright (fun _ _ _ _ _ _ us hl => match us, hl with | [_], _ => rfl) (fun ds Q h => len_Lright h) (fun ds Q h => sem_Lright_ ds Q h)
theorem ff_Lvat (T : Txt K mg) : FF P w K mg base Phi 1 st_Lvat ["_law_script", "_law_lap"] "_law_vat" 37 := by
  obtain ⟨f, fd, hg, F⟩ := T.f_Lvat
  exact ff_of (lv := 0) F hg sc_Lvat rfl rfl (glo (fn0) (fn0) (fn0) ((fa T.b_int (fa T.b_len (fa T.b_abs (fa T.b_sum fn0))))) (fn0)) c_Lvat (fun _ _ _ _ _ _ us hl => match us, hl with | [_, _], _ => rfl) (fun ds Q h => len_Lvat h) (fun ds Q h => sem_Lvat_ ds Q h)
theorem ff_law (T : Txt K mg) : FF P w K mg base Phi 13 st_law ["_law_script"] "law" 38 := by
  obtain ⟨f, fd, hg, F⟩ := T.f_law
  exact ff_of (lv := 12) F hg sc_law rfl rfl (glo ((fa ((ff_Lright T).g (by decide)) (fa ((ff_Lvat T).g (by decide)) fn0))) (fn0) (fn0) ((fa T.b_all (fa T.b_range (fa T.b_max (fa T.b_min (fa T.b_len fn0)))))) (fn0)) c_law (fun _ _ _ _ _ _ us hl => match us, hl with | [_], _ => rfl) (fun ds Q h => len_law h) (fun ds Q h => sem_law_ ds Q h)
end
theorem all_mk {P : Program} {w : World} {K : Fg} {h : Heap} {mg : Str → Option Value} {fa : Addr} (X : K.In h) (G : h.Ns mainGlobals mg) (hfa : mg "law" = some (.ref fa))
  {f0 f1 f2 f3 f4 f5 f6 f7 f8 f9 f10 f11 f12 f13 f14 f15 f16 f17 f18 f19 f20 f21 f22 f23 f24 f25 f26 f27 f28 f29 f30 f31 f32 f33 f34 f35 f36 f37 f38 f39 f40 f41 f42 f43 f44 f45 f46 f47 f48 f49 f50 f51 f52 f53 f54 f55 f56 f57 : Addr} {od0 an0 od1 an1 od2 an2 od3 an3 od4 an4 od5 an5 od6 an6 od7 an7 od8 an8 od9 an9 od10 an10 od11 an11 od12 an12 od13 an13 od14 an14 od15 an15 od16 an16 od17 an17 od18 an18 od19 an19 od20 an20 od21 an21 od22 an22 od23 an23 od24 an24 od25 an25 od26 an26 od27 an27 od28 an28 od29 an29 od30 an30 od31 an31 od32 an32 od33 an33 od34 an34 od35 an35 od36 an36 od37 an37 od38 an38 od39 an39 od40 an40 od41 an41 od42 an42 od43 an43 od44 an44 od45 an45 od46 an46 od47 an47 od48 an48 od49 an49 od50 an50 od51 an51 od52 an52 od53 an53 od54 an54 od55 an55 od56 an56 od57 an57 : Option Addr} {sl0 sl1 sl2 sl3 sl4 sl5 sl6 sl7 sl8 sl9 sl10 sl11 sl12 sl13 sl14 sl15 sl16 sl17 sl18 sl19 sl20 sl21 sl22 sl23 sl24 sl25 sl26 sl27 sl28 sl29 sl30 sl31 sl32 sl33 sl34 sl35 sl36 sl37 sl38 sl39 sl40 sl41 sl42 sl43 sl44 sl45 sl46 sl47 sl48 sl49 sl50 sl51 sl52 sl53 sl54 sl55 sl56 sl57 : Array (Option Value)} {oc0 kV0 dc0 pm0 cd0 ct0 oc1 kV1 dc1 pm1 cd1 ct1 oc2 kV2 dc2 pm2 cd2 ct2 oc3 kV3 dc3 pm3 cd3 ct3 oc4 kV4 dc4 pm4 cd4 ct4 oc5 kV5 dc5 pm5 cd5 ct5 oc6 kV6 dc6 pm6 cd6 ct6 oc7 kV7 dc7 pm7 cd7 ct7 oc8 kV8 dc8 pm8 cd8 ct8 oc9 kV9 dc9 pm9 cd9 ct9 oc10 kV10 dc10 pm10 cd10 ct10 oc11 kV11 dc11 pm11 cd11 ct11 oc12 kV12 dc12 pm12 cd12 ct12 oc13 kV13 dc13 pm13 cd13 ct13 oc14 kV14 dc14 pm14 cd14 ct14 oc15 kV15 dc15 pm15 cd15 ct15 oc16 kV16 dc16 pm16 cd16 ct16 oc17 kV17 dc17 pm17 cd17 ct17 oc18 kV18 dc18 pm18 cd18 ct18 oc19 kV19 dc19 pm19 cd19 ct19 oc20 kV20 dc20 pm20 cd20 ct20 oc21 kV21 dc21 pm21 cd21 ct21 oc22 kV22 dc22 pm22 cd22 ct22 oc23 kV23 dc23 pm23 cd23 ct23 oc24 kV24 dc24 pm24 cd24 ct24 oc25 kV25 dc25 pm25 cd25 ct25 oc26 kV26 dc26 pm26 cd26 ct26 oc27 kV27 dc27 pm27 cd27 ct27 oc28 kV28 dc28 pm28 cd28 ct28 oc29 kV29 dc29 pm29 cd29 ct29 oc30 kV30 dc30 pm30 cd30 ct30 oc31 kV31 dc31 pm31 cd31 ct31 oc32 kV32 dc32 pm32 cd32 ct32 oc33 kV33 dc33 pm33 cd33 ct33 oc34 kV34 dc34 pm34 cd34 ct34 oc35 kV35 dc35 pm35 cd35 ct35 oc36 kV36 dc36 pm36 cd36 ct36 oc37 kV37 dc37 pm37 cd37 ct37 oc38 kV38 dc38 pm38 cd38 ct38 oc39 kV39 dc39 pm39 cd39 ct39 oc40 kV40 dc40 pm40 cd40 ct40 oc41 kV41 dc41 pm41 cd41 ct41 oc42 kV42 dc42 pm42 cd42 ct42 oc43 kV43 dc43 pm43 cd43 ct43 oc44 kV44 dc44 pm44 cd44 ct44 oc45 kV45 dc45 pm45 cd45 ct45 oc46 kV46 dc46 pm46 cd46 ct46 oc47 kV47 dc47 pm47 cd47 ct47 oc48 kV48 dc48 pm48 cd48 ct48 oc49 kV49 dc49 pm49 cd49 ct49 oc50 kV50 dc50 pm50 cd50 ct50 oc51 kV51 dc51 pm51 cd51 ct51 oc52 kV52 dc52 pm52 cd52 ct52 oc53 kV53 dc53 pm53 cd53 ct53 oc54 kV54 dc54 pm54 cd54 ct54 oc55 kV55 dc55 pm55 cd55 ct55 oc56 kV56 dc56 pm56 cd56 ct56 oc57 kV57 dc57 pm57 cd57 ct57 : Value} {tk1 : Tok} {tk2 : Tok} {gA3 : Addr} {gD3 : Option Addr} {gN3 : Nat} {gS3 : Array (Option Value)} {tk4 : Tok} {tk5 : Tok} {gA6 : Addr} {gD6 : Option Addr} {gN6 : Nat} {gS6 : Array (Option Value)} {tk7 : Tok} {tk8 : Tok} {gA9 : Addr} {gD9 : Option Addr} {gN9 : Nat} {gS9 : Array (Option Value)} {tk10 : Tok} {tk11 : Tok} {gA12 : Addr} {gD12 : Option Addr} {gN12 : Nat} {gS12 : Array (Option Value)} {tk13 : Tok} {tk14 : Tok} {gA15 : Addr} {gD15 : Option Addr} {gN15 : Nat} {gS15 : Array (Option Value)} {gA16 : Addr} {gD16 : Option Addr} {gN16 : Nat} {gS16 : Array (Option Value)}
  (a0 : PySem.W.nsIn K mainGlobals "_law_all_words" = some (some (.ref f0))) (l0 : K.lookup f0 = some ⟨oc0, od0, .func (PySem.W.fnOf "_law_all_words" "_law_all_words" (defArgs st_Lall_words) (defBody st_Lall_words) (defScope st_Lall_words) .none kV0 dc0 pm0 an0 cd0 ct0), sl0⟩) (c0 : PySem.W.codeIn K cd0 "_law_all_words" = true) (k0 : PySem.W.keepIn K (.ref f0) = true)
  (a1 : PySem.W.nsIn K mainGlobals "_law_gcd" = some (some (.ref f1))) (l1 : K.lookup f1 = some ⟨oc1, od1, .func (PySem.W.fnOf "_law_gcd" "_law_gcd" (defArgs st_Lgcd) (defBody st_Lgcd) (defScope st_Lgcd) .none kV1 dc1 pm1 an1 cd1 ct1), sl1⟩) (c1 : PySem.W.codeIn K cd1 "_law_gcd" = true) (k1 : PySem.W.keepIn K (.ref f1) = true)
  (a2 : PySem.W.nsIn K mainGlobals "_law_low" = some (some (.ref f2))) (l2 : K.lookup f2 = some ⟨oc2, od2, .func (PySem.W.fnOf "_law_low" "_law_low" (defArgs st_Llow) (defBody st_Llow) (defScope st_Llow) .none kV2 dc2 pm2 an2 cd2 ct2), sl2⟩) (c2 : PySem.W.codeIn K cd2 "_law_low" = true) (k2 : PySem.W.keepIn K (.ref f2) = true)
  (a3 : PySem.W.nsIn K mainGlobals "_law_frac" = some (some (.ref f3))) (l3 : K.lookup f3 = some ⟨oc3, od3, .func (PySem.W.fnOf "_law_frac" "_law_frac" (defArgs st_Lfrac) (defBody st_Lfrac) (defScope st_Lfrac) .none kV3 dc3 pm3 an3 cd3 ct3), sl3⟩) (c3 : PySem.W.codeIn K cd3 "_law_frac" = true) (k3 : PySem.W.keepIn K (.ref f3) = true)
  (a4 : PySem.W.nsIn K mainGlobals "_law_draw" = some (some (.ref f4))) (l4 : K.lookup f4 = some ⟨oc4, od4, .func (PySem.W.fnOf "_law_draw" "_law_draw" (defArgs st_Ldraw) (defBody st_Ldraw) (defScope st_Ldraw) .none kV4 dc4 pm4 an4 cd4 ct4), sl4⟩) (c4 : PySem.W.codeIn K cd4 "_law_draw" = true) (k4 : PySem.W.keepIn K (.ref f4) = true)
  (a5 : PySem.W.nsIn K mainGlobals "_law_pick" = some (some (.ref f5))) (l5 : K.lookup f5 = some ⟨oc5, od5, .func (PySem.W.fnOf "_law_pick" "_law_pick" (defArgs st_Lpick) (defBody st_Lpick) (defScope st_Lpick) .none kV5 dc5 pm5 an5 cd5 ct5), sl5⟩) (c5 : PySem.W.codeIn K cd5 "_law_pick" = true) (k5 : PySem.W.keepIn K (.ref f5) = true)
  (a6 : PySem.W.nsIn K mainGlobals "_law_size" = some (some (.ref f6))) (l6 : K.lookup f6 = some ⟨oc6, od6, .func (PySem.W.fnOf "_law_size" "_law_size" (defArgs st_Lsize) (defBody st_Lsize) (defScope st_Lsize) .none kV6 dc6 pm6 an6 cd6 ct6), sl6⟩) (c6 : PySem.W.codeIn K cd6 "_law_size" = true) (k6 : PySem.W.keepIn K (.ref f6) = true)
  (a7 : PySem.W.nsIn K mainGlobals "_law_div" = some (some (.ref f7))) (l7 : K.lookup f7 = some ⟨oc7, od7, .func (PySem.W.fnOf "_law_div" "_law_div" (defArgs st_Ldiv) (defBody st_Ldiv) (defScope st_Ldiv) .none kV7 dc7 pm7 an7 cd7 ct7), sl7⟩) (c7 : PySem.W.codeIn K cd7 "_law_div" = true) (k7 : PySem.W.keepIn K (.ref f7) = true)
  (a8 : PySem.W.nsIn K mainGlobals "_law_sub" = some (some (.ref f8))) (l8 : K.lookup f8 = some ⟨oc8, od8, .func (PySem.W.fnOf "_law_sub" "_law_sub" (defArgs st_Lsub) (defBody st_Lsub) (defScope st_Lsub) .none kV8 dc8 pm8 an8 cd8 ct8), sl8⟩) (c8 : PySem.W.codeIn K cd8 "_law_sub" = true) (k8 : PySem.W.keepIn K (.ref f8) = true)
  (a9 : PySem.W.nsIn K mainGlobals "_law_far" = some (some (.ref f9))) (l9 : K.lookup f9 = some ⟨oc9, od9, .func (PySem.W.fnOf "_law_far" "_law_far" (defArgs st_Lfar) (defBody st_Lfar) (defScope st_Lfar) .none kV9 dc9 pm9 an9 cd9 ct9), sl9⟩) (c9 : PySem.W.codeIn K cd9 "_law_far" = true) (k9 : PySem.W.keepIn K (.ref f9) = true)
  (a10 : PySem.W.nsIn K mainGlobals "_law_high" = some (some (.ref f10))) (l10 : K.lookup f10 = some ⟨oc10, od10, .func (PySem.W.fnOf "_law_high" "_law_high" (defArgs st_Lhigh) (defBody st_Lhigh) (defScope st_Lhigh) .none kV10 dc10 pm10 an10 cd10 ct10), sl10⟩) (c10 : PySem.W.codeIn K cd10 "_law_high" = true) (k10 : PySem.W.keepIn K (.ref f10) = true)
  (a11 : PySem.W.nsIn K mainGlobals "_law_mul" = some (some (.ref f11))) (l11 : K.lookup f11 = some ⟨oc11, od11, .func (PySem.W.fnOf "_law_mul" "_law_mul" (defArgs st_Lmul) (defBody st_Lmul) (defScope st_Lmul) .none kV11 dc11 pm11 an11 cd11 ct11), sl11⟩) (c11 : PySem.W.codeIn K cd11 "_law_mul" = true) (k11 : PySem.W.keepIn K (.ref f11) = true)
  (a12 : PySem.W.nsIn K mainGlobals "_law_less" = some (some (.ref f12))) (l12 : K.lookup f12 = some ⟨oc12, od12, .func (PySem.W.fnOf "_law_less" "_law_less" (defArgs st_Lless) (defBody st_Lless) (defScope st_Lless) .none kV12 dc12 pm12 an12 cd12 ct12), sl12⟩) (c12 : PySem.W.codeIn K cd12 "_law_less" = true) (k12 : PySem.W.keepIn K (.ref f12) = true)
  (a13 : PySem.W.nsIn K mainGlobals "_law_bound" = some (some (.ref f13))) (l13 : K.lookup f13 = some ⟨oc13, od13, .func (PySem.W.fnOf "_law_bound" "_law_bound" (defArgs st_Lbound) (defBody st_Lbound) (defScope st_Lbound) .none kV13 dc13 pm13 an13 cd13 ct13), sl13⟩) (c13 : PySem.W.codeIn K cd13 "_law_bound" = true) (k13 : PySem.W.keepIn K (.ref f13) = true)
  (a14 : PySem.W.nsIn K mainGlobals "_law_spot" = some (some (.ref f14))) (l14 : K.lookup f14 = some ⟨oc14, od14, .func (PySem.W.fnOf "_law_spot" "_law_spot" (defArgs st_Lspot) (defBody st_Lspot) (defScope st_Lspot) .none kV14 dc14 pm14 an14 cd14 ct14), sl14⟩) (c14 : PySem.W.codeIn K cd14 "_law_spot" = true) (k14 : PySem.W.keepIn K (.ref f14) = true)
  (a15 : PySem.W.nsIn K mainGlobals "_law_about" = some (some (.ref f15))) (l15 : K.lookup f15 = some ⟨oc15, od15, .func (PySem.W.fnOf "_law_about" "_law_about" (defArgs st_Labout) (defBody st_Labout) (defScope st_Labout) .none kV15 dc15 pm15 an15 cd15 ct15), sl15⟩) (c15 : PySem.W.codeIn K cd15 "_law_about" = true) (k15 : PySem.W.keepIn K (.ref f15) = true)
  (a16 : PySem.W.nsIn K mainGlobals "_law_above" = some (some (.ref f16))) (l16 : K.lookup f16 = some ⟨oc16, od16, .func (PySem.W.fnOf "_law_above" "_law_above" (defArgs st_Labove) (defBody st_Labove) (defScope st_Labove) .none kV16 dc16 pm16 an16 cd16 ct16), sl16⟩) (c16 : PySem.W.codeIn K cd16 "_law_above" = true) (k16 : PySem.W.keepIn K (.ref f16) = true)
  (a17 : PySem.W.nsIn K mainGlobals "_law_some_frac" = some (some (.ref f17))) (l17 : K.lookup f17 = some ⟨oc17, od17, .func (PySem.W.fnOf "_law_some_frac" "_law_some_frac" (defArgs st_Lsome_frac) (defBody st_Lsome_frac) (defScope st_Lsome_frac) .none kV17 dc17 pm17 an17 cd17 ct17), sl17⟩) (c17 : PySem.W.codeIn K cd17 "_law_some_frac" = true) (k17 : PySem.W.keepIn K (.ref f17) = true)
  (a18 : PySem.W.nsIn K mainGlobals "_law_place" = some (some (.ref f18))) (l18 : K.lookup f18 = some ⟨oc18, od18, .func (PySem.W.fnOf "_law_place" "_law_place" (defArgs st_Lplace) (defBody st_Lplace) (defScope st_Lplace) .none kV18 dc18 pm18 an18 cd18 ct18), sl18⟩) (c18 : PySem.W.codeIn K cd18 "_law_place" = true) (k18 : PySem.W.keepIn K (.ref f18) = true)
  (a19 : PySem.W.nsIn K mainGlobals "_law_add" = some (some (.ref f19))) (l19 : K.lookup f19 = some ⟨oc19, od19, .func (PySem.W.fnOf "_law_add" "_law_add" (defArgs st_Ladd) (defBody st_Ladd) (defScope st_Ladd) .none kV19 dc19 pm19 an19 cd19 ct19), sl19⟩) (c19 : PySem.W.codeIn K cd19 "_law_add" = true) (k19 : PySem.W.keepIn K (.ref f19) = true)
  (a20 : PySem.W.nsIn K mainGlobals "_law_ask" = some (some (.ref f20))) (l20 : K.lookup f20 = some ⟨oc20, od20, .func (PySem.W.fnOf "_law_ask" "_law_ask" (defArgs st_Lask) (defBody st_Lask) (defScope st_Lask) .none kV20 dc20 pm20 an20 cd20 ct20), sl20⟩) (c20 : PySem.W.codeIn K cd20 "_law_ask" = true) (k20 : PySem.W.keepIn K (.ref f20) = true)
  (a21 : PySem.W.nsIn K mainGlobals "is_whole" = some (some (.ref f21))) (l21 : K.lookup f21 = some ⟨oc21, od21, .func (PySem.W.fnOf "is_whole" "is_whole" (defArgs st_is_whole) (defBody st_is_whole) (defScope st_is_whole) .none kV21 dc21 pm21 an21 cd21 ct21), sl21⟩) (c21 : PySem.W.codeIn K cd21 "is_whole" = true) (k21 : PySem.W.keepIn K (.ref f21) = true)
  (a22 : PySem.W.nsIn K mainGlobals "is_fraction" = some (some (.ref f22))) (l22 : K.lookup f22 = some ⟨oc22, od22, .func (PySem.W.fnOf "is_fraction" "is_fraction" (defArgs st_is_fraction) (defBody st_is_fraction) (defScope st_is_fraction) .none kV22 dc22 pm22 an22 cd22 ct22), sl22⟩) (c22 : PySem.W.codeIn K cd22 "is_fraction" = true) (k22 : PySem.W.keepIn K (.ref f22) = true)
  (a23 : PySem.W.nsIn K mainGlobals "is_jet" = some (some (.ref f23))) (l23 : K.lookup f23 = some ⟨oc23, od23, .func (PySem.W.fnOf "is_jet" "is_jet" (defArgs st_is_jet) (defBody st_is_jet) (defScope st_is_jet) .none kV23 dc23 pm23 an23 cd23 ct23), sl23⟩) (c23 : PySem.W.codeIn K cd23 "is_jet" = true) (k23 : PySem.W.keepIn K (.ref f23) = true)
  (a24 : PySem.W.nsIn K mainGlobals "check_jet" = some (some (.ref f24))) (l24 : K.lookup f24 = some ⟨oc24, od24, .func (PySem.W.fnOf "check_jet" "check_jet" (defArgs st_check_jet) (defBody st_check_jet) (defScope st_check_jet) .none kV24 dc24 pm24 an24 cd24 ct24), sl24⟩) (c24 : PySem.W.codeIn K cd24 "check_jet" = true) (k24 : PySem.W.keepIn K (.ref f24) = true)
  (a25 : PySem.W.nsIn K mainGlobals "is_point" = some (some (.ref f25))) (l25 : K.lookup f25 = some ⟨oc25, od25, .func (PySem.W.fnOf "is_point" "is_point" (defArgs st_is_point) (defBody st_is_point) (defScope st_is_point) .none kV25 dc25 pm25 an25 cd25 ct25), sl25⟩) (c25 : PySem.W.codeIn K cd25 "is_point" = true) (k25 : PySem.W.keepIn K (.ref f25) = true)
  (a26 : PySem.W.nsIn K mainGlobals "is_place" = some (some (.ref f26))) (l26 : K.lookup f26 = some ⟨oc26, od26, .func (PySem.W.fnOf "is_place" "is_place" (defArgs st_is_place) (defBody st_is_place) (defScope st_is_place) .none kV26 dc26 pm26 an26 cd26 ct26), sl26⟩) (c26 : PySem.W.codeIn K cd26 "is_place" = true) (k26 : PySem.W.keepIn K (.ref f26) = true)
  (a27 : PySem.W.nsIn K mainGlobals "is_below" = some (some (.ref f27))) (l27 : K.lookup f27 = some ⟨oc27, od27, .func (PySem.W.fnOf "is_below" "is_below" (defArgs st_is_below) (defBody st_is_below) (defScope st_is_below) .none kV27 dc27 pm27 an27 cd27 ct27), sl27⟩) (c27 : PySem.W.codeIn K cd27 "is_below" = true) (k27 : PySem.W.keepIn K (.ref f27) = true)
  (a28 : PySem.W.nsIn K mainGlobals "check_place" = some (some (.ref f28))) (l28 : K.lookup f28 = some ⟨oc28, od28, .func (PySem.W.fnOf "check_place" "check_place" (defArgs st_check_place) (defBody st_check_place) (defScope st_check_place) .none kV28 dc28 pm28 an28 cd28 ct28), sl28⟩) (c28 : PySem.W.codeIn K cd28 "check_place" = true) (k28 : PySem.W.keepIn K (.ref f28) = true)
  (a29 : PySem.W.nsIn K mainGlobals "reduced" = some (some (.ref f29))) (l29 : K.lookup f29 = some ⟨oc29, od29, .func (PySem.W.fnOf "reduced" "reduced" (defArgs st_reduced) (defBody st_reduced) (defScope st_reduced) .none kV29 dc29 pm29 an29 cd29 ct29), sl29⟩) (c29 : PySem.W.codeIn K cd29 "reduced" = true) (k29 : PySem.W.keepIn K (.ref f29) = true)
  (a30 : PySem.W.nsIn K mainGlobals "distance_of" = some (some (.ref f30))) (l30 : K.lookup f30 = some ⟨oc30, od30, .func (PySem.W.fnOf "distance_of" "distance_of" (defArgs st_distance_of) (defBody st_distance_of) (defScope st_distance_of) .none kV30 dc30 pm30 an30 cd30 ct30), sl30⟩) (c30 : PySem.W.codeIn K cd30 "distance_of" = true) (k30 : PySem.W.keepIn K (.ref f30) = true)
  (a31 : PySem.W.nsIn K mainGlobals "is_ask_of_two" = some (some (.ref f31))) (l31 : K.lookup f31 = some ⟨oc31, od31, .func (PySem.W.fnOf "is_ask_of_two" "is_ask_of_two" (defArgs st_is_ask_of_two) (defBody st_is_ask_of_two) (defScope st_is_ask_of_two) .none kV31 dc31 pm31 an31 cd31 ct31), sl31⟩) (c31 : PySem.W.codeIn K cd31 "is_ask_of_two" = true) (k31 : PySem.W.keepIn K (.ref f31) = true)
  (a32 : PySem.W.nsIn K mainGlobals "is_above_zero" = some (some (.ref f32))) (l32 : K.lookup f32 = some ⟨oc32, od32, .func (PySem.W.fnOf "is_above_zero" "is_above_zero" (defArgs st_is_above_zero) (defBody st_is_above_zero) (defScope st_is_above_zero) .none kV32 dc32 pm32 an32 cd32 ct32), sl32⟩) (c32 : PySem.W.codeIn K cd32 "is_above_zero" = true) (k32 : PySem.W.keepIn K (.ref f32) = true)
  (a33 : PySem.W.nsIn K mainGlobals "is_ask_of_one" = some (some (.ref f33))) (l33 : K.lookup f33 = some ⟨oc33, od33, .func (PySem.W.fnOf "is_ask_of_one" "is_ask_of_one" (defArgs st_is_ask_of_one) (defBody st_is_ask_of_one) (defScope st_is_ask_of_one) .none kV33 dc33 pm33 an33 cd33 ct33), sl33⟩) (c33 : PySem.W.codeIn K cd33 "is_ask_of_one" = true) (k33 : PySem.W.keepIn K (.ref f33) = true)
  (a34 : PySem.W.nsIn K mainGlobals "is_ask" = some (some (.ref f34))) (l34 : K.lookup f34 = some ⟨oc34, od34, .func (PySem.W.fnOf "is_ask" "is_ask" (defArgs st_is_ask) (defBody st_is_ask) (defScope st_is_ask) .none kV34 dc34 pm34 an34 cd34 ct34), sl34⟩) (c34 : PySem.W.codeIn K cd34 "is_ask" = true) (k34 : PySem.W.keepIn K (.ref f34) = true)
  (a35 : PySem.W.nsIn K mainGlobals "check_ask" = some (some (.ref f35))) (l35 : K.lookup f35 = some ⟨oc35, od35, .func (PySem.W.fnOf "check_ask" "check_ask" (defArgs st_check_ask) (defBody st_check_ask) (defScope st_check_ask) .none kV35 dc35 pm35 an35 cd35 ct35), sl35⟩) (c35 : PySem.W.codeIn K cd35 "check_ask" = true) (k35 : PySem.W.keepIn K (.ref f35) = true)
  (a36 : PySem.W.nsIn K mainGlobals "kind_of" = some (some (.ref f36))) (l36 : K.lookup f36 = some ⟨oc36, od36, .func (PySem.W.fnOf "kind_of" "kind_of" (defArgs st_kind_of) (defBody st_kind_of) (defScope st_kind_of) .none kV36 dc36 pm36 an36 cd36 ct36), sl36⟩) (c36 : PySem.W.codeIn K cd36 "kind_of" = true) (k36 : PySem.W.keepIn K (.ref f36) = true)
  (a37 : PySem.W.nsIn K mainGlobals "quotient" = some (some (.ref f37))) (l37 : K.lookup f37 = some ⟨oc37, od37, .func (PySem.W.fnOf "quotient" "quotient" (defArgs st_quotient) (defBody st_quotient) (defScope st_quotient) .none kV37 dc37 pm37 an37 cd37 ct37), sl37⟩) (c37 : PySem.W.codeIn K cd37 "quotient" = true) (k37 : PySem.W.keepIn K (.ref f37) = true)
  (a38 : PySem.W.nsIn K mainGlobals "height_of" = some (some (.ref f38))) (l38 : K.lookup f38 = some ⟨oc38, od38, .func (PySem.W.fnOf "height_of" "height_of" (defArgs st_height_of) (defBody st_height_of) (defScope st_height_of) .none kV38 dc38 pm38 an38 cd38 ct38), sl38⟩) (c38 : PySem.W.codeIn K cd38 "height_of" = true) (k38 : PySem.W.keepIn K (.ref f38) = true)
  (a39 : PySem.W.nsIn K mainGlobals "minus" = some (some (.ref f39))) (l39 : K.lookup f39 = some ⟨oc39, od39, .func (PySem.W.fnOf "minus" "minus" (defArgs st_minus) (defBody st_minus) (defScope st_minus) .none kV39 dc39 pm39 an39 cd39 ct39), sl39⟩) (c39 : PySem.W.codeIn K cd39 "minus" = true) (k39 : PySem.W.keepIn K (.ref f39) = true)
  (a40 : PySem.W.nsIn K mainGlobals "times" = some (some (.ref f40))) (l40 : K.lookup f40 = some ⟨oc40, od40, .func (PySem.W.fnOf "times" "times" (defArgs st_times) (defBody st_times) (defScope st_times) .none kV40 dc40 pm40 an40 cd40 ct40), sl40⟩) (c40 : PySem.W.codeIn K cd40 "times" = true) (k40 : PySem.W.keepIn K (.ref f40) = true)
  (a41 : PySem.W.nsIn K mainGlobals "straight_way" = some (some (.ref f41))) (l41 : K.lookup f41 = some ⟨oc41, od41, .func (PySem.W.fnOf "straight_way" "straight_way" (defArgs st_straight_way) (defBody st_straight_way) (defScope st_straight_way) .none kV41 dc41 pm41 an41 cd41 ct41), sl41⟩) (c41 : PySem.W.codeIn K cd41 "straight_way" = true) (k41 : PySem.W.keepIn K (.ref f41) = true)
  (a42 : PySem.W.nsIn K mainGlobals "negative" = some (some (.ref f42))) (l42 : K.lookup f42 = some ⟨oc42, od42, .func (PySem.W.fnOf "negative" "negative" (defArgs st_negative) (defBody st_negative) (defScope st_negative) .none kV42 dc42 pm42 an42 cd42 ct42), sl42⟩) (c42 : PySem.W.codeIn K cd42 "negative" = true) (k42 : PySem.W.keepIn K (.ref f42) = true)
  (a43 : PySem.W.nsIn K mainGlobals "line_at" = some (some (.ref f43))) (l43 : K.lookup f43 = some ⟨oc43, od43, .func (PySem.W.fnOf "line_at" "line_at" (defArgs st_line_at) (defBody st_line_at) (defScope st_line_at) .none kV43 dc43 pm43 an43 cd43 ct43), sl43⟩) (c43 : PySem.W.codeIn K cd43 "line_at" = true) (k43 : PySem.W.keepIn K (.ref f43) = true)
  (a44 : PySem.W.nsIn K mainGlobals "plus" = some (some (.ref f44))) (l44 : K.lookup f44 = some ⟨oc44, od44, .func (PySem.W.fnOf "plus" "plus" (defArgs st_plus) (defBody st_plus) (defScope st_plus) .none kV44 dc44 pm44 an44 cd44 ct44), sl44⟩) (c44 : PySem.W.codeIn K cd44 "plus" = true) (k44 : PySem.W.keepIn K (.ref f44) = true)
  (a45 : PySem.W.nsIn K mainGlobals "roof_parts" = some (some (.ref f45))) (l45 : K.lookup f45 = some ⟨oc45, od45, .func (PySem.W.fnOf "roof_parts" "roof_parts" (defArgs st_roof_parts) (defBody st_roof_parts) (defScope st_roof_parts) .none kV45 dc45 pm45 an45 cd45 ct45), sl45⟩) (c45 : PySem.W.codeIn K cd45 "roof_parts" = true) (k45 : PySem.W.keepIn K (.ref f45) = true)
  (a46 : PySem.W.nsIn K mainGlobals "low_parts" = some (some (.ref f46))) (l46 : K.lookup f46 = some ⟨oc46, od46, .func (PySem.W.fnOf "low_parts" "low_parts" (defArgs st_low_parts) (defBody st_low_parts) (defScope st_low_parts) .none kV46 dc46 pm46 an46 cd46 ct46), sl46⟩) (c46 : PySem.W.codeIn K cd46 "low_parts" = true) (k46 : PySem.W.keepIn K (.ref f46) = true)
  (a47 : PySem.W.nsIn K mainGlobals "parts_of" = some (some (.ref f47))) (l47 : K.lookup f47 = some ⟨oc47, od47, .func (PySem.W.fnOf "parts_of" "parts_of" (defArgs st_parts_of) (defBody st_parts_of) (defScope st_parts_of) .none kV47 dc47 pm47 an47 cd47 ct47), sl47⟩) (c47 : PySem.W.codeIn K cd47 "parts_of" = true) (k47 : PySem.W.keepIn K (.ref f47) = true)
  (a48 : PySem.W.nsIn K mainGlobals "value_at" = some (some (.ref f48))) (l48 : K.lookup f48 = some ⟨oc48, od48, .func (PySem.W.fnOf "value_at" "value_at" (defArgs st_value_at) (defBody st_value_at) (defScope st_value_at) .none kV48 dc48 pm48 an48 cd48 ct48), sl48⟩) (c48 : PySem.W.codeIn K cd48 "value_at" = true) (k48 : PySem.W.keepIn K (.ref f48) = true)
  (a49 : PySem.W.nsIn K mainGlobals "bound_value" = some (some (.ref f49))) (l49 : K.lookup f49 = some ⟨oc49, od49, .func (PySem.W.fnOf "bound_value" "bound_value" (defArgs st_bound_value) (defBody st_bound_value) (defScope st_bound_value) .none kV49 dc49 pm49 an49 cd49 ct49), sl49⟩) (c49 : PySem.W.codeIn K cd49 "bound_value" = true) (k49 : PySem.W.keepIn K (.ref f49) = true)
  (a50 : PySem.W.nsIn K mainGlobals "keeps_upright" = some (some (.ref f50))) (l50 : K.lookup f50 = some ⟨oc50, od50, .func (PySem.W.fnOf "keeps_upright" "keeps_upright" (defArgs st_keeps_upright) (defBody st_keeps_upright) (defScope st_keeps_upright) .none kV50 dc50 pm50 an50 cd50 ct50), sl50⟩) (c50 : PySem.W.codeIn K cd50 "keeps_upright" = true) (k50 : PySem.W.keepIn K (.ref f50) = true)
  (a51 : PySem.W.nsIn K mainGlobals "keeps" = some (some (.ref f51))) (l51 : K.lookup f51 = some ⟨oc51, od51, .func (PySem.W.fnOf "keeps" "keeps" (defArgs st_keeps) (defBody st_keeps) (defScope st_keeps) .none kV51 dc51 pm51 an51 cd51 ct51), sl51⟩) (c51 : PySem.W.codeIn K cd51 "keeps" = true) (k51 : PySem.W.keepIn K (.ref f51) = true)
  (a52 : PySem.W.nsIn K mainGlobals "does" = some (some (.ref f52))) (l52 : K.lookup f52 = some ⟨oc52, od52, .func (PySem.W.fnOf "does" "does" (defArgs st_does) (defBody st_does) (defScope st_does) .none kV52 dc52 pm52 an52 cd52 ct52), sl52⟩) (c52 : PySem.W.codeIn K cd52 "does" = true) (k52 : PySem.W.keepIn K (.ref f52) = true)
  (a53 : PySem.W.nsIn K mainGlobals "check_fraction" = some (some (.ref f53))) (l53 : K.lookup f53 = some ⟨oc53, od53, .func (PySem.W.fnOf "check_fraction" "check_fraction" (defArgs st_check_fraction) (defBody st_check_fraction) (defScope st_check_fraction) .none kV53 dc53 pm53 an53 cd53 ct53), sl53⟩) (c53 : PySem.W.codeIn K cd53 "check_fraction" = true) (k53 : PySem.W.keepIn K (.ref f53) = true)
  (a54 : PySem.W.nsIn K mainGlobals "bound_at" = some (some (.ref f54))) (l54 : K.lookup f54 = some ⟨oc54, od54, .func (PySem.W.fnOf "bound_at" "bound_at" (defArgs st_bound_at) (defBody st_bound_at) (defScope st_bound_at) .none kV54 dc54 pm54 an54 cd54 ct54), sl54⟩) (c54 : PySem.W.codeIn K cd54 "bound_at" = true) (k54 : PySem.W.keepIn K (.ref f54) = true)
  (a55 : PySem.W.nsIn K mainGlobals "_law_right" = some (some (.ref f55))) (l55 : K.lookup f55 = some ⟨oc55, od55, .func (PySem.W.fnOf "_law_right" "_law_right" (defArgs st_Lright) (defBody st_Lright) (defScope st_Lright) .none kV55 dc55 pm55 an55 cd55 ct55), sl55⟩) (c55 : PySem.W.codeIn K cd55 "_law_right" = true) (k55 : PySem.W.keepIn K (.ref f55) = true)
  (a56 : PySem.W.nsIn K mainGlobals "_law_vat" = some (some (.ref f56))) (l56 : K.lookup f56 = some ⟨oc56, od56, .func (PySem.W.fnOf "_law_vat" "_law_vat" (defArgs st_Lvat) (defBody st_Lvat) (defScope st_Lvat) .none kV56 dc56 pm56 an56 cd56 ct56), sl56⟩) (c56 : PySem.W.codeIn K cd56 "_law_vat" = true) (k56 : PySem.W.keepIn K (.ref f56) = true)
  (a57 : PySem.W.nsIn K mainGlobals "law" = some (some (.ref f57))) (l57 : K.lookup f57 = some ⟨oc57, od57, .func (PySem.W.fnOf "law" "law" (defArgs st_law) (defBody st_law) (defScope st_law) .none kV57 dc57 pm57 an57 cd57 ct57), sl57⟩) (c57 : PySem.W.codeIn K cd57 "law" = true) (k57 : PySem.W.keepIn K (.ref f57) = true)
  (z_abs : PySem.W.nsIn K mainGlobals "abs" = some none)
  (z_int : PySem.W.nsIn K mainGlobals "int" = some none)
  (z_tuple : PySem.W.nsIn K mainGlobals "tuple" = some none)
  (z_divmod : PySem.W.nsIn K mainGlobals "divmod" = some none)
  (z_len : PySem.W.nsIn K mainGlobals "len" = some none)
  (z_min : PySem.W.nsIn K mainGlobals "min" = some none)
  (z_isinstance : PySem.W.nsIn K mainGlobals "isinstance" = some none)
  (z_bool : PySem.W.nsIn K mainGlobals "bool" = some none)
  (z_str : PySem.W.nsIn K mainGlobals "str" = some none)
  (z_repr : PySem.W.nsIn K mainGlobals "repr" = some none)
  (z_sum : PySem.W.nsIn K mainGlobals "sum" = some none)
  (z_all : PySem.W.nsIn K mainGlobals "all" = some none)
  (z_range : PySem.W.nsIn K mainGlobals "range" = some none)
  (z_max : PySem.W.nsIn K mainGlobals "max" = some none)
  (y_gcd : PySem.W.nsIn K mainGlobals "gcd" = some (some (.builtin "math.gcd")))
  (w_ZERO : PySem.W.nsIn K mainGlobals "ZERO" = some (some (.ref gA3)))
  (u3 : K.lookup gA3 = some ⟨.type "tuple", gD3, .seq #[(.int 0 tk1), (.int 1 tk2)] gN3, gS3⟩)
  (w_ONE : PySem.W.nsIn K mainGlobals "ONE" = some (some (.ref gA6)))
  (u6 : K.lookup gA6 = some ⟨.type "tuple", gD6, .seq #[(.int 1 tk4), (.int 1 tk5)] gN6, gS6⟩)
  (w_NOUGHT : PySem.W.nsIn K mainGlobals "NOUGHT" = some (some (.ref gA16)))
  (u16 : K.lookup gA16 = some ⟨.type "tuple", gD16, .seq #[(.ref gA9), (.ref gA12), (.ref gA15)] gN16, gS16⟩)
  (u9 : K.lookup gA9 = some ⟨.type "tuple", gD9, .seq #[(.int 0 tk7), (.int 1 tk8)] gN9, gS9⟩)
  (u12 : K.lookup gA12 = some ⟨.type "tuple", gD12, .seq #[(.int 0 tk10), (.int 1 tk11)] gN12, gS12⟩)
  (u15 : K.lookup gA15 = some ⟨.type "tuple", gD15, .seq #[(.int 0 tk13), (.int 1 tk14)] gN15, gS15⟩) :
  ∃ fd : FuncData, (∀ (s : Shared) (u : Value), BindsTo s fd ⟨[u], []⟩ [("_law_script", u)]) ∧ ∀ base : Heap, K.In base → base.Ns mainGlobals mg → FnP P w K mg base 13 fa fd ["_law_script"] sp_law := by
  have T : Txt K mg := { f_Lall_words := ⟨_, _, PySem.W.mg_of X G a0, fun_mk l0 c0 k0⟩, f_Lgcd := ⟨_, _, PySem.W.mg_of X G a1, fun_mk l1 c1 k1⟩, f_Llow := ⟨_, _, PySem.W.mg_of X G a2, fun_mk l2 c2 k2⟩, f_Lfrac := ⟨_, _, PySem.W.mg_of X G a3, fun_mk l3 c3 k3⟩, f_Ldraw := ⟨_, _, PySem.W.mg_of X G a4, fun_mk l4 c4 k4⟩, f_Lpick := ⟨_, _, PySem.W.mg_of X G a5, fun_mk l5 c5 k5⟩, f_Lsize := ⟨_, _, PySem.W.mg_of X G a6, fun_mk l6 c6 k6⟩, f_Ldiv := ⟨_, _, PySem.W.mg_of X G a7, fun_mk l7 c7 k7⟩, f_Lsub := ⟨_, _, PySem.W.mg_of X G a8, fun_mk l8 c8 k8⟩, f_Lfar := ⟨_, _, PySem.W.mg_of X G a9, fun_mk l9 c9 k9⟩, f_Lhigh := ⟨_, _, PySem.W.mg_of X G a10, fun_mk l10 c10 k10⟩, f_Lmul := ⟨_, _, PySem.W.mg_of X G a11, fun_mk l11 c11 k11⟩, f_Lless := ⟨_, _, PySem.W.mg_of X G a12, fun_mk l12 c12 k12⟩, f_Lbound := ⟨_, _, PySem.W.mg_of X G a13, fun_mk l13 c13 k13⟩, f_Lspot := ⟨_, _, PySem.W.mg_of X G a14, fun_mk l14 c14 k14⟩, f_Labout := ⟨_, _, PySem.W.mg_of X G a15, fun_mk l15 c15 k15⟩, f_Labove := ⟨_, _, PySem.W.mg_of X G a16, fun_mk l16 c16 k16⟩, f_Lsome_frac := ⟨_, _, PySem.W.mg_of X G a17, fun_mk l17 c17 k17⟩, f_Lplace := ⟨_, _, PySem.W.mg_of X G a18, fun_mk l18 c18 k18⟩, f_Ladd := ⟨_, _, PySem.W.mg_of X G a19, fun_mk l19 c19 k19⟩, f_Lask := ⟨_, _, PySem.W.mg_of X G a20, fun_mk l20 c20 k20⟩, f_is_whole := ⟨_, _, PySem.W.mg_of X G a21, fun_mk l21 c21 k21⟩, f_is_fraction := ⟨_, _, PySem.W.mg_of X G a22, fun_mk l22 c22 k22⟩, f_is_jet := ⟨_, _, PySem.W.mg_of X G a23, fun_mk l23 c23 k23⟩, f_check_jet := ⟨_, _, PySem.W.mg_of X G a24, fun_mk l24 c24 k24⟩, f_is_point := ⟨_, _, PySem.W.mg_of X G a25, fun_mk l25 c25 k25⟩, f_is_place := ⟨_, _, PySem.W.mg_of X G a26, fun_mk l26 c26 k26⟩, f_is_below := ⟨_, _, PySem.W.mg_of X G a27, fun_mk l27 c27 k27⟩, f_check_place := ⟨_, _, PySem.W.mg_of X G a28, fun_mk l28 c28 k28⟩, f_reduced := ⟨_, _, PySem.W.mg_of X G a29, fun_mk l29 c29 k29⟩, f_distance_of := ⟨_, _, PySem.W.mg_of X G a30, fun_mk l30 c30 k30⟩, f_is_ask_of_two := ⟨_, _, PySem.W.mg_of X G a31, fun_mk l31 c31 k31⟩, f_is_above_zero := ⟨_, _, PySem.W.mg_of X G a32, fun_mk l32 c32 k32⟩, f_is_ask_of_one := ⟨_, _, PySem.W.mg_of X G a33, fun_mk l33 c33 k33⟩, f_is_ask := ⟨_, _, PySem.W.mg_of X G a34, fun_mk l34 c34 k34⟩, f_check_ask := ⟨_, _, PySem.W.mg_of X G a35, fun_mk l35 c35 k35⟩, f_kind_of := ⟨_, _, PySem.W.mg_of X G a36, fun_mk l36 c36 k36⟩, f_quotient := ⟨_, _, PySem.W.mg_of X G a37, fun_mk l37 c37 k37⟩, f_height_of := ⟨_, _, PySem.W.mg_of X G a38, fun_mk l38 c38 k38⟩, f_minus := ⟨_, _, PySem.W.mg_of X G a39, fun_mk l39 c39 k39⟩, f_times := ⟨_, _, PySem.W.mg_of X G a40, fun_mk l40 c40 k40⟩, f_straight_way := ⟨_, _, PySem.W.mg_of X G a41, fun_mk l41 c41 k41⟩, f_negative := ⟨_, _, PySem.W.mg_of X G a42, fun_mk l42 c42 k42⟩, f_line_at := ⟨_, _, PySem.W.mg_of X G a43, fun_mk l43 c43 k43⟩, f_plus := ⟨_, _, PySem.W.mg_of X G a44, fun_mk l44 c44 k44⟩, f_roof_parts := ⟨_, _, PySem.W.mg_of X G a45, fun_mk l45 c45 k45⟩, f_low_parts := ⟨_, _, PySem.W.mg_of X G a46, fun_mk l46 c46 k46⟩, f_parts_of := ⟨_, _, PySem.W.mg_of X G a47, fun_mk l47 c47 k47⟩, f_value_at := ⟨_, _, PySem.W.mg_of X G a48, fun_mk l48 c48 k48⟩, f_bound_value := ⟨_, _, PySem.W.mg_of X G a49, fun_mk l49 c49 k49⟩, f_keeps_upright := ⟨_, _, PySem.W.mg_of X G a50, fun_mk l50 c50 k50⟩, f_keeps := ⟨_, _, PySem.W.mg_of X G a51, fun_mk l51 c51 k51⟩, f_does := ⟨_, _, PySem.W.mg_of X G a52, fun_mk l52 c52 k52⟩, f_check_fraction := ⟨_, _, PySem.W.mg_of X G a53, fun_mk l53 c53 k53⟩, f_bound_at := ⟨_, _, PySem.W.mg_of X G a54, fun_mk l54 c54 k54⟩, f_Lright := ⟨_, _, PySem.W.mg_of X G a55, fun_mk l55 c55 k55⟩, f_Lvat := ⟨_, _, PySem.W.mg_of X G a56, fun_mk l56 c56 k56⟩, f_law := ⟨_, _, PySem.W.mg_of X G a57, fun_mk l57 c57 k57⟩, b_abs := PySem.W.mg_none_of X G z_abs, b_int := PySem.W.mg_none_of X G z_int, b_tuple := PySem.W.mg_none_of X G z_tuple, b_divmod := PySem.W.mg_none_of X G z_divmod, b_len := PySem.W.mg_none_of X G z_len, b_min := PySem.W.mg_none_of X G z_min, b_isinstance := PySem.W.mg_none_of X G z_isinstance, b_bool := PySem.W.mg_none_of X G z_bool, b_str := PySem.W.mg_none_of X G z_str, b_repr := PySem.W.mg_none_of X G z_repr, b_sum := PySem.W.mg_none_of X G z_sum, b_all := PySem.W.mg_none_of X G z_all, b_range := PySem.W.mg_none_of X G z_range, b_max := PySem.W.mg_none_of X G z_max, m_gcd := PySem.W.mg_of X G y_gcd, g_ZERO := ⟨(.ref gA3), _, PySem.W.mg_of X G w_ZERO, rfl, fun W => (.tup (xs := [(.int 0), (.int 1)]) (.inr ⟨_, _, _, u3, rfl, rfl, (by show 2 ≤ sizeLine; decide), (.cons ⟨_, rfl⟩ (.cons ⟨_, rfl⟩ .nil))⟩) (.cons (.int _) (.cons (.int _) .nil)))⟩, g_ONE := ⟨(.ref gA6), _, PySem.W.mg_of X G w_ONE, rfl, fun W => (.tup (xs := [(.int 1), (.int 1)]) (.inr ⟨_, _, _, u6, rfl, rfl, (by show 2 ≤ sizeLine; decide), (.cons ⟨_, rfl⟩ (.cons ⟨_, rfl⟩ .nil))⟩) (.cons (.int _) (.cons (.int _) .nil)))⟩, g_NOUGHT := ⟨(.ref gA16), _, PySem.W.mg_of X G w_NOUGHT, rfl, fun W => (.tup (xs := [(.ref gA9), (.ref gA12), (.ref gA15)]) (.inr ⟨_, _, _, u16, rfl, rfl, (by show 3 ≤ sizeLine; decide), (.cons rfl (.cons rfl (.cons rfl .nil)))⟩) (.cons (.tup (xs := [(.int 0), (.int 1)]) (.inr ⟨_, _, _, u9, rfl, rfl, (by show 2 ≤ sizeLine; decide), (.cons ⟨_, rfl⟩ (.cons ⟨_, rfl⟩ .nil))⟩) (.cons (.int _) (.cons (.int _) .nil))) (.cons (.tup (xs := [(.int 0), (.int 1)]) (.inr ⟨_, _, _, u12, rfl, rfl, (by show 2 ≤ sizeLine; decide), (.cons ⟨_, rfl⟩ (.cons ⟨_, rfl⟩ .nil))⟩) (.cons (.int _) (.cons (.int _) .nil))) (.cons (.tup (xs := [(.int 0), (.int 1)]) (.inr ⟨_, _, _, u15, rfl, rfl, (by show 2 ≤ sizeLine; decide), (.cons ⟨_, rfl⟩ (.cons ⟨_, rfl⟩ .nil))⟩) (.cons (.int _) (.cons (.int _) .nil))) .nil))))⟩ }
  have e := hfa.symm.trans (PySem.W.mg_of X G a57)
  cases e
  have hb : ∀ (s : Shared) (u : Value), BindsTo s (PySem.W.fnOf "law" "law" (defArgs st_law) (defBody st_law) (defScope st_law) .none kV57 dc57 pm57 an57 cd57 ct57) ⟨[u], []⟩ [("_law_script", u)] := fun s u => .of_eq rfl
  refine ⟨_, hb, fun base _ _ => ?_⟩
  obtain ⟨f, fd, e1, F, H, _⟩ := (ff_law (P := P) (w := w) (base := base) T).ex
  have e2 : f = fa := by
    have := e1.symm.trans (PySem.W.mg_of X G a57)
    cases this
    rfl
  subst e2
  obtain ⟨_, _, kV, doc, pm, an, cdv, ct, osl, e3, lk, _⟩ := F.ex
  rw [l57] at lk
  cases lk
  exact H
end Pf
theorem PySem.Challenge.cw_spoutlines_k20_whole_bounds_at_slopes_holds : PySem.Challenge.rw_spoutlines_k20_whole_bounds_at_slopes.Holds := by
  w_on; o_law; k_head; (case hw => w_witness2)
  k_fill
  refine Pf.walk_P (l := PySem.Challenge.rw_spoutlines_k20_whole_bounds_at_slopes) (n := 63) (k := 13) (x := "_law_script") (sp := Pf.sp_law) rfl (by decide) rfl ⟨rfl, by decide, by decide⟩ (fun w h Y => PySem.W.kIn_of Y) ?F (fun ns hl => Pf.law_true ns hl)
  case F =>
    intro w mg fa h KX G hmg
    refine' Pf.all_mk KX G hmg ?a0 ?l0 ?c0 ?k0 ?a1 ?l1 ?c1 ?k1 ?a2 ?l2 ?c2 ?k2 ?a3 ?l3 ?c3 ?k3 ?a4 ?l4 ?c4 ?k4 ?a5 ?l5 ?c5 ?k5 ?a6 ?l6 ?c6 ?k6 ?a7 ?l7 ?c7 ?k7 ?a8 ?l8 ?c8 ?k8 ?a9 ?l9 ?c9 ?k9 ?a10 ?l10 ?c10 ?k10 ?a11 ?l11 ?c11 ?k11 ?a12 ?l12 ?c12 ?k12 ?a13 ?l13 ?c13 ?k13 ?a14 ?l14 ?c14 ?k14 ?a15 ?l15 ?c15 ?k15 ?a16 ?l16 ?c16 ?k16 ?a17 ?l17 ?c17 ?k17 ?a18 ?l18 ?c18 ?k18 ?a19 ?l19 ?c19 ?k19 ?a20 ?l20 ?c20 ?k20 ?a21 ?l21 ?c21 ?k21 ?a22 ?l22 ?c22 ?k22 ?a23 ?l23 ?c23 ?k23 ?a24 ?l24 ?c24 ?k24 ?a25 ?l25 ?c25 ?k25 ?a26 ?l26 ?c26 ?k26 ?a27 ?l27 ?c27 ?k27 ?a28 ?l28 ?c28 ?k28 ?a29 ?l29 ?c29 ?k29 ?a30 ?l30 ?c30 ?k30 ?a31 ?l31 ?c31 ?k31 ?a32 ?l32 ?c32 ?k32 ?a33 ?l33 ?c33 ?k33 ?a34 ?l34 ?c34 ?k34 ?a35 ?l35 ?c35 ?k35 ?a36 ?l36 ?c36 ?k36 ?a37 ?l37 ?c37 ?k37 ?a38 ?l38 ?c38 ?k38 ?a39 ?l39 ?c39 ?k39 ?a40 ?l40 ?c40 ?k40 ?a41 ?l41 ?c41 ?k41 ?a42 ?l42 ?c42 ?k42 ?a43 ?l43 ?c43 ?k43 ?a44 ?l44 ?c44 ?k44 ?a45 ?l45 ?c45 ?k45 ?a46 ?l46 ?c46 ?k46 ?a47 ?l47 ?c47 ?k47 ?a48 ?l48 ?c48 ?k48 ?a49 ?l49 ?c49 ?k49 ?a50 ?l50 ?c50 ?k50 ?a51 ?l51 ?c51 ?k51 ?a52 ?l52 ?c52 ?k52 ?a53 ?l53 ?c53 ?k53 ?a54 ?l54 ?c54 ?k54 ?a55 ?l55 ?c55 ?k55 ?a56 ?l56 ?c56 ?k56 ?a57 ?l57 ?c57 ?k57 ?z_abs ?z_int ?z_tuple ?z_divmod ?z_len ?z_min ?z_isinstance ?z_bool ?z_str ?z_repr ?z_sum ?z_all ?z_range ?z_max ?y_gcd ?w_ZERO ?u3 ?w_ONE ?u6 ?w_NOUGHT ?u16 ?u9 ?u12 ?u15
    (case a0 => k_is); (case l0 => k_is); (case c0 => k_is); (case k0 => k_is); (case a1 => k_is); (case l1 => k_is); (case c1 => k_is); (case k1 => k_is)
    (case a2 => k_is); (case l2 => k_is); (case c2 => k_is); (case k2 => k_is); (case a3 => k_is); (case l3 => k_is); (case c3 => k_is); (case k3 => k_is)
    (case a4 => k_is); (case l4 => k_is); (case c4 => k_is); (case k4 => k_is); (case a5 => k_is); (case l5 => k_is); (case c5 => k_is); (case k5 => k_is)
    (case a6 => k_is); (case l6 => k_is); (case c6 => k_is); (case k6 => k_is); (case a7 => k_is); (case l7 => k_is); (case c7 => k_is); (case k7 => k_is)
    (case a8 => k_is); (case l8 => k_is); (case c8 => k_is); (case k8 => k_is); (case a9 => k_is); (case l9 => k_is); (case c9 => k_is); (case k9 => k_is)
    (case a10 => k_is); (case l10 => k_is); (case c10 => k_is); (case k10 => k_is); (case a11 => k_is); (case l11 => k_is); (case c11 => k_is); (case k11 => k_is)
    (case a12 => k_is); (case l12 => k_is); (case c12 => k_is); (case k12 => k_is); (case a13 => k_is); (case l13 => k_is); (case c13 => k_is); (case k13 => k_is)
    (case a14 => k_is); (case l14 => k_is); (case c14 => k_is); (case k14 => k_is); (case a15 => k_is); (case l15 => k_is); (case c15 => k_is); (case k15 => k_is)
    (case a16 => k_is); (case l16 => k_is); (case c16 => k_is); (case k16 => k_is); (case a17 => k_is); (case l17 => k_is); (case c17 => k_is); (case k17 => k_is)
    (case a18 => k_is); (case l18 => k_is); (case c18 => k_is); (case k18 => k_is); (case a19 => k_is); (case l19 => k_is); (case c19 => k_is); (case k19 => k_is)
    (case a20 => k_is); (case l20 => k_is); (case c20 => k_is); (case k20 => k_is); (case a21 => k_is); (case l21 => k_is); (case c21 => k_is); (case k21 => k_is)
    (case a22 => k_is); (case l22 => k_is); (case c22 => k_is); (case k22 => k_is); (case a23 => k_is); (case l23 => k_is); (case c23 => k_is); (case k23 => k_is)
    (case a24 => k_is); (case l24 => k_is); (case c24 => k_is); (case k24 => k_is); (case a25 => k_is); (case l25 => k_is); (case c25 => k_is); (case k25 => k_is)
    (case a26 => k_is); (case l26 => k_is); (case c26 => k_is); (case k26 => k_is); (case a27 => k_is); (case l27 => k_is); (case c27 => k_is); (case k27 => k_is)
    (case a28 => k_is); (case l28 => k_is); (case c28 => k_is); (case k28 => k_is); (case a29 => k_is); (case l29 => k_is); (case c29 => k_is); (case k29 => k_is)
    (case a30 => k_is); (case l30 => k_is); (case c30 => k_is); (case k30 => k_is); (case a31 => k_is); (case l31 => k_is); (case c31 => k_is); (case k31 => k_is)
    (case a32 => k_is); (case l32 => k_is); (case c32 => k_is); (case k32 => k_is); (case a33 => k_is); (case l33 => k_is); (case c33 => k_is); (case k33 => k_is)
    (case a34 => k_is); (case l34 => k_is); (case c34 => k_is); (case k34 => k_is); (case a35 => k_is); (case l35 => k_is); (case c35 => k_is); (case k35 => k_is)
    (case a36 => k_is); (case l36 => k_is); (case c36 => k_is); (case k36 => k_is); (case a37 => k_is); (case l37 => k_is); (case c37 => k_is); (case k37 => k_is)
    (case a38 => k_is); (case l38 => k_is); (case c38 => k_is); (case k38 => k_is); (case a39 => k_is); (case l39 => k_is); (case c39 => k_is); (case k39 => k_is)
    (case a40 => k_is); (case l40 => k_is); (case c40 => k_is); (case k40 => k_is); (case a41 => k_is); (case l41 => k_is); (case c41 => k_is); (case k41 => k_is)
    (case a42 => k_is); (case l42 => k_is); (case c42 => k_is); (case k42 => k_is); (case a43 => k_is); (case l43 => k_is); (case c43 => k_is); (case k43 => k_is)
    (case a44 => k_is); (case l44 => k_is); (case c44 => k_is); (case k44 => k_is); (case a45 => k_is); (case l45 => k_is); (case c45 => k_is); (case k45 => k_is)
    (case a46 => k_is); (case l46 => k_is); (case c46 => k_is); (case k46 => k_is); (case a47 => k_is); (case l47 => k_is); (case c47 => k_is); (case k47 => k_is)
    (case a48 => k_is); (case l48 => k_is); (case c48 => k_is); (case k48 => k_is); (case a49 => k_is); (case l49 => k_is); (case c49 => k_is); (case k49 => k_is)
    (case a50 => k_is); (case l50 => k_is); (case c50 => k_is); (case k50 => k_is); (case a51 => k_is); (case l51 => k_is); (case c51 => k_is); (case k51 => k_is)
    (case a52 => k_is); (case l52 => k_is); (case c52 => k_is); (case k52 => k_is); (case a53 => k_is); (case l53 => k_is); (case c53 => k_is); (case k53 => k_is)
    (case a54 => k_is); (case l54 => k_is); (case c54 => k_is); (case k54 => k_is); (case a55 => k_is); (case l55 => k_is); (case c55 => k_is); (case k55 => k_is)
    (case a56 => k_is); (case l56 => k_is); (case c56 => k_is); (case k56 => k_is); (case a57 => k_is); (case l57 => k_is); (case c57 => k_is); (case k57 => k_is)
    (case z_abs => k_is); (case z_int => k_is); (case z_tuple => k_is); (case z_divmod => k_is); (case z_len => k_is); (case z_min => k_is); (case z_isinstance => k_is); (case z_bool => k_is)
    (case z_str => k_is); (case z_repr => k_is); (case z_sum => k_is); (case z_all => k_is); (case z_range => k_is); (case z_max => k_is); (case y_gcd => k_is); (case w_ZERO => k_is)
    (case u3 => k_is); (case w_ONE => k_is); (case u6 => k_is); (case w_NOUGHT => k_is); (case u16 => k_is); (case u9 => k_is); (case u12 => k_is); (case u15 => k_is)
