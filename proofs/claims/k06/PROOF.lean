import PyProof.Rows.All
import HandS.ForMost
import HandS.Exc
import HandS.ExcOwn
import HandS.WordsExc
import HandS.Lambda
import HandS.Wide
import HandS.TupAny
import HandS.IsInst
import PyProof.Rows.SumAny
import PyProof.ReprRoads
import HandS.NoneIn
import HandS.Zip
import HandS.ExcCtx
import HandS.HotCalls
import HandS.GenList
import HandS.EndTab
import HandS.AnyAll
import HandS.TupMul
import PyProof.EnumIter
import HandS.Head0
import HandS.Head1
import HandS.Head2
import HandS.HeadEnd
import HandS.HeadHook1
import HandS.HeadHook2
import HandS.HeadHook3
import HandS.HeadHook4
import HandS.HeadWalk
import HandS.SortRule
import KE.DataFind
import KE.KMathG
import HandS.Conv
import HandS.DictSub
import HandS.Gcd
import HandS.Style
import HandS.Deep
import KE.SortData
import HandS.RaiseMore
import KE.KRevSl
import HandS.ExcIs
import KE.KSmall
import PyProof.ExcBaseAll.ValueError
import HandS.ExcBuiltin
import KE.KEqNest
import PyProof.FactsAll.dict_2
import PyProof.FactsAll.tuple_2
import KE.SortKeyHeap
import PyProof.SeqIndex
import PyProof.EqKinds
import HandS.Text
import HandS.StrMore
import HandS.Head3
import PySem.Challenge.RW_shortsteps_k06_whole_grids
set_option Elab.async false
section
set_option Elab.async false
set_option linter.all false
set_option maxRecDepth 100000
set_option autoImplicit false
/-! G1: values as data, ghost cells for lists that change; what an expression does, as a function. -/
namespace L2.GL
open PySem PySem.Spec PyProof.Rows

inductive D where
  | non | bl (b : Bool) | int (i : Int) | str (x : Str) | tup (xs : List D) | lst (xs : List D) | cell (n : Nat) | ty (n : String)
  | dct (kvs : List (Str × Int)) | exn (a : Addr) (c : Str)

abbrev Gh := List (List D)
abbrev EnvD := List (Option D)

inductive Res (α : Type) where
  | ok (a : α) | ex (c : Str)
abbrev M (α : Type) := Gh → Option (Res α × Gh)
def M.bind {α β : Type} (m : M α) (k : α → M β) : M β := fun G => match m G with
  | none => none
  | some (.ok a, G1) => k a G1
  | some (.ex c, G1) => some (.ex c, G1)
instance : Monad M where
  pure a := fun G => some (.ok a, G)
  bind := M.bind
def liftO {α : Type} (o : Option α) : M α := fun G => o.map fun a => (.ok a, G)
def stuck {α : Type} : M α := fun _ => none

theorem bind_def {α β : Type} (m : M α) (k : α → M β) (G : Gh) : (m >>= k) G = match m G with
  | none => none
  | some (.ok a, G1) => k a G1
  | some (.ex c, G1) => some (.ex c, G1) := rfl
@[simp] theorem pure_run {α : Type} (a : α) (G : Gh) : (pure a : M α) G = some (.ok a, G) := rfl
theorem bind_ok {α β : Type} {m : M α} {k : α → M β} {G G1 : Gh} {a : α} (h : m G = some (.ok a, G1)) : (m >>= k) G = k a G1 := by rw [bind_def, h]
theorem bind_ex {α β : Type} {m : M α} {k : α → M β} {G G1 : Gh} {c : Str} (h : m G = some (.ex c, G1)) : (m >>= k) G = some (.ex c, G1) := by rw [bind_def, h]
@[simp] theorem pure_bind' {α β : Type} (a : α) (k : α → M β) : (pure a >>= k) = k a := rfl
@[simp] theorem liftO_some {α : Type} (a : α) : (liftO (some a) : M α) = pure a := rfl
@[simp] theorem liftO_none {α : Type} : (liftO none : M α) = stuck := rfl

mutual
/-- the value v is the data d; F: what stands still, ρ: where the cells are -/
inductive Dr (K : PySem.W.Frag) (F : Hp) (ρ : List Addr) : V → D → Prop where
  | non : Dr K F ρ .non .non
  | bl (b : Bool) : Dr K F ρ (.bl b) (.bl b)
  | int (i : Int) : Dr K F ρ (.int i) (.int i)
  | str (x : Str) : Dr K F ρ (.str x) (.str x)
  | ty (n : String) : Dr K F ρ (.ty n) (.ty n)
  | dct {a : Addr} {kvs : List (Str × Int)} : F a = some (.dK (kvs.map fun p => (Sum.inr p.1, V.int p.2))) → Dr K F ρ (.ref a) (.dct kvs)
  | exn (a : Addr) (c : Str) : Dr K F ρ (.ref a) (.exn a c)
  | tup {a : Addr} {xs : List V} {ds : List D} : SqT K F a xs → DrA K F ρ xs ds → Dr K F ρ (.ref a) (.tup ds)
  | lst {a : Addr} {xs : List V} {ds : List D} : SqL K F a xs → DrA K F ρ xs ds → Dr K F ρ (.ref a) (.lst ds)
  | cell {a : Addr} {n : Nat} : ρ[n]? = some a → Dr K F ρ (.ref a) (.cell n)
inductive DrA (K : PySem.W.Frag) (F : Hp) (ρ : List Addr) : List V → List D → Prop where
  | nil : DrA K F ρ [] []
  | cons {v : V} {vs : List V} {d : D} {ds : List D} : Dr K F ρ v d → DrA K F ρ vs ds → DrA K F ρ (v :: vs) (d :: ds)
end

theorem Same.tup {K : PySem.W.Frag} {H H' : Hp} {a : Addr} {xs : List V} (e : Same H H') (h : SqT K H a xs) : SqT K H' a xs := by
  rcases h with (h | ⟨o, h⟩) | h
  · exact .inl (.inl (e _ _ h))
  · exact .inl (.inr ⟨o, e _ _ h⟩)
  · exact .inr h

theorem prefix_get {ρ ρ' : List Addr} (h : ρ <+: ρ') {n : Nat} {a : Addr} (e : ρ[n]? = some a) : ρ'[n]? = some a := by
  obtain ⟨t, rfl⟩ := h
  have hl : n < ρ.length := by
    rcases Nat.lt_or_ge n ρ.length with q | q
    · exact q
    · rw [List.getElem?_eq_none q] at e; cases e
  rw [List.getElem?_append_left hl]; exact e

section
variable {K : PySem.W.Frag} {F F' : Hp} {ρ ρ' : List Addr}
mutual
theorem Dr.mono (hs : Same F F') (hp : ρ <+: ρ') : ∀ {v : V} {d : D}, Dr K F ρ v d → Dr K F' ρ' v d
  | _, _, .non => .non
  | _, _, .bl b => .bl b
  | _, _, .int i => .int i
  | _, _, .str x => .str x
  | _, _, .ty n => .ty n
  | _, _, .dct h => .dct (hs _ _ h)
  | _, _, .exn a c => .exn a c
  | _, _, .tup h t => .tup (Same.tup hs h) (DrA.mono hs hp t)
  | _, _, .lst h t => .lst (hs.seq h) (DrA.mono hs hp t)
  | _, _, .cell h => .cell (prefix_get hp h)
theorem DrA.mono (hs : Same F F') (hp : ρ <+: ρ') : ∀ {v : List V} {d : List D}, DrA K F ρ v d → DrA K F' ρ' v d
  | _, _, .nil => .nil
  | _, _, .cons h t => .cons (Dr.mono hs hp h) (DrA.mono hs hp t)
end
theorem DrA.length : ∀ {xs : List V} {ds : List D}, DrA K F ρ xs ds → xs.length = ds.length
  | _, _, .nil => rfl
  | _, _, .cons _ t => by rw [List.length_cons, List.length_cons, t.length]
theorem DrA.get : ∀ {xs : List V} {ds : List D} {i : Nat} {d : D}, DrA K F ρ xs ds → ds[i]? = some d → ∃ x, xs[i]? = some x ∧ Dr K F ρ x d
  | _, _, _, _, .nil, e => by simp at e
  | _, _, 0, _, .cons r _, e => by simp at e; subst e; exact ⟨_, rfl, r⟩
  | _, _, i + 1, d, .cons _ t, e => by
    obtain ⟨u, h1, h2⟩ := DrA.get (i := i) (d := d) t (by simpa using e)
    exact ⟨u, by simpa using h1, h2⟩
theorem DrA.getV : ∀ {xs : List V} {ds : List D} {i : Nat} {x : V}, DrA K F ρ xs ds → xs[i]? = some x → ∃ d, ds[i]? = some d ∧ Dr K F ρ x d
  | _, _, _, _, .nil, e => by simp at e
  | _, _, 0, _, .cons r _, e => by simp at e; subst e; exact ⟨_, rfl, r⟩
  | _, _, i + 1, x, .cons _ t, e => by
    obtain ⟨u, h1, h2⟩ := DrA.getV (i := i) (x := x) t (by simpa using e)
    exact ⟨u, by simpa using h1, h2⟩
theorem DrA.append : ∀ {xs ys : List V} {ds es : List D}, DrA K F ρ xs ds → DrA K F ρ ys es → DrA K F ρ (xs ++ ys) (ds ++ es)
  | _, _, _, _, .nil, s => s
  | _, _, _, _, .cons r t, s => .cons r (t.append s)
theorem DrA.take : ∀ {xs : List V} {ds : List D} (n : Nat), DrA K F ρ xs ds → DrA K F ρ (xs.take n) (ds.take n)
  | _, _, 0, _ => .nil
  | _, _, _ + 1, .nil => .nil
  | _, _, n + 1, .cons r t => .cons r (t.take n)
theorem DrA.drop : ∀ {xs : List V} {ds : List D} (n : Nat), DrA K F ρ xs ds → DrA K F ρ (xs.drop n) (ds.drop n)
  | _, _, 0, r => r
  | _, _, _ + 1, .nil => .nil
  | _, _, n + 1, .cons _ t => t.drop n
theorem DrA.set {x : V} {d : D} (r : Dr K F ρ x d) : ∀ {xs : List V} {ds : List D} (i : Nat), DrA K F ρ xs ds → DrA K F ρ (xs.set i x) (ds.set i d)
  | _, _, _, .nil => .nil
  | _, _, 0, .cons _ t => .cons r t
  | _, _, i + 1, .cons q t => .cons q (t.set r i)
end

mutual
/-- no cell within -/
def D.pure : D → Bool
  | .tup xs => D.pureA xs
  | .lst xs => D.pureA xs
  | .cell _ => false
  | _ => true
def D.pureA : List D → Bool
  | [] => true
  | d :: ds => D.pure d && D.pureA ds
end
section
variable {K : PySem.W.Frag} {F : Hp} {ρ ρ' : List Addr}
mutual
theorem Dr.anyrho : ∀ {v : V} {d : D}, d.pure = true → Dr K F ρ v d → Dr K F ρ' v d
  | _, _, _, .non => .non
  | _, _, _, .bl b => .bl b
  | _, _, _, .int i => .int i
  | _, _, _, .str x => .str x
  | _, _, _, .ty n => .ty n
  | _, _, _, .dct h => .dct h
  | _, _, _, .exn a c => .exn a c
  | _, _, p, .tup h t => .tup h (DrA.anyrho (by simpa [D.pure] using p) t)
  | _, _, p, .lst h t => .lst h (DrA.anyrho (by simpa [D.pure] using p) t)
  | _, _, p, .cell h => by simp [D.pure] at p
theorem DrA.anyrho : ∀ {v : List V} {d : List D}, D.pureA d = true → DrA K F ρ v d → DrA K F ρ' v d
  | _, _, _, .nil => .nil
  | _, _, p, .cons h t => by
    simp only [D.pureA, Bool.and_eq_true] at p
    exact .cons (Dr.anyrho p.1 h) (DrA.anyrho p.2 t)
end
end

/-- beside the state: the tables of code; lists that are held apart, as they stand -/
structure Side where
  tabs : List Addr
  held : List (Addr × List V)
/-- each code object that a table tells stands still -/
def CodesIn (F : Hp) (ps : Array Value) : Prop := ∀ (pos : Pos) (cv : Value), codeAmong pos ps.toList = some cv → ∃ (c : Addr) (q : Str), cv = .ref c ∧ F c = some (LamX.CodeO c q)
theorem CodesIn.mono {F F' : Hp} {ps : Array Value} (h : CodesIn F ps) (s : Same F F') : CodesIn F' ps := fun pos cv e => let ⟨c, q, h1, h2⟩ := h pos cv e; ⟨c, q, h1, s _ _ h2⟩
theorem codesIn_nil {F : Hp} : CodesIn F #[] := fun pos cv e => by
  have z : codeAmong pos [] = some cv := e
  simp [codeAmong] at z
/-- the state: H the abstract heap, F ⊆ H what stands still, the cells G at ρ, the tables of code at T -/
structure R (K : PySem.W.Frag) (T : Side) (H F : Hp) (ρ : List Addr) (G : Gh) : Prop where
  sub : Same F H
  len : ρ.length = G.length
  nd : ρ.Nodup
  out : ∀ a ∈ ρ, F a = none
  cel : ∀ (n : Nat) (a : Addr) (ds : List D), ρ[n]? = some a → G[n]? = some ds → ∃ xs, H a = some (.lst xs) ∧ DrA K F [] xs ds
  tab : ∀ P ∈ T.tabs, F P = none ∧ ∃ ps, H P = some (.tbl ps) ∧ TriplesOk ps.toList ∧ CodesIn F ps
  hld : ∀ q ∈ T.held, H q.1 = some (.lst q.2) ∧ F q.1 = none ∧ q.1 ∉ ρ
  hnd : (T.held.map (·.1)).Nodup

/-- slots -/
structure RS (K : PySem.W.Frag) (F : Hp) (ρ : List Addr) (σ : St) (env : EnvD) : Prop where
  len : σ.length = env.length
  at_ : ∀ (i : Nat) (d : D), env[i]? = some (some d) → ∃ v, σ[i]? = some (some v) ∧ Dr K F ρ v d

section
variable {K : PySem.W.Frag} {T : Side} {H F F' : Hp} {ρ ρ' : List Addr} {G : Gh} {σ : St} {env : EnvD}
theorem RS.mono (hs : Same F F') (hp : ρ <+: ρ') (h : RS K F ρ σ env) : RS K F' ρ' σ env :=
  ⟨h.len, fun i d e => let ⟨v, h1, h2⟩ := h.at_ i d e; ⟨v, h1, h2.mono hs hp⟩⟩
theorem RS.set {i : Nat} {v : V} {d : D} (h : RS K F ρ σ env) (r : Dr K F ρ v d) : RS K F ρ (σ.set i (some v)) (env.set i (some d)) := by
  refine ⟨by simp [h.len], fun j e hj => ?_⟩
  by_cases hi : i = j
  · subst hi
    have hl : i < env.length := by
      rcases Nat.lt_or_ge i env.length with q | q
      · exact q
      · rw [List.getElem?_eq_none (by simpa using q)] at hj; cases hj
    rw [List.getElem?_set_self hl] at hj
    cases hj
    exact ⟨v, List.getElem?_set_self (by rw [h.len]; exact hl), r⟩
  · rw [List.getElem?_set_ne hi] at hj
    obtain ⟨u, h1, h2⟩ := h.at_ j e hj
    exact ⟨u, by rw [List.getElem?_set_ne hi]; exact h1, h2⟩
theorem RS.unset {i : Nat} (h : RS K F ρ σ env) : RS K F ρ (σ.set i none) (env.set i none) := by
  refine ⟨by simp [h.len], fun j e hj => ?_⟩
  by_cases hi : i = j
  · subst hi
    by_cases hl : i < env.length
    · rw [List.getElem?_set_self hl] at hj; cases hj
    · rw [List.getElem?_eq_none (by simpa using Nat.le_of_not_lt hl)] at hj; cases hj
  · rw [List.getElem?_set_ne hi] at hj
    obtain ⟨u, h1, h2⟩ := h.at_ j e hj
    exact ⟨u, by rw [List.getElem?_set_ne hi]; exact h1, h2⟩

theorem R.some_of (h : R K T H F ρ G) {a : Addr} (m : a ∈ ρ) : ∃ xs, H a = some (.lst xs) := by
  obtain ⟨n, hn, e⟩ := List.getElem_of_mem m
  have hl : n < G.length := by rw [← h.len]; exact hn
  obtain ⟨xs, q, _⟩ := h.cel n a _ (by rw [List.getElem?_eq_getElem hn, e]) (List.getElem?_eq_getElem hl)
  exact ⟨xs, q⟩
theorem same_updN {p : Addr} {o : HO} (hp : H p = none) : Same H (upd H p o) := fun b x e => by
  rw [upd_ne (ne_of_none e hp)]; exact e
theorem upd_mono {p : Addr} {o : HO} (h : Same F H) : Same (upd F p o) (upd H p o) := fun b x e => by
  by_cases hb : b = p
  · subst hb; rw [upd_same] at e ⊢; exact e
  · rw [upd_ne hb] at e ⊢; exact h _ _ e
/-- a new thing that stands still -/
theorem R.alloc {p : Addr} {o : HO} (h : R K T H F ρ G) (hp : H p = none) : R K T (upd H p o) (upd F p o) ρ G := by
  have hF : F p = none := h.sub.free hp
  refine ⟨upd_mono h.sub, h.len, h.nd, fun a m => ?_, fun n a ds e1 e2 => ?_, fun P m => ?_, fun q m => ?_, h.hnd⟩
  · obtain ⟨xs, q⟩ := h.some_of m
    rw [upd_ne (ne_of_none q hp)]; exact h.out a m
  · obtain ⟨xs, q, r⟩ := h.cel n a ds e1 e2
    exact ⟨xs, by rw [upd_ne (ne_of_none q hp)]; exact q, r.mono (same_updN hF) (List.prefix_refl _)⟩
  · obtain ⟨h1, ps, h2, h3⟩ := h.tab P m
    have ne := ne_of_none h2 hp
    exact ⟨by rw [upd_ne ne]; exact h1, ps, by rw [upd_ne ne]; exact h2, h3.1, h3.2.mono (same_updN hF)⟩
  · obtain ⟨h1, h2, h3⟩ := h.hld q m
    have ne := ne_of_none h1 hp
    exact ⟨by rw [upd_ne ne]; exact h1, by rw [upd_ne ne]; exact h2, h3⟩
/-- a new cell -/
theorem R.newcell {p : Addr} {xs : List V} {ds : List D} (h : R K T H F ρ G) (hp : H p = none) (r : DrA K F [] xs ds) : R K T (upd H p (.lst xs)) F (ρ ++ [p]) (G ++ [ds]) := by
  have hF : F p = none := h.sub.free hp
  have nm : p ∉ ρ := fun m => by obtain ⟨ys, q⟩ := h.some_of m; rw [hp] at q; cases q
  refine ⟨h.sub.trans (same_updN hp), by simp [h.len], ?_, fun a m => ?_, fun n a es e1 e2 => ?_, fun P m => ?_, fun q m => ?_, h.hnd⟩
  · rw [List.nodup_append]
    refine ⟨h.nd, by simp, fun a ha b hb => ?_⟩
    rw [List.mem_singleton.mp hb]
    rintro rfl
    exact nm ha
  · rcases List.mem_append.mp m with m | m
    · exact h.out a m
    · rw [List.mem_singleton.mp m]; exact hF
  · by_cases hn : n < ρ.length
    · rw [List.getElem?_append_left hn] at e1
      rw [List.getElem?_append_left (by rw [← h.len]; exact hn)] at e2
      obtain ⟨ys, q, r'⟩ := h.cel n a es e1 e2
      exact ⟨ys, by rw [upd_ne (ne_of_none q hp)]; exact q, r'⟩
    · have hn' : n = ρ.length := by
        rw [List.getElem?_append_right (Nat.le_of_not_lt hn)] at e1
        rcases Nat.eq_zero_or_pos (n - ρ.length) with z | z
        · omega
        · rw [List.getElem?_eq_none (by simp; omega)] at e1; cases e1
      subst hn'
      rw [List.getElem?_append_right (Nat.le_refl _)] at e1
      rw [h.len, List.getElem?_append_right (Nat.le_refl _)] at e2
      simp at e1 e2
      subst e1; subst e2
      exact ⟨xs, upd_same, r⟩
  · obtain ⟨h1, ps, h2, h3⟩ := h.tab P m
    exact ⟨h1, ps, by rw [upd_ne (ne_of_none h2 hp)]; exact h2, h3⟩
  · obtain ⟨h1, h2, h3⟩ := h.hld q m
    have ne := ne_of_none h1 hp
    refine ⟨by rw [upd_ne ne]; exact h1, h2, fun z => ?_⟩
    rcases List.mem_append.mp z with z | z
    · exact h3 z
    · exact ne (List.mem_singleton.mp z)
/-- a cell is changed -/
theorem R.setcell {n : Nat} {a : Addr} {xs : List V} {ds : List D} (h : R K T H F ρ G) (hn : ρ[n]? = some a) (r : DrA K F [] xs ds) : R K T (upd H a (.lst xs)) F ρ (G.set n ds) := by
  have ha : a ∈ ρ := List.mem_of_getElem? hn
  refine ⟨fun b o e => ?_, by simp [h.len], h.nd, h.out, fun m b es e1 e2 => ?_, fun P m => ?_, fun q m => ?_, h.hnd⟩
  · have ne : b ≠ a := fun z => by subst z; rw [h.out b ha] at e; cases e
    rw [upd_ne ne]; exact h.sub b o e
  · by_cases hm : n = m
    · subst hm
      rw [hn] at e1; cases e1
      have hl : n < G.length := by
        rcases Nat.lt_or_ge n G.length with q | q
        · exact q
        · rw [List.getElem?_eq_none (by simpa using q)] at e2; cases e2
      rw [List.getElem?_set_self hl] at e2
      cases e2
      exact ⟨xs, upd_same, r⟩
    · rw [List.getElem?_set_ne hm] at e2
      obtain ⟨ys, q, r'⟩ := h.cel m b es e1 e2
      have ne : b ≠ a := fun z => by
        subst z
        obtain ⟨h1, q1⟩ := List.getElem?_eq_some_iff.mp hn
        obtain ⟨h2, q2⟩ := List.getElem?_eq_some_iff.mp e1
        exact hm ((List.getElem_inj h.nd).mp (q1.trans q2.symm))
      exact ⟨ys, by rw [upd_ne ne]; exact q, r'⟩
  · obtain ⟨h1, ps, h2, h3⟩ := h.tab P m
    have ne : P ≠ a := fun z => by
      subst z
      obtain ⟨ys, q⟩ := h.some_of ha
      rw [h2] at q; cases q
    exact ⟨h1, ps, by rw [upd_ne ne]; exact h2, h3⟩
  · obtain ⟨h1, h2, h3⟩ := h.hld q m
    have ne : q.1 ≠ a := fun z => h3 (z ▸ ha)
    exact ⟨by rw [upd_ne ne]; exact h1, h2, h3⟩
/-- a table has grown -/
theorem R.table {P : Addr} {ps : Array Value} (h : R K T H F ρ G) (hP : P ∈ T.tabs) (hps : TriplesOk ps.toList) (hc : CodesIn F ps) : R K T (upd H P (.tbl ps)) F ρ G := by
  obtain ⟨hF, qs, hq, _⟩ := h.tab P hP
  refine ⟨fun b o e => ?_, h.len, h.nd, h.out, fun n a ds e1 e2 => ?_, fun Q m => ?_, fun q m => ?_, h.hnd⟩
  · rw [upd_ne (ne_of_none e hF)]; exact h.sub b o e
  · obtain ⟨xs, q, r⟩ := h.cel n a ds e1 e2
    have ne : a ≠ P := fun z => by subst z; rw [hq] at q; cases q
    exact ⟨xs, by rw [upd_ne ne]; exact q, r⟩
  · obtain ⟨h1, rs, h2, h3⟩ := h.tab Q m
    by_cases e : Q = P
    · subst e; exact ⟨h1, ps, upd_same, hps, hc⟩
    · exact ⟨h1, rs, by rw [upd_ne e]; exact h2, h3⟩
  · obtain ⟨h1, h2, h3⟩ := h.hld q m
    have ne : q.1 ≠ P := fun z => by rw [z, hq] at h1; cases h1
    exact ⟨by rw [upd_ne ne]; exact h1, h2, h3⟩
end

/-! ### lists just made -/
def del (F : Hp) (p : Addr) : Hp := fun b => if b = p then none else F b
theorem del_same {F : Hp} {p : Addr} : del F p p = none := by unfold del; rw [if_pos rfl]
theorem del_ne {F : Hp} {p b : Addr} (h : b ≠ p) : del F p b = F b := by unfold del; rw [if_neg h]
theorem del_sub (F : Hp) (p : Addr) : Same (del F p) F := fun b o e => by
  by_cases h : b = p
  · subst h; rw [del_same] at e; cases e
  · rw [del_ne h] at e; exact e
theorem same_del {F F' : Hp} {p : Addr} (h : Same F F') (hp : F p = none) : Same F (del F' p) := fun b o e => by
  rw [del_ne (ne_of_none e hp)]; exact h b o e
def FreshL (K : PySem.W.Frag) (T : Side) (F H' F' : Hp) (ρ : List Addr) (G' : Gh) (v : V) (d : D) : Prop :=
  ∀ ds, d = .lst ds → ∃ p xs, v = .ref p ∧ F p = none ∧ F' p = some (.lst xs) ∧ p ∉ ρ ∧ R K T H' (del F' p) ρ G' ∧ DrA K (del F' p) ρ xs ds
theorem FreshL.from {K : PySem.W.Frag} {T : Side} {F F1 H' F' : Hp} {ρ : List Addr} {G' : Gh} {v : V} {d : D} (h : FreshL K T F1 H' F' ρ G' v d) (s : Same F F1) : FreshL K T F H' F' ρ G' v d := fun ds e => by
  obtain ⟨p, xs, h1, h2, h3, h4, h5⟩ := h ds e
  exact ⟨p, xs, h1, s.free h2, h3, h4, h5⟩
theorem FreshL.of {K : PySem.W.Frag} {T : Side} {F H' F' : Hp} {ρ : List Addr} {G' : Gh} {v : V} {d : D} (h : ∀ ds, d ≠ .lst ds) : FreshL K T F H' F' ρ G' v d := fun ds e => absurd e (h ds)
theorem del_upd {F : Hp} {p : Addr} {o : HO} (h : F p = none) : del (upd F p o) p = F := by
  funext b
  by_cases hb : b = p
  · subst hb; rw [del_same, h]
  · rw [del_ne hb, upd_ne hb]
/-- more is tracked, apart -/
theorem R.grow {K : PySem.W.Frag} {T : Side} {H F : Hp} {ρ : List Addr} {G : Gh} {p : Addr} {o : HO} (h : R K T H F ρ G) (hp : H p = none) : R K T (upd H p o) F ρ G :=
  ⟨h.sub.trans (same_updN hp), h.len, h.nd, h.out, fun n a ds e1 e2 => by
    obtain ⟨xs, q, r⟩ := h.cel n a ds e1 e2
    exact ⟨xs, by rw [upd_ne (ne_of_none q hp)]; exact q, r⟩, fun P m => by
    obtain ⟨h1, ps, h2, h3⟩ := h.tab P m
    exact ⟨h1, ps, by rw [upd_ne (ne_of_none h2 hp)]; exact h2, h3⟩, fun q m => by
    obtain ⟨h1, h2, h3⟩ := h.hld q m
    exact ⟨by rw [upd_ne (ne_of_none h1 hp)]; exact h1, h2, h3⟩, h.hnd⟩

/-! ### what follows -/
section
variable (K : PySem.W.Frag) (T : Side) (mg : Str → Option Value)
def PostV (F : Hp) (ρ : List Addr) (fr : Bool) (d : D) (G' : Gh) (Q : VK) : Prop :=
  ∀ v H' F' ρ', R K T H' F' ρ' G' → Same F F' → ρ <+: ρ' → Dr K F' ρ' v d → (fr = true → FreshL K T F H' F' ρ' G' v d) → Q v H'
def PostX (F : Hp) (ρ : List Addr) (c : Str) (G' : Gh) (W : Value → Hp → Prop) : Prop :=
  ∀ cls H' F' ρ', mg c = some cls → R K T H' F' ρ' G' → Same F F' → ρ <+: ρ' → W cls H'
def Run (W : WX) (σ : St) (fr : Bool) (F : Hp) (ρ : List Addr) (m : M D) (G : Gh) (Q : VK) : Prop :=
  ∃ r G', m G = some (r, G') ∧ match r with
    | .ok d => PostV K T F ρ fr d G' Q
    | .ex c => PostX K T mg F ρ c G' fun cls H' => W cls none σ H'
/-- the same of a truth -/
def RunB (W : WX) (σ : St) (F : Hp) (ρ : List Addr) (m : M Bool) (G : Gh) (Q : Bool → Hp → Prop) : Prop :=
  ∃ r G', m G = some (r, G') ∧ match r with
    | .ok b => ∀ H' F' ρ', R K T H' F' ρ' G' → Same F F' → ρ <+: ρ' → Q b H'
    | .ex c => PostX K T mg F ρ c G' fun cls H' => W cls none σ H'
def RunA (W : WX) (σ : St) (F : Hp) (ρ : List Addr) (m : M (List D)) (G : Gh) (Q : List V → Hp → Prop) : Prop :=
  ∃ r G', m G = some (r, G') ∧ match r with
    | .ok ds => ∀ vs H' F' ρ', R K T H' F' ρ' G' → Same F F' → ρ <+: ρ' → DrA K F' ρ' vs ds → Q vs H'
    | .ex c => PostX K T mg F ρ c G' fun cls H' => W cls none σ H'
end
section
variable (K : PySem.W.Frag) (T : List Addr) (mg : Str → Option Value)
def tV (W : WX) (fr : Bool) (fe : EnvD → M D) : TE := fun σ H Q =>
  ∃ Φ F ρ G env, R K ⟨T, Φ⟩ H F ρ G ∧ RS K F ρ σ env ∧ Run K ⟨T, Φ⟩ mg W σ fr F ρ (fe env) G Q
def tB (W : WX) (fe : EnvD → M Bool) : TT := fun σ H Q =>
  ∃ Φ F ρ G env, R K ⟨T, Φ⟩ H F ρ G ∧ RS K F ρ σ env ∧ RunB K ⟨T, Φ⟩ mg W σ F ρ (fe env) G Q
def tA (W : WX) (fe : EnvD → M (List D)) : TA := fun σ H Q =>
  ∃ Φ F ρ G env, R K ⟨T, Φ⟩ H F ρ G ∧ RS K F ρ σ env ∧ RunA K ⟨T, Φ⟩ mg W σ F ρ (fe env) G Q
end

section
variable {K : PySem.W.Frag} {T : Side} {mg : Str → Option Value} {W : WX} {σ : St} {F F0 F1 : Hp} {ρ ρ0 ρ1 : List Addr} {G G1 : Gh} {fr fr1 : Bool} {Q : VK}
theorem PostX.from {c : Str} {G' : Gh} {W' : Value → Hp → Prop} (h : PostX K T mg F0 ρ0 c G' W') (s : Same F0 F1) (p : ρ0 <+: ρ1) : PostX K T mg F1 ρ1 c G' W' :=
  fun cls H' F' ρ' h1 h2 h3 h4 => h cls H' F' ρ' h1 h2 (s.trans h3) (p.trans h4)
theorem Run.from {m : M D} (h : Run K T mg W σ fr F0 ρ0 m G Q) (s : Same F0 F1) (p : ρ0 <+: ρ1) : Run K T mg W σ fr F1 ρ1 m G Q := by
  obtain ⟨r, G', e, h⟩ := h
  refine ⟨r, G', e, ?_⟩
  cases r with
  | ok d => exact fun v H' F' ρ' h1 h2 h3 h4 h5 => h v H' F' ρ' h1 (s.trans h2) (p.trans h3) h4 fun q => (h5 q).from s
  | ex c => exact PostX.from h s p
theorem RunB.from {m : M Bool} {Q : Bool → Hp → Prop} (h : RunB K T mg W σ F0 ρ0 m G Q) (s : Same F0 F1) (p : ρ0 <+: ρ1) : RunB K T mg W σ F1 ρ1 m G Q := by
  obtain ⟨r, G', e, h⟩ := h
  refine ⟨r, G', e, ?_⟩
  cases r with
  | ok d => exact fun H' F' ρ' h1 h2 h3 => h H' F' ρ' h1 (s.trans h2) (p.trans h3)
  | ex c => exact PostX.from h s p
theorem RunA.from {m : M (List D)} {Q : List V → Hp → Prop} (h : RunA K T mg W σ F0 ρ0 m G Q) (s : Same F0 F1) (p : ρ0 <+: ρ1) : RunA K T mg W σ F1 ρ1 m G Q := by
  obtain ⟨r, G', e, h⟩ := h
  refine ⟨r, G', e, ?_⟩
  cases r with
  | ok d => exact fun v H' F' ρ' h1 h2 h3 h4 => h v H' F' ρ' h1 (s.trans h2) (p.trans h3) h4
  | ex c => exact PostX.from h s p

/-- the parts of a chain -/
theorem bind_parts {α β : Type} {ma : M α} {k : α → M β} {r : Res β} {G' : Gh} (e : (ma >>= k) G = some (r, G')) :
    (∃ a G1, ma G = some (.ok a, G1) ∧ k a G1 = some (r, G')) ∨ ∃ c, ma G = some (.ex c, G') ∧ r = .ex c := by
  rw [bind_def] at e
  cases h : ma G with
  | none => rw [h] at e; cases e
  | some q =>
    obtain ⟨ra, G1⟩ := q
    rw [h] at e
    cases ra with
    | ok a => exact .inl ⟨a, G1, rfl, e⟩
    | ex c => cases e; exact .inr ⟨c, rfl, rfl⟩

theorem Run.bind {ma : M D} {k : D → M D} (h : Run K T mg W σ fr F ρ (ma >>= k) G Q) {Q' : VK}
    (hk : ∀ v d H1 F1 ρ1 G1, R K T H1 F1 ρ1 G1 → Same F F1 → ρ <+: ρ1 → Dr K F1 ρ1 v d → (fr1 = true → FreshL K T F H1 F1 ρ1 G1 v d) → Run K T mg W σ fr F1 ρ1 (k d) G1 Q → Q' v H1) : Run K T mg W σ fr1 F ρ ma G Q' := by
  obtain ⟨r, G', e, h⟩ := h
  rcases bind_parts e with ⟨a, G1, e1, e2⟩ | ⟨c, e1, rfl⟩
  · refine ⟨.ok a, G1, e1, fun v H' F' ρ' h1 h2 h3 h4 h5 => hk v a H' F' ρ' G1 h1 h2 h3 h4 h5 (Run.from ⟨r, G', e2, h⟩ h2 h3)⟩
  · exact ⟨.ex c, G', e1, h⟩
theorem Run.bindA {ma : M (List D)} {k : List D → M D} (h : Run K T mg W σ fr F ρ (ma >>= k) G Q) {Q' : List V → Hp → Prop}
    (hk : ∀ v d H1 F1 ρ1 G1, R K T H1 F1 ρ1 G1 → Same F F1 → ρ <+: ρ1 → DrA K F1 ρ1 v d → Run K T mg W σ fr F1 ρ1 (k d) G1 Q → Q' v H1) : RunA K T mg W σ F ρ ma G Q' := by
  obtain ⟨r, G', e, h⟩ := h
  rcases bind_parts e with ⟨a, G1, e1, e2⟩ | ⟨c, e1, rfl⟩
  · refine ⟨.ok a, G1, e1, fun v H' F' ρ' h1 h2 h3 h4 => hk v a H' F' ρ' G1 h1 h2 h3 h4 (Run.from ⟨r, G', e2, h⟩ h2 h3)⟩
  · exact ⟨.ex c, G', e1, h⟩
theorem Run.bindB {ma : M Bool} {k : Bool → M D} (h : Run K T mg W σ fr F ρ (ma >>= k) G Q) {Q' : Bool → Hp → Prop}
    (hk : ∀ d H1 F1 ρ1 G1, R K T H1 F1 ρ1 G1 → Same F F1 → ρ <+: ρ1 → Run K T mg W σ fr F1 ρ1 (k d) G1 Q → Q' d H1) : RunB K T mg W σ F ρ ma G Q' := by
  obtain ⟨r, G', e, h⟩ := h
  rcases bind_parts e with ⟨a, G1, e1, e2⟩ | ⟨c, e1, rfl⟩
  · refine ⟨.ok a, G1, e1, fun H' F' ρ' h1 h2 h3 => hk a H' F' ρ' G1 h1 h2 h3 (Run.from ⟨r, G', e2, h⟩ h2 h3)⟩
  · exact ⟨.ex c, G', e1, h⟩
theorem RunB.bind {ma : M D} {k : D → M Bool} {Q : Bool → Hp → Prop} (h : RunB K T mg W σ F ρ (ma >>= k) G Q) {Q' : VK}
    (hk : ∀ v d H1 F1 ρ1 G1, R K T H1 F1 ρ1 G1 → Same F F1 → ρ <+: ρ1 → Dr K F1 ρ1 v d → RunB K T mg W σ F1 ρ1 (k d) G1 Q → Q' v H1) : Run K T mg W σ fr1 F ρ ma G Q' := by
  obtain ⟨r, G', e, h⟩ := h
  rcases bind_parts e with ⟨a, G1, e1, e2⟩ | ⟨c, e1, rfl⟩
  · refine ⟨.ok a, G1, e1, fun v H' F' ρ' h1 h2 h3 h4 h5 => hk v a H' F' ρ' G1 h1 h2 h3 h4 (RunB.from ⟨r, G', e2, h⟩ h2 h3)⟩
  · exact ⟨.ex c, G', e1, h⟩
theorem RunB.bindB {ma : M Bool} {k : Bool → M Bool} {Q : Bool → Hp → Prop} (h : RunB K T mg W σ F ρ (ma >>= k) G Q) {Q' : Bool → Hp → Prop}
    (hk : ∀ d H1 F1 ρ1 G1, R K T H1 F1 ρ1 G1 → Same F F1 → ρ <+: ρ1 → RunB K T mg W σ F1 ρ1 (k d) G1 Q → Q' d H1) : RunB K T mg W σ F ρ ma G Q' := by
  obtain ⟨r, G', e, h⟩ := h
  rcases bind_parts e with ⟨a, G1, e1, e2⟩ | ⟨c, e1, rfl⟩
  · refine ⟨.ok a, G1, e1, fun H' F' ρ' h1 h2 h3 => hk a H' F' ρ' G1 h1 h2 h3 (RunB.from ⟨r, G', e2, h⟩ h2 h3)⟩
  · exact ⟨.ex c, G', e1, h⟩
theorem RunA.bind {ma : M D} {k : D → M (List D)} {Q : List V → Hp → Prop} (h : RunA K T mg W σ F ρ (ma >>= k) G Q) {Q' : VK}
    (hk : ∀ v d H1 F1 ρ1 G1, R K T H1 F1 ρ1 G1 → Same F F1 → ρ <+: ρ1 → Dr K F1 ρ1 v d → RunA K T mg W σ F1 ρ1 (k d) G1 Q → Q' v H1) : Run K T mg W σ fr1 F ρ ma G Q' := by
  obtain ⟨r, G', e, h⟩ := h
  rcases bind_parts e with ⟨a, G1, e1, e2⟩ | ⟨c, e1, rfl⟩
  · refine ⟨.ok a, G1, e1, fun v H' F' ρ' h1 h2 h3 h4 h5 => hk v a H' F' ρ' G1 h1 h2 h3 h4 (RunA.from ⟨r, G', e2, h⟩ h2 h3)⟩
  · exact ⟨.ex c, G', e1, h⟩
theorem RunA.bindA {ma : M (List D)} {k : List D → M (List D)} {Q : List V → Hp → Prop} (h : RunA K T mg W σ F ρ (ma >>= k) G Q) {Q' : List V → Hp → Prop}
    (hk : ∀ v d H1 F1 ρ1 G1, R K T H1 F1 ρ1 G1 → Same F F1 → ρ <+: ρ1 → DrA K F1 ρ1 v d → RunA K T mg W σ F1 ρ1 (k d) G1 Q → Q' v H1) : RunA K T mg W σ F ρ ma G Q' := by
  obtain ⟨r, G', e, h⟩ := h
  rcases bind_parts e with ⟨a, G1, e1, e2⟩ | ⟨c, e1, rfl⟩
  · refine ⟨.ok a, G1, e1, fun v H' F' ρ' h1 h2 h3 h4 => hk v a H' F' ρ' G1 h1 h2 h3 h4 (RunA.from ⟨r, G', e2, h⟩ h2 h3)⟩
  · exact ⟨.ex c, G', e1, h⟩
theorem Run.pure {d : D} {H : Hp} {v : V} (h : Run K T mg W σ fr F ρ (pure d) G Q) (hR : R K T H F ρ G) (r : Dr K F ρ v d) (f : fr = true → FreshL K T F H F ρ G v d) : Q v H := by
  obtain ⟨r', G', e, h⟩ := h
  cases e
  exact h v H F ρ hR (Same.refl _) (List.prefix_refl _) r f
/-- .. where the heap has grown -/
theorem Run.pure' {d : D} {H1 : Hp} {v : V} (h : Run K T mg W σ fr F ρ (Pure.pure d) G Q) (hR : R K T H1 F1 ρ1 G) (s : Same F F1) (p : ρ <+: ρ1) (r : Dr K F1 ρ1 v d) (f : fr = true → FreshL K T F H1 F1 ρ1 G v d) : Q v H1 := by
  obtain ⟨r', G', e, h⟩ := h
  cases e
  exact h v H1 F1 ρ1 hR s p r f
theorem RunB.pure {b : Bool} {H : Hp} {Q : Bool → Hp → Prop} (h : RunB K T mg W σ F ρ (Pure.pure b) G Q) (hR : R K T H F ρ G) : Q b H := by
  obtain ⟨r', G', e, h⟩ := h
  cases e
  exact h H F ρ hR (Same.refl _) (List.prefix_refl _)
theorem RunA.pure {ds : List D} {vs : List V} {H : Hp} {Q : List V → Hp → Prop} (h : RunA K T mg W σ F ρ (Pure.pure ds) G Q) (hR : R K T H F ρ G) (r : DrA K F ρ vs ds) : Q vs H := by
  obtain ⟨r', G', e, h⟩ := h
  cases e
  exact h vs H F ρ hR (Same.refl _) (List.prefix_refl _) r
theorem Run.stuck (h : Run K T mg W σ fr F ρ stuck G Q) : False := by
  obtain ⟨r', G', e, h⟩ := h
  cases e
theorem RunB.stuck {Q : Bool → Hp → Prop} (h : RunB K T mg W σ F ρ stuck G Q) : False := by
  obtain ⟨r', G', e, h⟩ := h
  cases e
end

/-! ### consequence -/
theorem PE.imp {X : Cx} {e : Expr} {t t' : TE} (h : PE X e t) (hi : ∀ σ H Q, t' σ H Q → t σ H Q) : PE X e t' := ⟨fun pins s σ H Q I hw => h.run pins s σ H Q I (hi _ _ _ hw)⟩
theorem PT.imp {X : Cx} {e : Expr} {t t' : TT} (h : PT X e t) (hi : ∀ σ H Q, t' σ H Q → t σ H Q) : PT X e t' := ⟨fun pins s σ H Q I hw => h.run pins s σ H Q I (hi _ _ _ hw)⟩
theorem PW.imp {X : Cx} {e : Expr} {t t' : TT} (h : PW X e t) (hi : ∀ σ H Q, t' σ H Q → t σ H Q) : PW X e t' := ⟨fun wh pins s σ H Q I hw => h.run wh pins s σ H Q I (hi _ _ _ hw)⟩
theorem PA.imp {X : Cx} {e : List Expr} {t t' : TA} (h : PA X e t) (hi : ∀ σ H Q, t' σ H Q → t σ H Q) : PA X e t' := ⟨fun pos pins s σ H Q I hw => h.run pos pins s σ H Q I (hi _ _ _ hw)⟩
theorem PS.imp {X : Cx} {e : Stmt} {t t' : TS} (h : PS X e t) (hi : ∀ D σ H, t' D σ H → t D σ H) : PS X e t' := ⟨fun pins s σ H D I hw => h.run pins s σ H D I (hi _ _ _ hw)⟩
theorem PSs.imp {X : Cx} {e : List Stmt} {t t' : TS} (h : PSs X e t) (hi : ∀ D σ H, t' D σ H → t D σ H) : PSs X e t' := ⟨fun pins s σ H D I hw => h.run pins s σ H D I (hi _ _ _ hw)⟩
end L2.GL
end

section
set_option Elab.async false
set_option linter.all false
set_option maxRecDepth 100000
set_option autoImplicit false
/-! G2: names, constants, operators, comparisons, calls of built-ins. -/
namespace L2.GL
open PySem PySem.Spec PyProof.Rows

abbrev PV (X : Cx) (T : List Addr) (W : WX) (fr : Bool) (e : Expr) (fe : EnvD → M D) : Prop := PE X e (tV X.K T X.mg W fr fe)
abbrev PB (X : Cx) (T : List Addr) (W : WX) (e : Expr) (fe : EnvD → M Bool) : Prop := PT X e (tB X.K T X.mg W fe)
abbrev PBW (X : Cx) (T : List Addr) (W : WX) (e : Expr) (fe : EnvD → M Bool) : Prop := PW X e (tB X.K T X.mg W fe)
abbrev PVs (X : Cx) (T : List Addr) (W : WX) (es : List Expr) (fe : EnvD → M (List D)) : Prop := PA X es (tA X.K T X.mg W fe)

/-- a slot's value -/
def getV (i : Nat) (env : EnvD) : M D := match env[i]? with
  | some (some d) => pure d
  | _ => stuck

section
variable {X : Cx} {T : List Addr} {W : WX} {pos : Pos} {a b : Expr} {fa fb : EnvD → M D} {fr ga gb : Bool}

theorem v_var {i : Nat} {x : Str} (hN : X.N[i]? = some x) (hv : Vis X.env.scope x) (hd : (x == ("__debug__" : Str)) = false := by decide) (hcd : (x == ("__classdict__" : Str)) = false := by decide) : PV X T W false (.Name x pos) (getV i) :=
  PE.imp (pe_var hN hv hd hcd) fun σ H Q ⟨Φ, F, ρ, G, env, hR, hS, h⟩ => by
    unfold getV at h
    split at h
    · rename_i d e
      obtain ⟨v, h1, h2⟩ := hS.at_ i d e
      exact ⟨v, h1, h.pure hR h2 (fun z => nomatch z)⟩
    · exact h.stuck.elim
theorem v_const {e : Expr} {v : V} {d : D} (h : PE X e (tC v)) (r : ∀ (K : PySem.W.Frag) (F : Hp) (ρ : List Addr), Dr K F ρ v d) (hd : ∀ ds, d ≠ .lst ds) : PV X T W true e (fun _ => pure d) :=
  PE.imp h fun σ H Q ⟨Φ, F, ρ, G, env, hR, hS, h⟩ => h.pure hR (r _ _ _) fun _ => .of hd
theorem v_int {i : Int} {j : Nat} : PV X T W true (.Constant (.int i) j pos) (fun _ => pure (.int i)) := v_const pe_int (fun _ _ _ => .int i) (fun _ z => nomatch z)
theorem v_bl {i : Bool} {j : Nat} : PV X T W true (.Constant (.bool i) j pos) (fun _ => pure (.bl i)) := v_const pe_bl (fun _ _ _ => .bl i) (fun _ z => nomatch z)
theorem v_non {j : Nat} : PV X T W true (.Constant .none j pos) (fun _ => pure .non) := v_const pe_non (fun _ _ _ => .non) (fun _ z => nomatch z)
theorem v_str {i : Str} {j : Nat} : PV X T W true (.Constant (.str i) j pos) (fun _ => pure (.str i)) := v_const pe_str (fun _ _ _ => .str i) (fun _ z => nomatch z)
/-- a built-in class as a value -/
theorem v_ty {x : Str} {n : String} (hg : Gl X x) (hm : X.mg x = none) (hv : bootBuiltins x = some (.type n)) (hn : x ≠ "__name__" := by decide) (hd : (x == ("__debug__" : Str)) = false := by decide) :
    PV X T W true (.Name x pos) (fun _ => pure (.ty n)) := v_const (pe_bltn (v := .ty n) hg hm hv rfl hn hd) (fun _ _ _ => .ty n) (fun _ z => nomatch z)
/-- a text or a number of the module -/
theorem v_globs {x y : Str} {t : Tok} (hg : Gl X x) (hm : X.mg x = some (.str y t)) (hd : (x == ("__debug__" : Str)) = false := by decide) : PV X T W true (.Name x pos) (fun _ => pure (.str y)) :=
  v_const (pe_glob (v := .str y) hg hm ⟨_, rfl⟩ hd) (fun _ _ _ => .str y) (fun _ z => nomatch z)
theorem v_globi {x : Str} {y : Int} {t : Tok} (hg : Gl X x) (hm : X.mg x = some (.int y t)) (hd : (x == ("__debug__" : Str)) = false := by decide) : PV X T W true (.Name x pos) (fun _ => pure (.int y)) :=
  v_const (pe_glob (v := .int y) hg hm ⟨_, rfl⟩ hd) (fun _ _ _ => .int y) (fun _ z => nomatch z)

/-- freshness forgotten -/
theorem PV.drop {e : Expr} {fe : EnvD → M D} (h : PV X T W true e fe) : PV X T W false e fe :=
  PE.imp h fun σ H Q ⟨Φ, F, ρ, G, env, hR, hS, r, G', e, h⟩ => ⟨Φ, F, ρ, G, env, hR, hS, r, G', e, by
    cases r with
    | ok d => exact fun v H' F' ρ' h1 h2 h3 h4 _ => h v H' F' ρ' h1 h2 h3 h4 (fun z => nomatch z)
    | ex c => exact h⟩

/-! ### operators on values -/
/-- what a two-place operation asks by values, told by data -/
def OpV (K : PySem.W.Frag) (mg : Str → Option Value) (fr : Bool) (r : R2) (g : D → D → M D) : Prop :=
  ∀ (T : Side) (W : WX) (σ : L2.St) (x y : V) (d e : D) (H F : Hp) (ρ : List Addr) (G : Gh) (Q : VK), R K T H F ρ G → Dr K F ρ x d → Dr K F ρ y e → Run K T mg W σ fr F ρ (g d e) G Q → r x y H Q
theorem OpV.or1 {K : PySem.W.Frag} {mg : Str → Option Value} {r r' : R2} {g : D → D → M D} (h : OpV K mg fr r g) : OpV K mg fr (fun x y H Q => r x y H Q ∨ r' x y H Q) g :=
  fun T W σ x y d e H F ρ G Q h1 h2 h3 h4 => .inl (h T W σ x y d e H F ρ G Q h1 h2 h3 h4)

theorem two_vals {σ : L2.St} {H : Hp} {Q : VK} {g : D → D → M D} {r : R2} (hg : OpV X.K X.mg fr r g) (h : tV X.K T X.mg W fr (fun env => do let d ← fa env; let e ← fb env; g d e) σ H Q) : tOp r (tV X.K T X.mg W ga fa) (tV X.K T X.mg W gb fb) σ H Q := by
  obtain ⟨Φ, F, ρ, G, env, hR, hS, h⟩ := h
  refine ⟨Φ, F, ρ, G, env, hR, hS, h.bind fun v d H1 F1 ρ1 G1 R1 s1 p1 r1 _ h1 => ?_⟩
  refine ⟨Φ, F1, ρ1, G1, env, R1, hS.mono s1 p1, h1.bind fun u e H2 F2 ρ2 G2 R2 s2 p2 r2 _ h2 => ?_⟩
  exact hg _ W σ v u d e H2 F2 ρ2 G2 Q R2 (r1.mono s2 p2) r2 h2
theorem v_bin {op : Operator} {r : R2} {g : D → D → M D} (ho : OpR X (binaryOp op) r) (hg : OpV X.K X.mg fr r g) (ha : PV X T W ga a fa) (hb : PV X T W gb b fb) :
    PV X T W fr (.BinOp a op b pos) (fun env => do let d ← fa env; let e ← fb env; g d e) := PE.imp (pe_op ho ha hb) fun σ H Q h => two_vals hg h
/-- a comparison's answer, as a value -/
def vB (m : M Bool) : M D := do let b ← m; pure (.bl b)
theorem v_cmp {op : CmpOp} {r : R2} {c : D → D → M Bool} (ho : OpR X (compareOp op) r) (hg : OpV X.K X.mg fr r fun d e => vB (c d e)) (hm : behindInMarks op b = false) (ha : PV X T W ga a fa) (hb : PV X T W gb b fb) :
    PV X T W fr (.Compare a [op] [b] pos) (fun env => do let d ← fa env; let e ← fb env; vB (c d e)) := PE.imp (pe_cmpR ho ha hb hm) fun σ H Q h => two_vals hg h
theorem RunB.toV {K : PySem.W.Frag} {T : Side} {mg : Str → Option Value} {σ : L2.St} {F : Hp} {ρ : List Addr} {m : M Bool} {G : Gh} {Q : Bool → Hp → Prop} (h : RunB K T mg W σ F ρ m G Q) : Run K T mg W σ fr F ρ (vB m) G fun x H' => ∃ k, x = V.bl k ∧ Q k H' := by
  obtain ⟨r, G', e, h⟩ := h
  cases r with
  | ok b => exact ⟨.ok (.bl b), G', bind_ok e, fun v H' F' ρ' h1 h2 h3 h4 _ => by cases h4; exact ⟨b, rfl, h H' F' ρ' h1 h2 h3⟩⟩
  | ex c => exact ⟨.ex c, G', bind_ex e, h⟩
theorem b_cmp {op : CmpOp} {r : R2} {c : D → D → M Bool} (ho : OpR X (compareOp op) r) (hg : OpV X.K X.mg true r fun d e => vB (c d e)) (hm : behindInMarks op b = false) (ha : PV X T W ga a fa) (hb : PV X T W gb b fb) :
    PB X T W (.Compare a [op] [b] pos) (fun env => do let d ← fa env; let e ← fb env; c d e) := PT.imp (pt_cmpR ho ha hb hm) fun σ H Q ⟨Φ, F, ρ, G, env, hR, hS, h⟩ => by
  refine two_vals hg ⟨Φ, F, ρ, G, env, hR, hS, ?_⟩
  have h' := h.toV (fr := true)
  obtain ⟨r', G', e, h'⟩ := h'
  refine ⟨r', G', ?_, h'⟩
  rw [← e]
  funext
  show (fa env >>= fun d => fb env >>= fun e => vB (c d e)) G = ((fa env >>= fun d => fb env >>= fun e => c d e) >>= fun b => pure (D.bl b)) G
  simp only [bind_def, vB]
  cases fa env G with
  | none => rfl
  | some q =>
    obtain ⟨ra, G1⟩ := q
    cases ra with
    | ex c => rfl
    | ok x =>
      show (match fb env G1 with | _ => _) = _
      dsimp only
      cases fb env G1 with
      | none => rfl
      | some q2 =>
        obtain ⟨rb, G2⟩ := q2
        cases rb <;> rfl

/-- one value in -/
def UnV (K : PySem.W.Frag) (mg : Str → Option Value) (fr : Bool) (r : V → Hp → VK → Prop) (g : D → M D) : Prop :=
  ∀ (T : Side) (W : WX) (σ : L2.St) (x : V) (d : D) (H F : Hp) (ρ : List Addr) (G : Gh) (Q : VK), R K T H F ρ G → Dr K F ρ x d → Run K T mg W σ fr F ρ (g d) G Q → r x H Q
theorem v_un {op : UnaryOp} {r : V → Hp → VK → Prop} {g : D → M D} (ho : UnR X (unaryOp op) r) (hg : UnV X.K X.mg fr r g) (ha : PV X T W ga a fa) : PV X T W fr (.UnaryOp op a pos) (fun env => do let d ← fa env; g d) :=
  PE.imp (pe_un ho ha) fun σ H Q ⟨Φ, F, ρ, G, env, hR, hS, h⟩ => ⟨Φ, F, ρ, G, env, hR, hS, h.bind fun v d H1 F1 ρ1 G1 R1 s1 p1 r1 _ h1 => hg _ W σ v d H1 F1 ρ1 G1 Q R1 r1 h1⟩

/-! ### argument lists -/
theorem a_nil : PVs X T W [] (fun _ => pure []) := PA.imp pa_nil fun σ H Q ⟨Φ, F, ρ, G, env, hR, hS, h⟩ => h.pure hR .nil
theorem a_cons {es : List Expr} {fs : EnvD → M (List D)} (ha : PV X T W ga a fa) (hr : PVs X T W es fs) (hs : starEach (a :: es) X.env = (false, eval a X.env) :: starEach es X.env := by rfl) :
    PVs X T W (a :: es) (fun env => do let d ← fa env; let ds ← fs env; pure (d :: ds)) :=
  PA.imp (pa_cons ha hr hs) fun σ H Q ⟨Φ, F, ρ, G, env, hR, hS, h⟩ => ⟨Φ, F, ρ, G, env, hR, hS, h.bind fun v d H1 F1 ρ1 G1 R1 s1 p1 r1 h1 =>
    ⟨Φ, F1, ρ1, G1, env, R1, hS.mono s1 p1, h1.bindA fun vs ds H2 F2 ρ2 G2 R2 s2 p2 r2 h2 => h2.pure R2 (.cons (r1.mono s2 p2) r2)⟩⟩

/-- a built-in's call by values, told by data -/
def CallV (K : PySem.W.Frag) (mg : Str → Option Value) (fr : Bool) (r : List V → Hp → VK → Prop) (g : List D → M D) : Prop :=
  ∀ (T : Side) (W : WX) (σ : L2.St) (vs : List V) (ds : List D) (H F : Hp) (ρ : List Addr) (G : Gh) (Q : VK), R K T H F ρ G → DrA K F ρ vs ds → Run K T mg W σ fr F ρ (g ds) G Q → r vs H Q
theorem args_vals {σ : L2.St} {H : Hp} {Q : VK} {g : List D → M D} {r : List V → Hp → VK → Prop} {fs : EnvD → M (List D)} (hg : CallV X.K X.mg fr r g) (h : tV X.K T X.mg W fr (fun env => do let ds ← fs env; g ds) σ H Q) : tCB r (tA X.K T X.mg W fs) σ H Q := by
  obtain ⟨Φ, F, ρ, G, env, hR, hS, h⟩ := h
  exact ⟨Φ, F, ρ, G, env, hR, hS, h.bindA fun vs ds H1 F1 ρ1 G1 R1 s1 p1 r1 h1 => hg _ W σ vs ds H1 F1 ρ1 G1 Q R1 r1 h1⟩
theorem v_callB {x : Str} {p : Pos} {id : String} {e : Expr} {es : List Expr} {fs : EnvD → M (List D)} {r : List V → Hp → VK → Prop} {g : List D → M D} (hc : CallR X (.builtin id) r) (hg : CallV X.K X.mg fr r g) (hgl : Gl X x) (hm : X.mg x = none) (hv : bootBuiltins x = some (.builtin id)) (ha : PVs X T W (e :: es) fs) (hn : x ≠ "__name__" := by decide) (hdb : (x == ("__debug__" : Str)) = false := by decide)
    (he : starEach (e :: es) X.env = (false, eval e X.env) :: starEach es X.env := by rfl) (hpl : (backTo pos (starEach es X.env)).any (·.1) = false := by rfl) : PV X T W fr (.Call (.Name x p) (e :: es) [] pos) (fun env => do let ds ← fs env; g ds) :=
  PE.imp (pe_callB hc hgl hm hv ha hn hdb he hpl) fun σ H Q h => args_vals hg h
theorem v_callT {x : Str} {p : Pos} {n : String} {e : Expr} {es : List Expr} {fs : EnvD → M (List D)} {r : List V → Hp → VK → Prop} {g : List D → M D} (hc : CallR X (.type n) r) (hg : CallV X.K X.mg fr r g) (hgl : Gl X x) (hm : X.mg x = none) (hv : bootBuiltins x = some (.type n)) (ha : PVs X T W (e :: es) fs) (hn : x ≠ "__name__" := by decide) (hdb : (x == ("__debug__" : Str)) = false := by decide)
    (he : starEach (e :: es) X.env = (false, eval e X.env) :: starEach es X.env := by rfl) (hpl : (backTo pos (starEach es X.env)).any (·.1) = false := by rfl) : PV X T W fr (.Call (.Name x p) (e :: es) [] pos) (fun env => do let ds ← fs env; g ds) :=
  PE.imp (pe_callTy hc hgl hm hv ha hn hdb he hpl) fun σ H Q h => args_vals hg h
end

/-! ### what a list or tuple holds -/
def getL (d : D) : M (List D) := fun G => match d with
  | .lst ds => some (.ok ds, G)
  | .cell n => match G[n]? with
    | some ds => some (.ok ds, G)
    | none => none
  | _ => none
def getS (d : D) : M (List D) := fun G => match d with
  | .tup ds => some (.ok ds, G)
  | d => getL d G
section
variable {K : PySem.W.Frag} {T : Side} {mg : Str → Option Value} {W : WX} {σ : L2.St} {H F : Hp} {ρ : List Addr} {G : Gh} {fr : Bool} {v : V} {d : D}
theorem getL_spec {r : Res (List D)} {G' : Gh} (hR : R K T H F ρ G) (r1 : Dr K F ρ v d) (e : getL d G = some (r, G')) : ∃ a xs ds, r = .ok ds ∧ G' = G ∧ v = .ref a ∧ SqL K H a xs ∧ DrA K F ρ xs ds := by
  unfold getL at e
  cases r1 with
  | lst h t => cases e; exact ⟨_, _, _, rfl, rfl, rfl, hR.sub.seq h, t⟩
  | @cell a n h =>
    dsimp only at e
    split at e
    · rename_i ds q
      cases e
      obtain ⟨xs, h1, h2⟩ := hR.cel n a ds h q
      exact ⟨a, xs, ds, rfl, rfl, rfl, .of h1, h2.mono (Same.refl _) (List.nil_prefix)⟩
    · cases e
  | _ => cases e
theorem getS_spec {r : Res (List D)} {G' : Gh} (hR : R K T H F ρ G) (r1 : Dr K F ρ v d) (e : getS d G = some (r, G')) : ∃ a xs ds, r = .ok ds ∧ G' = G ∧ v = .ref a ∧ (SqL K H a xs ∨ SqT K H a xs) ∧ DrA K F ρ xs ds := by
  unfold getS at e
  cases r1 with
  | tup h t => cases e; exact ⟨_, _, _, rfl, rfl, rfl, .inr (Same.tup hR.sub h), t⟩
  | lst h t =>
    obtain ⟨a, xs, ds, h1, h2, h3, h4, h5⟩ := getL_spec hR (.lst h t) e
    exact ⟨a, xs, ds, h1, h2, h3, .inl h4, h5⟩
  | cell h =>
    obtain ⟨a, xs, ds, h1, h2, h3, h4, h5⟩ := getL_spec hR (.cell h) e
    exact ⟨a, xs, ds, h1, h2, h3, .inl h4, h5⟩
  | _ => cases e
theorem Run.getS {k : List D → M D} {Q : VK} (h : Run K T mg W σ fr F ρ (getS d >>= k) G Q) (hR : R K T H F ρ G) (r1 : Dr K F ρ v d) :
    ∃ a xs ds, v = .ref a ∧ (SqL K H a xs ∨ SqT K H a xs) ∧ DrA K F ρ xs ds ∧ Run K T mg W σ fr F ρ (k ds) G Q := by
  obtain ⟨r, G', e, h⟩ := h
  rcases bind_parts e with ⟨ds', G1, e1, e2⟩ | ⟨c, e1, rfl⟩
  · obtain ⟨a, xs, ds, q1, rfl, rfl, q4, q5⟩ := getS_spec hR r1 e1
    cases q1
    exact ⟨a, xs, ds', rfl, q4, q5, r, G', e2, h⟩
  · obtain ⟨a, xs, ds, q1, _⟩ := getS_spec hR r1 e1
    cases q1
theorem Run.getL {k : List D → M D} {Q : VK} (h : Run K T mg W σ fr F ρ (getL d >>= k) G Q) (hR : R K T H F ρ G) (r1 : Dr K F ρ v d) :
    ∃ a xs ds, v = .ref a ∧ SqL K H a xs ∧ DrA K F ρ xs ds ∧ Run K T mg W σ fr F ρ (k ds) G Q := by
  obtain ⟨r, G', e, h⟩ := h
  rcases bind_parts e with ⟨ds', G1, e1, e2⟩ | ⟨c, e1, rfl⟩
  · obtain ⟨a, xs, ds, q1, rfl, rfl, q4, q5⟩ := getL_spec hR r1 e1
    cases q1
    exact ⟨a, xs, ds', rfl, q4, q5, r, G', e2, h⟩
  · obtain ⟨a, xs, ds, q1, _⟩ := getL_spec hR r1 e1
    cases q1
/-- a new tuple -/
theorem Run.newT {ds : List D} {xs : List V} {Q : VK} {p : Addr} (h : Run K T mg W σ fr F ρ (Pure.pure (D.tup ds)) G Q) (hR : R K T H F ρ G) (r : DrA K F ρ xs ds) (hp : H p = none) : Q (.ref p) (upd H p (.tup xs)) :=
  Run.pure' h (hR.alloc hp) (same_updN (hR.sub.free hp)) (List.prefix_refl _) (Dr.tup (.of upd_same) (r.mono (same_updN (hR.sub.free hp)) (List.prefix_refl _))) fun _ => .of fun _ z => nomatch z
/-- a new list -/
theorem Run.newL {ds : List D} {xs : List V} {Q : VK} {p : Addr} (h : Run K T mg W σ fr F ρ (Pure.pure (D.lst ds)) G Q) (hR : R K T H F ρ G) (r : DrA K F ρ xs ds) (hp : H p = none) : Q (.ref p) (upd H p (.lst xs)) := by
  have hF := hR.sub.free hp
  refine Run.pure' h (hR.alloc hp) (same_updN hF) (List.prefix_refl _) (Dr.lst (.of upd_same) (r.mono (same_updN hF) (List.prefix_refl _))) fun _ es e => ?_
  cases e
  refine ⟨p, xs, rfl, hF, upd_same, fun m => ?_, ?_, ?_⟩
  · obtain ⟨ys, q⟩ := hR.some_of m
    rw [hp] at q; cases q
  · rw [del_upd hF]; exact hR.grow hp
  · rw [del_upd hF]; exact r
end

/-! ### arithmetic -/
def bitsOk (i j : Int) : Bool := decide (i.natAbs.log2 + j.natAbs.log2 < 130000000)
theorem bitsOk.ok {i j : Int} (h : bitsOk i j = true) : IntMulOk i j := by
  have b : ∀ x : Int, Builtin.Int.intBits x ≤ x.natAbs.log2 + 1 := fun x => by
    unfold Builtin.Int.intBits
    split <;> omega
  have h1 := b i
  have h2 := b j
  have h3 : i.natAbs.log2 + j.natAbs.log2 < 130000000 := of_decide_eq_true h
  have e : bitsLine = 134217728 := by decide
  unfold IntMulOk
  intro z
  have z2 := (Bool.and_eq_true_iff.mp z).2
  unfold Builtin.Int.intTooBig at z2
  have z3 := of_decide_eq_true z2
  omega
def opAdd : D → D → M D
  | .int i, .int j => pure (.int (i + j))
  | .str a, .str b => if a.length + b.length ≤ sizeLine then pure (.str (a ++ b)) else stuck
  | .tup xs, .tup ys => if xs.length + ys.length ≤ sizeLine then pure (.tup (xs ++ ys)) else stuck
  | _, _ => stuck
def opSub : D → D → M D
  | .int i, .int j => pure (.int (i - j))
  | _, _ => stuck
def opMul : D → D → M D
  | .int i, .int j => if bitsOk i j = true then pure (.int (i * j)) else stuck
  | _, _ => stuck
def opMod : D → D → M D
  | .int i, .int j => if j = 0 then stuck else pure (.int (i.fmod j))
  | _, _ => stuck
def opDiv : D → D → M D
  | .int i, .int j => if j = 0 then stuck else if j.natAbs.log2 < 9000 then pure (.int (i.fdiv j)) else stuck
  | _, _ => stuck
def opPow : D → D → M D
  | .int i, .int j => if 0 ≤ j ∧ j ≤ 1000000 ∧ i.natAbs < 2 ^ 64 then pure (.int (i ^ j.toNat)) else stuck
  | _, _ => stuck
def opNeg : D → M D
  | .int i => pure (.int (-i))
  | _ => stuck

section
variable {X : Cx}
theorem op_mulX : OpR X (binaryOp .Mult) (rI (fun i j => bitsOk i j = true) fun i j => .int (i * j)) := opI fun _ _ _ _ _ _ _ hc q => mul_int q (bitsOk.ok hc)
theorem op_fdivX : OpR X (binaryOp .FloorDiv) (rI (fun _ j => j ≠ 0 ∧ j.natAbs.log2 < 9000) fun i j => .int (i.fdiv j)) := opI fun _ _ _ _ _ _ _ hc q => floordiv_int hc.1 q (.inl (PyProof.noPylong_of_log2 hc.2))
def rAdd (K : PySem.W.Frag) : R2 := fun x y H Q => (rI0 (fun i j => .int (i + j)) x y H Q) ∨ (∃ i j, x = .str i ∧ y = .str j ∧ i.length + j.length ≤ sizeLine ∧ Q (.str (i ++ j)) H) ∨ rCatA K x y H Q
theorem op_addX : OpR X (binaryOp .Add) (rAdd X.K) := op_add.or (op_add_str.or op_catA)
end
section
variable {K : PySem.W.Frag} {mg : Str → Option Value} {fr : Bool}
theorem o_add : OpV K mg fr (rAdd K) opAdd := by
  intro T W σ x y d e H F ρ G Q hR rx ry h
  cases rx with
  | int i =>
    cases ry with
    | int j => exact .inl ⟨i, j, rfl, rfl, h.pure hR (.int _) fun _ => .of fun _ z => nomatch z⟩
    | _ => exact h.stuck.elim
  | str i =>
    cases ry with
    | str j =>
      rw [show opAdd (.str i) (.str j) = if i.length + j.length ≤ sizeLine then pure (.str (i ++ j)) else stuck from rfl] at h
      split at h
      · rename_i hz
        exact .inr (.inl ⟨i, j, rfl, rfl, hz, h.pure hR (.str _) fun _ => .of fun _ z => nomatch z⟩)
      · exact h.stuck.elim
    | _ => exact h.stuck.elim
  | @tup a xs ds ha hxs =>
    cases ry with
    | @tup b ys es hb hys =>
      rw [show opAdd (.tup ds) (.tup es) = if ds.length + es.length ≤ sizeLine then pure (.tup (ds ++ es)) else stuck from rfl] at h
      split at h
      · rename_i hz
        refine .inr (.inr ⟨a, b, xs, ys, rfl, rfl, Same.tup hR.sub ha, Same.tup hR.sub hb, by rw [hxs.length, hys.length]; exact hz, fun e => ?_, fun _ e => ?_, fun _ _ p hp => h.newT hR (hxs.append hys) hp⟩)
        · subst e
          cases hxs
          exact h.pure hR (.tup hb hys) fun _ => .of fun _ z => nomatch z
        · subst e
          cases hys
          rw [List.append_nil] at h
          exact h.pure hR (.tup ha hxs) fun _ => .of fun _ z => nomatch z
      · exact h.stuck.elim
    | _ => exact h.stuck.elim
  | _ => exact h.stuck.elim
theorem o_int {C : Int → Int → Prop} {f : Int → Int → Int} {g : D → D → M D} (h1 : ∀ i j, (C i j ∧ g (.int i) (.int j) = pure (.int (f i j))) ∨ g (.int i) (.int j) = stuck) (h2 : ∀ d e, (∀ i j, ¬ (d = .int i ∧ e = .int j)) → g d e = stuck) : OpV K mg fr (rI C fun i j => .int (f i j)) g := by
  intro T W σ x y d e H F ρ G Q hR rx ry h
  by_cases q : ∃ i j, d = .int i ∧ e = .int j
  · obtain ⟨i, j, rfl, rfl⟩ := q
    cases rx
    cases ry
    rcases h1 i j with ⟨c, q⟩ | q
    · rw [q] at h
      exact ⟨i, j, rfl, rfl, c, h.pure hR (.int _) fun _ => .of fun _ z => nomatch z⟩
    · rw [q] at h; exact h.stuck.elim
  · rw [h2 d e fun i j z => q ⟨i, j, z⟩] at h
    exact h.stuck.elim
theorem o_sub : OpV K mg fr (rI0 fun i j => .int (i - j)) opSub := by
  intro T W σ x y d e H F ρ G Q hR rx ry h
  obtain ⟨i, j, h1, h2, _, h3⟩ := o_int (K := K) (mg := mg) (fr := fr) (C := fun _ _ => True) (f := fun i j => i - j) (g := opSub) (fun i j => .inl ⟨trivial, rfl⟩) (fun d e q => by
    cases d <;> first | rfl | (cases e <;> first | rfl | exact absurd ⟨rfl, rfl⟩ (q _ _))) T W σ x y d e H F ρ G Q hR rx ry h
  exact ⟨i, j, h1, h2, h3⟩
theorem o_mul : OpV K mg fr (rI (fun i j => bitsOk i j = true) fun i j => .int (i * j)) opMul := o_int (fun i j => by
    unfold opMul
    by_cases h : bitsOk i j = true
    · exact .inl ⟨h, if_pos h⟩
    · exact .inr (if_neg h)) (fun d e q => by
    cases d <;> first | rfl | (cases e <;> first | rfl | exact absurd ⟨rfl, rfl⟩ (q _ _)))
theorem o_mod : OpV K mg fr (rI (fun _ j => j ≠ 0) fun i j => .int (i.fmod j)) opMod := o_int (fun i j => by
    unfold opMod
    by_cases h : j = 0
    · exact .inr (if_pos h)
    · exact .inl ⟨h, if_neg h⟩) (fun d e q => by
    cases d <;> first | rfl | (cases e <;> first | rfl | exact absurd ⟨rfl, rfl⟩ (q _ _)))
theorem o_div : OpV K mg fr (rI (fun _ j => j ≠ 0 ∧ j.natAbs.log2 < 9000) fun i j => .int (i.fdiv j)) opDiv := o_int (fun i j => by
    unfold opDiv
    by_cases h : j = 0
    · exact .inr (if_pos h)
    · by_cases h' : j.natAbs.log2 < 9000
      · exact .inl ⟨⟨h, h'⟩, (if_neg h).trans (if_pos h')⟩
      · exact .inr ((if_neg h).trans (if_neg h'))) (fun d e q => by
    cases d <;> first | rfl | (cases e <;> first | rfl | exact absurd ⟨rfl, rfl⟩ (q _ _)))
theorem o_pow : OpV K mg fr (rI CPow fun i j => .int (i ^ j.toNat)) opPow := o_int (fun i j => by
    unfold opPow
    by_cases h : 0 ≤ j ∧ j ≤ 1000000 ∧ i.natAbs < 2 ^ 64
    · exact .inl ⟨h, if_pos h⟩
    · exact .inr (if_neg h)) (fun d e q => by
    cases d <;> first | rfl | (cases e <;> first | rfl | exact absurd ⟨rfl, rfl⟩ (q _ _)))
theorem o_neg : UnV K mg fr (rU fun i => .int (-i)) opNeg := by
  intro T W σ x d H F ρ G Q hR rx h
  cases rx with
  | int i => exact ⟨i, rfl, h.pure hR (.int _) fun _ => .of fun _ z => nomatch z⟩
  | _ => exact h.stuck.elim
end

/-! ### comparisons of ints -/
def cInt (p : Int → Int → Bool) : D → D → M Bool
  | .int i, .int j => pure (p i j)
  | _, _ => stuck
section
variable {K : PySem.W.Frag} {mg : Str → Option Value} {fr : Bool}
theorem c_int {p : Int → Int → Bool} : OpV K mg fr (rI0 fun i j => .bl (p i j)) fun d e => vB (cInt p d e) := by
  intro T W σ x y d e H F ρ G Q hR rx ry h
  have no : ∀ {P : Prop}, Run K T mg W σ fr F ρ (vB stuck) G Q → P := fun z => by
    obtain ⟨r, G', e, _⟩ := z
    cases e
  cases rx with
  | int i =>
    cases ry with
    | int j => exact ⟨i, j, rfl, rfl, Run.pure (d := .bl (p i j)) h hR (.bl _) fun _ => .of fun _ z => nomatch z⟩
    | _ => exact no h
  | _ => exact no h
end
end L2.GL
end

section
set_option Elab.async false
set_option linter.all false
set_option maxRecDepth 100000
set_option autoImplicit false
/-! G3: data compared, tests, and, or, not; built-ins; places and slices; displays. -/
namespace L2.GL
open PySem PySem.Spec PyProof.Rows

/-! ### data -/
mutual
def D.toP : D → Option PyData
  | .non => some .none
  | .bl b => some (.bool b)
  | .int i => some (.int i)
  | .str x => some (.str x)
  | .tup xs => match D.toPA xs with
    | some ps => some (.tuple ps)
    | none => none
  | .lst xs => match D.toPA xs with
    | some ps => some (.list ps)
    | none => none
  | .cell _ => none
  | .ty _ => none
  | .dct _ => none
  | .exn _ _ => none
def D.toPA : List D → Option (List PyData)
  | [] => some []
  | d :: ds => match D.toP d, D.toPA ds with
    | some p, some ps => some (p :: ps)
    | _, _ => none
end
def toPG (G : Gh) : D → Option PyData
  | .cell n => match G[n]? with
    | some ds => (D.lst ds).toP
    | none => none
  | d => d.toP
section
variable {K : PySem.W.Frag} {F H : Hp} {ρ : List Addr}
mutual
theorem Dr.dp (s : Same F H) : ∀ {v : V} {d : D} {p : PyData}, Dr K F ρ v d → d.toP = some p → Dp K H v p
  | _, _, _, .non, e => by cases e; exact .non
  | _, _, _, .bl b, e => by cases e; exact .bl b
  | _, _, _, .int i, e => by cases e; exact .int i
  | _, _, _, .str x, e => by cases e; exact .str x
  | _, _, _, .ty n, e => by cases e
  | _, _, _, .dct _, e => by cases e
  | _, _, _, .exn _ _, e => by cases e
  | _, _, _, .tup h t, e => by
    unfold D.toP at e
    split at e
    · rename_i ps q
      cases e
      exact .tup (Same.tup s h) (DrA.dp s t q)
    · cases e
  | _, _, _, .lst h t, e => by
    unfold D.toP at e
    split at e
    · rename_i ps q
      cases e
      exact .lst (s.seq h) (DrA.dp s t q)
    · cases e
  | _, _, _, .cell h, e => by cases e
theorem DrA.dp (s : Same F H) : ∀ {v : List V} {d : List D} {p : List PyData}, DrA K F ρ v d → D.toPA d = some p → DpAll K H v p
  | _, _, _, .nil, e => by cases e; exact .nil
  | _, _, _, .cons h t, e => by
    unfold D.toPA at e
    split at e
    · rename_i p ps q1 q2
      cases e
      exact .cons (Dr.dp s h q1) (DrA.dp s t q2)
    · cases e
end
theorem dp_of {T : Side} {G : Gh} {v : V} {d : D} {p : PyData} (hR : R K T H F ρ G) (r : Dr K F ρ v d) (e : toPG G d = some p) : Dp K H v p := by
  cases r with
  | @cell a n h =>
    unfold toPG at e
    dsimp only at e
    split at e
    · rename_i ds q
      obtain ⟨xs, h1, h2⟩ := hR.cel n a ds h q
      unfold D.toP at e
      split at e
      · rename_i ps q2
        cases e
        exact .lst (.of h1) (DrA.dp hR.sub h2 q2)
      · cases e
    · cases e
  | non => exact Dr.dp (ρ := ρ) hR.sub .non e
  | bl b => exact Dr.dp (ρ := ρ) hR.sub (.bl b) e
  | int i => exact Dr.dp (ρ := ρ) hR.sub (.int i) e
  | str x => exact Dr.dp (ρ := ρ) hR.sub (.str x) e
  | ty n => cases e
  | dct h => cases e
  | exn a c => cases e
  | tup h t => exact Dr.dp hR.sub (.tup h t) e
  | lst h t => exact Dr.dp hR.sub (.lst h t) e
end
/-- d == e -/
def eqM (d e : D) : M Bool := fun G => match toPG G d, toPG G e with
  | some p, some q => if SeqAt.shaped p = true ∧ SeqAt.shaped q = true then some (.ok (PyData.eqv p q), G) else none
  | _, _ => none
def neM (d e : D) : M Bool := do let b ← eqM d e; pure (!b)
section
variable {K : PySem.W.Frag} {T : Side} {mg : Str → Option Value} {W : WX} {σ : L2.St} {H F : Hp} {ρ : List Addr} {G : Gh} {fr : Bool} {x y : V} {d e : D}
theorem eqM_spec {k : Bool → M D} {Q : VK} (h : Run K T mg W σ fr F ρ (eqM d e >>= k) G Q) (hR : R K T H F ρ G) (rx : Dr K F ρ x d) (ry : Dr K F ρ y e) :
    ∃ p q, Dp K H x p ∧ Dp K H y q ∧ SeqAt.shaped p = true ∧ SeqAt.shaped q = true ∧ Run K T mg W σ fr F ρ (k (PyData.eqv p q)) G Q := by
  obtain ⟨r, G', e', h⟩ := h
  have key : ∀ {r : Res Bool} {G1 : Gh}, eqM d e G = some (r, G1) → ∃ p q, Dp K H x p ∧ Dp K H y q ∧ SeqAt.shaped p = true ∧ SeqAt.shaped q = true ∧ r = .ok (PyData.eqv p q) ∧ G1 = G := fun {r G1} z => by
    unfold eqM at z
    split at z
    · rename_i p q h1 h2
      split at z
      · rename_i hs
        cases z
        exact ⟨p, q, dp_of hR rx h1, dp_of hR ry h2, hs.1, hs.2, rfl, rfl⟩
      · cases z
    · cases z
  rcases bind_parts e' with ⟨b, G1, e1, e2⟩ | ⟨c, e1, _⟩
  · obtain ⟨p, q, h1, h2, h3, h4, h5, rfl⟩ := key e1
    cases h5
    exact ⟨p, q, h1, h2, h3, h4, r, G', e2, h⟩
  · obtain ⟨p, q, h1, h2, h3, h4, h5, _⟩ := key e1
    cases h5
theorem o_eq : OpV K mg fr (rEqD K) fun d e => vB (eqM d e) := by
  intro T W σ x y d e H F ρ G Q hR rx ry h
  obtain ⟨p, q, h1, h2, h3, h4, h5⟩ := eqM_spec h hR rx ry
  exact ⟨p, q, h1, h2, h3, h4, h5.pure hR (.bl _) fun _ => .of fun _ z => nomatch z⟩
theorem o_ne : OpV K mg fr (rNeD K) fun d e => vB (neM d e) := by
  intro T W σ x y d e H F ρ G Q hR rx ry h
  have h' : Run K T mg W σ fr F ρ (eqM d e >>= fun b => (Pure.pure (D.bl (!b)) : M D)) G Q := by
    obtain ⟨r, G', e', h⟩ := h
    refine ⟨r, G', ?_, h⟩
    rw [← e']
    show _ = ((eqM d e >>= fun b => (Pure.pure (!b) : M Bool)) >>= fun b => (Pure.pure (D.bl b) : M D)) G
    simp only [bind_def]
    cases eqM d e G with
    | none => rfl
    | some q =>
      obtain ⟨r, G1⟩ := q
      cases r <;> rfl
  obtain ⟨p, q, h1, h2, h3, h4, h5⟩ := eqM_spec h' hR rx ry
  exact ⟨p, q, h1, h2, h3, h4, h5.pure hR (.bl _) fun _ => .of fun _ z => nomatch z⟩
end

/-! ### x in t, flat items -/
def flatD : D → Bool
  | .non => true | .bl _ => true | .int _ => true | .str _ => true | _ => false
def eqF : D → D → Bool
  | .non, .non => true
  | .bl a, .bl b => a == b
  | .bl a, .int b => (if a then 1 else 0) == b
  | .int a, .bl b => a == (if b then 1 else 0)
  | .int a, .int b => a == b
  | .str a, .str b => a == b
  | _, _ => false
/-- a text in a text, sign by sign: left to the text's own rule -/
def inM (d e : D) : M Bool := do
  let ds ← getS e
  if flatD d = true ∧ ds.all flatD = true then pure (ds.any fun y => eqF y d) else stuck
def notInM (d e : D) : M Bool := do
  let ds ← getS e
  if flatD d = true ∧ ds.all flatD = true then pure (!ds.any fun y => eqF y d) else stuck
section
variable {K : PySem.W.Frag} {T : Side} {mg : Str → Option Value} {fr : Bool} {F : Hp} {ρ : List Addr}
theorem flat_V {v : V} {d : D} (r : Dr K F ρ v d) (f : flatD d = true) : flatV v = true := by
  cases r <;> first | rfl | cases f
theorem flat_Vs : ∀ {vs : List V} {ds : List D}, DrA K F ρ vs ds → ds.all flatD = true → vs.all flatV = true
  | _, _, .nil, _ => rfl
  | _, _, .cons r t, f => by
    rw [List.all_cons, Bool.and_eq_true] at f ⊢
    exact ⟨flat_V r f.1, flat_Vs t f.2⟩
theorem eqF_V {x y : V} {d e : D} (rx : Dr K F ρ x d) (ry : Dr K F ρ y e) (f : flatD d = true) (g : flatD e = true) : eqV x y = eqF d e := by
  cases rx <;> first | (cases f; done) | (cases ry <;> first | (cases g; done) | rfl)
theorem any_V {x : V} {d : D} (rx : Dr K F ρ x d) (f : flatD d = true) : ∀ {vs : List V} {ds : List D}, DrA K F ρ vs ds → ds.all flatD = true → inV x vs = ds.any fun y => eqF y d
  | _, _, .nil, _ => rfl
  | _, _, .cons r t, g => by
    rw [List.all_cons, Bool.and_eq_true] at g
    have ih := any_V rx f t g.2
    unfold inV at ih ⊢
    rw [List.any_cons, List.any_cons, ih, eqF_V r rx g.1 f]
theorem vB_bind {α : Type} (m : M α) (k : α → M Bool) : vB (m >>= k) = m >>= fun a => vB (k a) := by
  funext G
  show ((m >>= k) >>= fun b => (Pure.pure (D.bl b) : M D)) G = (m >>= fun a => k a >>= fun b => (Pure.pure (D.bl b) : M D)) G
  simp only [bind_def]
  cases m G with
  | none => rfl
  | some q =>
    obtain ⟨r, G1⟩ := q
    cases r <;> rfl
theorem o_in : OpV K mg fr (rIn K false) fun d e => vB (inM d e) := by
  intro T W σ x y d e H F ρ G Q hR rx ry h
  replace h : Run K T mg W σ fr F ρ (vB (inM d e)) G Q := h
  rw [show vB (inM d e) = getS e >>= fun ds => vB (if flatD d = true ∧ ds.all flatD = true then Pure.pure (ds.any fun y => eqF y d) else stuck) from vB_bind _ _] at h
  obtain ⟨a, xs, ds, rfl, hq, hd, h⟩ := h.getS hR ry
  by_cases hf : flatD d = true ∧ ds.all flatD = true
  · rw [if_pos hf] at h
    refine ⟨a, xs, rfl, hq, flat_V rx hf.1, flat_Vs hd hf.2, ?_⟩
    rw [if_neg Bool.false_ne_true, any_V rx hf.1 hd hf.2]
    exact h.pure hR (.bl _) fun _ => .of fun _ z => nomatch z
  · rw [if_neg hf] at h
    obtain ⟨r, G', e', _⟩ := h
    cases e'
theorem o_notIn : OpV K mg fr (rIn K true) fun d e => vB (notInM d e) := by
  intro T W σ x y d e H F ρ G Q hR rx ry h
  replace h : Run K T mg W σ fr F ρ (vB (notInM d e)) G Q := h
  rw [show vB (notInM d e) = getS e >>= fun ds => vB (if flatD d = true ∧ ds.all flatD = true then Pure.pure (!ds.any fun y => eqF y d) else stuck) from vB_bind _ _] at h
  obtain ⟨a, xs, ds, rfl, hq, hd, h⟩ := h.getS hR ry
  by_cases hf : flatD d = true ∧ ds.all flatD = true
  · rw [if_pos hf] at h
    refine ⟨a, xs, rfl, hq, flat_V rx hf.1, flat_Vs hd hf.2, ?_⟩
    rw [if_pos rfl, any_V rx hf.1 hd hf.2]
    exact h.pure hR (.bl _) fun _ => .of fun _ z => nomatch z
  · rw [if_neg hf] at h
    obtain ⟨r, G', e', _⟩ := h
    cases e'
end

/-! ### is None -/
def isNon : D → Bool
  | .non => true
  | _ => false
def isM (d e : D) : M Bool := match d, e with
  | d, .non => pure (isNon d)
  | .bl a, .bl b => pure (decide (a = b))
  | _, _ => stuck
def isNotM (d e : D) : M Bool := match e with
  | .non => pure (!isNon d)
  | _ => stuck
section
variable {K : PySem.W.Frag} {T : Side} {mg : Str → Option Value} {fr : Bool} {F : Hp} {ρ : List Addr}
theorem isNon_V {v : V} {d : D} (r : Dr K F ρ v d) : decide (v = .non) = isNon d := by
  cases r <;> rfl
theorem vB_stuck {W : WX} {σ : L2.St} {G : Gh} {Q : VK} {P : Prop} (z : Run K T mg W σ fr F ρ (vB stuck) G Q) : P := by
  obtain ⟨r, G', e, _⟩ := z
  cases e
theorem o_isN : OpV K mg fr (fun x y H Q => y = .non ∧ Q (.bl (decide (x = .non))) H) fun d e => vB (match e with | .non => pure (isNon d) | _ => stuck) := by
  intro T W σ x y d e H F ρ G Q hR rx ry h
  cases ry with
  | non => exact ⟨rfl, by rw [isNon_V rx]; exact Run.pure (d := .bl (isNon d)) h hR (.bl _) fun _ => .of fun _ z => nomatch z⟩
  | _ => exact vB_stuck h
theorem o_notN : OpV K mg fr (fun x y H Q => y = .non ∧ Q (.bl (!decide (x = .non))) H) fun d e => vB (isNotM d e) := by
  intro T W σ x y d e H F ρ G Q hR rx ry h
  cases ry with
  | non => exact ⟨rfl, by rw [isNon_V rx]; exact Run.pure (d := .bl (!isNon d)) h hR (.bl _) fun _ => .of fun _ z => nomatch z⟩
  | _ => exact vB_stuck h
end

/-! ### tests -/
/-- a truth -/
def asB (d : D) : M Bool := match d with
  | .bl b => pure b
  | _ => stuck
/-- any value, as a test -/
def truth (d : D) : M Bool := match d with
  | .non => pure false
  | .bl b => pure b
  | .int i => pure (i != 0)
  | .str x => if x.length ≤ sizeLine then pure ((x.length : Int) != 0) else stuck
  | d => do let ds ← getS d; pure (!ds.isEmpty)
section
variable {X : Cx} {T : List Addr} {W : WX} {pos : Pos} {a b c : Expr} {fa fb fc : EnvD → M D} {ta tb : EnvD → M Bool} {fr ga gb gc : Bool} {rest : List Expr}
theorem RunB.pureB {K : PySem.W.Frag} {T : Side} {mg : Str → Option Value} {σ : L2.St} {F H : Hp} {ρ : List Addr} {G : Gh} {b : Bool} {Q : Bool → Hp → Prop} (h : RunB K T mg W σ F ρ (Pure.pure b) G Q) (hR : R K T H F ρ G) : Q b H := RunB.pure h hR
theorem truth_spec {K : PySem.W.Frag} {T : Side} {mg : Str → Option Value} {σ : L2.St} {F H : Hp} {ρ : List Addr} {G : Gh} {v : V} {d : D} {Q : Bool → Hp → Prop} (h : RunB K T mg W σ F ρ (truth d) G Q) (hR : R K T H F ρ G) (r : Dr K F ρ v d) : ∃ k, TruV K v H k ∧ Q k H := by
  have seq : ∀ {a : Addr} {e : D}, Dr K F ρ (.ref a) e → RunB K T mg W σ F ρ (do let ds ← getS e; Pure.pure (!ds.isEmpty)) G Q → ∃ k, TruV K (.ref a) H k ∧ Q k H := fun {a e} r z => by
    obtain ⟨r', G', e', z⟩ := z
    rcases bind_parts e' with ⟨ds', G1, e1, e2⟩ | ⟨c, e1, rfl⟩
    · obtain ⟨a', xs, ds, q1, rfl, q3, q4, q5⟩ := getS_spec hR r e1
      cases q1
      cases q3
      cases e2
      have em : xs.isEmpty = ds'.isEmpty := by
        have := q5.length
        cases xs <;> cases ds' <;> first | rfl | (simp at this)
      refine ⟨!ds'.isEmpty, ?_, z H F ρ hR (Same.refl _) (List.prefix_refl _)⟩
      rw [← em]
      rcases q4 with q4 | q4
      · exact .inl ⟨xs, q4, rfl⟩
      · exact .inr (.inl ⟨xs, q4, rfl⟩)
    · obtain ⟨a', xs, ds, q1, _⟩ := getS_spec hR r e1
      cases q1
  cases r with
  | non => exact ⟨false, rfl, h.pure hR⟩
  | bl b => exact ⟨b, rfl, h.pure hR⟩
  | int i => exact ⟨_, rfl, h.pure hR⟩
  | str x =>
    rw [show truth (.str x) = if x.length ≤ sizeLine then Pure.pure ((x.length : Int) != 0) else stuck from rfl] at h
    split at h
    · rename_i hz
      exact ⟨_, ⟨hz, rfl⟩, h.pure hR⟩
    · exact h.stuck.elim
  | ty n =>
    obtain ⟨r', G', e', _⟩ := h
    cases e'
  | dct n =>
    obtain ⟨r', G', e', _⟩ := h
    cases e'
  | exn n c =>
    obtain ⟨r', G', e', _⟩ := h
    cases e'
  | tup h1 h2 => exact seq (.tup h1 h2) h
  | lst h1 h2 => exact seq (.lst h1 h2) h
  | cell h1 => exact seq (.cell h1) h
/-- a value that is a truth, as a test -/
theorem b_val (ha : PV X T W ga a fa) (he : ∀ whole, isTrue a X.env whole = (do let v ← whole; standAt a.pos; holding [v] (truthy v)) := by intro _; rfl) : PB X T W a (fun env => do let d ← fa env; asB d) :=
  PT.imp (pt_val ha he) fun σ H Q ⟨Φ, F, ρ, G, env, hR, hS, h⟩ => ⟨Φ, F, ρ, G, env, hR, hS, h.bind fun v d H1 F1 ρ1 G1 R1 s1 p1 r1 h1 => by
    cases r1 with
    | bl b => exact ⟨b, rfl, h1.pure R1⟩
    | _ => exact h1.stuck.elim⟩
theorem b_truth (ha : PV X T W ga a fa) (he : ∀ whole, isTrue a X.env whole = (do let v ← whole; standAt a.pos; holding [v] (truthy v)) := by intro _; rfl) : PB X T W a (fun env => do let d ← fa env; truth d) :=
  PT.imp (pt_truth ha he) fun σ H Q ⟨Φ, F, ρ, G, env, hR, hS, h⟩ => ⟨Φ, F, ρ, G, env, hR, hS, h.bind fun v d H1 F1 ρ1 G1 R1 s1 p1 r1 h1 => truth_spec h1 R1 r1⟩
def andM (m n : M Bool) : M Bool := do let b ← m; if b = true then n else pure false
def orM (m n : M Bool) : M Bool := do let b ← m; if b = true then pure true else n
def notM (m : M Bool) : M Bool := do let b ← m; pure (!b)
theorem bw_and1 (ha : PB X T W a ta) : PBW X T W (.BoolOp .And [a] pos) ta := pw_and1 ha
theorem bw_or1 (ha : PB X T W a ta) : PBW X T W (.BoolOp .Or [a] pos) ta := pw_or1 ha
theorem bw_and (ha : PB X T W a ta) (hb : PBW X T W (.BoolOp .And (b :: rest) pos) tb) : PBW X T W (.BoolOp .And (a :: b :: rest) pos) (fun env => andM (ta env) (tb env)) :=
  PW.imp (pw_and ha hb) fun σ H Q ⟨Φ, F, ρ, G, env, hR, hS, h⟩ => ⟨Φ, F, ρ, G, env, hR, hS, h.bindB fun k H1 F1 ρ1 G1 R1 s1 p1 h1 => by
    cases k with
    | true => rw [if_pos rfl] at h1 ⊢; exact ⟨Φ, F1, ρ1, G1, env, R1, hS.mono s1 p1, h1⟩
    | false => rw [if_neg Bool.false_ne_true] at h1 ⊢; exact h1.pure R1⟩
theorem bw_or (ha : PB X T W a ta) (hb : PBW X T W (.BoolOp .Or (b :: rest) pos) tb) : PBW X T W (.BoolOp .Or (a :: b :: rest) pos) (fun env => orM (ta env) (tb env)) :=
  PW.imp (pw_or ha hb) fun σ H Q ⟨Φ, F, ρ, G, env, hR, hS, h⟩ => ⟨Φ, F, ρ, G, env, hR, hS, h.bindB fun k H1 F1 ρ1 G1 R1 s1 p1 h1 => by
    cases k with
    | true => rw [if_pos rfl] at h1 ⊢; exact h1.pure R1
    | false => rw [if_neg Bool.false_ne_true] at h1 ⊢; exact ⟨Φ, F1, ρ1, G1, env, R1, hS.mono s1 p1, h1⟩⟩
theorem b_not (ha : PB X T W a ta) : PB X T W (.UnaryOp .Not a pos) (fun env => notM (ta env)) :=
  PT.imp (pt_not ha) fun σ H Q ⟨Φ, F, ρ, G, env, hR, hS, h⟩ => ⟨Φ, F, ρ, G, env, hR, hS, h.bindB fun k H1 F1 ρ1 G1 R1 s1 p1 h1 => h1.pure R1⟩
/-- and, or, not as values, of truths -/
def andV (m n : M D) : M D := do let d ← m; match d with
  | .bl true => n
  | .bl false => pure (.bl false)
  | _ => stuck
def orV (m n : M D) : M D := do let d ← m; match d with
  | .bl true => pure (.bl true)
  | .bl false => n
  | _ => stuck
def notV (m : M D) : M D := do let d ← m; match d with
  | .bl b => pure (.bl (!b))
  | _ => stuck
theorem v_one {op : BoolOp} (ha : PV X T W fr a fa) : PV X T W fr (.BoolOp op [a] pos) fa := pe_one ha
theorem v_and (ha : PV X T W ga a fa) (hb : PV X T W gb (.BoolOp .And (b :: rest) pos) fb) : PV X T W gb (.BoolOp .And (a :: b :: rest) pos) (fun env => andV (fa env) (fb env)) :=
  PE.imp (pe_and ha hb) fun σ H Q ⟨Φ, F, ρ, G, env, hR, hS, h⟩ => ⟨Φ, F, ρ, G, env, hR, hS, h.bind fun v d H1 F1 ρ1 G1 R1 s1 p1 r1 _ h1 => by
    cases r1 with
    | bl k =>
      refine ⟨k, rfl, ?_⟩
      cases k with
      | true => rw [if_pos rfl]; exact ⟨Φ, F1, ρ1, G1, env, R1, hS.mono s1 p1, h1⟩
      | false => rw [if_neg Bool.false_ne_true]; exact h1.pure R1 (.bl _) fun _ => .of fun _ z => nomatch z
    | _ => exact h1.stuck.elim⟩
theorem v_or (ha : PV X T W ga a fa) (hb : PV X T W gb (.BoolOp .Or (b :: rest) pos) fb) : PV X T W gb (.BoolOp .Or (a :: b :: rest) pos) (fun env => orV (fa env) (fb env)) :=
  PE.imp (pe_or ha hb) fun σ H Q ⟨Φ, F, ρ, G, env, hR, hS, h⟩ => ⟨Φ, F, ρ, G, env, hR, hS, h.bind fun v d H1 F1 ρ1 G1 R1 s1 p1 r1 _ h1 => by
    cases r1 with
    | bl k =>
      refine ⟨k, rfl, ?_⟩
      cases k with
      | true => rw [if_pos rfl]; exact h1.pure R1 (.bl _) fun _ => .of fun _ z => nomatch z
      | false => rw [if_neg Bool.false_ne_true]; exact ⟨Φ, F1, ρ1, G1, env, R1, hS.mono s1 p1, h1⟩
    | _ => exact h1.stuck.elim⟩
theorem v_not (ha : PV X T W ga a fa) : PV X T W true (.UnaryOp .Not a pos) (fun env => notV (fa env)) :=
  PE.imp (pe_not ha) fun σ H Q ⟨Φ, F, ρ, G, env, hR, hS, h⟩ => ⟨Φ, F, ρ, G, env, hR, hS, h.bind fun v d H1 F1 ρ1 G1 R1 s1 p1 r1 _ h1 => by
    cases r1 with
    | bl k => exact ⟨k, rfl, h1.pure R1 (.bl _) fun _ => .of fun _ z => nomatch z⟩
    | _ => exact h1.stuck.elim⟩
theorem v_if (hc : PB X T W c ta) (ha : PV X T W fr a fa) (hb : PV X T W fr b fb) : PV X T W fr (.IfExp c a b pos) (fun env => do let k ← ta env; if k = true then fa env else fb env) :=
  PE.imp (pe_ifExp hc ha hb) fun σ H Q ⟨Φ, F, ρ, G, env, hR, hS, h⟩ => ⟨Φ, F, ρ, G, env, hR, hS, h.bindB fun k H1 F1 ρ1 G1 R1 s1 p1 h1 => by
    have back : ∀ {fe : EnvD → M D}, Run X.K ⟨T, Φ⟩ X.mg W σ fr F1 ρ1 (fe env) G1 Q → tV X.K T X.mg W fr fe σ H1 Q := fun z => ⟨Φ, F1, ρ1, G1, env, R1, hS.mono s1 p1, z⟩
    cases k with
    | true => rw [if_pos rfl] at h1 ⊢; exact back h1
    | false => rw [if_neg Bool.false_ne_true] at h1 ⊢; exact back h1⟩
/-- a op1 b op2 c -/
def chainM (p q : D → D → M Bool) (m n o : M D) : M Bool := do
  let d ← m
  let e ← n
  let k ← p d e
  if k = true then (do let f ← o; q e f) else pure false
theorem b_chain {op op' : CmpOp} {r r' : R2} {p q : D → D → M Bool} (ho : OpR X (compareOp op) r) (ho' : OpR X (compareOp op') r') (hp : OpV X.K X.mg true r fun d e => vB (p d e)) (hq : OpV X.K X.mg true r' fun d e => vB (q d e))
    (ha : PV X T W ga a fa) (hb : PV X T W gb b fb) (hc : PV X T W gc c fc) (hm : lastMarks [op, op'] [b, c] = false := by with_unfolding_all rfl) :
    PB X T W (.Compare a [op, op'] [b, c] pos) (fun env => chainM p q (fa env) (fb env) (fc env)) :=
  PT.imp (pt_chain ho ho' ha hb hc hm) fun σ H Q ⟨Φ, F, ρ, G, env, hR, hS, h⟩ => ⟨Φ, F, ρ, G, env, hR, hS, h.bind fun v d H1 F1 ρ1 G1 R1 s1 p1 r1 h1 =>
    ⟨Φ, F1, ρ1, G1, env, R1, hS.mono s1 p1, h1.bind fun u e H2 F2 ρ2 G2 R2 s2 p2 r2 h2 => by
      refine hp _ W σ v u d e H2 F2 ρ2 G2 _ R2 (r1.mono s2 p2) r2 ?_
      obtain ⟨r', G', e', h2⟩ := h2
      rcases bind_parts e' with ⟨k, G3, e1, e2⟩ | ⟨c', e1, rfl⟩
      · refine ⟨.ok (.bl k), G3, bind_ok e1, fun w H3 F3 ρ3 R3 s3 p3 r3 _ => ?_⟩
        cases r3
        refine ⟨k, rfl, ?_⟩
        have h3 : RunB X.K ⟨T, Φ⟩ X.mg W σ F3 ρ3 (if k = true then (do let f ← fc env; q e f) else Pure.pure false) G3 Q := RunB.from ⟨r', G', e2, h2⟩ s3 p3
        cases k with
        | true =>
          rw [if_pos rfl] at h3 ⊢
          refine ⟨Φ, F3, ρ3, G3, env, R3, ((hS.mono s1 p1).mono s2 p2).mono s3 p3, h3.bind fun t f H4 F4 ρ4 G4 R4 s4 p4 r4 h4 => ?_⟩
          exact hq _ W σ u t e f H4 F4 ρ4 G4 _ R4 ((r2.mono s3 p3).mono s4 p4) r4 h4.toV
        | false =>
          rw [if_neg Bool.false_ne_true] at h3 ⊢
          exact ⟨false, rfl, h3.pure R3⟩
      · exact ⟨.ex c', G', bind_ex e1, h2⟩⟩⟩

/-! ### displays -/
theorem v_tup {es : List Expr} {k : Nat} {fs : EnvD → M (List D)} (h : PVs X T W es fs) (hl : es.length ≤ sizeLine := by decide) (hn : ∀ env G ds G', fs env G = some (.ok ds, G') → ds.length = es.length := by intros; simp_all) :
    PV X T W true (.Tuple es k pos) (fun env => do let ds ← fs env; pure (.tup ds)) :=
  PE.imp (pe_tup h) fun σ H Q ⟨Φ, F, ρ, G, env, hR, hS, h⟩ => ⟨Φ, F, ρ, G, env, hR, hS, by
    obtain ⟨r, G', e, h⟩ := h
    rcases bind_parts e with ⟨ds, G1, e1, e2⟩ | ⟨c, e1, rfl⟩
    · refine ⟨.ok ds, G1, e1, fun vs H1 F1 ρ1 R1 s1 p1 r1 => ⟨by rw [r1.length, hn env G ds G1 e1]; exact hl, fun p hp => ?_⟩⟩
      exact Run.newT (K := X.K) (T := ⟨T, Φ⟩) (mg := X.mg) (W := W) (σ := σ) (fr := true) (Run.from ⟨r, G', e2, h⟩ s1 p1) R1 r1 hp
    · exact ⟨.ex c, G', e1, h⟩⟩
theorem v_lst {es : List Expr} {fs : EnvD → M (List D)} (h : PVs X T W es fs) (hl : es.length ≤ sizeLine := by decide) (hn : ∀ env G ds G', fs env G = some (.ok ds, G') → ds.length = es.length := by intros; simp_all) :
    PV X T W true (.List es pos) (fun env => do let ds ← fs env; pure (.lst ds)) :=
  PE.imp (pe_lst h) fun σ H Q ⟨Φ, F, ρ, G, env, hR, hS, h⟩ => ⟨Φ, F, ρ, G, env, hR, hS, by
    obtain ⟨r, G', e, h⟩ := h
    rcases bind_parts e with ⟨ds, G1, e1, e2⟩ | ⟨c, e1, rfl⟩
    · refine ⟨.ok ds, G1, e1, fun vs H1 F1 ρ1 R1 s1 p1 r1 => ⟨by rw [r1.length, hn env G ds G1 e1]; exact hl, fun p hp => ?_⟩⟩
      exact Run.newL (K := X.K) (T := ⟨T, Φ⟩) (mg := X.mg) (W := W) (σ := σ) (fr := true) (Run.from ⟨r, G', e2, h⟩ s1 p1) R1 r1 hp
    · exact ⟨.ex c, G', e1, h⟩⟩
end
end L2.GL
end

section
set_option Elab.async false
set_option linter.all false
set_option maxRecDepth 100000
set_option autoImplicit false
/-! G4: the built-ins' calls; places, slices. -/
namespace L2.GL
open PySem PySem.Spec PyProof.Rows

section
variable {K : PySem.W.Frag} {T : Side} {mg : Str → Option Value} {fr : Bool}
theorem DrA.one {F : Hp} {ρ : List Addr} {vs : List V} {d : D} (h : DrA K F ρ vs [d]) : ∃ v, vs = [v] ∧ Dr K F ρ v d := by
  cases h with
  | cons r t => cases t; exact ⟨_, rfl, r⟩
theorem DrA.two {F : Hp} {ρ : List Addr} {vs : List V} {d e : D} (h : DrA K F ρ vs [d, e]) : ∃ v u, vs = [v, u] ∧ Dr K F ρ v d ∧ Dr K F ρ u e := by
  cases h with
  | cons r t =>
    obtain ⟨u, rfl, r2⟩ := t.one
    exact ⟨_, u, rfl, r, r2⟩

/-! ### len -/
def fLen : List D → M D
  | [.str x] => if x.length ≤ sizeLine then pure (.int x.length) else stuck
  | [d] => do let ds ← getS d; pure (.int ds.length)
  | _ => stuck
theorem s_len : CallV K mg fr (fun xs H Q => (∃ p ys, xs = [.ref p] ∧ (SqL K H p ys ∨ SqT K H p ys) ∧ Q (.int ys.length) H) ∨ ∃ x n, xs = [x] ∧ LenV K x H n ∧ Q (.int n) H) fLen := by
  intro T W σ vs ds H F ρ G Q hR rs h
  have seq : ∀ {a : Addr} {e : D}, Dr K F ρ (.ref a) e → Run K T mg W σ fr F ρ (do let ds ← getS e; Pure.pure (.int ds.length)) G Q → ∃ p ys, [V.ref a] = [.ref p] ∧ (SqL K H p ys ∨ SqT K H p ys) ∧ Q (.int ys.length) H := fun {a e} r z => by
    obtain ⟨a', xs, ds, q1, q2, q3, q4⟩ := z.getS hR r
    cases q1
    exact ⟨a, xs, rfl, q2, by rw [q3.length]; exact q4.pure hR (.int _) fun _ => .of fun _ z => nomatch z⟩
  match ds, rs, h with
  | [], rs, h => exact h.stuck.elim
  | [d], rs, h =>
    obtain ⟨v, rfl, r⟩ := rs.one
    cases r with
    | str x =>
      rw [show fLen [.str x] = if x.length ≤ sizeLine then Pure.pure (.int x.length) else stuck from rfl] at h
      split at h
      · rename_i hz
        exact .inr ⟨_, _, rfl, ⟨hz, rfl⟩, h.pure hR (.int _) fun _ => .of fun _ z => nomatch z⟩
      · exact h.stuck.elim
    | tup h1 h2 => exact .inl (seq (.tup h1 h2) h)
    | lst h1 h2 => exact .inl (seq (.lst h1 h2) h)
    | cell h1 => exact .inl (seq (.cell h1) h)
    | _ => obtain ⟨r', G', e', _⟩ := h; cases e'
  | d :: e :: r, rs, h => obtain ⟨r', G', e', _⟩ := h; cases d <;> cases e'
/-! ### abs, max, min of two ints; int -/
def fAbs : List D → M D
  | [.int i] => pure (.int (if i < 0 then -i else i))
  | _ => stuck
def fMax2 : List D → M D
  | [.int i, .int j] => pure (.int (if j > i then j else i))
  | _ => stuck
def fMin2 : List D → M D
  | [.int i, .int j] => pure (.int (if j < i then j else i))
  | _ => stuck
def fInt : List D → M D
  | [.int i] => pure (.int i)
  | [.bl k] => pure (.int (if k then 1 else 0))
  | _ => stuck
theorem s_abs : CallV K mg fr (fun xs H Q => ∃ i, xs = [.int i] ∧ Q (.int (if i < 0 then -i else i)) H) fAbs := by
  intro T W σ vs ds H F ρ G Q hR rs h
  unfold fAbs at h
  split at h
  · obtain ⟨v, rfl, r⟩ := rs.one
    cases r
    exact ⟨_, rfl, h.pure hR (.int _) fun _ => .of fun _ z => nomatch z⟩
  · exact h.stuck.elim
theorem s_max2 : CallV K mg fr (fun xs H Q => ∃ i j, xs = [.int i, .int j] ∧ Q (.int (if j > i then j else i)) H) fMax2 := by
  intro T W σ vs ds H F ρ G Q hR rs h
  unfold fMax2 at h
  split at h
  · obtain ⟨v, u, rfl, r, r2⟩ := rs.two
    cases r; cases r2
    exact ⟨_, _, rfl, h.pure hR (.int _) fun _ => .of fun _ z => nomatch z⟩
  · exact h.stuck.elim
theorem s_min2 : CallV K mg fr (fun xs H Q => ∃ i j, xs = [.int i, .int j] ∧ Q (.int (if j < i then j else i)) H) fMin2 := by
  intro T W σ vs ds H F ρ G Q hR rs h
  unfold fMin2 at h
  split at h
  · obtain ⟨v, u, rfl, r, r2⟩ := rs.two
    cases r; cases r2
    exact ⟨_, _, rfl, h.pure hR (.int _) fun _ => .of fun _ z => nomatch z⟩
  · exact h.stuck.elim
theorem s_int : CallV K mg fr (fun xs H Q => (∃ i, xs = [.int i] ∧ Q (.int i) H) ∨ ∃ k, xs = [.bl k] ∧ Q (.int (if k then 1 else 0)) H) fInt := by
  intro T W σ vs ds H F ρ G Q hR rs h
  unfold fInt at h
  split at h
  · obtain ⟨v, rfl, r⟩ := rs.one
    cases r
    exact .inl ⟨_, rfl, h.pure hR (.int _) fun _ => .of fun _ z => nomatch z⟩
  · obtain ⟨v, rfl, r⟩ := rs.one
    cases r
    exact .inr ⟨_, rfl, h.pure hR (.int _) fun _ => .of fun _ z => nomatch z⟩
  · exact h.stuck.elim
/-! ### tuple(..), list(..) -/
def fTuple : List D → M D
  | [.tup xs] => pure (.tup xs)
  | [d] => do let ds ← getL d; pure (.tup ds)
  | _ => stuck
def fList : List D → M D
  | [d] => do let ds ← getS d; pure (.lst ds)
  | _ => stuck
theorem s_tuple : CallV K mg fr (fun xs H Q => ∃ p ys, xs = [.ref p] ∧ ((SqL K H p ys ∧ ∀ l, H l = none → Q (.ref l) (upd H l (.tup ys))) ∨ (SqT K H p ys ∧ Q (.ref p) H))) fTuple := by
  intro T W σ vs ds H F ρ G Q hR rs h
  have seq : ∀ {a : Addr} {e : D}, Dr K F ρ (.ref a) e → Run K T mg W σ fr F ρ (do let ds ← getL e; Pure.pure (.tup ds)) G Q → ∃ p ys, [V.ref a] = [.ref p] ∧ ((SqL K H p ys ∧ ∀ l, H l = none → Q (.ref l) (upd H l (.tup ys))) ∨ (SqT K H p ys ∧ Q (.ref p) H)) := fun {a e} r z => by
    obtain ⟨a', xs, ds, q1, q2, q3, q4⟩ := z.getL hR r
    cases q1
    exact ⟨a, xs, rfl, .inl ⟨q2, fun l hl => q4.newT hR q3 hl⟩⟩
  match ds, rs, h with
  | [], rs, h => exact h.stuck.elim
  | [d], rs, h =>
    obtain ⟨v, rfl, r⟩ := rs.one
    cases r with
    | tup h1 h2 => exact ⟨_, _, rfl, .inr ⟨Same.tup hR.sub h1, h.pure hR (.tup h1 h2) fun _ => .of fun _ z => nomatch z⟩⟩
    | lst h1 h2 => exact seq (.lst h1 h2) h
    | cell h1 => exact seq (.cell h1) h
    | _ => obtain ⟨r', G', e', _⟩ := h; cases e'
  | d :: e :: r, rs, h => obtain ⟨r', G', e', _⟩ := h; cases d <;> cases e'
theorem s_list : CallV K mg true (fun xs H Q => ∃ p ys, xs = [.ref p] ∧ (SqL K H p ys ∨ SqT K H p ys) ∧ ∀ l, H l = none → Q (.ref l) (upd H l (.lst ys))) fList := by
  intro T W σ vs ds H F ρ G Q hR rs h
  match ds, rs, h with
  | [], rs, h => exact h.stuck.elim
  | [d], rs, h =>
    obtain ⟨v, rfl, r⟩ := rs.one
    obtain ⟨a', xs, ds, q1, q2, q3, q4⟩ := h.getS hR r
    exact ⟨a', xs, by rw [q1], q2, fun l hl => q4.newL hR q3 hl⟩
  | d :: e :: r, rs, h => exact h.stuck.elim
/-! ### divmod -/
def fDivmod : List D → M D
  | [.int i, .int j] => if j = 0 then stuck else if j.natAbs.log2 < 9000 then pure (.tup [.int (i.fdiv j), .int (i.fmod j)]) else stuck
  | _ => stuck
def rDivmod : List V → Hp → VK → Prop := fun xs H Q => ∃ i j, xs = [.int i, .int j] ∧ (j ≠ 0 ∧ j.natAbs.log2 < 9000) ∧ ∀ p, H p = none → Q (.ref p) (upd H p (.tup [.int (i.fdiv j), .int (i.fmod j)]))
theorem call_divmodX {X : Cx} : CallR X (.builtin "divmod") rDivmod := by
  intro pins s σ H xs us Q I r h
  obtain ⟨i, j, rfl, ⟨h1, h2⟩, q⟩ := h
  obtain ⟨u, w', rfl, ⟨t, rfl⟩, ⟨t', rfl⟩⟩ := vals2 r
  refine divmod_int h1 ?_ (.inl (PyProof.noPylong_of_log2 h2))
  have hn : H s.heap.objs.size = none := I.hok.fresh (Nat.le_refl _)
  refine ⟨.ref s.heap.objs.size, _, ?_, rfl, q _ hn⟩
  exact I.laid (t' := s.toks + 1 + 1) (fun b u e => Heap.get?_push_of_some _ e) (Nat.le_refl _) ⟨(by show 2 ≤ sizeLine; decide), [.int (i.fdiv j) s.toks, .int (i.fmod j) (s.toks + 1)], .cons ⟨_, rfl⟩ (.cons ⟨_, rfl⟩ .nil), ⟨_, Heap.get?_push_size _ rfl, rfl, _, rfl⟩⟩
theorem s_divmod : CallV K mg fr rDivmod fDivmod := by
  intro T W σ vs ds H F ρ G Q hR rs h
  unfold fDivmod at h
  split at h
  · obtain ⟨v, u, rfl, r, r2⟩ := rs.two
    cases r; cases r2
    split at h
    · exact h.stuck.elim
    · rename_i h1
      split at h
      · rename_i h2
        exact ⟨_, _, rfl, ⟨h1, h2⟩, fun p hp => h.newT hR (.cons (.int _) (.cons (.int _) .nil)) hp⟩
      · exact h.stuck.elim
  · exact h.stuck.elim
/-! ### isinstance(x, T), T a built-in class -/
def tyName : D → Option String
  | .non => some "NoneType"
  | .bl _ => some "bool"
  | .int _ => some "int"
  | .str _ => some "str"
  | .tup _ => some "tuple"
  | .lst _ => some "list"
  | .cell _ => some "list"
  | .ty _ => none
  | .dct _ => some "dict"
  | .exn _ _ => none
def isiT (a b : String) : Option Bool := kitB a b
def fIsi : List D → M D
  | [d, .ty n] => match tyName d with
    | some t => match isiT t n with
      | some b => pure (.bl b)
      | none => stuck
    | none => stuck
  | _ => stuck
theorem ty_of {H F : Hp} {ρ : List Addr} {G : Gh} {v : V} {d : D} {t : String} (hR : R K T H F ρ G) (r : Dr K F ρ v d) (e : tyName d = some t) (hG : ∀ n, d = .cell n → n < G.length) : TyX K H v (.type t) := by
  cases r with
  | non => cases e; exact .base .non
  | bl b => cases e; exact .base (.bl b)
  | int i => cases e; exact .base (.int i)
  | str x => cases e; exact .base (.str x)
  | ty n => cases e
  | dct h => cases e; exact .base (.dK (hR.sub _ _ h))
  | exn a c => cases e
  | tup h1 h2 =>
    cases e
    rcases Same.tup hR.sub h1 with (q | ⟨o, q⟩) | ⟨o, its, n, q1, q2, _⟩
    · exact .base (.tup q)
    · exact .fTuple q
    · exact .kTuple q1 q2
  | lst h1 h2 =>
    cases e
    rcases hR.sub.seq h1 with (q | ⟨o, q⟩) | ⟨o, its, n, q1, q2, _⟩
    · exact .base (.lst q)
    · exact .base (.frz q)
    · exact .kList q1 q2
  | @cell a n h =>
    cases e
    obtain ⟨xs, q⟩ := hR.some_of (List.mem_of_getElem? h)
    exact .base (.lst q)
theorem s_isi : CallV K mg fr (rIsi K) fIsi := by
  intro T W σ vs ds H F ρ G Q hR rs h
  unfold fIsi at h
  split at h
  · obtain ⟨v, u, rfl, r, r2⟩ := rs.two
    cases r2
    split at h
    · rename_i t e
      split at h
      · rename_i b e2
        exact ⟨v, .ty _, .type t, .type _, b, rfl, .ty _, ty_of hR r e (fun n z => by
          subst z
          cases r with
          | cell q =>
            rw [← hR.len]
            exact (List.getElem?_eq_some_iff.mp q).1), kit_ty e2, h.pure hR (.bl _) fun _ => .of fun _ z => nomatch z⟩
      · exact h.stuck.elim
    · exact h.stuck.elim
  · exact h.stuck.elim
/-! ### repr -/
def reprOk (p : PyData) : Bool := p.showable && decide (p.depth ≤ 60) && !p.hasDict && decide (p.shown.length ≤ sizeLine)
def fRepr (ds : List D) : M D := fun G => match ds with
  | [d] => match toPG G d with
    | some p => if reprOk p = true then some (.ok (.str p.shown), G) else none
    | none => none
  | _ => none
def rRepr (K : PySem.W.Frag) : List V → Hp → VK → Prop := fun xs H Q => ∃ x p, xs = [x] ∧ Dp K H x p ∧ reprOk p = true ∧ Q (.str p.shown) H
theorem call_reprX {X : Cx} (hg : X.A.guards = some []) (hu : X.A.units + 64 < cLine) : CallR X (.builtin "repr") (rRepr X.K) := by
  intro pins s σ H xs us Q I r h
  obtain ⟨x, p, rfl, hd, ho, q⟩ := h
  obtain ⟨u, rfl, rx⟩ := vals1 r
  obtain ⟨as, rd⟩ := Dp.reads I p x u hd rx
  unfold reprOk at ho
  simp only [Bool.and_eq_true, decide_eq_true_eq] at ho
  obtain ⟨⟨⟨h1, h2⟩, h3⟩, h4⟩ := ho
  have h3' : p.hasDict = false := by simpa using h3
  have ref : ∀ {a : Addr}, Reads s.heap (.ref a) p as → wpAny (model X.prog X.w) X.A (call (.builtin "repr") [.ref a]) (EP X pins σ Q) X.xe s := fun {a} rd =>
    repr_of_reads' rd h1 (fun z => by rw [h3'] at z; cases z) hg (by omega) (fun _ _ e => e) (fun h' u tk k => ⟨.str p.shown, H, I.kept (t' := tk) k, ⟨u, rfl⟩, q⟩) h4
  cases hd with
  | non => cases rx; exact PySem.P.repr_of_none ⟨.str _, H, I.tok _, ⟨_, rfl⟩, q⟩
  | bl b => cases rx; exact PySem.P.repr_of_bool ⟨.str _, H, I.tok _, ⟨_, rfl⟩, q⟩
  | int i => obtain ⟨t, rfl⟩ := rx; exact PySem.P.repr_of_int (by simpa [PyData.showable] using h1) ⟨.str _, H, I.tok _, ⟨_, rfl⟩, q⟩
  | str y => obtain ⟨t, rfl⟩ := rx; exact PySem.P.repr_of_str ⟨.str _, H, I.tok _, ⟨_, rfl⟩, q⟩ (by simpa only [PyData.shown] using h4)
  | lst a b => cases rx; exact ref rd
  | tup a b => cases rx; exact ref rd
theorem s_repr : CallV K mg fr (rRepr K) fRepr := by
  intro T W σ vs ds H F ρ G Q hR rs h
  obtain ⟨r', G', e', h⟩ := h
  unfold fRepr at e'
  split at e'
  · obtain ⟨v, rfl, r⟩ := rs.one
    split at e'
    · rename_i p e
      split at e'
      · rename_i ho
        cases e'
        exact ⟨v, p, rfl, dp_of hR r e, ho, h _ H F ρ hR (Same.refl _) (List.prefix_refl _) (.str _) fun _ => .of fun _ z => nomatch z⟩
      · cases e'
    · cases e'
  · cases e'
/-! ### sum of ints -/
def intsOf : List D → Option (List Int)
  | [] => some []
  | .int i :: ds => match intsOf ds with
    | some r => some (i :: r)
    | none => none
  | _ => none
theorem intsOf_V {F : Hp} {ρ : List Addr} : ∀ {ds : List D} {ns : List Int} {vs : List V}, intsOf ds = some ns → DrA K F ρ vs ds → vs = ns.map V.int
  | [], _, _, e, r => by cases e; cases r; rfl
  | .int i :: ds, _, _, e, r => by
    unfold intsOf at e
    split at e
    · rename_i q
      cases e
      cases r with
      | cons r t =>
        cases r
        rw [intsOf_V q t]
        rfl
    · cases e
  | .non :: _, _, _, e, _ => by cases e
  | .bl _ :: _, _, _, e, _ => by cases e
  | .str _ :: _, _, _, e, _ => by cases e
  | .tup _ :: _, _, _, e, _ => by cases e
  | .lst _ :: _, _, _, e, _ => by cases e
  | .cell _ :: _, _, _, e, _ => by cases e
  | .ty _ :: _, _, _, e, _ => by cases e
  | .dct _ :: _, _, _, e, _ => by cases e
  | .exn _ _ :: _, _, _, e, _ => by cases e
def getI (d : D) : M (List Int) := do
  let ds ← getL d
  liftO (intsOf ds)
def fSum : List D → M D
  | [d] => do let ns ← getI d; pure (.int ns.sum)
  | _ => stuck
def rSum (K : PySem.W.Frag) : List V → Hp → VK → Prop := fun xs H Q => ∃ (a : Addr) (ns : List Int), xs = [.ref a] ∧ SqL K H a (ns.map V.int) ∧ Q (.int ns.sum) H
theorem toks_of : ∀ {ns : List Int} {its : List Value}, Vals (ns.map V.int) its → ∃ xs : Array (Int × Tok), its.toArray = intItems xs ∧ xs.toList.map (·.1) = ns := by
  intro ns its r
  have key : ∀ {ns : List Int} {its : List Value}, Vals (ns.map V.int) its → ∃ l : List (Int × Tok), its = l.map (fun p => Value.int p.1 p.2) ∧ l.map (·.1) = ns := by
    intro ns
    induction ns with
    | nil => intro its r; cases r; exact ⟨[], rfl, rfl⟩
    | cons n ns ih =>
      intro its r
      cases r with
      | cons r t =>
        obtain ⟨tk, rfl⟩ := r
        obtain ⟨l, h1, h2⟩ := ih t
        exact ⟨(n, tk) :: l, by rw [h1]; rfl, by rw [← h2]; rfl⟩
  obtain ⟨l, h1, h2⟩ := key r
  refine ⟨l.toArray, ?_, by simpa using h2⟩
  rw [h1]
  unfold intItems
  simp
theorem call_sumX {X : Cx} (hc : X.calm = true) : CallR X (.builtin "sum") (rSum X.K) := by
  intro pins s σ H xs us Q I r h
  obtain ⟨a, ns, rfl, hq, q⟩ := h
  obtain ⟨u, rfl, rx⟩ := vals1 r
  obtain rfl : u = Value.ref a := rx
  obtain ⟨its, rv, pl, hz⟩ := I.list hq
  obtain ⟨ts, h1, h2⟩ := toks_of rv
  refine sum_intListG (xs := ts) (I.ok.hd hc) (by rw [← h1]; exact pl.isList) fun h' tk t' k => ⟨.int ns.sum, H, I.kept (t' := tk) k, ⟨t', ?_⟩, q⟩
  rw [preSum_eq, List.take_of_length_le (by simp), h2]
theorem s_sum : CallV K mg fr (rSum K) fSum := by
  intro T W σ vs ds H F ρ G Q hR rs h
  match ds, rs, h with
  | [], rs, h => exact h.stuck.elim
  | [d], rs, h =>
    obtain ⟨v, rfl, r⟩ := rs.one
    have h' : Run K T mg W σ fr F ρ (getL d >>= fun ds => liftO (intsOf ds) >>= fun ns => (Pure.pure (D.int ns.sum) : M D)) G Q := by
      obtain ⟨r', G', e', h⟩ := h
      refine ⟨r', G', ?_, h⟩
      rw [← e']
      show _ = ((getL d >>= fun ds => liftO (intsOf ds)) >>= fun ns => (Pure.pure (D.int ns.sum) : M D)) G
      simp only [bind_def]
      cases getL d G with
      | none => rfl
      | some q =>
        obtain ⟨r, G1⟩ := q
        cases r <;> rfl
    obtain ⟨a, xs, ds, rfl, q2, q3, q4⟩ := h'.getL hR r
    cases hi : intsOf ds with
    | none => rw [hi] at q4; obtain ⟨r', G', e', _⟩ := q4; cases e'
    | some ns =>
      rw [hi] at q4
      refine ⟨a, ns, rfl, by rw [← intsOf_V hi q3]; exact q2, ?_⟩
      exact Run.pure (d := .int ns.sum) q4 hR (.int _) fun _ => .of fun _ z => nomatch z
  | d :: e :: r, rs, h => exact h.stuck.elim
end

/-! ### places -/
def oneSign (c : Nat) : Str := ⟨#[c]⟩
def ixM : D → D → M D
  | .str z, .int i => if z.length ≤ sizeLine then (match atI z.cps.toList i with
    | some c => pure (.str (oneSign c))
    | none => stuck) else stuck
  | d, .int i => do
    let ds ← getS d
    liftO (atI ds i)
  | _, _ => stuck
section
variable {K : PySem.W.Frag} {T : Side} {mg : Str → Option Value}
theorem atI_V {F : Hp} {ρ : List Addr} {vs : List V} {ds : List D} {i : Int} {d : D} (r : DrA K F ρ vs ds) (e : atI ds i = some d) : ∃ v, atI vs i = some v ∧ Dr K F ρ v d := by
  unfold atI at e ⊢
  rw [r.length]
  cases h : ixN ds.length i with
  | none => rw [h] at e; cases e
  | some j =>
    rw [h] at e
    exact r.get e
theorem o_ix : OpV K mg false (rIx K) ixM := by
  intro T W σ x y d e H F ρ G Q hR rx ry h
  have seq : ∀ {a : Addr} {e : D} {i : Int}, Dr K F ρ (.ref a) e → Run K T mg W σ false F ρ (do let ds ← getS e; liftO (atI ds i)) G Q → rIx K (.ref a) (.int i) H Q := fun {a e i} r z => by
    obtain ⟨a', xs, ds, q1, q2, q3, q4⟩ := z.getS hR r
    cases q1
    cases hi : atI ds i with
    | none => rw [hi] at q4; obtain ⟨r', G', e', _⟩ := q4; cases e'
    | some d =>
      rw [hi] at q4
      obtain ⟨v, h1, h2⟩ := atI_V q3 hi
      have q5 : Q v H := Run.pure (d := d) q4 hR h2 fun z => nomatch z
      rcases q2 with q2 | q2
      · exact .inl ⟨a, xs, i, v, rfl, rfl, q2, h1, q5⟩
      · exact .inr (.inl ⟨a, xs, i, v, rfl, rfl, q2, h1, q5⟩)
  cases ry with
  | int i =>
    cases rx with
    | str z =>
      rw [show ixM (.str z) (.int i) = if z.length ≤ sizeLine then (match atI z.cps.toList i with
        | some c => Pure.pure (.str (oneSign c))
        | none => stuck) else stuck from rfl] at h
      split at h
      · rename_i hz
        split at h
        · rename_i c e
          exact .inr (.inr ⟨z, i, c, rfl, rfl, hz, e, h.pure hR (.str _) fun z => nomatch z⟩)
        · exact h.stuck.elim
      · exact h.stuck.elim
    | tup h1 h2 => exact seq (.tup h1 h2) h
    | lst h1 h2 => exact seq (.lst h1 h2) h
    | cell h1 => exact seq (.cell h1) h
    | _ => obtain ⟨r', G', e', _⟩ := h; cases e'
  | _ => obtain ⟨r', G', e', _⟩ := h; cases d <;> cases e'
end
section
variable {X : Cx} {T : List Addr} {W : WX} {pos p2 : Pos} {a b : Expr} {fa fb : EnvD → M D} {fr ga gb : Bool} {lo hi : Option Expr} {fl fh : EnvD → M (Option Int)}
theorem v_ix (ha : PV X T W ga a fa) (hb : PV X T W gb b fb) (hs : PlainIx b := by intro _ _; rfl) : PV X T W false (.Subscript a b pos) (fun env => do let d ← fa env; let e ← fb env; ixM d e) :=
  PE.imp (pe_ix ix_seq ha hb hs) fun σ H Q h => two_vals o_ix h

/-- a slice's end -/
def tO (K : PySem.W.Frag) (T : List Addr) (mg : Str → Option Value) (W : WX) (fe : EnvD → M (Option Int)) : TO := fun σ H Q =>
  ∃ Φ F ρ G env, R K ⟨T, Φ⟩ H F ρ G ∧ RS K F ρ σ env ∧ ∃ r G', fe env G = some (r, G') ∧ match r with
    | .ok o => ∀ H' F' ρ', R K ⟨T, Φ⟩ H' F' ρ' G' → Same F F' → ρ <+: ρ' → Q o H'
    | .ex c => PostX K ⟨T, Φ⟩ mg F ρ c G' fun cls H' => W cls none σ H'
theorem po_imp {e : Option Expr} {t t' : TO} (h : PO X e t) (hi : ∀ σ H Q, t' σ H Q → t σ H Q) : PO X e t' := ⟨fun pins s σ H Q I hw => h.run pins s σ H Q I (hi _ _ _ hw)⟩
abbrev PVo (X : Cx) (T : List Addr) (W : WX) (e : Option Expr) (fe : EnvD → M (Option Int)) : Prop := PO X e (tO X.K T X.mg W fe)
theorem so_none : PVo X T W none (fun _ => pure none) := po_imp po_none fun σ H Q ⟨Φ, F, ρ, G, env, hR, hS, r, G', e, h⟩ => by
  cases e
  exact h H F ρ hR (Same.refl _) (List.prefix_refl _)
def asI (d : D) : M (Option Int) := match d with
  | .int i => pure (some i)
  | _ => stuck
theorem so_some {a : Expr} (h : PV X T W ga a fa) : PVo X T W (some a) (fun env => do let d ← fa env; asI d) := po_imp (po_some h) fun σ H Q ⟨Φ, F, ρ, G, env, hR, hS, r, G', e, h⟩ => ⟨Φ, F, ρ, G, env, hR, hS, by
  rcases bind_parts e with ⟨d, G1, e1, e2⟩ | ⟨c, e1, rfl⟩
  · refine ⟨.ok d, G1, e1, fun v H1 F1 ρ1 R1 s1 p1 r1 _ => ?_⟩
    cases r1 with
    | int i => cases e2; exact ⟨i, rfl, h H1 F1 ρ1 R1 s1 p1⟩
    | _ => cases e2
  · exact ⟨.ex c, G', e1, h⟩⟩
def cutD (xs : List D) (lo hi : Option Int) : List D := (xs.drop (HT.sIx xs.length 0 lo)).take (HT.sIx xs.length xs.length hi - HT.sIx xs.length 0 lo)
theorem cut_V {K : PySem.W.Frag} {F : Hp} {ρ : List Addr} {vs : List V} {ds : List D} (r : DrA K F ρ vs ds) (lo hi : Option Int) : DrA K F ρ (cutV vs lo hi) (cutD ds lo hi) := by
  unfold cutV cutD
  rw [r.length]
  exact (r.drop _).take _
def slM (d : D) (lo hi : Option Int) : M D := match d with
  | .str z => if z.length ≤ sizeLine then pure (.str (cutS z lo hi)) else stuck
  | .tup xs => pure (.tup (cutD xs lo hi))
  | d => do let ds ← getL d; pure (.lst (cutD ds lo hi))
theorem cutD_all {xs : List D} {lo hi : Option Int} (h : HT.sIx xs.length 0 lo = 0 ∧ HT.sIx xs.length xs.length hi = xs.length) : cutD xs lo hi = xs := by
  unfold cutD
  rw [h.1, h.2, List.drop_zero, Nat.sub_zero, List.take_length]
def rSl (K : PySem.W.Frag) : V → Option Int → Option Int → Hp → VK → Prop := fun x lo hi H Q => rSlL K x lo hi H Q ∨ rSlA K x lo hi H Q ∨ ∃ z, x = .str z ∧ z.length ≤ sizeLine ∧ Q (.str (cutS z lo hi)) H
theorem sl_any : SlR X (rSl X.K) := sl_list.or (sl_tupA.or sl_str)
theorem v_slice (ha : PV X T W ga a fa) (hl : PVo X T W lo fl) (hh : PVo X T W hi fh) : PV X T W true (.Subscript a (.Slice lo hi none p2) pos) (fun env => do let d ← fa env; let l ← fl env; let u ← fh env; slM d l u) :=
  PE.imp (pe_slice sl_any ha hl hh) fun σ H Q ⟨Φ, F, ρ, G, env, hR, hS, h⟩ => ⟨Φ, F, ρ, G, env, hR, hS, h.bind fun v d H1 F1 ρ1 G1 R1 s1 p1 r1 _ h1 => by
    have step : ∀ {k : Option Int → M D} {F ρ G H} {fe : EnvD → M (Option Int)} {Q' : Option Int → Hp → Prop}, R X.K ⟨T, Φ⟩ H F ρ G → RS X.K F ρ σ env → Run X.K ⟨T, Φ⟩ X.mg W σ true F ρ (fe env >>= k) G Q →
        (∀ o H' F' ρ' G', R X.K ⟨T, Φ⟩ H' F' ρ' G' → Same F F' → ρ <+: ρ' → Run X.K ⟨T, Φ⟩ X.mg W σ true F' ρ' (k o) G' Q → Q' o H') → tO X.K T X.mg W fe σ H Q' := fun {k F ρ G H fe Q'} hR hS h hk => by
      refine ⟨Φ, F, ρ, G, env, hR, hS, ?_⟩
      obtain ⟨r, G', e, h⟩ := h
      rcases bind_parts e with ⟨o, G1, e1, e2⟩ | ⟨c, e1, rfl⟩
      · exact ⟨.ok o, G1, e1, fun H' F' ρ' q1 q2 q3 => hk o H' F' ρ' G1 q1 q2 q3 (Run.from ⟨r, G', e2, h⟩ q2 q3)⟩
      · exact ⟨.ex c, G', e1, h⟩
    refine step R1 (hS.mono s1 p1) h1 fun l H2 F2 ρ2 G2 R2 s2 p2 h2 => ?_
    refine step R2 ((hS.mono s1 p1).mono s2 p2) h2 fun u H3 F3 ρ3 G3 R3 s3 p3 h3 => ?_
    have r3 := (r1.mono s2 p2).mono s3 p3
    have lst : ∀ {a : Addr} {e : D}, Dr X.K F3 ρ3 (.ref a) e → Run X.K ⟨T, Φ⟩ X.mg W σ true F3 ρ3 (do let ds ← getL e; Pure.pure (.lst (cutD ds l u))) G3 Q → rSl X.K (.ref a) l u H3 Q := fun {a e} r z => by
      obtain ⟨a', xs, ds, q1, q2, q3, q4⟩ := z.getL R3 r
      cases q1
      exact .inl ⟨a, xs, rfl, q2, fun p hp => q4.newL R3 (cut_V q3 l u) hp⟩
    cases r3 with
    | str z =>
      rw [show slM (.str z) l u = if z.length ≤ sizeLine then Pure.pure (.str (cutS z l u)) else stuck from rfl] at h3
      split at h3
      · rename_i hz
        exact .inr (.inr ⟨z, rfl, hz, h3.pure R3 (.str _) fun _ => .of fun _ z => nomatch z⟩)
      · exact h3.stuck.elim
    | @tup a xs ds q1 q2 =>
      have hl := q2.length
      refine .inr (.inl ⟨a, xs, rfl, Same.tup R3.sub q1, fun hw => ?_, fun hw p hp => ?_⟩)
      · rw [hl] at hw
        have h4 : Run X.K ⟨T, Φ⟩ X.mg W σ true F3 ρ3 (Pure.pure (.tup (cutD ds l u))) G3 Q := h3
        rw [cutD_all hw] at h4
        exact h4.pure R3 (.tup q1 q2) fun _ => .of fun _ z => nomatch z
      · exact Run.newT (K := X.K) (T := ⟨T, Φ⟩) (mg := X.mg) (W := W) (σ := σ) (fr := true) h3 R3 (cut_V q2 l u) hp
    | lst q1 q2 => exact lst (.lst q1 q2) h3
    | cell q1 => exact lst (.cell q1) h3
    | _ => obtain ⟨r', G', e', _⟩ := h3; cases e'⟩
end
end L2.GL
end

section
set_option Elab.async false
set_option linter.all false
set_option maxRecDepth 100000
set_option autoImplicit false
/-! G5: statements. -/
namespace L2.GL
open PySem PySem.Spec PyProof.Rows

inductive Out where
  | nx (e : EnvD) | ret (d : D) (fr : Bool) | bk (e : EnvD) | ct (e : EnvD) | ex (c : Str) (e : EnvD)
abbrev RO := Option (Out × Gh)
abbrev MS := EnvD → Gh → RO

def runE {α : Type} (m : M α) (env : EnvD) (k : α → Gh → RO) : Gh → RO := fun G => match m G with
  | none => none
  | some (.ok a, G1) => k a G1
  | some (.ex c, G1) => some (.ex c env, G1)
def seqS (f g : MS) : MS := fun env G => match f env G with
  | some (.nx e, G1) => g e G1
  | r => r
def skipS : MS := fun env G => some (.nx env, G)
def retS (fe : EnvD → M D) (fr : Bool) : MS := fun env => runE (fe env) env fun d G => some (.ret d fr, G)
def ifS (c : EnvD → M Bool) (f g : MS) : MS := fun env => runE (c env) env fun b G => if b = true then f env G else g env G
def dropS (fe : EnvD → M D) : MS := fun env => runE (fe env) env fun _ G => some (.nx env, G)
def setS (i : Nat) (fe : EnvD → M D) : MS := fun env => runE (fe env) env fun d G => some (.nx (env.set i (some d)), G)
/-- a list just made goes to the name as a cell of its own -/
def cellS (i : Nat) (fe : EnvD → M D) : MS := fun env => runE (fe env) env fun d G => match d with
  | .lst ds => if D.pureA ds = true then some (.nx (env.set i (some (.cell G.length))), G ++ [ds]) else none
  | d => some (.nx (env.set i (some d)), G)

section
variable (K : PySem.W.Frag) (T : Side) (mg : Str → Option Value) (W : WX)
def RunS (F : Hp) (ρ : List Addr) (m : RO) (Dn : Ends) : Prop := ∃ o G', m = some (o, G') ∧ match o with
  | .nx e => ∀ σ' H' F' ρ', R K T H' F' ρ' G' → Same F F' → ρ <+: ρ' → RS K F' ρ' σ' e → Dn.nx σ' H'
  | .bk e => ∀ σ' H' F' ρ', R K T H' F' ρ' G' → Same F F' → ρ <+: ρ' → RS K F' ρ' σ' e → Dn.bk σ' H'
  | .ct e => ∀ σ' H' F' ρ', R K T H' F' ρ' G' → Same F F' → ρ <+: ρ' → RS K F' ρ' σ' e → Dn.ct σ' H'
  | .ret d fr => ∀ v H' F' ρ', R K T H' F' ρ' G' → Same F F' → ρ <+: ρ' → Dr K F' ρ' v d → (fr = true → FreshL K T F H' F' ρ' G' v d) → Dn.rt v H'
  | .ex c e => ∀ cls σ' H' F' ρ', mg c = some cls → R K T H' F' ρ' G' → Same F F' → ρ <+: ρ' → RS K F' ρ' σ' e → W cls none σ' H'
end
def tS (K : PySem.W.Frag) (T : List Addr) (mg : Str → Option Value) (W : WX) (fs : MS) : TS := fun Dn σ H => ∃ Φ F ρ G env, R K ⟨T, Φ⟩ H F ρ G ∧ RS K F ρ σ env ∧ RunS K ⟨T, Φ⟩ mg W F ρ (fs env G) Dn

section
variable {K : PySem.W.Frag} {T : Side} {mg : Str → Option Value} {W : WX} {F F0 F1 H : Hp} {ρ ρ0 ρ1 : List Addr} {G : Gh} {Dn : Ends} {σ : L2.St} {env : EnvD}
theorem RunS.from {m : RO} (h : RunS K T mg W F0 ρ0 m Dn) (s : Same F0 F1) (p : ρ0 <+: ρ1) : RunS K T mg W F1 ρ1 m Dn := by
  obtain ⟨o, G', e, h⟩ := h
  refine ⟨o, G', e, ?_⟩
  cases o with
  | nx e => exact fun σ' H' F' ρ' h1 h2 h3 => h σ' H' F' ρ' h1 (s.trans h2) (p.trans h3)
  | bk e => exact fun σ' H' F' ρ' h1 h2 h3 => h σ' H' F' ρ' h1 (s.trans h2) (p.trans h3)
  | ct e => exact fun σ' H' F' ρ' h1 h2 h3 => h σ' H' F' ρ' h1 (s.trans h2) (p.trans h3)
  | ret d fr => exact fun v H' F' ρ' h1 h2 h3 h4 h5 => h v H' F' ρ' h1 (s.trans h2) (p.trans h3) h4 fun q => (h5 q).from s
  | ex c e => exact fun cls σ' H' F' ρ' h0 h1 h2 h3 => h cls σ' H' F' ρ' h0 h1 (s.trans h2) (p.trans h3)
theorem RunS.none {P : Prop} (h : RunS K T mg W F ρ none Dn) : P := by
  obtain ⟨o, G', e, _⟩ := h
  cases e
theorem RunS.nx {e : EnvD} (h : RunS K T mg W F ρ (some (.nx e, G)) Dn) (hR : R K T H F1 ρ1 G) (s : Same F F1) (p : ρ <+: ρ1) (hS : RS K F1 ρ1 σ e) : Dn.nx σ H := by
  obtain ⟨o, G', e', h⟩ := h
  cases e'
  exact h σ H F1 ρ1 hR s p hS
theorem runE_parts {α : Type} {m : M α} {k : α → Gh → RO} {r : Out × Gh} (e : runE m env k G = some r) : (∃ a G1, m G = some (.ok a, G1) ∧ k a G1 = some r) ∨ ∃ c, m G = some (.ex c, r.2) ∧ r.1 = .ex c env := by
  unfold runE at e
  split at e
  · cases e
  · rename_i a G1 q
    exact .inl ⟨a, G1, q, e⟩
  · rename_i c G1 q
    cases e
    exact .inr ⟨c, q, rfl⟩
theorem RunS.ofE {m : M D} {k : D → Gh → RO} {fr : Bool} {Q : VK} (h : RunS K T mg W F ρ (runE m env k G) Dn) (hS : RS K F ρ σ env)
    (hk : ∀ v d H1 F1 ρ1 G1, R K T H1 F1 ρ1 G1 → Same F F1 → ρ <+: ρ1 → Dr K F1 ρ1 v d → (fr = true → FreshL K T F H1 F1 ρ1 G1 v d) → RunS K T mg W F1 ρ1 (k d G1) Dn → RunS K T mg W F ρ (k d G1) Dn → Q v H1) : Run K T mg W σ fr F ρ m G Q := by
  obtain ⟨o, G', e, h⟩ := h
  rcases runE_parts e with ⟨a, G1, e1, e2⟩ | ⟨c, e1, e2⟩
  · exact ⟨.ok a, G1, e1, fun v H' F' ρ' h1 h2 h3 h4 h5 => hk v a H' F' ρ' G1 h1 h2 h3 h4 h5 (RunS.from ⟨o, G', e2, h⟩ h2 h3) ⟨o, G', e2, h⟩⟩
  · refine ⟨.ex c, G', e1, fun cls H' F' ρ' h0 h1 h2 h3 => ?_⟩
    obtain rfl : o = .ex c env := e2
    exact h cls σ H' F' ρ' h0 h1 h2 h3 (hS.mono h2 h3)
theorem RunS.ofB {m : M Bool} {k : Bool → Gh → RO} {Q : Bool → Hp → Prop} (h : RunS K T mg W F ρ (runE m env k G) Dn) (hS : RS K F ρ σ env)
    (hk : ∀ b H1 F1 ρ1 G1, R K T H1 F1 ρ1 G1 → Same F F1 → ρ <+: ρ1 → RunS K T mg W F1 ρ1 (k b G1) Dn → Q b H1) : RunB K T mg W σ F ρ m G Q := by
  obtain ⟨o, G', e, h⟩ := h
  rcases runE_parts e with ⟨a, G1, e1, e2⟩ | ⟨c, e1, e2⟩
  · exact ⟨.ok a, G1, e1, fun H' F' ρ' h1 h2 h3 => hk a H' F' ρ' G1 h1 h2 h3 (RunS.from ⟨o, G', e2, h⟩ h2 h3)⟩
  · refine ⟨.ex c, G', e1, fun cls H' F' ρ' h0 h1 h2 h3 => ?_⟩
    obtain rfl : o = .ex c env := e2
    exact h cls σ H' F' ρ' h0 h1 h2 h3 (hS.mono h2 h3)
theorem RunS.ofA {m : M (List D)} {k : List D → Gh → RO} {Q : List V → Hp → Prop} (h : RunS K T mg W F ρ (runE m env k G) Dn) (hS : RS K F ρ σ env)
    (hk : ∀ b ds H1 F1 ρ1 G1, R K T H1 F1 ρ1 G1 → Same F F1 → ρ <+: ρ1 → DrA K F1 ρ1 b ds → RunS K T mg W F1 ρ1 (k ds G1) Dn → Q b H1) : RunA K T mg W σ F ρ m G Q := by
  obtain ⟨o, G', e, h⟩ := h
  rcases runE_parts e with ⟨a, G1, e1, e2⟩ | ⟨c, e1, e2⟩
  · exact ⟨.ok a, G1, e1, fun vs H' F' ρ' h1 h2 h3 h4 => hk vs a H' F' ρ' G1 h1 h2 h3 h4 (RunS.from ⟨o, G', e2, h⟩ h2 h3)⟩
  · refine ⟨.ex c, G', e1, fun cls H' F' ρ' h0 h1 h2 h3 => ?_⟩
    obtain rfl : o = .ex c env := e2
    exact h cls σ H' F' ρ' h0 h1 h2 h3 (hS.mono h2 h3)
end

abbrev PSV (X : Cx) (T : List Addr) (W : WX) (st : Stmt) (fs : MS) : Prop := PS X st (tS X.K T X.mg W fs)
abbrev PSsV (X : Cx) (T : List Addr) (W : WX) (st : List Stmt) (fs : MS) : Prop := PSs X st (tS X.K T X.mg W fs)

section
variable {X : Cx} {T : List Addr} {W : WX} {pos : Pos} {a b c e : Expr} {fe fa fb : EnvD → M D} {ta : EnvD → M Bool} {fr ga gb : Bool} {st : Stmt} {rest : List Stmt} {f g : MS}
theorem s_nil : PSsV X T W [] skipS := PSs.imp pss_nil fun Dn σ H ⟨Φ, F, ρ, G, env, hR, hS, h⟩ => h.nx hR (Same.refl _) (List.prefix_refl _) hS
theorem s_cons (h1 : PSV X T W st f) (h2 : PSsV X T W rest g) : PSsV X T W (st :: rest) (seqS f g) := PSs.imp (pss_cons h1 h2) fun Dn σ H ⟨Φ, F, ρ, G, env, hR, hS, h⟩ => ⟨Φ, F, ρ, G, env, hR, hS, by
  unfold seqS at h
  cases q : f env G with
  | none => rw [q] at h; exact h.none
  | some r =>
    obtain ⟨o, G1⟩ := r
    rw [q] at h
    refine ⟨o, G1, rfl, ?_⟩
    cases o with
    | nx e1 => exact fun σ' H' F' ρ' q1 q2 q3 q4 => ⟨Φ, F', ρ', G1, e1, q1, q4, h.from q2 q3⟩
    | bk e1 => obtain ⟨o', G', z, h⟩ := h; cases z; exact h
    | ct e1 => obtain ⟨o', G', z, h⟩ := h; cases z; exact h
    | ret d fr => obtain ⟨o', G', z, h⟩ := h; cases z; exact h
    | ex c e1 => obtain ⟨o', G', z, h⟩ := h; cases z; exact h⟩
theorem s_one (h1 : PSV X T W st f) : PSsV X T W [st] f := pss_one h1
theorem s_pass : PSV X T W (.Pass pos) skipS := PS.imp ps_pass fun Dn σ H ⟨Φ, F, ρ, G, env, hR, hS, h⟩ => h.nx hR (Same.refl _) (List.prefix_refl _) hS
theorem s_doc {x : Str} {j : Nat} {pos' : Pos} : PSV X T W (.Expr (.Constant (.str x) j pos) pos') skipS := PS.imp ps_doc fun Dn σ H ⟨Φ, F, ρ, G, env, hR, hS, h⟩ => h.nx hR (Same.refl _) (List.prefix_refl _) hS
def brkS : MS := fun env G => some (.bk env, G)
def contS : MS := fun env G => some (.ct env, G)
theorem s_break : PSV X T W (.Break pos) brkS := PS.imp ps_break fun Dn σ H ⟨Φ, F, ρ, G, env, hR, hS, o, G', z, h⟩ => by cases z; exact h σ H F ρ hR (Same.refl _) (List.prefix_refl _) hS
theorem s_cont : PSV X T W (.Continue pos) contS := PS.imp ps_continue fun Dn σ H ⟨Φ, F, ρ, G, env, hR, hS, o, G', z, h⟩ => by cases z; exact h σ H F ρ hR (Same.refl _) (List.prefix_refl _) hS
theorem s_ret (he : PV X T W fr e fe) : PSV X T W (.Return (some e) pos) (retS fe fr) := PS.imp (ps_ret he) fun Dn σ H ⟨Φ, F, ρ, G, env, hR, hS, h⟩ => ⟨Φ, F, ρ, G, env, hR, hS, h.ofE hS fun v d H1 F1 ρ1 G1 R1 s1 p1 r1 f1 _ h1 => by
  obtain ⟨o, G', z, h1⟩ := h1
  cases z
  exact h1 v H1 F1 ρ1 R1 s1 p1 r1 f1⟩
theorem s_retN : PSV X T W (.Return none pos) (fun env G => some (.ret .non true, G)) := PS.imp ps_retN fun Dn σ H ⟨Φ, F, ρ, G, env, hR, hS, o, G', z, h⟩ => by
  cases z
  exact h .non H F ρ hR (Same.refl _) (List.prefix_refl _) .non fun _ => .of fun _ z => nomatch z
theorem s_if {as bs : List Stmt} (hc : PB X T W c ta) (ha : PSsV X T W as f) (hb : PSsV X T W bs g) : PSV X T W (.If c as bs pos) (ifS ta f g) := PS.imp (ps_if hc ha hb) fun Dn σ H ⟨Φ, F, ρ, G, env, hR, hS, h⟩ => ⟨Φ, F, ρ, G, env, hR, hS, h.ofB hS fun k H1 F1 ρ1 G1 R1 s1 p1 h1 => by
  have back : ∀ {fs : MS}, RunS X.K ⟨T, Φ⟩ X.mg W F1 ρ1 (fs env G1) Dn → tS X.K T X.mg W fs Dn σ H1 := fun z => ⟨Φ, F1, ρ1, G1, env, R1, hS.mono s1 p1, z⟩
  cases k with
  | true => rw [if_pos rfl] at h1 ⊢; exact back h1
  | false => rw [if_neg Bool.false_ne_true] at h1 ⊢; exact back h1⟩
theorem s_expr (he : PV X T W fr e fe) (hs : swapsWith e none pos.line X.env = pure false := by rfl) : PSV X T W (.Expr e pos) (dropS fe) := PS.imp (ps_expr he hs) fun Dn σ H ⟨Φ, F, ρ, G, env, hR, hS, h⟩ => ⟨Φ, F, ρ, G, env, hR, hS, h.ofE hS fun v d H1 F1 ρ1 G1 R1 s1 p1 r1 f1 h1 _ => h1.nx R1 (Same.refl _) (List.prefix_refl _) (hS.mono s1 p1)⟩
/-- name = value -/
theorem set_go {i : Nat} {σ : L2.St} {H : Hp} {Dn : Ends} (h : tS X.K T X.mg W (setS i fe) Dn σ H) : tAsg (tV X.K T X.mg W fr fe) (gName i) Dn σ H := by
  obtain ⟨Φ, F, ρ, G, env, hR, hS, h⟩ := h
  exact ⟨Φ, F, ρ, G, env, hR, hS, h.ofE hS fun v d H1 F1 ρ1 G1 R1 s1 p1 r1 f1 h1 _ => h1.nx R1 (Same.refl _) (List.prefix_refl _) ((hS.mono s1 p1).set r1)⟩
theorem cell_go {i : Nat} {σ : L2.St} {H : Hp} {Dn : Ends} (h : tS X.K T X.mg W (cellS i fe) Dn σ H) : tAsg (tV X.K T X.mg W true fe) (gName i) Dn σ H := by
  obtain ⟨Φ, F, ρ, G, env, hR, hS, h⟩ := h
  refine ⟨Φ, F, ρ, G, env, hR, hS, h.ofE hS fun v d H1 F1 ρ1 G1 R1 s1 p1 r1 f1 h0 h1 => ?_⟩
  by_cases hd : ∃ ds, d = .lst ds
  · obtain ⟨ds, rfl⟩ := hd
    obtain ⟨p, xs, rfl, hF, hp, hn, R2, r2⟩ := f1 rfl ds rfl
    dsimp only at h1
    split at h1
    · rename_i hpu
      have hpH : H1 p = some (.lst xs) := R1.sub p _ hp
      have R3 : R X.K ⟨T, Φ⟩ H1 (del F1 p) (ρ1 ++ [p]) (G1 ++ [ds]) := by
        refine ⟨R2.sub, by simp [R2.len], ?_, fun a m => ?_, fun n a es e1 e2 => ?_, R2.tab, fun q m => ?_, R2.hnd⟩
        · rw [List.nodup_append]
          refine ⟨R2.nd, by simp, fun a ha b hb => ?_⟩
          rw [List.mem_singleton.mp hb]
          rintro rfl
          exact hn ha
        · rcases List.mem_append.mp m with m | m
          · exact R2.out a m
          · rw [List.mem_singleton.mp m]; exact del_same
        · by_cases hl : n < ρ1.length
          · rw [List.getElem?_append_left hl] at e1
            rw [List.getElem?_append_left (by rw [← R2.len]; exact hl)] at e2
            exact R2.cel n a es e1 e2
          · have hn' : n = ρ1.length := by
              rw [List.getElem?_append_right (Nat.le_of_not_lt hl)] at e1
              rcases Nat.eq_zero_or_pos (n - ρ1.length) with z | z
              · omega
              · rw [List.getElem?_eq_none (by simp; omega)] at e1; cases e1
            subst hn'
            rw [List.getElem?_append_right (Nat.le_refl _)] at e1
            rw [R2.len, List.getElem?_append_right (Nat.le_refl _)] at e2
            simp at e1 e2
            subst e1; subst e2
            exact ⟨xs, hpH, DrA.anyrho hpu r2⟩
        · obtain ⟨k1, k2, k3⟩ := R2.hld q m
          obtain ⟨_, k4, _⟩ := R1.hld q m
          refine ⟨k1, k2, fun z => ?_⟩
          rcases List.mem_append.mp z with z | z
          · exact k3 z
          · rw [List.mem_singleton.mp z, hp] at k4; cases k4
      have s2 : Same F (del F1 p) := same_del s1 hF
      have p2 : ρ <+: ρ1 ++ [p] := p1.trans (List.prefix_append _ _)
      refine h1.nx R3 s2 p2 ((hS.mono s2 p2).set (.cell ?_))
      rw [← R1.len, List.getElem?_append_right (Nat.le_refl _)]
      simp
    · exact h1.none
  · have h2 : RunS X.K ⟨T, Φ⟩ X.mg W F1 ρ1 (some (.nx (env.set i (some d)), G1)) Dn := by
      cases d <;> first | exact h0 | exact absurd ⟨_, rfl⟩ hd
    exact h2.nx R1 (Same.refl _) (List.prefix_refl _) ((hS.mono s1 p1).set r1)
theorem s_set {i : Nat} {x : Str} {pos' : Pos} (hN : X.N.Nodup) (hi : X.N[i]? = some x) (hx : Loc X.env.scope x) (he : PV X T W fr e fe) (hs : swapsWith e (some (.Name x pos')) pos.line X.env = pure false := by rfl) (hf : X.fn x = true ∨ X.env.scope.names.lookup x = some .local := by first | exact .inl rfl | exact .inr rfl | assumption) :
    PSV X T W (.Assign [.Name x pos'] e pos) (setS i fe) := PS.imp (ps_set hN hi hx he hs hf) fun Dn σ H h => set_go h
theorem s_cell {i : Nat} {x : Str} {pos' : Pos} (hN : X.N.Nodup) (hi : X.N[i]? = some x) (hx : Loc X.env.scope x) (he : PV X T W true e fe) (hs : swapsWith e (some (.Name x pos')) pos.line X.env = pure false := by rfl) (hf : X.fn x = true ∨ X.env.scope.names.lookup x = some .local := by first | exact .inl rfl | exact .inr rfl | assumption) :
    PSV X T W (.Assign [.Name x pos'] e pos) (cellS i fe) := PS.imp (ps_set hN hi hx he hs hf) fun Dn σ H h => cell_go h
/-- a, b = x, y -/
def parS (i j : Nat) (fs : EnvD → M (List D)) : MS := fun env => runE (fs env) env fun ds G => match ds with
  | [d, e] => some (.nx ((env.set i (some d)).set j (some e)), G)
  | _ => none
theorem s_par {i j : Nat} {x y : Str} {fs : EnvD → M (List D)} {px py pt : Pos} {kt k2 : Nat} {pt2 : Pos} (hc : X.calm = true) (hN : X.N.Nodup) (hi : X.N[i]? = some x) (hj : X.N[j]? = some y) (hij : i ≠ j)
    (hx : X.env.scope.names.lookup x = some .local) (hy : X.env.scope.names.lookup y = some .local) (ha : PVs X T W [a, b] fs)
    (hw : swappedStores [.Tuple [.Name x px, .Name y py] kt pt] (.Tuple [a, b] k2 pt2) X.env = pure (some [x, y]))
    (hs : swapsWithSole [.Tuple [.Name x px, .Name y py] kt pt] (.Tuple [a, b] k2 pt2) pos.line X.env = pure false := by rfl) :
    PSV X T W (.Assign [.Tuple [.Name x px, .Name y py] kt pt] (.Tuple [a, b] k2 pt2) pos) (parS i j fs) := PS.imp (ps_par hc hN hi hj hij hx hy ha hw hs) fun Dn σ H ⟨Φ, F, ρ, G, env, hR, hS, h⟩ => ⟨Φ, F, ρ, G, env, hR, hS, h.ofA hS fun vs ds H1 F1 ρ1 G1 R1 s1 p1 r1 h1 => by
  match ds, r1, h1 with
  | [], r1, h1 => exact h1.none
  | [d], r1, h1 => exact h1.none
  | [d, e], r1, h1 =>
    obtain ⟨v, u, rfl, r2, r3⟩ := r1.two
    exact ⟨v, u, rfl, h1.nx R1 (Same.refl _) (List.prefix_refl _) (((hS.mono s1 p1).set r2).set r3)⟩
  | d :: e :: q :: r, r1, h1 => exact h1.none⟩

/-! ### targets -/
abbrev MT := D → EnvD → Gh → Option (EnvD × Gh)
/-- nothing but these slots is changed -/
def Touch (vs : List Nat) (σ σ' : L2.St) : Prop := σ'.length = σ.length ∧ ∀ i, i ∉ vs → σ'[i]? = σ[i]?
theorem Touch.trans {us vs : List Nat} {σ σ' σ2 : L2.St} (h : Touch us σ σ') (k : Touch vs σ' σ2) : Touch (us ++ vs) σ σ2 :=
  ⟨k.1.trans h.1, fun i hi => (k.2 i fun z => hi (List.mem_append_right _ z)).trans (h.2 i fun z => hi (List.mem_append_left _ z))⟩
def tG (K : PySem.W.Frag) (T : List Addr) (us : List Nat) (ft : MT) : TG := fun v σ H Q => ∃ Φ F ρ G env d e' G', R K ⟨T, Φ⟩ H F ρ G ∧ RS K F ρ σ env ∧ Dr K F ρ v d ∧ ft d env G = some (e', G') ∧
  ∀ σ' H' F' ρ', R K ⟨T, Φ⟩ H' F' ρ' G' → Same F F' → ρ <+: ρ' → RS K F' ρ' σ' e' → Touch us σ σ' → Q σ' H'
abbrev MTs := List D → EnvD → Gh → Option (EnvD × Gh)
def tGs (K : PySem.W.Frag) (T : List Addr) (us : List Nat) (ft : MTs) : TGs := fun vs σ H Q => ∃ Φ F ρ G env ds e' G', R K ⟨T, Φ⟩ H F ρ G ∧ RS K F ρ σ env ∧ DrA K F ρ vs ds ∧ ft ds env G = some (e', G') ∧
  ∀ σ' H' F' ρ', R K ⟨T, Φ⟩ H' F' ρ' G' → Same F F' → ρ <+: ρ' → RS K F' ρ' σ' e' → Touch us σ σ' → Q σ' H'
abbrev PGV (X : Cx) (T : List Addr) (us : List Nat) (tg : Expr) (ft : MT) : Prop := PG X tg (tG X.K T us ft)
abbrev PGsV (X : Cx) (T : List Addr) (us : List Nat) (tg : List Expr) (ft : MTs) : Prop := PGs X tg (tGs X.K T us ft)
theorem PG.imp {tg : Expr} {t t' : TG} (h : PG X tg t) (hi : ∀ v σ H Q, t' v σ H Q → t v σ H Q) : PG X tg t' := ⟨fun pins s σ H v u Q I r hw => h.run pins s σ H v u Q I r (hi _ _ _ _ hw)⟩
theorem PGs.imp {tg : List Expr} {t t' : TGs} (h : PGs X tg t) (hi : ∀ v σ H Q, t' v σ H Q → t v σ H Q) : PGs X tg t' := ⟨fun pins s σ H v u Q I r hw => h.run pins s σ H v u Q I r (hi _ _ _ _ hw)⟩
def gN (i : Nat) : MT := fun d env G => some (env.set i (some d), G)
def gT (n : Nat) (f : MTs) : MT := fun d env G => match d with
  | .tup ds => if ds.length = n then f ds env G else none
  | .lst ds => if ds.length = n then f ds env G else none
  | _ => none
def gs0 : MTs := fun ds env G => match ds with
  | [] => some (env, G)
  | _ => none
def gs1 (f : MT) (g : MTs) : MTs := fun ds env G => match ds with
  | d :: r => match f d env G with
    | some (e, G1) => g r e G1
    | none => none
  | [] => none
theorem g_name {i : Nat} {x : Str} (hN : X.N.Nodup) (hi : X.N[i]? = some x) (hx : Loc X.env.scope x) (hf : X.fn x = true ∨ X.env.scope.names.lookup x = some .local := by first | exact .inl rfl | exact .inr rfl | assumption) : PGV X T [i] (.Name x pos) (gN i) :=
  PG.imp (pg_name hN hi hx hf) fun v σ H Q ⟨Φ, F, ρ, G, env, d, e', G', hR, hS, r, z, h⟩ => by
    cases z
    exact h _ H F ρ hR (Same.refl _) (List.prefix_refl _) (hS.set r) ⟨by simp, fun j hj => List.getElem?_set_ne (by simpa using fun e => hj (by simp [e]))⟩
theorem g_nil : PGsV X T [] [] gs0 := PGs.imp pgs_nil fun vs σ H Q ⟨Φ, F, ρ, G, env, ds, e', G', hR, hS, r, z, h⟩ => by
  cases ds with
  | nil => cases r; cases z; exact ⟨rfl, h _ H F ρ hR (Same.refl _) (List.prefix_refl _) hS ⟨rfl, fun _ _ => rfl⟩⟩
  | cons _ _ => cases z
theorem g_cons {es : List Expr} {u1 u2 : List Nat} {f : MT} {g : MTs} (h1 : PGV X T u1 e f) (h2 : PGsV X T u2 es g) (hs : (assignEach (e :: es) X.env).map (·.2) = assign e X.env :: (assignEach es X.env).map (·.2) := by rfl) : PGsV X T (u1 ++ u2) (e :: es) (gs1 f g) :=
  PGs.imp (pgs_cons h1 h2 hs) fun vs σ H Q ⟨Φ, F, ρ, G, env, ds, e', G', hR, hS, r, z, h⟩ => by
    cases r with
    | nil => cases z
    | @cons v vs d ds r rs =>
      unfold gs1 at z
      dsimp only at z
      split at z
      · rename_i e1 G1 q
        refine ⟨v, vs, rfl, Φ, F, ρ, G, env, d, e1, G1, hR, hS, r, q, fun σ' H' F' ρ' R' s' p' S' t1 => ?_⟩
        exact ⟨Φ, F', ρ', G1, e1, ds, e', G', R', S', rs.mono s' p', z, fun σ2 H2 F2 ρ2 R2 s2 p2 S2 t2 => h σ2 H2 F2 ρ2 R2 (s'.trans s2) (p'.trans p2) S2 (t1.trans t2)⟩
      · cases z
theorem g_tup {es : List Expr} {k n : Nat} {us : List Nat} {f : MTs} (hc : X.calm = true) (h : PGsV X T us es f) (hn : (assignEach es X.env).length = n := by rfl) (hst : (assignEach es X.env).findIdx? (·.1) = none := by rfl) : PGV X T us (.Tuple es k pos) (gT n f) := by
  have h1 := pg_tup (pos := pos) (k := k) hc h hn hst
  have h2 := pg_unl (pos := pos) (k := k) hc h hn hst
  refine ⟨fun pins s σ H v u Q I ru ⟨Φ, F, ρ, G, env, d, e', G', hR, hS, r, z, hq⟩ => ?_⟩
  cases r with
  | @tup a xs ds q1 q2 =>
    unfold gT at z
    dsimp only at z
    split at z
    · rename_i hl
      exact h1.run pins s σ H _ u Q I ru ⟨a, xs, rfl, Same.tup hR.sub q1, by rw [q2.length, hl], Φ, F, ρ, G, env, ds, e', G', hR, hS, q2, z, hq⟩
    · cases z
  | @lst a xs ds q1 q2 =>
    unfold gT at z
    dsimp only at z
    split at z
    · rename_i hl
      exact h2.run pins s σ H _ u Q I ru ⟨a, xs, rfl, hR.sub.seq q1, by rw [q2.length, hl], Φ, F, ρ, G, env, ds, e', G', hR, hS, q2, z, hq⟩
    · cases z
  | _ => cases z
/-- xs[i] = d -/
def setAt (o i d : D) (env : EnvD) (G : Gh) : Option (EnvD × Gh) := match o, i with
  | .cell n, .int k => match G[n]? with
    | some ds => match ixN ds.length k with
      | some j => if d.pure = true then some (env, G.set n (ds.set j d)) else none
      | none => none
    | none => none
  | _, _ => none
def gS (fo fi : EnvD → M D) : MT := fun d env G => match fo env G with
  | some (.ok o, G1) => match fi env G1 with
    | some (.ok i, G2) => setAt o i d env G2
    | _ => none
  | _ => none
theorem g_sub {o i : Expr} {fo fi : EnvD → M D} (ho : PV X T W ga o fo) (hi : PV X T W gb i fi)
    (ha : ∀ v, assign (.Subscript o i pos) X.env v = (do
      let ov ← holding [v] (eval o X.env)
      let iv ← holding [v, ov] (eval i X.env)
      standAt pos
      holding [v, ov, iv] (setItem ov iv v)
      release [v, ov, iv] []) := by intro _; rfl) : PGV X T [] (.Subscript o i pos) (gS fo fi) :=
  PG.imp (pg_sub ho hi set_list ha) fun v σ H Q ⟨Φ, F, ρ, G, env, d, e', G', hR, hS, r, z, h⟩ => by
    unfold gS at z
    split at z
    · rename_i od G1 q1
      split at z
      · rename_i id G2 q2
        refine ⟨Φ, F, ρ, G, env, hR, hS, .ok od, G1, q1, fun ov H1 F1 ρ1 R1 s1 p1 r1 fo_ => ?_⟩
        clear fo_
        refine ⟨Φ, F1, ρ1, G1, env, R1, hS.mono s1 p1, .ok id, G2, q2, fun iv H2 F2 ρ2 R2 s2 p2 r2 fi_ => ?_⟩
        clear fi_
        have r3 := r1.mono s2 p2
        have rd := (r.mono s1 p1).mono s2 p2
        unfold setAt at z
        split at z
        · rename_i n k
          split at z
          · rename_i ds q3
            split at z
            · rename_i j q4
              split at z
              · rename_i hp
                cases z
                cases r3 with
                | @cell a _ hn =>
                  cases r2
                  obtain ⟨xs, h1, h2⟩ := R2.cel n a ds hn q3
                  refine ⟨a, xs, k, j, rfl, rfl, h1, by rw [h2.length]; exact q4, ?_⟩
                  exact h σ _ F2 ρ2 (R2.setcell hn (h2.set (Dr.anyrho hp rd) j)) (s1.trans s2) (p1.trans p2) ((hS.mono s1 p1).mono s2 p2) ⟨rfl, fun _ _ => rfl⟩
              · cases z
            · cases z
          · cases z
        · cases z
      · cases z
    · cases z
def asgS (fe : EnvD → M D) (ft : MT) : MS := fun env => runE (fe env) env fun d G => match ft d env G with
  | some (e, G1) => some (.nx e, G1)
  | none => none
theorem s_asg {tg : Expr} {ft : MT} {us : List Nat} (he : PV X T W fr e fe) (hg : PGV X T us tg ft) (hs : swapsWithSole [tg] e pos.line X.env = pure false := by rfl) (hw : swappedStores [tg] e X.env = pure none := by rfl)
    (h1 : (assignEach [tg] X.env).map (·.2) = [assign tg X.env] := by rfl) : PSV X T W (.Assign [tg] e pos) (asgS fe ft) := PS.imp (ps_asg he hg hs hw h1) fun Dn σ H ⟨Φ, F, ρ, G, env, hR, hS, h⟩ => ⟨Φ, F, ρ, G, env, hR, hS, h.ofE hS fun v d H1 F1 ρ1 G1 R1 s1 p1 r1 f1 h1 _ => by
  cases q : ft d env G1 with
  | none => rw [q] at h1; exact h1.none
  | some r =>
    obtain ⟨e1, G2⟩ := r
    rw [q] at h1
    exact ⟨Φ, F1, ρ1, G1, env, d, e1, G2, R1, hS.mono s1 p1, r1, q, fun σ' H' F' ρ' R' s' p' S' _ => h1.nx R' s' p' S'⟩⟩
theorem getV_spec {i : Nat} {env : EnvD} {G G0 : Gh} {d : D} (h : getV i env G = some (.ok d, G0)) : env[i]? = some (some d) ∧ G0 = G := by
  unfold getV at h
  cases q : env[i]? with
  | none => rw [q] at h; cases h
  | some o =>
    rw [q] at h
    cases o with
    | none => cases h
    | some d' => cases h; exact ⟨rfl, rfl⟩
/-- x += e -/
def augS (i : Nat) (fe : EnvD → M D) (g : D → D → M D) : MS := fun env G => match getV i env G with
  | some (.ok d, _) => runE (do let e ← fe env; g d e) env (fun z G2 => some (.nx (env.set i (some z)), G2)) G
  | _ => none
def IpV (K : PySem.W.Frag) (mg : Str → Option Value) (r : TIp) (g : D → D → M D) : Prop :=
  ∀ (T : Side) (W : WX) (σ : L2.St) (x y : V) (d e : D) (H F : Hp) (ρ : List Addr) (G : Gh) (Q : VK), R K T H F ρ G → Dr K F ρ x d → Dr K F ρ y e → Run K T mg W σ false F ρ (g d e) G Q → r x y H Q
theorem s_aug {i : Nat} {x : Str} {op : Operator} {ti : TIp} {g : D → D → M D} {pos' : Pos} (hN : X.N.Nodup) (hi : X.N[i]? = some x) (hx : Loc X.env.scope x) (he : PV X T W fr e fe) (ho : PIp X op ti) (hg : IpV X.K X.mg ti g) (hf : X.fn x = true ∨ X.env.scope.names.lookup x = some .local := by first | exact .inl rfl | exact .inr rfl | assumption) :
    PSV X T W (.AugAssign (.Name x pos') op e pos) (augS i fe g) := PS.imp (ps_aug hN hi hx he ho hf) fun Dn σ H ⟨Φ, F, ρ, G, env, hR, hS, h⟩ => by
  unfold augS at h
  split at h
  · rename_i d G0 q
    have q' := (getV_spec q).1
    obtain ⟨v, h1, h2⟩ := hS.at_ i _ q'
    refine ⟨v, h1, Φ, F, ρ, G, env, hR, hS, Run.bind (fr := false) (h.ofE (fr := false) (Q := fun z H2 => Dn.nx (σ.set i (some z)) H2) hS fun u e H1 F1 ρ1 G1 R1 s1 p1 r1 f1 h3 _ => h3.nx R1 (Same.refl _) (List.prefix_refl _) ((hS.mono s1 p1).set r1)) fun u e H1 F1 ρ1 G1 R1 s1 p1 r1 _ h3 => ?_⟩
    exact hg _ W σ v u _ e H1 F1 ρ1 G1 _ R1 (h2.mono s1 p1) r1 h3
  · exact h.none
theorem ip_addV {K : PySem.W.Frag} {mg : Str → Option Value} : IpV K mg (ipI fun i j => i + j) (fun d e => match d, e with | .int i, .int j => pure (.int (i + j)) | _, _ => stuck) := by
  intro T W σ x y d e H F ρ G Q hR rx ry h
  cases rx with
  | int i =>
    cases ry with
    | int j => exact ⟨i, j, rfl, rfl, Run.pure (d := .int (i + j)) h hR (.int _) fun z => nomatch z⟩
    | _ => exact h.stuck.elim
  | _ => exact h.stuck.elim
end
end L2.GL
end

section
set_option Elab.async false
set_option linter.all false
set_option maxRecDepth 100000
set_option autoImplicit false
/-! G6: what is walked; for, while; comprehensions. -/
namespace L2.GL
open PySem PySem.Spec PyProof.Rows

/-- the iterator J gives just ds, while F stands -/
structure JOk (K : PySem.W.Frag) (T : List Addr) (J : It) (F : Hp) (ρ : List Addr) (ds : List D) : Prop where
  go : ∀ (Φ : List (Addr × List V)) (i : Nat) (H F' : Hp) (ρ' : List Addr) (G' : Gh), Same F F' → ρ <+: ρ' → R K ⟨T, Φ⟩ H F' ρ' G' → i < ds.length → J.go i H
  stop : ∀ (Φ : List (Addr × List V)) (H F' : Hp) (ρ' : List Addr) (G' : Gh), Same F F' → ρ <+: ρ' → R K ⟨T, Φ⟩ H F' ρ' G' → J.stop ds.length H
  yld : ∀ (Φ : List (Addr × List V)) (i : Nat) (H F' : Hp) (ρ' : List Addr) (G' : Gh) (x : V) (H' : Hp) (d : D), Same F F' → ρ <+: ρ' → R K ⟨T, Φ⟩ H F' ρ' G' → ds[i]? = some d → J.yld i H x H' →
    ∃ F'', R K ⟨T, Φ⟩ H' F'' ρ' G' ∧ Same F' F'' ∧ Same H H' ∧ Dr K F'' ρ' x d
theorem JOk.mono {K : PySem.W.Frag} {T : List Addr} {J : It} {F F1 : Hp} {ρ ρ1 : List Addr} {ds : List D} (h : JOk K T J F ρ ds) (s : Same F F1) (p : ρ <+: ρ1) : JOk K T J F1 ρ1 ds :=
  ⟨fun Φ i H F' ρ' G' s' p' => h.go Φ i H F' ρ' G' (s.trans s') (p.trans p'), fun Φ H F' ρ' G' s' p' => h.stop Φ H F' ρ' G' (s.trans s') (p.trans p'), fun Φ i H F' ρ' G' x H' d s' p' => h.yld Φ i H F' ρ' G' x H' d (s.trans s') (p.trans p')⟩
section
variable {K : PySem.W.Frag} {T : List Addr} {F : Hp} {ρ : List Addr} {a b : Addr} {xs ys : List V} {ds es : List D}
theorem j_list (h : SqL K F a xs) (r : DrA K F ρ xs ds) : JOk K T (Itl K a) F ρ ds where
  go := fun Φ i H F' ρ' G' s p hR hi => by
    have hl := r.length
    exact ⟨xs, xs[i]'(by omega), hR.sub.seq (s.seq h), List.getElem?_eq_getElem (by omega)⟩
  stop := fun Φ H F' ρ' G' s p hR => ⟨xs, hR.sub.seq (s.seq h), Nat.le_of_eq r.length⟩
  yld := fun Φ i H F' ρ' G' x H' d s p hR e y => by
    obtain ⟨rfl, y⟩ := y
    obtain ⟨v, h1, h2⟩ := r.get e
    have := y xs (hR.sub.seq (s.seq h))
    rw [h1] at this
    cases this
    exact ⟨F', hR, Same.refl _, Same.refl _, h2.mono s p⟩
theorem j_tup (h : SqT K F a xs) (r : DrA K F ρ xs ds) : JOk K T (Itt K a) F ρ ds where
  go := fun Φ i H F' ρ' G' s p hR hi => by
    have hl := r.length
    exact ⟨xs, xs[i]'(by omega), Same.tup hR.sub (Same.tup s h), List.getElem?_eq_getElem (by omega)⟩
  stop := fun Φ H F' ρ' G' s p hR => ⟨xs, Same.tup hR.sub (Same.tup s h), Nat.le_of_eq r.length⟩
  yld := fun Φ i H F' ρ' G' x H' d s p hR e y => by
    obtain ⟨rfl, y⟩ := y
    obtain ⟨v, h1, h2⟩ := r.get e
    have := y xs (Same.tup hR.sub (Same.tup s h))
    rw [h1] at this
    cases this
    exact ⟨F', hR, Same.refl _, Same.refl _, h2.mono s p⟩
def rangeD (lo : Int) (n : Nat) : List D := (List.range n).map fun i => D.int (lo + (i : Nat))
theorem j_range {lo : Int} {n : Nat} : JOk K T (Itr lo n) F ρ (rangeD lo n) where
  go := fun Φ i H F' ρ' G' s p hR hi => by simpa [rangeD, Itr] using hi
  stop := fun Φ H F' ρ' G' s p hR => by simp [rangeD, Itr]
  yld := fun Φ i H F' ρ' G' x H' d s p hR e y => by
    obtain ⟨rfl, rfl⟩ := y
    have : D.int (lo + (i : Nat)) = d := by
      unfold rangeD at e
      rw [List.getElem?_map] at e
      by_cases hi : i < n
      · rw [List.getElem?_range hi] at e
        exact Option.some.inj e
      · rw [List.getElem?_eq_none (by simpa using Nat.le_of_not_lt hi)] at e
        cases e
    subst this
    exact ⟨F', hR, Same.refl _, Same.refl _, .int _⟩
def signsD (x : Str) : List D := x.cps.toList.map fun c => D.str ⟨#[c]⟩
theorem j_str {x : Str} : JOk K T (Its x) F ρ (signsD x) where
  go := fun Φ i H F' ρ' G' s p hR hi => by simpa [signsD, Its] using hi
  stop := fun Φ H F' ρ' G' s p hR => by simp [signsD, Its]
  yld := fun Φ i H F' ρ' G' v H' d s p hR e y => by
    obtain ⟨rfl, c, hc, rfl⟩ := y
    unfold signsD at e
    rw [List.getElem?_map, Array.getElem?_toList, hc] at e
    cases e
    exact ⟨F', hR, Same.refl _, Same.refl _, .str _⟩
def zipD : List D → List D → List D
  | d :: ds, e :: es => .tup [d, e] :: zipD ds es
  | _, _ => []
theorem zipD_length : ∀ (ds es : List D), (zipD ds es).length = min ds.length es.length
  | [], _ => by simp [zipD]
  | _ :: _, [] => by simp [zipD]
  | d :: ds, e :: es => by
    simp only [zipD, List.length_cons, zipD_length ds es]
    omega
theorem zipD_get : ∀ (ds es : List D) (i : Nat) (d : D), (zipD ds es)[i]? = some d → ∃ p q, ds[i]? = some p ∧ es[i]? = some q ∧ d = .tup [p, q]
  | [], _, _, _, h => by simp [zipD] at h
  | _ :: _, [], _, _, h => by simp [zipD] at h
  | d :: ds, e :: es, 0, z, h => by
    simp only [zipD, List.getElem?_cons_zero, Option.some.injEq] at h
    exact ⟨d, e, rfl, rfl, h.symm⟩
  | d :: ds, e :: es, i + 1, z, h => by
    simp only [zipD, List.getElem?_cons_succ] at h ⊢
    exact zipD_get ds es i z h
theorem pair_new {T : Side} {H F' : Hp} {ρ' : List Addr} {G' : Gh} {p : Addr} {x y : V} {d e : D} (hR : R K T H F' ρ' G') (hp : H p = none) (rx : Dr K F' ρ' x d) (ry : Dr K F' ρ' y e) :
    ∃ F'', R K T (upd H p (.tup [x, y])) F'' ρ' G' ∧ Same F' F'' ∧ Same H (upd H p (.tup [x, y])) ∧ Dr K F'' ρ' (.ref p) (.tup [d, e]) := by
  have hF := hR.sub.free hp
  exact ⟨_, hR.alloc hp, same_updN hF, same_updN hp, .tup (.of upd_same) (.cons (rx.mono (same_updN hF) (List.prefix_refl _)) (.cons (ry.mono (same_updN hF) (List.prefix_refl _)) .nil))⟩
theorem j_zipL (h : SqL K F a xs) (r : DrA K F ρ xs ds) (h2 : SqL K F b ys) (r2 : DrA K F ρ ys es) : JOk K T (Itz K a b) F ρ (zipD ds es) where
  go := fun Φ i H F' ρ' G' s p hR hi => by
    have l1 := r.length
    have l2 := r2.length
    rw [zipD_length] at hi
    exact ⟨xs, ys, xs[i]'(by omega), ys[i]'(by omega), hR.sub.seq (s.seq h), hR.sub.seq (s.seq h2), List.getElem?_eq_getElem (by omega), List.getElem?_eq_getElem (by omega)⟩
  stop := fun Φ H F' ρ' G' s p hR => by
    have l1 := r.length
    have l2 := r2.length
    refine ⟨xs, ys, hR.sub.seq (s.seq h), hR.sub.seq (s.seq h2), ?_⟩
    rw [zipD_length]
    omega
  yld := fun Φ i H F' ρ' G' v H' d s p hR e y => by
    obtain ⟨Tt, x, y, rfl, hT, rfl, f1, f2⟩ := y
    obtain ⟨dp, dq, e1, e2, rfl⟩ := zipD_get _ _ _ _ e
    obtain ⟨v1, g1, q1⟩ := r.get e1
    obtain ⟨v2, g2, q2⟩ := r2.get e2
    have z1 := f1 xs (hR.sub.seq (s.seq h))
    have z2 := f2 ys (hR.sub.seq (s.seq h2))
    rw [g1] at z1; cases z1
    rw [g2] at z2; cases z2
    exact pair_new hR hT (q1.mono s p) (q2.mono s p)
theorem j_zipT (h : SqT K F a xs) (r : DrA K F ρ xs ds) (h2 : SqT K F b ys) (r2 : DrA K F ρ ys es) : JOk K T (RZ.ItzT K a b) F ρ (zipD ds es) where
  go := fun Φ i H F' ρ' G' s p hR hi => by
    have l1 := r.length
    have l2 := r2.length
    rw [zipD_length] at hi
    exact ⟨xs, ys, xs[i]'(by omega), ys[i]'(by omega), Same.tup hR.sub (Same.tup s h), Same.tup hR.sub (Same.tup s h2), List.getElem?_eq_getElem (by omega), List.getElem?_eq_getElem (by omega)⟩
  stop := fun Φ H F' ρ' G' s p hR => by
    have l1 := r.length
    have l2 := r2.length
    refine ⟨xs, ys, Same.tup hR.sub (Same.tup s h), Same.tup hR.sub (Same.tup s h2), ?_⟩
    rw [zipD_length]
    omega
  yld := fun Φ i H F' ρ' G' v H' d s p hR e y => by
    obtain ⟨Tt, x, y, rfl, hT, rfl, f1, f2⟩ := y
    obtain ⟨dp, dq, e1, e2, rfl⟩ := zipD_get _ _ _ _ e
    obtain ⟨v1, g1, q1⟩ := r.get e1
    obtain ⟨v2, g2, q2⟩ := r2.get e2
    have z1 := f1 xs (Same.tup hR.sub (Same.tup s h))
    have z2 := f2 ys (Same.tup hR.sub (Same.tup s h2))
    rw [g1] at z1; cases z1
    rw [g2] at z2; cases z2
    exact pair_new hR hT (q1.mono s p) (q2.mono s p)
end

/-- an iterable's reading -/
def tI (K : PySem.W.Frag) (T : List Addr) (mg : Str → Option Value) (W : WX) (fi : EnvD → M (List D)) : TI := fun σ H Rr => ∃ Φ F ρ G env, R K ⟨T, Φ⟩ H F ρ G ∧ RS K F ρ σ env ∧ ∃ r G', fi env G = some (r, G') ∧ match r with
  | .ok ds => ∀ J H' F' ρ', R K ⟨T, Φ⟩ H' F' ρ' G' → Same F F' → ρ <+: ρ' → JOk K T J F' ρ' ds → Rr J H'
  | .ex c => PostX K ⟨T, Φ⟩ mg F ρ c G' fun cls H' => W cls none σ H'
abbrev PIV (X : Cx) (T : List Addr) (W : WX) (tg iter : Expr) (fi : EnvD → M (List D)) : Prop := PI X tg iter (tI X.K T X.mg W fi)
section
variable {X : Cx} {T : List Addr} {W : WX} {pos p : Pos} {tg a b e iter : Expr} {fa fb : EnvD → M D} {fr ga gb : Bool} {fs fi : EnvD → M (List D)}
theorem PI.imp {t t' : TI} (h : PI X tg iter t) (hi : ∀ σ H Rr, t' σ H Rr → t σ H Rr) : PI X tg iter t' := ⟨fun pins s σ H Rr I hw => h.run pins s σ H Rr I (hi _ _ _ hw)⟩
/-- what is walked of a value -/
def walkM (d : D) : M (List D) := match d with
  | .tup ds => pure ds
  | .lst ds => pure ds
  | .str x => pure (signsD x)
  | _ => stuck
/-- one iterator object for a value: a list's, a tuple's or a text's -/
theorem iter_val {Φ : List (Addr × List V)} {pins : List (Addr × Obj)} {s1 : Shared} {σ : L2.St} {H1 F1 : Hp} {ρ1 : List Addr} {G1 : Gh} {v : Value} {x : V} {d : D} {ds : List D} {Rr : It → Hp → Prop} (I1 : Inv X pins σ H1 s1) (r1 : RelV x v) (rd : Dr X.K F1 ρ1 x d) (R1 : R X.K ⟨T, Φ⟩ H1 F1 ρ1 G1)
    (hw : walkM d = pure ds) (hq : ∀ J, JOk X.K T J F1 ρ1 ds → Rr J H1) : wpAny (model X.prog X.w) X.A (pyIter v) (PIE X pins σ tg Rr) X.xe s1 := by
  have eqOf : ∀ {ds' : List D}, (Pure.pure ds' : M (List D)) = Pure.pure ds → ds' = ds := fun {ds'} z => by
    have := congrFun z []
    simpa using this
  have no : ∀ {P : Prop}, (stuck : M (List D)) = Pure.pure ds → P := fun z => by
    have := congrFun z []
    cases this
  have made : ∀ {n : Nat} {it : Addr}, it = s1.heap.objs.size → ∀ b, b ∈ [it] → FpOk X pins H1 b := fun {n it} e b hb => by
    rw [List.mem_singleton.mp hb, e]
    exact I1.fpOk (Nat.le_refl _) (I1.hok.fresh (Nat.le_refl _))
  cases rd with
  | @lst ad xs es h1 h2 =>
    obtain rfl := eqOf hw
    cases r1
    obtain ⟨its, rv, pl, _⟩ := I1.list (R1.sub.seq h1)
    refine wpAny_pyIter_list pl.isList ?_
    exact ⟨_, _, _, _, H1, rfl, I1.kept (t' := s1.toks) fun b o q => Heap.get?_push_of_some _ q, turn_list ad _, ⟨_, Heap.get?_push_size _ rfl, rfl, rfl⟩, made (n := 0) rfl, hq _ (j_list h1 h2)⟩
  | @tup ad xs es h1 h2 =>
    obtain rfl := eqOf hw
    cases r1
    obtain ⟨its, rv, pl, _⟩ := I1.tuple (Same.tup R1.sub h1)
    refine wpAny_pyIter_tuple (show s1.heap.IsTuple ad its.toArray from pl) ?_
    exact ⟨_, _, _, _, H1, rfl, I1.kept (t' := s1.toks) fun b o q => Heap.get?_push_of_some _ q, turn_tuple ad _, ⟨_, Heap.get?_push_size _ rfl, rfl, rfl⟩, made (n := 0) rfl, hq _ (j_tup h1 h2)⟩
  | str z =>
    obtain rfl := eqOf hw
    obtain ⟨t, rfl⟩ := r1
    have q := hq _ (j_str (x := z))
    cases ha : z.cps.all (· < 128)
    · exact wpAny_pyIter_wide ha (pi_one (tk := s1.toks) I1 _ (turn_str _ z t "str_iterator" (.inr rfl)) ⟨_, Heap.get?_push_size _ rfl, rfl, rfl⟩ q)
    · exact wpAny_pyIter_ascii ha (pi_one (tk := s1.toks) I1 _ (turn_str _ z t "str_ascii_iterator" (.inl rfl)) ⟨_, Heap.get?_push_size _ rfl, rfl, rfl⟩ q)
  | _ => exact no hw
theorem walkM_res {d : D} {G G' : Gh} {r : Res (List D)} (h : walkM d G = some (r, G')) : ∃ ds, r = .ok ds ∧ G' = G ∧ walkM d = pure ds := by
  cases d <;> first | (cases h; exact ⟨_, rfl, rfl, rfl⟩) | cases h
theorem i_any (ha : PV X T W ga a fa) : PIV X T W tg a (fun env => do let d ← fa env; walkM d) := by
  refine ⟨fun pins s σ H Rr I ⟨Φ, F, ρ, G, env, hR, hS, r, G', e, h⟩ => ?_⟩
  have hrun : Run X.K ⟨T, Φ⟩ X.mg W σ ga F ρ (fa env) G fun x H1 => ∃ F1 ρ1 G1 d ds, Dr X.K F1 ρ1 x d ∧ R X.K ⟨T, Φ⟩ H1 F1 ρ1 G1 ∧ walkM d = Pure.pure ds ∧ ∀ J, JOk X.K T J F1 ρ1 ds → Rr J H1 := by
    rcases bind_parts e with ⟨d, G1, e1, e2⟩ | ⟨c, e1, rfl⟩
    · obtain ⟨ds, rfl, rfl, hw⟩ := walkM_res e2
      exact ⟨.ok d, _, e1, fun v H' F' ρ' h1 h2 h3 h4 _ => ⟨F', ρ', _, d, ds, h4, h1, hw, fun J j => h J H' F' ρ' h1 h2 h3 j⟩⟩
    · exact ⟨.ex c, G', e1, h⟩
  refine thn (ha.run pins s σ H _ I ⟨Φ, F, ρ, G, env, hR, hS, hrun⟩) fun v s1 ⟨x, H1, I1, r1, F1, ρ1, G1, d, ds, rd, R1, hw, hq⟩ => ?_
  exact iter_val I1 r1 rd R1 hw hq
/-- range(..) -/
def rng1 (ds : List D) : M (List D) := match ds with
  | [.int j] => if -(2 ^ 62) ≤ j ∧ j < 2 ^ 62 then pure (rangeD 0 j.toNat) else stuck
  | _ => stuck
def rng2 (ds : List D) : M (List D) := match ds with
  | [.int i, .int j] => if -(2 ^ 62) ≤ i ∧ i < 2 ^ 62 ∧ -(2 ^ 62) ≤ j ∧ j < 2 ^ 62 then pure (rangeD i (j - i).toNat) else stuck
  | _ => stuck
theorem args_iter {g : List D → M (List D)} {σ : L2.St} {H : Hp} {Rr : It → Hp → Prop} {q : List V → Hp → Prop} (h : tI X.K T X.mg W (fun env => do let ds ← fs env; g ds) σ H Rr)
    (hk : ∀ Φ vs ds H1 F1 ρ1 G1 r G', R X.K ⟨T, Φ⟩ H1 F1 ρ1 G1 → DrA X.K F1 ρ1 vs ds → g ds G1 = some (r, G') → (match r with
      | .ok ds => ∀ J H' F' ρ', R X.K ⟨T, Φ⟩ H' F' ρ' G' → Same F1 F' → ρ1 <+: ρ' → JOk X.K T J F' ρ' ds → Rr J H'
      | .ex c => PostX X.K ⟨T, Φ⟩ X.mg F1 ρ1 c G' fun cls H' => W cls none σ H') → q vs H1) : tA X.K T X.mg W fs σ H q := by
  obtain ⟨Φ, F, ρ, G, env, hR, hS, r, G', e, h⟩ := h
  refine ⟨Φ, F, ρ, G, env, hR, hS, ?_⟩
  rcases bind_parts e with ⟨ds, G1, e1, e2⟩ | ⟨c, e1, rfl⟩
  · refine ⟨.ok ds, G1, e1, fun vs H1 F1 ρ1 R1 s1 p1 r1 => hk Φ vs ds H1 F1 ρ1 G1 r G' R1 r1 e2 ?_⟩
    cases r with
    | ok es => exact fun J H' F' ρ' h1 h2 h3 => h J H' F' ρ' h1 (s1.trans h2) (p1.trans h3)
    | ex c => exact PostX.from h s1 p1
  · exact ⟨.ex c, G', e1, h⟩
theorem i_range1 (hg : Gl X "range") (hm : X.mg "range" = none) (ha : PVs X T W [a] fs) (hs : starEach [a] X.env = [(false, eval a X.env)] := by rfl) : PIV X T W tg (.Call (.Name "range" p) [a] [] pos) (fun env => do let ds ← fs env; rng1 ds) :=
  PI.imp (pi_range1 hg hm ha hs) fun σ H Rr h => args_iter h fun Φ vs ds H1 F1 ρ1 G1 r G' R1 r1 e2 h => by
    unfold rng1 at e2
    split at e2
    · rename_i j
      split at e2
      · rename_i hj
        cases e2
        obtain ⟨v, rfl, rv⟩ := r1.one
        cases rv
        exact ⟨j, rfl, hj.1, hj.2, h _ H1 F1 ρ1 R1 (Same.refl _) (List.prefix_refl _) j_range⟩
      · cases e2
    · cases e2
theorem i_range2 (hg : Gl X "range") (hm : X.mg "range" = none) (ha : PVs X T W [a, b] fs) (hs : starEach [a, b] X.env = [(false, eval a X.env), (false, eval b X.env)] := by rfl) (hs2 : starEach [b] X.env = [(false, eval b X.env)] := by rfl) :
    PIV X T W tg (.Call (.Name "range" p) [a, b] [] pos) (fun env => do let ds ← fs env; rng2 ds) :=
  PI.imp (pi_range2 hg hm ha hs hs2) fun σ H Rr h => args_iter h fun Φ vs ds H1 F1 ρ1 G1 r G' R1 r1 e2 h => by
    unfold rng2 at e2
    split at e2
    · rename_i i j
      split at e2
      · rename_i hj
        cases e2
        obtain ⟨v, u, rfl, rv, ru⟩ := r1.two
        cases rv; cases ru
        exact ⟨i, j, rfl, hj, h _ H1 F1 ρ1 R1 (Same.refl _) (List.prefix_refl _) j_range⟩
      · cases e2
    · cases e2
/-- zip(..) of two lists or two tuples -/
def zipM (ds : List D) : M (List D) := match ds with
  | [.lst xs, .lst ys] => pure (zipD xs ys)
  | [.tup xs, .tup ys] => pure (zipD xs ys)
  | _ => stuck
theorem i_zip {elts : List Expr} {kk : Nat} {tpos : Pos} (hg : Gl X "zip") (hm : X.mg "zip" = none) (ha : PVs X T W [a, b] fs) (hs : starEach [a, b] X.env = (false, eval a X.env) :: starEach [b] X.env := by rfl) (hpl : (backTo pos (starEach [b] X.env)).any (·.1) = false := by rfl) :
    PIV X T W (.Tuple elts kk tpos) (.Call (.Name "zip" p) [a, b] [] pos) (fun env => do let ds ← fs env; zipM ds) :=
  PI.imp (RZ.pi_zipA hg hm ha hs hpl) fun σ H Rr h => args_iter h fun Φ vs ds H1 F1 ρ1 G1 r G' R1 r1 e2 h => by
    unfold zipM at e2
    split at e2
    · cases e2
      obtain ⟨v, u, rfl, rv, ru⟩ := r1.two
      cases rv with
      | lst h1 h2 =>
        cases ru with
        | lst h3 h4 => exact ⟨_, _, _, _, rfl, .inl ⟨R1.sub.seq h1, R1.sub.seq h3, h _ H1 F1 ρ1 R1 (Same.refl _) (List.prefix_refl _) (j_zipL h1 h2 h3 h4)⟩⟩
    · cases e2
      obtain ⟨v, u, rfl, rv, ru⟩ := r1.two
      cases rv with
      | tup h1 h2 =>
        cases ru with
        | tup h3 h4 => exact ⟨_, _, _, _, rfl, .inr ⟨Same.tup R1.sub h1, Same.tup R1.sub h3, h _ H1 F1 ρ1 R1 (Same.refl _) (List.prefix_refl _) (j_zipT h1 h2 h3 h4)⟩⟩
    · cases e2

/-! ### for -/
def forL (ft : MT) (body : MS) : List D → MS
  | [], env, G => some (.nx env, G)
  | d :: ds, env, G => match ft d env G with
    | none => none
    | some (e1, G1) => match body e1 G1 with
      | some (.nx e2, G2) => forL ft body ds e2 G2
      | some (.ct e2, G2) => forL ft body ds e2 G2
      | some (.bk e2, G2) => some (.nx e2, G2)
      | r => r
def forS (fi : EnvD → M (List D)) (ft : MT) (body : MS) : MS := fun env => runE (fi env) env fun ds G => forL ft body ds env G
theorem s_for {body : List Stmt} {ft : MT} {us : List Nat} {f : MS} (hp : PassesOwn (model X.prog X.w) X.A X.env X.xe) (hc : X.calm = true) (hi : PIV X T W tg iter fi) (hg : PGV X T us tg ft) (hb : PSsV X T W body f) (hs : ∀ x, foldedSetIterable iter X.env x = pure x := by intro _; rfl) :
    PSV X T W (.For tg iter body [] pos) (forS fi ft f) := PS.imp (ps_for hp hc hi hg hb hs) fun Dn σ H ⟨Φ, F, ρ, G, env, hR, hS, o, G', e, h⟩ => ⟨Φ, F, ρ, G, env, hR, hS, by
  rcases runE_parts e with ⟨ds, G1, e1, e2⟩ | ⟨c, e1, e2⟩
  · refine ⟨.ok ds, G1, e1, fun J H1 F1 ρ1 R1 s1 p1 j1 => ?_⟩
    have h1 : RunS X.K ⟨T, Φ⟩ X.mg W F1 ρ1 (forL ft f ds env G1) Dn := RunS.from ⟨o, G', e2, h⟩ s1 p1
    refine ⟨fun i m σ H => m = ds.length - i ∧ i ≤ ds.length ∧ ∃ F2 ρ2 G2 env2, R X.K ⟨T, Φ⟩ H F2 ρ2 G2 ∧ Same F1 F2 ∧ ρ1 <+: ρ2 ∧ RS X.K F2 ρ2 σ env2 ∧ RunS X.K ⟨T, Φ⟩ X.mg W F2 ρ2 (forL ft f (ds.drop i) env2 G2) Dn,
      ⟨ds.length, by simp, Nat.zero_le _, F1, ρ1, G1, env, R1, Same.refl _, List.prefix_refl _, hS.mono s1 p1, h1⟩, ?_⟩
    rintro i m σ2 H2 ⟨rfl, hi, F2, ρ2, G2, env2, R2, s2, p2, S2, h2⟩
    by_cases hlt : i < ds.length
    · refine .inr ⟨j1.go Φ i H2 F2 ρ2 G2 s2 p2 R2 hlt, fun σ H => ∃ F3 ρ3 G3 env3, R X.K ⟨T, Φ⟩ H F3 ρ3 G3 ∧ Same F1 F3 ∧ ρ1 <+: ρ3 ∧ RS X.K F3 ρ3 σ env3 ∧ RunS X.K ⟨T, Φ⟩ X.mg W F3 ρ3 (forL ft f (ds.drop (i + 1)) env3 G3) Dn, ?_, fun x H3 y => ?_⟩
      · rintro σ' H' ⟨F3, ρ3, G3, env3, q⟩
        exact ⟨ds.length - (i + 1), by omega, rfl, hlt, F3, ρ3, G3, env3, q⟩
      · have hd : ds[i]? = some ds[i] := List.getElem?_eq_getElem hlt
        obtain ⟨F3, R3, s3, _, r3⟩ := j1.yld Φ i H2 F2 ρ2 G2 x H3 _ s2 p2 R2 hd y
        rw [List.drop_eq_getElem_cons hlt] at h2
        have S3 := S2.mono s3 (List.prefix_refl _)
        have h3 := h2.from s3 (List.prefix_refl _)
        unfold forL at h3
        cases q : ft ds[i] env2 G2 with
        | none => rw [q] at h3; exact h3.none
        | some r =>
          obtain ⟨e4, G4⟩ := r
          rw [q] at h3
          refine ⟨Φ, F3, ρ2, G2, env2, _, e4, G4, R3, S3, r3, q, fun σ4 H4 F4 ρ4 R4 s4 p4 S4 _ => ?_⟩
          refine ⟨Φ, F4, ρ4, G4, e4, R4, S4, ?_⟩
          dsimp only at h3
          have h4 := h3.from s4 p4
          cases q5 : f e4 G4 with
          | none => rw [q5] at h4; exact h4.none
          | some r5 =>
            obtain ⟨o5, G5⟩ := r5
            rw [q5] at h4
            refine ⟨o5, G5, rfl, ?_⟩
            have s14 : Same F1 F4 := (s2.trans s3).trans s4
            have p14 : ρ1 <+: ρ4 := p2.trans p4
            cases o5 with
            | nx e5 => exact fun σ5 H5 F5 ρ5 R5 s5 p5 S5 => ⟨F5, ρ5, G5, e5, R5, s14.trans s5, p14.trans p5, S5, h4.from s5 p5⟩
            | ct e5 => exact fun σ5 H5 F5 ρ5 R5 s5 p5 S5 => ⟨F5, ρ5, G5, e5, R5, s14.trans s5, p14.trans p5, S5, h4.from s5 p5⟩
            | bk e5 => exact fun σ5 H5 F5 ρ5 R5 s5 p5 S5 => h4.nx R5 s5 p5 S5
            | ret d fr => obtain ⟨o', G', z, h⟩ := h4; cases z; exact h
            | ex c e5 => obtain ⟨o', G', z, h⟩ := h4; cases z; exact h
    · have he : i = ds.length := by omega
      subst he
      rw [List.drop_length] at h2
      exact .inl ⟨j1.stop Φ H2 F2 ρ2 G2 s2 p2 R2, h2.nx R2 (Same.refl _) (List.prefix_refl _) S2⟩
  · refine ⟨.ex c, G', e1, fun cls H' F' ρ' h0 h1 h2 h3 => ?_⟩
    obtain rfl : o = .ex c env := e2
    exact h cls σ H' F' ρ' h0 h1 h2 h3 (hS.mono h2 h3)⟩

/-! ### while -/
def whN (c : EnvD → M Bool) (body : MS) : Nat → MS
  | 0, _, _ => none
  | n + 1, env, G => runE (c env) env (fun b G1 => if b = true then (match body env G1 with
      | some (.nx e2, G2) => whN c body n e2 G2
      | some (.ct e2, G2) => whN c body n e2 G2
      | some (.bk e2, G2) => some (.nx e2, G2)
      | r => r) else some (.nx env, G1)) G
open Classical in
noncomputable def whS (c : EnvD → M Bool) (body : MS) : MS := fun env G => if h : ∃ n, (whN c body n env G).isSome = true then whN c body (Classical.choose h) env G else none
theorem whN_mono (c : EnvD → M Bool) (body : MS) : ∀ (n : Nat) (env : EnvD) (G : Gh) (r : Out × Gh), whN c body n env G = some r → ∀ m, n ≤ m → whN c body m env G = some r := by
  intro n
  induction n with
  | zero => intro env G r h; cases h
  | succ n ih =>
    intro env G r h m hm
    obtain ⟨m, rfl⟩ : ∃ k, m = k + 1 := ⟨m - 1, by omega⟩
    unfold whN at h ⊢
    unfold runE at h ⊢
    cases q : c env G with
    | none => rw [q] at h; cases h
    | some z =>
      obtain ⟨rb, G1⟩ := z
      rw [q] at h
      cases rb with
      | ex c => exact h
      | ok b =>
        cases b with
        | false => exact h
        | true =>
          dsimp only at h ⊢
          rw [if_pos rfl] at h ⊢
          cases q2 : body env G1 with
          | none => rw [q2] at h; cases h
          | some z2 =>
            obtain ⟨o, G2⟩ := z2
            rw [q2] at h
            cases o with
            | nx e2 => exact ih e2 G2 r h m (by omega)
            | ct e2 => exact ih e2 G2 r h m (by omega)
            | bk e2 => exact h
            | ret d fr => exact h
            | ex c e2 => exact h
theorem whS_eq {c : EnvD → M Bool} {body : MS} {n : Nat} {env : EnvD} {G : Gh} {r : Out × Gh} (h : whN c body n env G = some r) : whS c body env G = some r := by
  have hex : ∃ n, (whN c body n env G).isSome = true := ⟨n, by rw [h]; rfl⟩
  unfold whS
  rw [dif_pos hex]
  obtain ⟨r', h'⟩ := Option.isSome_iff_exists.mp (Classical.choose_spec hex)
  have h1 := whN_mono c body _ env G r' h' (max (Classical.choose hex) n) (Nat.le_max_left _ _)
  have h2 := whN_mono c body _ env G r h (max (Classical.choose hex) n) (Nat.le_max_right _ _)
  rw [h', ← h1, h2]
theorem whS_some {c : EnvD → M Bool} {body : MS} {env : EnvD} {G : Gh} {r : Out × Gh} (h : whS c body env G = some r) : ∃ n, whN c body n env G = some r := by
  unfold whS at h
  split at h
  · exact ⟨_, h⟩
  · cases h
theorem s_while {ce : Expr} {body : List Stmt} {tc : EnvD → M Bool} {f : MS} (hp : PassesOwn (model X.prog X.w) X.A X.env X.xe) (hc : PB X T W ce tc) (hb : PSsV X T W body f) : PSV X T W (.While ce body [] pos) (whS tc f) :=
  PS.imp (ps_while hp hc hb) fun Dn σ H ⟨Φ, F, ρ, G, env, hR, hS, o, G', e, h⟩ => by
    obtain ⟨n, e⟩ := whS_some e
    have h1 : RunS X.K ⟨T, Φ⟩ X.mg W F ρ (whN tc f n env G) Dn := ⟨o, G', e, h⟩
    refine ⟨fun m σ H => ∃ F2 ρ2 G2 env2, R X.K ⟨T, Φ⟩ H F2 ρ2 G2 ∧ RS X.K F2 ρ2 σ env2 ∧ RunS X.K ⟨T, Φ⟩ X.mg W F2 ρ2 (whN tc f m env2 G2) Dn, ⟨n, F, ρ, G, env, hR, hS, h1⟩, ?_⟩
    rintro m σ2 H2 ⟨F2, ρ2, G2, env2, R2, S2, h2⟩
    cases m with
    | zero => exact h2.none
    | succ m =>
      unfold whN at h2
      refine ⟨Φ, F2, ρ2, G2, env2, R2, S2, h2.ofB S2 fun b H3 F3 ρ3 G3 R3 s3 p3 h3 => ?_⟩
      have S3 := S2.mono s3 p3
      cases b with
      | false =>
        rw [if_neg Bool.false_ne_true] at h3 ⊢
        exact h3.nx R3 (Same.refl _) (List.prefix_refl _) S3
      | true =>
        rw [if_pos rfl] at h3 ⊢
        refine ⟨fun σ H => ∃ F4 ρ4 G4 env4, R X.K ⟨T, Φ⟩ H F4 ρ4 G4 ∧ RS X.K F4 ρ4 σ env4 ∧ RunS X.K ⟨T, Φ⟩ X.mg W F4 ρ4 (whN tc f m env4 G4) Dn, fun σ' H' q => ⟨m, Nat.lt_succ_self _, q⟩, Φ, F3, ρ3, G3, env2, R3, S3, ?_⟩
        cases q5 : f env2 G3 with
        | none => rw [q5] at h3; exact h3.none
        | some r5 =>
          obtain ⟨o5, G5⟩ := r5
          rw [q5] at h3
          refine ⟨o5, G5, rfl, ?_⟩
          cases o5 with
          | nx e5 => exact fun σ5 H5 F5 ρ5 R5 s5 p5 S5 => ⟨F5, ρ5, G5, e5, R5, S5, h3.from s5 p5⟩
          | ct e5 => exact fun σ5 H5 F5 ρ5 R5 s5 p5 S5 => ⟨F5, ρ5, G5, e5, R5, S5, h3.from s5 p5⟩
          | bk e5 => exact fun σ5 H5 F5 ρ5 R5 s5 p5 S5 => h3.nx R5 s5 p5 S5
          | ret d fr => obtain ⟨o', G', z, h⟩ := h3; cases z; exact h
          | ex c e5 => obtain ⟨o', G', z, h⟩ := h3; cases z; exact h
end
end L2.GL
end

section
set_option Elab.async false
set_option linter.all false
set_option maxRecDepth 100000
set_option autoImplicit false
/-! G7: defs, their calls; raise. -/
namespace L2.GL
open PySem PySem.Spec PyProof.Rows

mutual
/-- cells from k on, taken as they stand -/
def D.conv (k : Nat) (G : Gh) : D → D
  | .cell n => if n < k then .cell n else match G[n]? with
    | some ds => .lst ds
    | none => .cell n
  | .tup ds => .tup (D.convA k G ds)
  | .lst ds => .lst (D.convA k G ds)
  | d => d
def D.convA (k : Nat) (G : Gh) : List D → List D
  | [] => []
  | d :: ds => D.conv k G d :: D.convA k G ds
end
def frz (H F : Hp) (ν : List Addr) : Hp := fun a => if a ∈ ν then H a else F a
theorem frz_in {H F : Hp} {ν : List Addr} {a : Addr} (h : a ∈ ν) : frz H F ν a = H a := if_pos h
theorem frz_out {H F : Hp} {ν : List Addr} {a : Addr} (h : a ∉ ν) : frz H F ν a = F a := if_neg h
section
variable {K : PySem.W.Frag} {T : Side} {H F : Hp} {ρ ν : List Addr} {G : Gh}
theorem frz_same (h : R K T H F (ρ ++ ν) G) : Same F (frz H F ν) := fun b o e => by
  by_cases hb : b ∈ ν
  · rw [h.out b (List.mem_append_right _ hb)] at e; cases e
  · rw [frz_out hb]; exact e
theorem R.trunc (h : R K T H F (ρ ++ ν) G) : R K T H (frz H F ν) ρ (G.take ρ.length) := by
  have nd := List.nodup_append.mp h.nd
  have hl : ρ.length ≤ G.length := by rw [← h.len, List.length_append]; omega
  refine ⟨fun b o e => ?_, by rw [List.length_take]; omega, nd.1, fun a m => ?_, fun n a ds e1 e2 => ?_, fun P m => ?_, fun q m => ?_, h.hnd⟩
  · by_cases hb : b ∈ ν
    · rw [frz_in hb] at e; exact e
    · rw [frz_out hb] at e; exact h.sub b o e
  · have hn : a ∉ ν := fun z => nd.2.2 a m a z rfl
    rw [frz_out hn]; exact h.out a (List.mem_append_left _ m)
  · have hn : n < ρ.length := by
      rcases Nat.lt_or_ge n ρ.length with q | q
      · exact q
      · rw [List.getElem?_eq_none q] at e1; cases e1
    rw [List.getElem?_take_of_lt hn] at e2
    obtain ⟨xs, q, r⟩ := h.cel n a ds (by rw [List.getElem?_append_left hn]; exact e1) e2
    exact ⟨xs, q, r.mono (frz_same h) (List.prefix_refl _)⟩
  · obtain ⟨h1, ps, h2, h3⟩ := h.tab P m
    have hn : P ∉ ν := fun z => by
      obtain ⟨xs, q⟩ := h.some_of (List.mem_append_right ρ z)
      rw [h2] at q; cases q
    exact ⟨by rw [frz_out hn]; exact h1, ps, h2, h3.1, h3.2.mono (frz_same h)⟩
  · obtain ⟨h1, h2, h3⟩ := h.hld q m
    have hn : q.1 ∉ ν := fun z => h3 (List.mem_append_right ρ z)
    exact ⟨h1, by rw [frz_out hn]; exact h2, fun z => h3 (List.mem_append_left _ z)⟩
mutual
theorem Dr.trunc (h : R K T H F (ρ ++ ν) G) : ∀ {v : V} {d : D}, Dr K F (ρ ++ ν) v d → Dr K (frz H F ν) ρ v (d.conv ρ.length G)
  | _, _, .non => .non
  | _, _, .bl b => .bl b
  | _, _, .int i => .int i
  | _, _, .str x => .str x
  | _, _, .ty n => .ty n
  | _, _, .dct q => .dct (frz_same h _ _ q)
  | _, _, .exn a c => .exn a c
  | _, _, .tup q t => .tup (Same.tup (frz_same h) q) (DrA.trunc h t)
  | _, _, .lst q t => .lst ((frz_same h).seq q) (DrA.trunc h t)
  | _, _, @Dr.cell _ _ _ a n q => by
    unfold D.conv
    by_cases hn : n < ρ.length
    · rw [if_pos hn]
      rw [List.getElem?_append_left hn] at q
      exact .cell q
    · rw [if_neg hn]
      have hm : a ∈ ν := by
        rw [List.getElem?_append_right (Nat.le_of_not_lt hn)] at q
        exact List.mem_of_getElem? q
      have hl : n < G.length := by
        rw [← h.len]
        rcases Nat.lt_or_ge n (ρ ++ ν).length with z | z
        · exact z
        · rw [List.getElem?_eq_none z] at q; cases q
      rw [List.getElem?_eq_getElem hl]
      obtain ⟨xs, h1, h2⟩ := h.cel n a _ q (List.getElem?_eq_getElem hl)
      exact .lst (.of (by rw [frz_in hm]; exact h1)) (h2.mono (frz_same h) ⟨ρ, rfl⟩)
theorem DrA.trunc (h : R K T H F (ρ ++ ν) G) : ∀ {v : List V} {d : List D}, DrA K F (ρ ++ ν) v d → DrA K (frz H F ν) ρ v (D.convA ρ.length G d)
  | _, _, .nil => .nil
  | _, _, .cons q t => .cons (Dr.trunc h q) (DrA.trunc h t)
end
theorem frz_del {p : Addr} (hp : p ∉ ν) : del (frz H F ν) p = frz H (del F p) ν := by
  funext b
  by_cases hb : b = p
  · subst hb
    rw [del_same, frz_out hp, del_same]
  · rw [del_ne hb]
    by_cases hn : b ∈ ν
    · rw [frz_in hn, frz_in hn]
    · rw [frz_out hn, frz_out hn, del_ne hb]
end

/-- a def's body, from the arguments -/
def defM (m n : Nat) (fr : Bool) (f : MS) (ds : List D) : M D := fun G => if ds.length = m then match f (ds.map some ++ List.replicate (n - ds.length) none) G with
  | some (.nx _, G') => some (.ok .non, G'.take G.length)
  | some (.ret d f', G') => match d with
    | .lst es => if fr = true ∧ f' = false then none else some (.ok (D.conv G.length G' (.lst es)), G'.take G.length)
    | d => some (.ok (D.conv G.length G' d), G'.take G.length)
  | some (.ex c _, G') => some (.ex c, G'.take G.length)
  | _ => none else none
theorem defM_len {m n : Nat} {fr : Bool} {f : MS} {ds : List D} {G : Gh} {r : Res D × Gh} (h : defM m n fr f ds G = some r) : ds.length = m := by
  unfold defM at h
  split at h
  · assumption
  · cases h

/-- what a def promises -/
def spG (K : PySem.W.Frag) (T : List Addr) (mg : Str → Option Value) (n : Nat) (fr : Bool) (φ : List D → M D) : Sp := fun vs H Q E =>
  vs.length = n ∧ ∃ Φ F ρ G ds, R K ⟨T, Φ⟩ H F ρ G ∧ DrA K F ρ vs ds ∧ ∃ r G', φ ds G = some (r, G') ∧ match r with
    | .ok d => PostV K ⟨T, Φ⟩ F ρ fr d G' Q
    | .ex c => PostX K ⟨T, Φ⟩ mg F ρ c G' fun cls H' => E cls none H'
structure FnG (P : Program) (w : World) (K : PySem.W.Frag) (mg : Str → Option Value) (base : Heap) (k : Nat) (f : Addr) (fd : FuncData) (ps : List Str) (sp : Sp) : Prop where
  run : ∀ (A : Around) (outer : List Env) (s : Shared) (H : Hp) (args : Args) (us : List Value) (vs : List V) (Q : VK) (E : XK), A.guards = some [] → Room k A → Env0 P w K mg base A outer s H → BindsTo s fd args (ps.zip us) → Vals vs us → sp vs H Q E →
    codeAny (model P w) A (.call (.ref f) args) (CR (L2N.CX P w) outer P w H s Q E) s

theorem takesN {X : Cx} : L2N.Takes X (fun _ _ _ _ => False) := fun _ _ ⟨_, _, _, _, _, _, _, _, _, _, _, _, _, _, _, _, w⟩ => w.elim
/-- what stands fast around a def's body -/
structure Stand (X : Cx) (k : Nat) (W : WX) : Prop where
  calm : X.calm = true
  gu : X.A.guards = some []
  room : Room k X.A
  tk : L2N.Takes X W

theorem start_env {N : List Str} {vs : List V} {ds : List D} {K : PySem.W.Frag} {F : Hp} {ρ : List Addr} (r : DrA K F ρ vs ds) : RS K F ρ (start N vs) (ds.map some ++ List.replicate (N.length - ds.length) none) := by
  have hl := r.length
  refine ⟨by unfold start; simp [hl], fun i d e => ?_⟩
  have hi : i < ds.length := by
    rcases Nat.lt_or_ge i ds.length with q | q
    · exact q
    · rw [List.getElem?_append_right (by simpa using q), List.getElem?_replicate] at e
      split at e <;> cases e
  rw [List.getElem?_append_left (by simpa using hi), List.getElem?_map] at e
  have e' : ds[i]? = some d := by
    cases q : ds[i]? with
    | none => rw [q] at e; cases e
    | some u => rw [q] at e; cases e; rfl
  obtain ⟨x, h1, h2⟩ := r.get e'
  refine ⟨x, ?_, h2⟩
  unfold start
  rw [List.getElem?_append_left (by simpa [hl] using hi), List.getElem?_map, h1]
  rfl

/-- the body's run gives what the def promises -/
theorem body_end {K : PySem.W.Frag} {T : List Addr} {mg : Str → Option Value} {N : List Str} {fr : Bool} {f : MS} {vs : List V} {H : Hp} {Q : VK} {E : XK} {n m : Nat} (h : spG K T mg n fr (defM m N.length fr f) vs H Q E) :
    tS K T mg (fun cls d _ H => E cls d H) f { nx := fun _ H' => Q .non H', rt := Q } (start N vs) H := by
  obtain ⟨hl, Φ, F, ρ, G, ds, hR, r, r', G', e, h⟩ := h
  refine ⟨Φ, F, ρ, G, _, hR, start_env r, ?_⟩
  have hm := defM_len e
  unfold defM at e
  rw [if_pos hm] at e
  have cut : ∀ {H' F' : Hp} {ρ' : List Addr} {G1 : Gh}, R K ⟨T, Φ⟩ H' F' ρ' G1 → Same F F' → ρ <+: ρ' → ∃ ν, ρ' = ρ ++ ν ∧ R K ⟨T, Φ⟩ H' (frz H' F' ν) ρ (G1.take G.length) ∧ Same F (frz H' F' ν) := fun {H' F' ρ' G1} R1 s1 ⟨ν, z⟩ => by
    subst z
    exact ⟨ν, rfl, by rw [← hR.len]; exact R1.trunc, s1.trans (frz_same R1)⟩
  cases q : f (ds.map some ++ List.replicate (N.length - ds.length) none) G with
  | none => rw [q] at e; cases e
  | some z =>
    obtain ⟨o, G1⟩ := z
    rw [q] at e
    refine ⟨o, G1, rfl, ?_⟩
    cases o with
    | nx e1 =>
      cases e
      intro σ' H' F' ρ' R1 s1 p1 S1
      obtain ⟨ν, rfl, R2, s2⟩ := cut R1 s1 p1
      exact h .non H' _ ρ R2 s2 (List.prefix_refl _) .non fun _ => .of fun _ z => nomatch z
    | bk e1 => cases e
    | ct e1 => cases e
    | ex c e1 =>
      cases e
      intro cls σ' H' F' ρ' hc R1 s1 p1 S1
      obtain ⟨ν, rfl, R2, s2⟩ := cut R1 s1 p1
      exact h cls H' _ ρ hc R2 s2 (List.prefix_refl _)
    | ret d f' =>
      intro v H' F' ρ' R1 s1 p1 r1 f1
      obtain ⟨ν, rfl, R2, s2⟩ := cut R1 s1 p1
      have r2 := Dr.trunc R1 r1
      rw [hR.len] at r2
      have fin : ∀ {d' : D} {G2 : Gh}, (Res.ok (D.conv G.length G1 d), G1.take G.length) = (r', G') → (fr = true → FreshL K ⟨T, Φ⟩ F H' (frz H' F' ν) ρ (G1.take G.length) v (D.conv G.length G1 d)) → Q v H' := fun {_ _} z fh => by
        cases z
        exact h v H' _ ρ R2 s2 (List.prefix_refl _) r2 fh
      cases d with
      | lst es =>
        dsimp only at e
        split at e
        · cases e
        · rename_i hn
          refine fin (d' := .non) (G2 := []) (Option.some.inj e) fun hf ds' hd => ?_
          have f2 : f' = true := by
            cases f' with
            | true => rfl
            | false => exact absurd ⟨hf, rfl⟩ hn
          obtain ⟨p, xs, e1, e2, e3, e4, e5, e6⟩ := f1 f2 es rfl
          have hp : p ∉ ν := fun z => e4 (List.mem_append_right _ z)
          have e7 : D.lst (D.convA G.length G1 es) = .lst ds' := hd
          cases e7
          refine ⟨p, xs, e1, e2, by rw [frz_out hp]; exact e3, fun z => e4 (List.mem_append_left _ z), ?_, ?_⟩
          · rw [frz_del hp, ← hR.len]; exact e5.trunc
          · rw [frz_del hp, ← hR.len]; exact DrA.trunc e5 e6
      | cell n =>
        refine fin (d' := .non) (G2 := []) (Option.some.inj e) fun hf ds' hd => ?_
        cases r1 with
        | @cell a _ q1 =>
          by_cases hn : n < G.length
          · have : D.conv G.length G1 (.cell n) = .cell n := by unfold D.conv; rw [if_pos hn]
            rw [this] at hd; cases hd
          · have hn' : ¬ n < ρ.length := by rw [hR.len]; exact hn
            have hm : a ∈ ν := by
              rw [List.getElem?_append_right (Nat.le_of_not_lt hn')] at q1
              exact List.mem_of_getElem? q1
            have hl : n < G1.length := by
              rw [← R1.len]
              rcases Nat.lt_or_ge n (ρ ++ ν).length with z | z
              · exact z
              · rw [List.getElem?_eq_none z] at q1; cases q1
            have e7 : D.conv G.length G1 (.cell n) = .lst G1[n] := by
              unfold D.conv; rw [if_neg hn, List.getElem?_eq_getElem hl]
            rw [e7] at hd
            cases hd
            obtain ⟨xs, h1, h2⟩ := R1.cel n a _ q1 (List.getElem?_eq_getElem hl)
            have hF' : F' a = none := R1.out a (List.mem_append_right _ hm)
            have nd := List.nodup_append.mp R1.nd
            have hnr : a ∉ ρ := fun z => nd.2.2 a z a hm rfl
            have sd : Same F' (del (frz H' F' ν) a) := fun b o e => by
              rw [del_ne (ne_of_none e hF')]; exact frz_same R1 b o e
            refine ⟨a, xs, rfl, s1.free hF', by rw [frz_in hm]; exact h1, hnr, ?_, h2.mono sd ⟨ρ, rfl⟩⟩
            refine ⟨(del_sub _ _).trans R2.sub, R2.len, R2.nd, fun b m => ?_, fun m b es e1 e2 => ?_, fun P m => ?_, fun q m => ?_, R2.hnd⟩
            · rw [del_ne (show b ≠ a from fun z => hnr (z ▸ m))]; exact R2.out b m
            · have hm2 : m < ρ.length := by
                rcases Nat.lt_or_ge m ρ.length with z | z
                · exact z
                · rw [List.getElem?_eq_none z] at e1; cases e1
              rw [List.getElem?_take_of_lt (by rw [← hR.len]; exact hm2)] at e2
              obtain ⟨ys, z1, z2⟩ := R1.cel m b es (by rw [List.getElem?_append_left hm2]; exact e1) e2
              exact ⟨ys, z1, z2.mono sd (List.prefix_refl _)⟩
            · obtain ⟨z1, ps, z2, z3⟩ := R2.tab P m
              refine ⟨?_, ps, z2, z3.1, fun pos cv hcv => ?_⟩
              rotate_left
              · obtain ⟨c0, q0, e1, e2⟩ := z3.2 pos cv hcv
                refine ⟨c0, q0, e1, ?_⟩
                have e3 := R2.sub _ _ e2
                rw [del_ne (show c0 ≠ a from fun z => by rw [z, h1] at e3; cases e3)]
                exact e2
              rw [del_ne (show P ≠ a from fun z => by rw [z, h1] at z2; cases z2)]; exact z1
            · obtain ⟨z1, z2, z3⟩ := R2.hld q m
              obtain ⟨_, _, z4⟩ := R1.hld q m
              refine ⟨z1, ?_, z3⟩
              rw [del_ne (show q.1 ≠ a from fun z => z4 (z ▸ List.mem_append_right _ hm))]; exact z2
      | non => exact fin (d' := .non) (G2 := []) (Option.some.inj e) fun _ => .of fun _ z => nomatch z
      | bl b => exact fin (d' := .non) (G2 := []) (Option.some.inj e) fun _ => .of fun _ z => nomatch z
      | int b => exact fin (d' := .non) (G2 := []) (Option.some.inj e) fun _ => .of fun _ z => nomatch z
      | str b => exact fin (d' := .non) (G2 := []) (Option.some.inj e) fun _ => .of fun _ z => nomatch z
      | ty b => exact fin (d' := .non) (G2 := []) (Option.some.inj e) fun _ => .of fun _ z => nomatch z
      | dct b => exact fin (d' := .non) (G2 := []) (Option.some.inj e) fun _ => .of fun _ z => nomatch z
      | exn b c => exact fin (d' := .non) (G2 := []) (Option.some.inj e) fun _ => .of fun _ z => nomatch z
      | tup b => exact fin (d' := .non) (G2 := []) (Option.some.inj e) fun _ => .of fun _ z => nomatch z
section
variable {P : Program} {w : World} {K : PySem.W.Frag} {mg : Str → Option Value} {base : Heap} {T : List Addr} {k : Nat} {fr : Bool}
/-- the context of a def's body -/
abbrev cxG (P : Program) (w : World) (K : PySem.W.Frag) (mg : Str → Option Value) (base : Heap) (N : List Str) (qual : Str) (scope : Scope) (fa : Addr) (cd : Value) (A : Around) (outer : List Env) (s : Shared) (H : Hp) (E : XK) : Cx :=
  cxOf (L2N.CX P w) P w K mg base N qual scope fa cd A outer s H E
abbrev wG (E : XK) : WX := fun cls d _ H => E cls d H
theorem stand_of {N : List Str} {qual : Str} {scope : Scope} {fa : Addr} {cd : Value} {A : Around} {outer : List Env} {s : Shared} {H : Hp} {E : XK} (hg : A.guards = some []) (hr : Room k (A.deeper (envOfC qual scope s.heap.objs.size fa cd))) :
    Stand (cxG P w K mg base N qual scope fa cd A outer s H E) k (wG E) :=
  ⟨rfl, hg, hr, L2N.takes_of rfl rfl rfl rfl⟩
theorem own_of {N : List Str} {qual : Str} {scope : Scope} {fa : Addr} {cd : Value} {A : Around} {outer : List Env} {s : Shared} {H : Hp} {E : XK} :
    PassesOwn (model P w) (cxG P w K mg base N qual scope fa cd A outer s H E).A (cxG P w K mg base N qual scope fa cd A outer s H E).env (cxG P w K mg base N qual scope fa cd A outer s H E).xe := passes_of rfl
theorem fn_G {fa : Addr} {name qual : Str} {params : Arguments} {body : List Stmt} {scope : Scope} {dV kV doc pm cdv ct oc : Value} {an od : Option Addr} {osl : Array (Option Value)} {N ps : List Str} {f : MS}
    (lk : K.lookup fa = some ⟨oc, od, .func (PySem.W.fnOf name qual params body scope dV kV doc pm an cdv ct), osl⟩) (hcd : PySem.W.codeIn K cdv qual = true) (S : FnScope N ps scope)
    (hbody : ∀ (A : Around) (outer : List Env) (s : Shared) (H : Hp) (E : XK), Stand (cxG P w K mg base N qual scope fa cdv A outer s H E) k (wG E) → PSsV (cxG P w K mg base N qual scope fa cdv A outer s H E) T (wG E) body f) :
    FnG P w K mg base (k + 1) fa (PySem.W.fnOf name qual params body scope dV kV doc pm an cdv ct) ps (spG K T mg ps.length fr (defM ps.length N.length fr f)) := by
  refine ⟨fun A outer s H args us vs Q E hg hr e0 hb r hsp => ?_⟩
  have ln : vs.length = ps.length := hsp.1
  have inK : K.In s.heap := e0.mod.kin.keeps fun b o e => (e0.bs b o e).1
  have noL : s.heap.NoLimit := e0.mod.nolimit.keeps fun b o e => (e0.bs b o e).1
  refine codeAny_call_function hr.depth (inK _ _ lk) rfl S.co S.gen rfl (PySem.W.codeRec_of inK hcd) (hb _ _ _ _ ?_)
  refine wpAny_newFunctionEnv_cells S.kind (fun ⟨n, v⟩ hy => ?_) fun env he s1 x => ?_
  · rcases S.par n (List.of_mem_zip hy).1 with q | q
    · exact .inl q
    · exact .inr ⟨q, PySem.W.cellsFrom_some _ _ _ (.inl q)⟩
  subst he
  refine ⟨noL.keeps x.toInCall.keep, codeAny_func ?_⟩
  have J0 : Inv (cxG P w K mg base N qual scope fa cdv A outer s H E) [] (start N vs) H s1 := inv_start S hr.hd e0 ln r x
  have B := hbody A outer s H E (stand_of hg (hr.deeper _))
  refine wpAny_mono (B.run [] s1 (start N vs) H _ J0 (body_end hsp)) (fun fl s' hs => ?_) fun e s' hs => hs
  have done : ∀ {σ' : L2.St} {H' : Hp} {v : V} {u : Value}, Inv (cxG P w K mg base N qual scope fa cdv A outer s H E) [] σ' H' s' → RelV v u → Q v H' → CE outer P w H s Q u s' :=
    fun {_ H' v _} J rv q => ⟨v, H', J.os, J.bare, J.base, J.hok, rv, q⟩
  match fl, hs with
  | .ret u, ⟨v, σ', H', J, rv, q⟩ => exact done J rv q
  | .next, ⟨σ', H', J, q⟩ => exact done (v := V.non) (u := Value.none) J rfl q
  | .brk, ⟨_, _, _, q⟩ => exact q.elim
  | .cont, ⟨_, _, _, q⟩ => exact q.elim
theorem FnG.mono {j : Nat} {fa : Addr} {fd : FuncData} {ps : List Str} {sp : Sp} (F : FnG P w K mg base j fa fd ps sp) (h : j ≤ k) : FnG P w K mg base k fa fd ps sp :=
  ⟨fun A outer s H args us vs Q E hg hr => F.run A outer s H args us vs Q E hg (hr.mono h)⟩
/-- a def that is never come to -/
theorem fn_stuck {fa : Addr} {fd : FuncData} {ps : List Str} {n : Nat} : FnG P w K mg base k fa fd ps (spG K T mg n fr fun _ => stuck) :=
  ⟨fun A outer s H args us vs Q E hg hr e0 hb r ⟨_, _, _, _, _, _, _, _, _, _, z, _⟩ => nomatch z⟩
end

/-- a def as it is called by its name -/
structure Cal (P : Program) (w : World) (K : PySem.W.Frag) (mg : Str → Option Value) (base : Heap) (T : List Addr) (k : Nat) (x : Str) (n : Nat) (fr : Bool) (φ : List D → M D) : Prop where
  ex : ∃ (fa : Addr) (fd : FuncData) (ps : List Str), FnG P w K mg base k fa fd ps (spG K T mg n fr φ) ∧ mg x = some (.ref fa) ∧ PySem.W.keepIn K (.ref fa) = true ∧ Binds K fd ps [] ∧ ps.length = n
  len : ∀ ds G r, φ ds G = some r → ds.length = n
section
variable {X : Cx} {T : List Addr} {W : WX} {pos p : Pos} {e : Expr} {es : List Expr} {fs : EnvD → M (List D)} {x : Str} {k n : Nat} {fr : Bool} {φ : List D → M D}
theorem Cal.mono {P : Program} {w : World} {K : PySem.W.Frag} {mg : Str → Option Value} {base : Heap} {j : Nat} (c : Cal P w K mg base T j x n fr φ) (h : j ≤ k) : Cal P w K mg base T k x n fr φ := by
  obtain ⟨fa, fd, ps, F, r⟩ := c.ex
  exact ⟨⟨fa, fd, ps, F.mono h, r⟩, c.len⟩
theorem v_call {k' : Nat} (c : Cal X.prog X.w X.K X.mg X.base T k x n fr φ) (S : Stand X k' W) (hk : k ≤ k') (hg : Gl X x) (ha : PVs X T W (e :: es) fs) (hdb : (x == ("__debug__" : Str)) = false := by decide)
    (he : starEach (e :: es) X.env = (false, eval e X.env) :: starEach es X.env := by rfl) (hpl : (backTo pos (starEach es X.env)).any (·.1) = false := by rfl) :
    PV X T W fr (.Call (.Name x p) (e :: es) [] pos) (fun env => do let ds ← fs env; φ ds) := by
  obtain ⟨fa, fd, ps, F, hm, hkp, hb, hn⟩ := c.ex
  refine ⟨fun pins s σ H Q I ⟨Φ, F0, ρ, G, env, hR, hS, h⟩ => ?_⟩
  refine wpAny_Call_Name_kw (ld_glob I hg hm ?_ hdb)
  have h1 := h.bindA (Q' := fun vs H1 => ∃ F1 ρ1 G1 ds, R X.K ⟨T, Φ⟩ H1 F1 ρ1 G1 ∧ DrA X.K F1 ρ1 vs ds ∧ Run X.K ⟨T, Φ⟩ X.mg W σ fr F1 ρ1 (φ ds) G1 Q) fun v d H1 F1 ρ1 G1 R1 _ _ r1 h1 => ⟨F1, ρ1, G1, d, R1, r1, h1⟩
  refine PySem.W.callWith_K (h₀ := X.base) I.ok.mod.kin hkp (thn (ha.run pos pins s σ H _ I ⟨Φ, F0, ρ, G, env, hR, hS, h1⟩) fun us s1 hh => ?_) he hpl
  obtain ⟨vs, H1, I1, r, F1, ρ1, G1, ds, R1, rd, r', G', e', h'⟩ := hh
  refine ⟨I1.kIn, ?_⟩
  have hl : vs.length = n := by rw [rd.length]; exact c.len ds G1 _ e'
  have hus : us.length = ps.length := by rw [← r.length, hl, hn]
  have bd := hb s1 us I1.kIn (by rw [List.append_nil]; exact hus)
  rw [List.append_nil] at bd
  refine wpAny_call (codeAny_mono (F.run X.A X.stack s1 H1 ⟨us, []⟩ us vs Q (WE W σ) S.gu (S.room.mono hk) I1.env0 bd r ⟨hl, Φ, F1, ρ1, G1, ds, R1, rd, r', G', e', h'⟩) fun q s' hq => ?_)
  match q, hq with
  | .error u, hq => exact L2N.passAt S.tk σ pins H1 s1 u s' I1 hq
  | .ok (.ret u), hq => exact I1.after hq
theorem v_call0 {k' : Nat} (c : Cal X.prog X.w X.K X.mg X.base T k x n fr φ) (S : Stand X k' W) (hk : k ≤ k') (hg : Gl X x) (hdb : (x == ("__debug__" : Str)) = false := by decide) : PV X T W fr (.Call (.Name x p) [] [] pos) (fun _ => φ []) := by
  obtain ⟨fa, fd, ps, F, hm, hkp, hb, hn⟩ := c.ex
  refine ⟨fun pins s σ H Q I ⟨Φ, F0, ρ, G, env, hR, hS, r', G', e', h'⟩ => ?_⟩
  refine wpAny_Call_Name_kw (ld_glob I hg hm ?_ hdb)
  have hl : n = 0 := (c.len [] G _ e').symm
  subst hl
  have bd := hb s [] I.kIn (by rw [hn]; rfl)
  refine PySem.W.callWith_K0 I.kIn hkp (wpAny_call (codeAny_mono (F.run X.A X.stack s H ⟨[], []⟩ [] [] Q (WE W σ) S.gu (S.room.mono hk) I.env0 bd .nil ⟨rfl, Φ, F0, ρ, G, [], hR, .nil, r', G', e', h'⟩) fun q s' hq => ?_))
  match q, hq with
  | .error u, hq => exact L2N.passAt S.tk σ pins H s u s' I hq
  | .ok (.ret u), hq => exact I.after hq

/-! ### raise -/
def raiseS (c : Str) : MS := fun env G => some (.ex c env, G)
theorem s_raise {C : Addr} {bmB : List Value} {B newId initId : String} {k' : Nat} {c m : Str} {j : Nat} {p2 pos' : Pos} (S : Stand X k' W) (Fx : ExcBaseFacts B newId initId bmB) (q : PySem.W.excIn X.K C bmB newId = true) (gC : X.mg c = some (.ref C))
    (kC : PySem.W.keepIn X.K (.ref C) = true) (r : Raises X (.ref C)) (hg : Gl X c) (hdb : (c == ("__debug__" : Str)) = false := by decide) :
    PSV X T W (.Raise (some (.Call (.Name c p) [.Constant (.str m) j p2] [] pos)) none pos') (raiseS c) :=
  PS.imp (L2N.ps_raise S.calm S.tk (L2N.pmk_own Fx q gC kC r hg hdb)) fun Dn σ H ⟨Φ, F, ρ, G, env, hR, hS, o, G', e, h⟩ => by
    cases e
    exact h (.ref C) σ H F ρ gC hR (Same.refl _) (List.prefix_refl _) hS
/-- a row that is never come to -/
theorem s_never {st : Stmt} : PSV X T W st (fun _ _ => none) := ⟨fun pins s σ H Dn I ⟨Φ, F, ρ, G, env, hR, hS, h⟩ => h.none⟩
end
end L2.GL
end

section
set_option Elab.async false
set_option linter.all false
set_option maxRecDepth 100000
set_option autoImplicit false
/-! G8: comprehensions. -/
namespace L2.GL
open PySem PySem.Spec PyProof.Rows

abbrev W0 : WX := fun _ _ _ _ => False
section
variable {K : PySem.W.Frag} {T : List Addr} {Φ : List (Addr × List V)} {H F : Hp} {ρ : List Addr} {G : Gh} {D0 : Addr} {xs ys : List V}
theorem R.hold (h : R K ⟨T, Φ⟩ H F ρ G) (hp : H D0 = none) : R K ⟨T, (D0, xs) :: Φ⟩ (upd H D0 (.lst xs)) F ρ G := by
  have g := h.grow (o := .lst xs) hp
  refine ⟨g.sub, g.len, g.nd, g.out, g.cel, g.tab, fun q m => ?_, ?_⟩
  · rcases List.mem_cons.mp m with rfl | m
    · exact ⟨upd_same, h.sub.free hp, fun z => by obtain ⟨ys, e⟩ := h.some_of z; rw [hp] at e; cases e⟩
    · exact g.hld q m
  · rw [List.map_cons, List.nodup_cons]
    refine ⟨fun z => ?_, h.hnd⟩
    obtain ⟨q, hq, e⟩ := List.mem_map.mp z
    have := (h.hld q hq).1
    rw [show q.1 = D0 from e, hp] at this
    cases this
theorem R.sethld (h : R K ⟨T, (D0, xs) :: Φ⟩ H F ρ G) : R K ⟨T, (D0, ys) :: Φ⟩ (upd H D0 (.lst ys)) F ρ G := by
  obtain ⟨h1, h2, h3⟩ := h.hld (D0, xs) List.mem_cons_self
  have nd := List.nodup_cons.mp (show (D0 :: Φ.map (·.1)).Nodup from h.hnd)
  refine ⟨fun b o e => ?_, h.len, h.nd, h.out, fun n a ds e1 e2 => ?_, fun P m => ?_, fun q m => ?_, ?_⟩
  · rw [upd_ne (ne_of_none e h2)]; exact h.sub b o e
  · obtain ⟨zs, q, r⟩ := h.cel n a ds e1 e2
    have ne : a ≠ D0 := fun z => h3 (z ▸ List.mem_of_getElem? e1)
    exact ⟨zs, by rw [upd_ne ne]; exact q, r⟩
  · obtain ⟨g1, ps, g2, g3⟩ := h.tab P m
    have ne : P ≠ D0 := fun z => by
      subst z
      have h1 : H P = some (.lst xs) := h1
      rw [h1] at g2; cases g2
    exact ⟨g1, ps, by rw [upd_ne ne]; exact g2, g3⟩
  · rcases List.mem_cons.mp m with rfl | m
    · exact ⟨upd_same, h2, h3⟩
    · obtain ⟨g1, g2, g3⟩ := h.hld q (List.mem_cons_of_mem _ m)
      have ne : q.1 ≠ D0 := fun z => nd.1 (List.mem_map.mpr ⟨q, m, z⟩)
      exact ⟨by rw [upd_ne ne]; exact g1, g2, g3⟩
  · exact h.hnd
theorem R.unhold (h : R K ⟨T, (D0, xs) :: Φ⟩ H F ρ G) : R K ⟨T, Φ⟩ H F ρ G :=
  ⟨h.sub, h.len, h.nd, h.out, h.cel, h.tab, fun q m => h.hld q (List.mem_cons_of_mem _ m), (List.nodup_cons.mp (show (D0 :: Φ.map (·.1)).Nodup from h.hnd)).2⟩
/-- a held list stands still from now on -/
theorem R.release (h : R K ⟨T, (D0, xs) :: Φ⟩ H F ρ G) : R K ⟨T, Φ⟩ H (upd F D0 (.lst xs)) ρ G := by
  obtain ⟨h1, h2, h3⟩ := h.hld (D0, xs) List.mem_cons_self
  have nd := List.nodup_cons.mp (show (D0 :: Φ.map (·.1)).Nodup from h.hnd)
  have sF : Same F (upd F D0 (.lst xs)) := same_updN h2
  refine ⟨fun b o e => ?_, h.len, h.nd, fun a m => ?_, fun n a ds e1 e2 => ?_, fun P m => ?_, fun q m => ?_, nd.2⟩
  · by_cases hb : b = D0
    · subst hb
      rw [upd_same] at e
      cases e
      exact h1
    · rw [upd_ne hb] at e; exact h.sub b o e
  · rw [upd_ne (show a ≠ D0 from fun z => h3 (z ▸ m))]; exact h.out a m
  · obtain ⟨zs, q, r⟩ := h.cel n a ds e1 e2
    exact ⟨zs, q, r.mono sF (List.prefix_refl _)⟩
  · obtain ⟨g1, ps, g2, g3⟩ := h.tab P m
    have ne : P ≠ D0 := fun z => by
      subst z
      have h1 : H P = some (.lst xs) := h1
      rw [h1] at g2; cases g2
    exact ⟨by rw [upd_ne ne]; exact g1, ps, g2, g3.1, g3.2.mono sF⟩
  · obtain ⟨g1, g2, g3⟩ := h.hld q (List.mem_cons_of_mem _ m)
    have ne : q.1 ≠ D0 := fun z => nd.1 (List.mem_map.mpr ⟨q, m, z⟩)
    exact ⟨g1, by rw [upd_ne ne]; exact g2, g3⟩
/-- the list that was held, as a value just made -/
theorem fresh_held {F0 : Hp} {ds : List D} (h : R K ⟨T, (D0, xs) :: Φ⟩ H F ρ G) (r : DrA K F ρ xs ds) (h0 : F0 D0 = none) : Dr K (upd F D0 (.lst xs)) ρ (.ref D0) (.lst ds) ∧ FreshL K ⟨T, Φ⟩ F0 H (upd F D0 (.lst xs)) ρ G (.ref D0) (.lst ds) := by
  obtain ⟨h1, h2, h3⟩ := h.hld (D0, xs) List.mem_cons_self
  refine ⟨.lst (.of upd_same) (r.mono (same_updN h2) (List.prefix_refl _)), fun es e => ?_⟩
  cases e
  refine ⟨D0, xs, rfl, h0, upd_same, h3, ?_, ?_⟩
  · rw [del_upd h2]; exact h.unhold
  · rw [del_upd h2]; exact r
end

def wipeE (env : EnvD) : List Nat → EnvD
  | [] => env
  | v :: vs => (wipeE env vs).set v none
theorem RS.wipe {K : PySem.W.Frag} {F : Hp} {ρ : List Addr} {σ : L2.St} {env : EnvD} (h : RS K F ρ σ env) : ∀ vs : List Nat, RS K F ρ (L2.wipe σ vs) (wipeE env vs)
  | [] => h
  | _ :: vs => (RS.wipe h vs).unset
theorem wipe_get (σ : L2.St) (i : Nat) : ∀ vs : List Nat, i ∈ vs → i < σ.length → (L2.wipe σ vs)[i]? = some none
  | v :: vs, h, hl => by
    unfold L2.wipe
    by_cases e : v = i
    · subst e
      rw [List.getElem?_set_self (by rw [wipe_length]; exact hl)]
    · rw [List.getElem?_set_ne e]
      exact wipe_get σ i vs ((List.mem_cons.mp h).resolve_left fun z => e z.symm) hl
theorem wipe_not (σ : L2.St) (i : Nat) : ∀ vs : List Nat, i ∉ vs → (L2.wipe σ vs)[i]? = σ[i]?
  | [], _ => rfl
  | v :: vs, h => by
    unfold L2.wipe
    rw [List.getElem?_set_ne (show v ≠ i from fun z => h (z ▸ List.mem_cons_self))]
    exact wipe_not σ i vs fun z => h (List.mem_cons_of_mem _ z)
theorem wipe_touch {σ σ' : L2.St} {us vs : List Nat} (t : Touch us (L2.wipe σ vs) σ') (hu : ∀ i ∈ us, i ∈ vs) : L2.wipe σ' vs = L2.wipe σ vs := by
  have hl : σ'.length = σ.length := by rw [t.1, wipe_length]
  apply List.ext_getElem?
  intro i
  by_cases hi : i ∈ vs
  · by_cases hb : i < σ.length
    · rw [wipe_get σ' i vs hi (by omega), wipe_get σ i vs hi hb]
    · rw [List.getElem?_eq_none (by rw [wipe_length]; omega), List.getElem?_eq_none (by rw [wipe_length]; omega)]
  · rw [wipe_not σ' i vs hi, t.2 i fun z => hi (hu i z)]

/-- the tests of a clause -/
def tTs (K : PySem.W.Frag) (T : List Addr) (mg : Str → Option Value) (ft : EnvD → M Bool) : TT := tB K T mg W0 ft
abbrev PTsV (X : Cx) (T : List Addr) (ifs : List Expr) (ft : EnvD → M Bool) : Prop := PTs X ifs (tTs X.K T X.mg ft)
section
variable {X : Cx} {T : List Addr} {W : WX} {pos p : Pos} {c : Expr} {fe : EnvD → M D} {ta : EnvD → M Bool}
theorem PTs.imp {ifs : List Expr} {t t' : TT} (h : PTs X ifs t) (hi : ∀ σ H Q, t' σ H Q → t σ H Q) : PTs X ifs t' := ⟨fun pins s σ H Q I hw => h.run pins s σ H Q I (hi _ _ _ hw)⟩
theorem ts_nil : PTsV X T [] (fun _ => pure true) := PTs.imp pts_nil fun σ H Q ⟨Φ, F, ρ, G, env, hR, hS, h⟩ => h.pure hR
theorem ts_one (h : PB X T W0 c ta) : PTsV X T [c] ta := pts_one h
end

def lcL (ft : MT) (tt : EnvD → M Bool) (te : EnvD → M D) (env : EnvD) : List D → List D → Gh → Option (List D × Gh)
  | [], acc, G => some (acc, G)
  | d :: ds, acc, G => match ft d env G with
    | none => none
    | some (e1, G1) => match tt e1 G1 with
      | some (.ok b, G2) => if b = true then (match te e1 G2 with
          | some (.ok y, G3) => if acc.length < sizeLine then lcL ft tt te env ds (acc ++ [y]) G3 else none
          | _ => none) else lcL ft tt te env ds acc G2
      | _ => none
def lcM (fi : EnvD → M (List D)) (ft : MT) (tt : EnvD → M Bool) (te : EnvD → M D) (vs : List Nat) : EnvD → M D := fun env => do
  let ds ← fi env
  fun G => match lcL ft tt te (wipeE env vs) ds [] G with
    | some (r, G') => some (.ok (.lst r), G')
    | none => none

section
variable {X : Cx} {T : List Addr} {W : WX} {pos p : Pos} {elt tg iter : Expr} {ifs : List Expr} {scope : Scope} {own : List (Str × Nat)} {fi : EnvD → M (List D)} {ft : MT} {us : List Nat} {tt : EnvD → M Bool} {te : EnvD → M D} {fr gr : Bool}
theorem lc_go {σ : L2.St} {H : Hp} {Q : VK} (hu : ∀ i ∈ us, i ∈ own.map (·.2)) (h : tV X.K T X.mg W true (lcM fi ft tt te (own.map (·.2))) σ H Q) :
    tLc (tI X.K T X.mg W fi) (tG X.K T us ft) (tTs X.K T X.mg tt) (tV X.K T X.mg W0 gr te) (own.map (·.2)) σ H Q := by
  obtain ⟨Φ, F, ρ, G, env, hR, hS, r, G', e, h⟩ := h
  refine ⟨Φ, F, ρ, G, env, hR, hS, ?_⟩
  rcases bind_parts e with ⟨ds, G1, e1, e2⟩ | ⟨c, e1, rfl⟩
  rotate_left
  · exact ⟨.ex c, G', e1, h⟩
  refine ⟨.ok ds, G1, e1, fun J H1 F1 ρ1 R1 s1 p1 j1 => fun D0 hD0 => ?_⟩
  split at e2
  rotate_left
  · cases e2
  rename_i rs G2' e3
  cases e2
  have hF0 : F D0 = none := s1.free (R1.sub.free hD0)
  refine ⟨fun i m H => m = ds.length - i ∧ i ≤ ds.length ∧ ∃ F2 ρ2 G2 acc accD, R X.K ⟨T, (D0, acc) :: Φ⟩ H F2 ρ2 G2 ∧ Same F1 F2 ∧ ρ1 <+: ρ2 ∧ DrA X.K F2 ρ2 acc accD ∧ lcL ft tt te (wipeE env (own.map (·.2))) (ds.drop i) accD G2 = some (rs, G'),
    ⟨ds.length, by simp, Nat.zero_le _, F1, ρ1, G1, [], [], R1.hold hD0, Same.refl _, List.prefix_refl _, .nil, e3⟩, ?_⟩
  rintro i m H2 ⟨rfl, hi, F2, ρ2, G2, acc, accD, R2, s2, p2, ra, e4⟩
  by_cases hlt : i < ds.length
  · refine .inr ⟨j1.go _ i H2 F2 ρ2 G2 s2 p2 R2 hlt, fun H => ∃ F2 ρ2 G2 acc accD, R X.K ⟨T, (D0, acc) :: Φ⟩ H F2 ρ2 G2 ∧ Same F1 F2 ∧ ρ1 <+: ρ2 ∧ DrA X.K F2 ρ2 acc accD ∧ lcL ft tt te (wipeE env (own.map (·.2))) (ds.drop (i + 1)) accD G2 = some (rs, G'),
      fun H' q => ⟨ds.length - (i + 1), by omega, rfl, hlt, q⟩, fun x H3 y => ?_⟩
    have hd : ds[i]? = some ds[i] := List.getElem?_eq_getElem hlt
    obtain ⟨F3, R3, s3, _, r3⟩ := j1.yld _ i H2 F2 ρ2 G2 x H3 _ s2 p2 R2 hd y
    rw [List.drop_eq_getElem_cons hlt] at e4
    unfold lcL at e4
    split at e4
    · cases e4
    rename_i e5 G5 q5
    have S3 : RS X.K F3 ρ2 (L2.wipe σ (own.map (·.2))) (wipeE env (own.map (·.2))) := (((hS.mono s1 p1).mono s2 p2).mono s3 (List.prefix_refl _)).wipe _
    refine ⟨_, F3, ρ2, G2, _, _, e5, G5, R3, S3, r3, q5, fun σ5 H5 F5 ρ5 R5 s5 p5 S5 t5 => ⟨wipe_touch t5 hu, ?_⟩⟩
    split at e4
    rotate_left
    · cases e4
    rename_i b G6 q6
    have s15 : Same F1 F5 := (s2.trans s3).trans s5
    have p15 : ρ1 <+: ρ5 := p2.trans p5
    refine ⟨_, F5, ρ5, G5, e5, R5, S5, .ok b, G6, q6, fun H6 F6 ρ6 R6 s6 p6 => ?_⟩
    cases b with
    | false =>
      rw [if_neg Bool.false_ne_true] at e4 ⊢
      exact ⟨F6, ρ6, G6, acc, accD, R6, s15.trans s6, p15.trans p6, ((ra.mono s3 (List.prefix_refl _)).mono s5 p5).mono s6 p6, e4⟩
    | true =>
      rw [if_pos rfl] at e4 ⊢
      split at e4
      rotate_left
      · cases e4
      rename_i yd G7 q7
      split at e4
      rotate_left
      · cases e4
      rename_i hz
      refine ⟨_, F6, ρ6, G6, e5, R6, S5.mono s6 p6, .ok yd, G7, q7, fun v H7 F7 ρ7 R7 s7 p7 r7 _ => ?_⟩
      obtain ⟨h1, _, _⟩ := R7.hld (D0, acc) List.mem_cons_self
      refine ⟨acc, h1, by rw [ra.length]; exact hz, F7, ρ7, G7, acc ++ [v], accD ++ [yd], R7.sethld, (s15.trans s6).trans s7, (p15.trans p6).trans p7, ?_, e4⟩
      exact ((((ra.mono s3 (List.prefix_refl _)).mono s5 p5).mono s6 p6).mono s7 p7).append (.cons r7 .nil)
  · have he : i = ds.length := by omega
    subst he
    rw [List.drop_length] at e4
    cases e4
    refine .inl ⟨j1.stop _ H2 F2 ρ2 _ s2 p2 R2, ?_⟩
    obtain ⟨f1, f2⟩ := fresh_held R2 ra hF0
    have hF2 := (R2.hld (D0, acc) List.mem_cons_self).2.1
    exact h (.ref D0) H2 _ ρ2 R2.release ((s1.trans s2).trans (same_updN hF2)) (p1.trans p2) f1 fun _ => f2
theorem v_lc (hc : X.calm = true) (hN : X.N.Nodup) (hi : PIV X T W tg iter fi) (ok : BlkOk X.N X.env.scope scope own) (hu : ∀ i ∈ us, i ∈ own.map (·.2))
    (hg : ∀ (s : Shared) (H : Hp) (C : Addr) (cl : List (Str × Addr)) (fp : List Addr), PGV (X.blk s H scope (compEnvC scope cl C X.env) fp) T us tg ft)
    (ht : ∀ (s : Shared) (H : Hp) (C : Addr) (cl : List (Str × Addr)) (fp : List Addr), PTsV (X.blk s H scope (compEnvC scope cl C X.env) fp) T ifs tt)
    (he : ∀ (s : Shared) (H : Hp) (C : Addr) (cl : List (Str × Addr)) (fp : List Addr), PV (X.blk s H scope (compEnvC scope cl C X.env) fp) T W0 gr elt te) (hs : ∀ x, foldedSetIterable iter X.env x = pure x := by intro _; rfl) :
    PV X T W true (.ListComp elt [⟨tg, iter, ifs, 0⟩] scope pos) (lcM fi ft tt te (own.map (·.2))) := PE.imp (pe_lc hc hN hi ok hg ht he hs) fun σ H Q h => lc_go hu h
theorem s_setLc {i : Nat} {y : Str} {py spos : Pos} (hc : X.calm = true) (hN : X.N.Nodup) (hy : X.N[i]? = some y) (hyl : X.env.scope.names.lookup y = some .local)
    (hsw : swapsWith (.ListComp elt [⟨tg, iter, ifs, 0⟩] scope pos) (some (.Name y py)) spos.line X.env = pure true) (hi : PIV X T W tg iter fi) (ok : BlkOk X.N X.env.scope scope own) (hu : ∀ i ∈ us, i ∈ own.map (·.2))
    (hg : ∀ (s : Shared) (H : Hp) (C : Addr) (cl : List (Str × Addr)) (fp : List Addr), PGV (X.blk s H scope (compEnvC scope cl C X.env) fp) T us tg ft)
    (ht : ∀ (s : Shared) (H : Hp) (C : Addr) (cl : List (Str × Addr)) (fp : List Addr), PTsV (X.blk s H scope (compEnvC scope cl C X.env) fp) T ifs tt)
    (he : ∀ (s : Shared) (H : Hp) (C : Addr) (cl : List (Str × Addr)) (fp : List Addr), PV (X.blk s H scope (compEnvC scope cl C X.env) fp) T W0 gr elt te) (hs : ∀ x, foldedSetIterable iter X.env x = pure x := by intro _; rfl) :
    PSV X T W (.Assign [.Name y py] (.ListComp elt [⟨tg, iter, ifs, 0⟩] scope pos) spos) (setS i (lcM fi ft tt te (own.map (·.2)))) := PS.imp (ps_setLc hc hN hy hyl hsw hi ok hg ht he hs) fun Dn σ H h => lc_go hu (set_go (fr := true) h)
theorem s_cellLc {i : Nat} {y : Str} {py spos : Pos} (hc : X.calm = true) (hN : X.N.Nodup) (hy : X.N[i]? = some y) (hyl : X.env.scope.names.lookup y = some .local)
    (hsw : swapsWith (.ListComp elt [⟨tg, iter, ifs, 0⟩] scope pos) (some (.Name y py)) spos.line X.env = pure true) (hi : PIV X T W tg iter fi) (ok : BlkOk X.N X.env.scope scope own) (hu : ∀ i ∈ us, i ∈ own.map (·.2))
    (hg : ∀ (s : Shared) (H : Hp) (C : Addr) (cl : List (Str × Addr)) (fp : List Addr), PGV (X.blk s H scope (compEnvC scope cl C X.env) fp) T us tg ft)
    (ht : ∀ (s : Shared) (H : Hp) (C : Addr) (cl : List (Str × Addr)) (fp : List Addr), PTsV (X.blk s H scope (compEnvC scope cl C X.env) fp) T ifs tt)
    (he : ∀ (s : Shared) (H : Hp) (C : Addr) (cl : List (Str × Addr)) (fp : List Addr), PV (X.blk s H scope (compEnvC scope cl C X.env) fp) T W0 gr elt te) (hs : ∀ x, foldedSetIterable iter X.env x = pure x := by intro _; rfl) :
    PSV X T W (.Assign [.Name y py] (.ListComp elt [⟨tg, iter, ifs, 0⟩] scope pos) spos) (cellS i (lcM fi ft tt te (own.map (·.2)))) := PS.imp (ps_setLc hc hN hy hyl hsw hi ok hg ht he hs) fun Dn σ H h => lc_go hu (cell_go h)
/-- within a block -/
theorem Stand.blk {k : Nat} (S : Stand X k W) {s : Shared} {H : Hp} {ce : Env} {fp : List Addr} : Stand (X.blk s H scope ce fp) k W0 := ⟨S.calm, S.gu, S.room, takesN⟩
end
end L2.GL
end

section
set_option Elab.async false
set_option linter.all false
set_option maxRecDepth 100000
set_option autoImplicit false
/-! G9: all(.. for .. in ..), whose test may run whatever it likes. -/
namespace L2.GL
open PySem PySem.Spec PyProof.Rows GenW

/-- within a generator expression's frame -/
abbrev gnC (X : Cx) (A' : Around) (s : Shared) (H : Hp) (scope : Scope) (ce : Env) (fp : List Addr) (pn : List (Addr × Obj)) : Cx :=
  { X with A := A', s_0 := s, H_0 := H, env := ce, outer := X.stack, stack := ce :: X.stack, ex := fp, fn := fun x => scope.names.lookup x == some .cell, calm := true, pn := pn, xe := fun _ _ => False }
/-- the scope of a generator expression in a def -/
structure GScp (N : List Str) (sc scope : Scope) (own : List (Str × Nat)) : Prop where
  blk : BlkOk N sc scope own
  co : scope.isCoroutine = false
  cell : ∀ y ∈ scope.names, y.2 ≠ .cell
  dot : scope.names.lookup (".0" : Str) = some NameKind.local
  nod : (".0" : Str) ∉ N
theorem gscp_by {N : List Str} {sc scope : Scope} {own : List (Str × Nat)} (h : blkC N sc scope own = true) (h2 : (!scope.isCoroutine && scope.names.all (fun y => !(y.2 == NameKind.cell)) && (scope.names.lookup (".0" : Str) == some NameKind.local) && !(N.contains (".0" : Str))) = true) : GScp N sc scope own := by
  simp only [Bool.and_eq_true, Bool.not_eq_true', List.all_eq_true, beq_iff_eq] at h2
  obtain ⟨⟨⟨h3, h4⟩, h5⟩, h6⟩ := h2
  refine ⟨blkOk_by h, h3, fun y hy e => ?_, h5, fun z => ?_⟩
  · have := h4 y hy
    rw [e] at this
    exact absurd this (by decide)
  · rw [List.contains_iff_mem.mpr z] at h6; cases h6

section
variable {X : Cx} {pins : List (Addr × Obj)} {σ : L2.St} {H : Hp} {s : Shared}
theorem Inv.regen {g : Array GenState} (I : Inv X pins σ H s) (hg : AllBare g) : Inv X pins σ H { s with gens := g } :=
  ⟨I.ok, I.os, hg, I.base, I.loc, I.cell, I.free, I.freeC, I.pin, I.hok, I.len⟩
theorem gn_start {A' : Around} {scope : Scope} {own : List (Str × Nat)} {fp : List Addr} {code it : Value} {h5 : Heap} {g5 : Array GenState} {t5 : Nat} {a : Addr} {og : Obj} (I : Inv X pins σ H s) (G : GScp X.N X.env.scope scope own) (hN : X.N.Nodup)
    (hfp : ∀ b ∈ fp, FpOk X pins H b ∧ b < s.heap.objs.size) (hA : A'.handled = none) (hfr : A'.frames = some (genEnv scope (cloFrom X.env.cells scope.names []) s.heap.objs.size code builtinsNs X.env :: X.stack))
    (kp : ∀ b o, s.heap.get? b = some o → h5.get? b = some o) (ns : h5.Ns s.heap.objs.size (fun y => if y = ".0" then some it else none)) (ha : s.heap.objs.size < a) (hga : h5.get? a = some og) (hgo : ∀ v, og.data ≠ .cell v) (hg5 : AllBare g5) :
    Inv (gnC X A' s H scope (genEnv scope (cloFrom X.env.cells scope.names []) s.heap.objs.size code builtinsNs X.env) fp [(a, og)]) [] (L2.wipe σ (own.map (·.2))) H { s with heap := h5, gens := g5, toks := t5 } := by
  generalize hce : genEnv scope (cloFrom X.env.cells scope.names []) s.heap.objs.size code builtinsNs X.env = ce at hfr ⊢
  have cL : ce.locals = s.heap.objs.size := by rw [← hce]; rfl
  have cS : ce.scope = scope := by rw [← hce]; rfl
  have cC : ce.cells = cloFrom X.env.cells scope.names [] := by rw [← hce]; rfl
  have had : ∀ y ∈ scope.names, y.2 = .free → ∃ c, X.env.cells.lookup y.1 = some c := fun y hy e => by
    rcases G.blk.free y hy e with k | k
    · exact I.ok.has _ (.inl k)
    · exact I.ok.has _ (.inr k)
  have cell_old : ∀ {y c}, ce.cells.lookup y = some c → X.env.cells.lookup y = some c ∧ c < s.heap.objs.size ∧ ∃ v, s.heap.IsCell c v := fun {y c} e => by
    rw [cC] at e
    rcases cloFrom_mem (PySem.mem_of_lookup e) with z | ⟨z, rfl⟩
    · cases z
    · obtain ⟨c, hc⟩ := had _ z rfl
      rw [hc]
      obtain ⟨w, q⟩ := I.cell _ _ hc
      exact ⟨rfl, q.lt, w, q⟩
  have cell_new : ∀ {y}, scope.names.lookup y = some .free → ∃ c, ce.cells.lookup y = some c ∧ X.env.cells.lookup y = some c := fun {y} hl => by
    have hm := PySem.mem_of_lookup hl
    obtain ⟨c', e'⟩ := mem_lookup (cloFrom_has (cells := X.env.cells) (acc := []) hm)
    rw [← cC] at e'
    exact ⟨c', e', (cell_old e').1⟩
  have nofs : ∀ b, s.heap.objs.size ≤ b → b ∉ frs X.stack := fun b hb z => by
    rcases List.mem_cons.mp (I.stkSub b z) with e | e
    · exact absurd (Nat.lt_of_lt_of_le I.lt hb) (by rw [e]; exact Nat.lt_irrefl _)
    · exact I.nofs hb e
  have okG : (gnC X A' s H scope ce fp [(a, og)]).Ok := by
    refine ⟨I.ok.mod, by show ce.scope.kind = _; rw [cS]; exact G.blk.kind, by show ce.globals = _; rw [← hce]; exact I.ok.glob, by show ce.builtins = _; rw [← hce]; rfl, by show s.heap.objs.size ≤ ce.locals; rw [cL]; exact Nat.le_refl _,
      fun y z c e1 e2 => I.ok.inj y z c (cell_old e1).1 (cell_old e2).1, fun y hy => ?_, fun y c z e => ?_, fun _ => hA, hfr, .inr ⟨rfl, by show ce.frame = some ce.locals; rw [← hce]; rfl⟩, fun b hb => ⟨?_, fun y c e z => ?_⟩, I.bs, Nat.le_trans I.ok.bsz I.sz, fun b o e hb => ?_, fun b hb z => ?_, I.stack, I.stkFree⟩
    · have hy : scope.names.lookup y = some .cell ∨ scope.names.lookup y = some .free := by
        have hy : ce.kindOf y = some .cell ∨ ce.kindOf y = some .free := hy
        unfold Env.kindOf at hy
        rw [cS] at hy
        exact hy
      rcases hy with hy | hy
      · exact absurd rfl (G.cell _ (PySem.mem_of_lookup hy))
      · obtain ⟨c, h1, _⟩ := cell_new hy
        exact ⟨c, h1⟩
    · have z : (scope.names.lookup y == some NameKind.cell) = true := z
      exact absurd rfl (G.cell _ (PySem.mem_of_lookup (by simpa using z)))
    · show b ≠ ce.locals
      rw [cL]; exact Nat.ne_of_lt (hfp b hb).2
    · exact (hfp b hb).1.2.2.2.2.1 y c (cell_old e).1 z
    · rcases (hfp b hb).1.2.2.2.1 with z | z
      · exact I.ok.noex b o e z
      · exact absurd (Nat.lt_of_lt_of_le (Heap.lt_size e) (Nat.le_trans I.ok.bsz z)) (Nat.lt_irrefl _)
    · rcases List.mem_cons.mp (I.stkSub b z) with z | z
      · exact (hfp b hb).1.2.1 z
      · exact (hfp b hb).1.2.2.1 z
  refine ⟨okG, rfl, hg5, Un.kept kp, ⟨_, by show h5.Ns ce.locals _; rw [cL]; exact ns, fun i y av e1 e2 e3 => ?_⟩, fun y c e => ?_, by show H ce.locals = none; rw [cL]; exact I.hok.fresh (Nat.le_refl _), fun y c e => I.freeC y c (cell_old e).1, fun p hp => ?_, I.hok.kept kp, by rw [wipe_length]; exact I.len⟩
  · obtain ⟨e2, hne⟩ := wipe_some e2
    have e3 : Vis ce.scope y := e3
    rw [cS] at e3
    have own_no : ∀ k, scope.names.lookup y = some k → k = .local ∨ k = .cell → False := fun k e hk => by
      rcases G.blk.own _ (PySem.mem_of_lookup e) hk with q | q
      · obtain ⟨p, hp, hpy⟩ := List.mem_map.mp q
        have hx := G.blk.ix p hp
        have hpy : p.1 = y := hpy
        rw [hpy] at hx
        exact hne (List.mem_map.mpr ⟨p, hp, nodup_ix hN hx e1⟩)
      · exact q (List.mem_of_getElem? e1)
    have hf : scope.names.lookup y = some .free := by
      rcases e3 with e3 | e3 | e3
      · exact (own_no _ e3 (.inl rfl)).elim
      · exact (own_no _ e3 (.inr rfl)).elim
      · exact e3
    obtain ⟨m, hn, hl⟩ := I.loc
    have kd := G.blk.free _ (PySem.mem_of_lookup hf) rfl
    obtain ⟨u, r, q⟩ := hl i y av e1 e2 (kd.elim (fun k => .inr (.inl k)) fun k => .inr (.inr k))
    obtain ⟨c, h1, h2⟩ := cell_new hf
    refine ⟨u, r, .inr ⟨.inr (by show ce.scope.names.lookup y = _; rw [cS]; exact hf), c, h1, ?_⟩⟩
    rcases q with ⟨k, _⟩ | ⟨_, c', e', z⟩
    · have k : X.env.scope.names.lookup y = some .local := k
      rcases kd with k' | k' <;> rw [show X.env.scope.names.lookup y = _ from k'] at k <;> cases k
    · rw [h2] at e'; cases e'
      exact z.keeps kp
  · obtain ⟨_, _, v, q⟩ := cell_old (show ce.cells.lookup y = some c from e)
    exact ⟨v, q.keeps kp⟩
  · have hp : p ∈ [(a, og)] ++ [] := hp
    have e : p = (a, og) := by simpa using hp
    subst e
    exact ⟨hga, I.hok.fresh (Nat.le_of_lt ha), by show a ≠ ce.locals; rw [cL]; exact Nat.ne_of_gt ha, nofs a (Nat.le_of_lt ha), hgo⟩
end

theorem over_gl {A : Around} {elt tg iter : Expr} {ifs : List Expr} {scope : Scope} {pos : Pos} {it acc : Value} {ce : Env} : A.over (.compLoop (.GeneratorExp elt [⟨tg, iter, ifs, 0⟩] scope pos) 0 it acc ce) [] = A.deeper ce := by
  obtain ⟨hd, d, fr, gs, u⟩ := A
  simp [Around.over, Around.deeper, marksOver, frameCount, unitsOf, envsOf, guardsOf, pushEnvs, pushGuards, Code.envs, Code.env?, Code.isFrame, Code.guards, Code.isGuard, Code.weight, Code.frames, Code.isCreation, Code.isCaller, Code.cUnits]
theorem over_gs {A : Around} {elt tg iter : Expr} {ifs : List Expr} {scope : Scope} {pos : Pos} {it acc : Value} {ce : Env} : A.over (.compStart (.GeneratorExp elt [⟨tg, iter, ifs, 0⟩] scope pos) 0 it acc ce) [] = A.deeper ce := by
  obtain ⟨hd, d, fr, gs, u⟩ := A
  simp [Around.over, Around.deeper, marksOver, frameCount, unitsOf, envsOf, guardsOf, pushEnvs, pushGuards, Code.envs, Code.env?, Code.isFrame, Code.guards, Code.isGuard, Code.weight, Code.frames, Code.isCreation, Code.isCaller, Code.cUnits]
/-- stop: the truth that ends the walk -/
def allL (stop : Bool) (ft : MT) (tt : EnvD → M Bool) (te : EnvD → M D) (env : EnvD) : List D → Gh → Option (Bool × Gh)
  | [], G => some (!stop, G)
  | d :: ds, G => match ft d env G with
    | none => none
    | some (e1, G1) => match tt e1 G1 with
      | some (.ok b, G2) => if b = true then (match te e1 G2 with
          | some (.ok (.bl y), G3) => if y = stop then some (stop, G3) else allL stop ft tt te env ds G3
          | _ => none) else allL stop ft tt te env ds G2
      | _ => none

/-- what is known around one generator -/
structure GV (X : Cx) (T : List Addr) (Φ : List (Addr × List V)) (F1 : Hp) (ρ1 : List Addr) (vs : List Nat) (σ : L2.St) (H : Hp) (s : Shared) (F : Hp) (ρ : List Addr) (G : Gh) : Prop where
  inv : Inv X [] (L2.wipe σ vs) H s
  r : R X.K ⟨T, Φ⟩ H F ρ G
  sF : Same F1 F
  pρ : ρ1 <+: ρ
section
variable {GX : Cx} {T : List Addr} {Φ : List (Addr × List V)} {F1 : Hp} {ρ1 : List Addr} {vs : List Nat} {σ : L2.St} {stop : Bool} {ft : MT} {tt : EnvD → M Bool} {te : EnvD → M D} {env0 : EnvD} {ds : List D} {br : Bool} {Gr : Gh}
def gY (GX : Cx) (T : List Addr) (Φ : List (Addr × List V)) (F1 : Hp) (ρ1 : List Addr) (vs : List Nat) (σ : L2.St) (stop br : Bool) (Gr : Gh) : Protocol := fun n s₀ v s kap =>
  ∃ b H F ρ G, v = .bool b ∧ GV GX T Φ F1 ρ1 vs σ H s F ρ G ∧ ((b = stop ∧ br = stop ∧ Gr = G) ∨ (b ≠ stop ∧ ∀ g, AllBare g → kap (.send .none) { s with gens := g }))
def gP (GX : Cx) (T : List Addr) (Φ : List (Addr × List V)) (F1 : Hp) (ρ1 : List Addr) (vs : List Nat) (σ : L2.St) (stop br : Bool) (Gr : Gh) : Nat → Shared → Shared → Prop := fun n s₀ s =>
  br = (!stop) ∧ ∃ H F ρ, GV GX T Φ F1 ρ1 vs σ H s F ρ Gr
abbrev gR (GX : Cx) (T : List Addr) (Φ : List (Addr × List V)) (F1 : Hp) (ρ1 : List Addr) (vs : List Nat) (σ : L2.St) (stop br : Bool) (Gr : Gh) : GenEnd := fun n s₀ r s => r = .ok .next ∧ gP GX T Φ F1 ρ1 vs σ stop br Gr n s₀ s

theorem seg_all {A : Around} {elt tg iter : Expr} {ifs : List Expr} {scope : Scope} {pos : Pos} {it : Addr} {fp : List Addr} {tn : Nat → Heap → Prop} {J : It} {us : List Nat} {gr : Bool}
    (hA : GX.A = A.deeper GX.env) (hcalm : GX.calm = true) (hxe : GX.xe = fun _ _ => False) (hsc : GX.env.scope.isCoroutine = false) (hex : ∀ b ∈ fp, b ∈ GX.ex) (hpn : ∀ b ∈ fp, ∀ p ∈ GX.pn, p.1 ≠ b)
    (Tn : Turn GX.prog GX.w GX.K tg J fp it tn) (j1 : JOk GX.K T J F1 ρ1 ds) (hS : RS GX.K F1 ρ1 (L2.wipe σ vs) env0) (hu : ∀ i ∈ us, i ∈ vs)
    (pg : PGV GX T us tg ft) (pt : PTsV GX T ifs tt) (pe : PV GX T W0 gr elt te) :
    ∀ (k i n : Nat) (s₀ s : Shared) (H F : Hp) (ρ : List Addr) (G : Gh), ds.length - i = k → i ≤ ds.length → k ≤ n → GV GX T Φ F1 ρ1 vs σ H s F ρ G → tn i s.heap → (∀ b ∈ fp, H b = none) →
      allL stop ft tt te env0 (ds.drop i) G = some (br, Gr) →
      Seg (model GX.prog GX.w) A (gR GX T Φ F1 ρ1 vs σ stop br Gr) (gY GX T Φ F1 ρ1 vs σ stop br Gr) n s₀ (.compLoop (.GeneratorExp elt [⟨tg, iter, ifs, 0⟩] scope pos) 0 (.ref it) .none GX.env)
        ((model GX.prog GX.w).den (.compLoop (.GeneratorExp elt [⟨tg, iter, ifs, 0⟩] scope pos) 0 (.ref it) .none GX.env)) [] s := by
  have stat : ∀ {σ' : L2.St} {H' : Hp} {s' : Shared}, Inv GX [] σ' H' s' → (∀ b ∈ fp, H' b = none) → ∀ b ∈ fp, FpOk GX [] H' b := fun {σ' H' s'} I' hn b hb =>
    ⟨hn b hb, (I'.ok.exf b (hex b hb)).1, I'.ok.exfs b (hex b hb), .inl (hex b hb), fun x c e => (I'.ok.exf b (hex b hb)).2 x c e, fun p hp => hpn b hb p (by simpa using hp)⟩
  have wk : ∀ {α : Type} {t : Sem α} {Q Q' : α → Shared → Prop} {E' : Value → Shared → Prop} {s : Shared}, wpAny (model GX.prog GX.w) GX.A t Q GX.xe s → (∀ a s, Q a s → Q' a s) → wpAny (model GX.prog GX.w) GX.A t Q' E' s := fun h hq =>
    wpAny_mono h hq fun _ _ z => by rw [hxe] at z; exact z.elim
  intro k
  induction k with
  | zero =>
    intro i n s₀ s H F ρ G hk hi hn V st nf e
    have hin : i = ds.length := by omega
    subst hin
    rw [List.drop_length] at e
    cases e
    show Seg _ A _ _ _ s₀ _ ((compTurn (.GeneratorExp elt [⟨tg, iter, ifs, 0⟩] scope pos) 0 (.ref it) .none GX.env).onRaise (leaving GX.env)) [] s
    rw [compTurn_gen, Sem.onRaise_eq_wrap]
    refine seg_bind_wrap (wpAny_standAt ?_)
    refine seg_bind_wrap ?_
    rw [over_gl, ← hA]
    refine thnF (Tn.done GX rfl rfl rfl hcalm _ [] s _ H (fun _ _ => False) V.inv (stat V.inv nf) st (j1.stop Φ H F ρ _ V.sF V.pρ V.r)) fun r s6 ⟨hr, I6⟩ => ?_
    subst hr
    exact seg_end (.ok .next) ⟨rfl, rfl, H, F, ρ, I6, V.r, V.sF, V.pρ⟩
  | succ k ih =>
    intro i n s₀ s H F ρ G hk hi hn V st nf e
    have hlt : i < ds.length := by omega
    obtain ⟨n, rfl⟩ : ∃ m, n = m + 1 := ⟨n - 1, by omega⟩
    rw [List.drop_eq_getElem_cons hlt] at e
    unfold allL at e
    split at e
    · cases e
    rename_i e5 G5 q5
    split at e
    rotate_left
    · cases e
    rename_i b6 G6 q6
    show Seg _ A _ _ _ s₀ _ ((compTurn (.GeneratorExp elt [⟨tg, iter, ifs, 0⟩] scope pos) 0 (.ref it) .none GX.env).onRaise (leaving GX.env)) [] s
    rw [compTurn_gen, Sem.onRaise_eq_wrap]
    refine seg_bind_wrap (wpAny_standAt ?_)
    refine seg_bind_wrap ?_
    rw [over_gl, ← hA]
    refine thnF (Tn.item GX rfl rfl rfl hcalm i [] s _ H (fun _ _ => False) V.inv (stat V.inv nf) st (j1.go Φ i H F ρ G V.sF V.pρ V.r hlt)) fun r s6 ⟨u, hr, h6⟩ => ?_
    subst hr
    refine seg_bind_wrap ?_
    rw [over_gl, ← hA]
    refine thnF h6 fun _ s7 ⟨x, H7, I7, r7, y7, st7, n7⟩ => ?_
    have hd : ds[i]? = some ds[i] := List.getElem?_eq_getElem hlt
    obtain ⟨F3, R3, s3, _, r3⟩ := j1.yld Φ i H F ρ G x H7 _ V.sF V.pρ V.r hd y7
    have S3 : RS GX.K F3 ρ (L2.wipe σ vs) env0 := hS.mono (V.sF.trans s3) V.pρ
    have I7' := I7.pinned (stat I7 n7) (Tn.obj _ _ st7)
    -- what stands behind the store
    have back : ∀ {σ' : L2.St} {H' : Hp} {s' : Shared}, Inv GX ([] ++ pinsAt fp s7.heap) σ' H' s' → Touch us (L2.wipe σ vs) σ' → Inv GX [] (L2.wipe σ vs) H' s' ∧ tn (i + 1) s'.heap ∧ ∀ b ∈ fp, H' b = none := fun {σ' H' s'} I' t => by
      have pin' : ∀ b ∈ fp, ∀ o, s7.heap.get? b = some o → s'.heap.get? b = some o ∧ H' b = none := fun b hb o e =>
        let z := I'.pin (b, o) (List.mem_append_right _ (List.mem_append_right _ (mem_pinsAt hb e)))
        ⟨z.1, z.2.1⟩
      have hw := wipe_touch t hu
      refine ⟨(I'.unpinned (pins := [])).weak (by rw [t.1]) (fun j v e => ?_), Tn.keep _ _ _ st7 fun b hb o e => (pin' b hb o e).1, fun b hb => ?_⟩
      · rw [← hw] at e
        exact (wipe_some e).1
      · obtain ⟨o, e, _⟩ := Tn.obj _ _ st7 b hb
        exact (pin' b hb o e).2
    refine seg_bind_wrap ?_
    rw [over_gl, ← hA]
    refine wk (pg.run _ s7 _ H7 x u _ I7' r7 ⟨Φ, F3, ρ, G, _, _, e5, G5, R3, S3, r3, q5, fun σ5 H5 F5 ρ5 R5 s5 p5 S5 t5 => (⟨t5, F5, ρ5, R5, s5, p5, S5⟩ : Touch us (L2.wipe σ vs) σ5 ∧ ∃ F5 ρ5, R GX.K ⟨T, Φ⟩ H5 F5 ρ5 G5 ∧ Same F3 F5 ∧ ρ <+: ρ5 ∧ RS GX.K F5 ρ5 σ5 e5)⟩) fun _ s8 ⟨σ8, H8, I8, t8, F8, ρ8, R8, s8', p8, S8⟩ => ?_
    refine seg_bind_wrap ?_
    rw [over_gl, ← hA]
    refine wk (pt.run _ s8 σ8 H8 (fun b H9 => b = b6 ∧ ∃ F9 ρ9, R GX.K ⟨T, Φ⟩ H9 F9 ρ9 G6 ∧ Same F8 F9 ∧ ρ8 <+: ρ9) I8 ⟨Φ, F8, ρ8, G5, e5, R8, S8, .ok b6, G6, q6, fun H9 F9 ρ9 R9 s9 p9 => ⟨rfl, F9, ρ9, R9, s9, p9⟩⟩) fun b s9 ⟨H9, I9, hb, F9, ρ9, R9, s9', p9⟩ => ?_
    subst hb
    have sF9 : Same F1 F9 := ((V.sF.trans s3).trans s8').trans s9'
    have pρ9 : ρ1 <+: ρ9 := (V.pρ.trans p8).trans p9
    cases b with
    | false =>
      rw [if_neg Bool.false_ne_true] at e
      simp only [Bool.false_eq_true, if_false]
      obtain ⟨I9', st9, n9⟩ := back I9 t8
      exact seg_again rfl (ih (i + 1) (n + 1) s₀ s9 H9 F9 ρ9 G6 (by omega) hlt (by omega) ⟨I9', R9, sF9, pρ9⟩ st9 n9 e)
    | true =>
      rw [if_pos rfl] at e
      simp only [if_true]
      split at e
      rotate_left
      · cases e
      rename_i y10 G10 q10
      have hy : ∀ v, yieldOut GX.env v = yieldValue v := fun v => by simp only [yieldOut, hsc, Bool.false_eq_true, if_false]
      simp only [hy]
      rw [Sem.bind_eq_wrap', Sem.bind_eq_wrap', Sem.wrap_wrap, Sem.wrap_wrap]
      refine seg_wrap ?_
      rw [over_gl, ← hA]
      refine wk (pe.run _ s9 σ8 H9 (fun v H10 => v = .bl y10 ∧ ∃ F10 ρ10, R GX.K ⟨T, Φ⟩ H10 F10 ρ10 G10 ∧ Same F9 F10 ∧ ρ9 <+: ρ10) I9 ⟨Φ, F9, ρ9, G6, e5, R9, S8.mono s9' p9, .ok (.bl y10), G10, q10, fun v H10 F10 ρ10 R10 s10 p10 r10 _ => by
        cases r10
        exact ⟨rfl, F10, ρ10, R10, s10, p10⟩⟩) fun z s10 ⟨yv, H10, I10, r10, hv, F10, ρ10, R10, s10', p10⟩ => ?_
      subst hv
      obtain rfl : z = Value.bool y10 := r10
      obtain ⟨I10', st10, n10⟩ := back I10 t8
      have V10 : GV GX T Φ F1 ρ1 vs σ H10 s10 F10 ρ10 G10 := ⟨I10', R10, sF9.trans s10', pρ9.trans p10⟩
      refine seg_at (seg_yield rfl rfl rfl ⟨y10, H10, F10, ρ10, G10, rfl, V10, ?_⟩)
      by_cases hs : y10 = stop
      · rw [if_pos hs] at e
        cases e
        exact .inl ⟨hs, rfl, rfl⟩
      · rw [if_neg hs] at e
        refine .inr ⟨hs, fun g hg => ?_⟩
        exact seg_again rfl (ih (i + 1) n _ _ H10 F10 ρ10 G10 (by omega) hlt (by omega) ⟨Inv.regen V10.inv hg, R10, V10.sF, V10.pρ⟩ st10 n10 e)
theorem seg_all0 {A : Around} {elt tg iter : Expr} {ifs : List Expr} {scope : Scope} {pos : Pos} {it : Addr} {fp : List Addr} {tn : Nat → Heap → Prop} {J : It} {us : List Nat} {gr : Bool}
    (hA : GX.A = A.deeper GX.env) (hcalm : GX.calm = true) (hxe : GX.xe = fun _ _ => False) (hsc : GX.env.scope.isCoroutine = false) (hex : ∀ b ∈ fp, b ∈ GX.ex) (hpn : ∀ b ∈ fp, ∀ p ∈ GX.pn, p.1 ≠ b)
    (Tn : Turn GX.prog GX.w GX.K tg J fp it tn) (j1 : JOk GX.K T J F1 ρ1 ds) (hS : RS GX.K F1 ρ1 (L2.wipe σ vs) env0) (hu : ∀ i ∈ us, i ∈ vs)
    (pg : PGV GX T us tg ft) (pt : PTsV GX T ifs tt) (pe : PV GX T W0 gr elt te) {n : Nat} {s₀ s : Shared} {H F : Hp} {ρ : List Addr} {G : Gh} (hn : ds.length ≤ n) (V : GV GX T Φ F1 ρ1 vs σ H s F ρ G) (st : tn 0 s.heap) (nf : ∀ b ∈ fp, H b = none)
    (e : allL stop ft tt te env0 ds G = some (br, Gr)) :
    Seg (model GX.prog GX.w) A (gR GX T Φ F1 ρ1 vs σ stop br Gr) (gY GX T Φ F1 ρ1 vs σ stop br Gr) n s₀ (.compStart (.GeneratorExp elt [⟨tg, iter, ifs, 0⟩] scope pos) 0 (.ref it) .none GX.env)
      ((model GX.prog GX.w).den (.compStart (.GeneratorExp elt [⟨tg, iter, ifs, 0⟩] scope pos) 0 (.ref it) .none GX.env)) [] s := by
  have L := fun s₀ => seg_all (iter := iter) (pos := pos) (scope := scope) (stop := stop) hA hcalm hxe hsc hex hpn Tn j1 hS hu pg pt pe ds.length 0 n s₀ s H F ρ G (Nat.sub_zero _) (Nat.zero_le _) hn V st nf (by rw [List.drop_zero]; exact e)
  show Seg _ A _ _ _ s₀ _ ((compStart (.GeneratorExp elt [⟨tg, iter, ifs, 0⟩] scope pos) 0 (.ref it) .none GX.env).onRaise (leaving GX.env)) [] s
  unfold compStart
  rw [Sem.onRaise_eq_wrap]
  show Seg _ A _ _ _ s₀ _ ((ask >>= _).wrap _ _ _ _) [] s
  refine seg_bind_wrap (wpAny_askSetting ?_)
  split
  · exact seg_again rfl (L s₀)
  · refine seg_bind_wrap (wpAny_rule ?_)
    show Seg _ A _ _ _ s₀ _ ((standAt iter.pos >>= _).wrap _ _ _ _) [] s
    exact seg_bind_wrap (wpAny_standAt (seg_bind_wrap (Tn.self _ 0 s _ _ st (seg_again rfl (L s₀)))))

/-- the walk that the built-in all makes -/
theorem all_loop {A : Around} {Rf : Result → Shared → Prop} {a : Addr} {g : Nat} {og : Obj} (hh : A.handled = none) (hd : A.depth < recursionLimit) (hpn : (a, og) ∈ GX.pn) (hog : ∀ h : Heap, h.get? a = some og → h.IsGen a g)
    (hE : ∀ s' H F ρ, GV GX T Φ F1 ρ1 vs σ H s' F ρ Gr → Rf (.ok (.ret (.bool br))) s') :
    ∀ (n : Nat) (s : Shared), s.heap.IsGen a g → s.heap.NoLimit → AllBare s.gens → (∃ gs, s.gens[g]? = some gs ∧ gs.Goes (model GX.prog GX.w) A.in1.in1 (gR GX T Φ F1 ρ1 vs σ false br Gr) (gY GX T Φ F1 ρ1 vs σ false br Gr) n (.send .none) (s.setGen g .running)) →
      codeAny (model GX.prog GX.w) A (.builtin "all.loop" ⟨[.ref a], []⟩) Rf s := by
  have gen_at : ∀ {H F : Hp} {ρ : List Addr} {G : Gh} {s1 : Shared}, GV GX T Φ F1 ρ1 vs σ H s1 F ρ G → s1.heap.IsGen a g ∧ s1.heap.NoLimit ∧ AllBare s1.gens := fun V =>
    ⟨hog _ (V.inv.pin (a, og) (List.mem_append_left _ hpn)).1, V.inv.nolimit, V.inv.bare⟩
  have ended : ∀ {s1 : Shared} {x : GenState} {h' : Heap}, gP GX T Φ F1 ρ1 vs σ false br Gr 0 s1 s1 → x.bare = true → (∀ b o, s1.heap.get? b = some o → h'.get? b = some o) → br = true ∧ ∃ H F ρ, GV GX T Φ F1 ρ1 vs σ H { s1.setGen g x with heap := h' } F ρ Gr := fun {s1 x h'} hp hx hk => by
    obtain ⟨hb, H, F, ρ, V⟩ := hp
    refine ⟨hb, H, F, ρ, ⟨?_, V.r, V.sF, V.pρ⟩⟩
    exact Inv.kept (t' := s1.toks) (s := s1.setGen g x) (Inv.regen (g := (s1.setGen g x).gens) V.inv (allBare_setGen V.inv.bare hx)) hk
  intro n
  induction n with
  | zero =>
    intro s hg hl hb ⟨gs, hgs, hgo⟩
    refine codeAny_builtin PySem.F.entry_all_loop ?_
    rw [Around.under_plainId PySem.F.plain_all_loop _]
    show wpAny _ A.in1 (pyNext (.ref a) >>= _) _ _ s
    refine wpAny_bind (wpAny_pyNext_genexpQ (P := gP GX T Φ F1 ρ1 vs σ false br Gr) hh hl hd hg hgs hgo (fun v s₁ gs' hbare hv => ?_) fun s₁ hp h' hk => ?_)
    · obtain ⟨b, H, F, ρ, G, rfl, V, hc⟩ := hv
      rcases hc with ⟨rfl, rfl, rfl⟩ | ⟨_, hc⟩
      · refine wpAny_bind (wpAny_holding (wpAny_truthy_bool ?_))
        refine wpAny_bind (wpAny_letGo ?_)
        simp only [Bool.false_eq_true, if_false]
        refine wpAny_bind (wpAny_rule (wpAny_pure ?_))
        exact hE _ H F ρ ⟨Inv.regen V.inv (allBare_setGen V.inv.bare hbare), V.r, V.sF, V.pρ⟩
      · exact (hc s₁.gens V.inv.bare).elim
    · obtain ⟨hb', H, F, ρ, V⟩ := ended (x := .finished) hp rfl hk
      refine wpAny_bind (wpAny_rule (wpAny_pure ?_))
      have := hE _ H F ρ V
      rw [hb'] at this
      exact this
  | succ n ih =>
    intro s hg hl hb ⟨gs, hgs, hgo⟩
    have hgl : g < s.gens.size := (Array.getElem?_eq_some_iff.mp hgs).1
    refine codeAny_builtin PySem.F.entry_all_loop ?_
    rw [Around.under_plainId PySem.F.plain_all_loop _]
    show wpAny _ A.in1 (pyNext (.ref a) >>= _) _ _ s
    refine wpAny_bind (wpAny_gsz (n := g + 1) hgl (wpAny_pyNext_genexpQ (P := gP GX T Φ F1 ρ1 vs σ false br Gr) hh hl hd hg hgs hgo (fun v s₁ gs' hbare hv => ?_) fun s₁ hp h' hk => ?_))
    · intro hsz
      obtain ⟨b, H, F, ρ, G, rfl, V, hc⟩ := hv
      refine wpAny_bind (wpAny_holding (wpAny_truthy_bool ?_))
      refine wpAny_bind (wpAny_letGo ?_)
      have V' : GV GX T Φ F1 ρ1 vs σ H (s₁.setGen g gs') F ρ G := ⟨Inv.regen V.inv (allBare_setGen V.inv.bare hbare), V.r, V.sF, V.pρ⟩
      rcases hc with ⟨rfl, rfl, rfl⟩ | ⟨hne, hc⟩
      · simp only [Bool.false_eq_true, if_false]
        refine wpAny_bind (wpAny_rule (wpAny_pure ?_))
        exact hE _ H F ρ V'
      · obtain rfl : b = true := by cases b with
          | true => rfl
          | false => exact absurd rfl hne
        simp only [if_true]
        obtain ⟨g1, g2, g3⟩ := gen_at V'
        have hsz1 : g < s₁.gens.size := by
          have q : (s₁.setGen g gs').gens.size = s₁.gens.size := setGen_size _ _ _
          have hsz' : g + 1 ≤ (s₁.setGen g gs').gens.size := hsz
          omega
        exact wpAny_pure ⟨plainId_quiet PySem.F.plain_all_loop _, ih _ g1 g2 g3 ⟨gs', setGen_at hsz1, hc _ (allBare_setGen (s := s₁.setGen g gs') g3 (x := .running) rfl)⟩⟩
    · intro hsz
      obtain ⟨hb', H, F, ρ, V⟩ := ended (x := .finished) hp rfl hk
      refine wpAny_bind (wpAny_rule (wpAny_pure ?_))
      have := hE _ H F ρ V
      rw [hb'] at this
      exact this
end
end L2.GL
end

section
set_option Elab.async false
set_option linter.all false
set_option maxRecDepth 100000
set_option autoImplicit false
/-! G10: the built-in all of a generator expression. -/
namespace L2.GL
open PySem PySem.Spec PyProof.Rows GenW

theorem upd_comm {H : Hp} {a b : Addr} {x y : HO} (h : a ≠ b) : upd (upd H a x) b y = upd (upd H b y) a x := by
  funext c
  by_cases h1 : c = a
  · subst h1; rw [upd_ne h, upd_same, upd_same]
  · by_cases h2 : c = b
    · subst h2; rw [upd_same, upd_ne h1, upd_same]
    · rw [upd_ne h2, upd_ne h1, upd_ne h1, upd_ne h2]
/-- a code object is made, the table tells it from now on -/
theorem R.code_made {X : Cx} {pins : List (Addr × Obj)} {σ : L2.St} {H F : Hp} {s : Shared} {T : List Addr} {Φ : List (Addr × List V)} {ρ : List Addr} {G : Gh} {P c' : Addr} {ps : Array Value} {pos : Pos} {q : Str} {h' : Heap} {tk : Nat}
    (I : Inv X pins σ H s) (hR : R X.K ⟨T, Φ⟩ H F ρ G) (hP : P ∈ T) (hHP : H P = some (.tbl ps)) (htr : TriplesOk ps.toList ∧ CodesIn F ps) (hx : ∀ b o, b ≠ P → s.heap.get? b = some o → h'.get? b = some o) (hge : s.heap.objs.size ≤ c') (hrec : h'.CodeRec (.ref c') q)
    (hm : h'.get? P = some { cls := .none, data := .fields (ps ++ #[rawInt pos.line, rawInt pos.col, .ref c']) }) (htr' : TriplesOk (ps ++ #[rawInt pos.line, rawInt pos.col, .ref c']).toList) :
    Inv X pins σ (upd (upd H P (.tbl (ps ++ #[rawInt pos.line, rawInt pos.col, .ref c']))) c' (LamX.CodeO c' q)) { s with heap := h', toks := tk } ∧
      R X.K ⟨T, Φ⟩ (upd (upd H P (.tbl (ps ++ #[rawInt pos.line, rawInt pos.col, .ref c']))) c' (LamX.CodeO c' q)) (upd F c' (LamX.CodeO c' q)) ρ G ∧ Same F (upd F c' (LamX.CodeO c' q)) ∧
      ∀ b, H b = none → b < s.heap.objs.size → upd (upd H P (.tbl (ps ++ #[rawInt pos.line, rawInt pos.col, .ref c']))) c' (LamX.CodeO c' q) b = none := by
  have nC : H c' = none := I.hok.fresh hge
  have nPc : P ≠ c' := ne_of_none hHP nC
  have nF : F c' = none := hR.sub.free nC
  obtain ⟨c2, oc, vs, t, e2, hoc, hd, hv⟩ := hrec
  cases e2
  refine ⟨LamX.inv_table I hHP (fun b o hb e => hx b o hb e) hm hge ⟨oc, vs, t, hoc, hd, hv⟩, ?_, same_updN nF, fun b h1 h2 => ?_⟩
  · rw [upd_comm nPc]
    refine (hR.alloc (o := LamX.CodeO c' q) nC).table hP htr' fun p' cv hcv => ?_
    rw [Array.toList_append] at hcv
    rcases LamX.among_app _ htr.1 hcv with z | z
    · exact htr.2.mono (same_updN nF) p' cv z
    · exact ⟨c', q, z, upd_same⟩
  · rw [upd_ne (Nat.ne_of_lt (Nat.lt_of_lt_of_le h2 hge)), upd_ne (fun z => by rw [z, hHP] at h1; cases h1)]
    exact h1

def allM (stop : Bool) (fi : EnvD → M (List D)) (ft : MT) (tt : EnvD → M Bool) (te : EnvD → M D) (vs : List Nat) : EnvD → M D := fun env => do
  let ds ← fi env
  fun G => match allL stop ft tt te (wipeE env vs) ds G with
    | some (b, G') => some (.ok (.bl b), G')
    | none => none

section
variable {X : Cx} {T : List Addr} {W : WX} {pos p gpos : Pos} {elt tg iter : Expr} {ifs : List Expr} {scope : Scope} {own : List (Str × Nat)} {fi : EnvD → M (List D)} {ft : MT} {us : List Nat} {tt : EnvD → M Bool} {te : EnvD → M D} {gr : Bool} {k : Nat}
theorem v_all {c P : Addr} (S : Stand X (k + 1) W) (hg : Gl X "all") (hm : X.mg "all" = none) (TB : LamX.TabB X.base X.mg c P) (hP : P ∈ T) (hcode : X.env.code = .ref c) (hN : X.N.Nodup) (G : GScp X.N X.env.scope scope own)
    (hu : ∀ i ∈ us, i ∈ own.map (·.2)) (hi : PIV X T W tg iter fi)
    (hpg : ∀ (A' : Around) (s : Shared) (H : Hp) (C : Addr) (cl : List (Str × Addr)) (cv : Value) (fp : List Addr) (pn : List (Addr × Obj)), Stand (gnC X A' s H scope (genEnv scope cl C cv builtinsNs X.env) fp pn) k W0 →
      PGV (gnC X A' s H scope (genEnv scope cl C cv builtinsNs X.env) fp pn) T us tg ft ∧ PTsV (gnC X A' s H scope (genEnv scope cl C cv builtinsNs X.env) fp pn) T ifs tt ∧ PV (gnC X A' s H scope (genEnv scope cl C cv builtinsNs X.env) fp pn) T W0 gr elt te)
    (hs : ∀ v, genFold iter X.env v = pure v)
    (he : starEach [.GeneratorExp elt [⟨tg, iter, ifs, 0⟩] scope gpos] X.env = (false, eval (.GeneratorExp elt [⟨tg, iter, ifs, 0⟩] scope gpos) X.env) :: starEach [] X.env := by rfl) :
    PV X T W true (.Call (.Name "all" p) [.GeneratorExp elt [⟨tg, iter, ifs, 0⟩] scope gpos] [] pos) (allM false fi ft tt te (own.map (·.2))) := by
  refine ⟨fun pins s σ H Q I ⟨Φ, F, ρ, Gh0, env, hR, hS, r, G', e, h⟩ => ?_⟩
  refine wpAny_Call_Name_kw (ld_blt I hg hm (by first | rfl | decide) ?_)
  refine PyProof.Rows.callWith_builtin1 ?_ he (by rfl)
  rw [he]
  show wpAny _ _ (spliced ((false, eval (.GeneratorExp elt [⟨tg, iter, ifs, 0⟩] scope gpos) X.env) :: backTo pos (starEach [] X.env))) _ _ s
  have fr0 : ∀ y ∈ scope.names, y.2 = .free → ∃ c, X.env.cells.lookup y.1 = some c := fun y hy e => by
    rcases G.blk.free y hy e with k | k
    · exact I.ok.has _ (.inl k)
    · exact I.ok.has _ (.inr k)
  refine Calls.spliced_cons (wpAny_GeneratorExp_make G.co (closure_ok fr0) G.cell G.dot G.blk.kind S.room.depth ?_ hs)
  -- the iterable
  have hit : tI X.K T X.mg W fi σ H (fun J H1 => ∃ F1 ρ1 G1 ds br, R X.K ⟨T, Φ⟩ H1 F1 ρ1 G1 ∧ Same F F1 ∧ ρ <+: ρ1 ∧ JOk X.K T J F1 ρ1 ds ∧ allL false ft tt te (wipeE env (own.map (·.2))) ds G1 = some (br, G') ∧ PostV X.K ⟨T, Φ⟩ F ρ true (.bl br) G' Q) := by
    refine ⟨Φ, F, ρ, Gh0, env, hR, hS, ?_⟩
    rcases bind_parts e with ⟨ds, G1, e1, e2⟩ | ⟨cc, e1, rfl⟩
    rotate_left
    · exact ⟨.ex cc, G', e1, h⟩
    split at e2
    rotate_left
    · cases e2
    rename_i br G2 e3
    cases e2
    exact ⟨.ok ds, G1, e1, fun J H1 F1 ρ1 R1 s1 p1 j1 => ⟨F1, ρ1, G1, ds, br, R1, s1, p1, j1, e3, h⟩⟩
  refine wpAny_mono (hi.run pins s σ H _ I hit) (fun xv s1 hx => wpAny_mono hx (fun itv s2 h2 => ?_) fun _ _ z => z) fun _ _ z => z
  obtain ⟨it, fp, tn, J, H2, eit, I2, Tn, st2, f2, F1, ρ1, G1, ds, br, R2, s1', p1', j1, eL, hQ⟩ := h2
  subst eit
  refine ⟨I2.nolimit, ?_⟩
  obtain ⟨hFP, ps, hHP, htr⟩ := R2.tab P hP
  have hPs : s2.heap.get? P = some { cls := .none, data := .fields ps } := I2.hok P _ hHP
  have cd : PySem.W.CodeHd s2.heap c P := TB.code.keeps fun b u e => I2.bk b u e
  -- behind the code object
  have go : ∀ (code : Value) (h3 : Heap) (tk : Nat) (H3 F3 : Hp), Heap.ExtBut P s2.heap h3 → Inv X pins σ H3 { s2 with heap := h3, toks := tk } → R X.K ⟨T, Φ⟩ H3 F3 ρ1 G1 → Same F1 F3 → (∀ b ∈ fp, H3 b = none) →
      wpAny (model X.prog X.w) X.A (builtinsFor X.env.globals X.env.builtins) (fun bi s₄ => ∀ h', h'.Ns s₄.heap.objs.size (fun y => if y = ".0" then some (.ref it) else none) → Heap.SameBut s₄.heap.objs.size (s₄.heap.push { cls := .type "frame", data := .dict #[] }) h' →
        wpAny (model X.prog X.w) X.A (spliced (backTo pos (starEach [] X.env))) (fun us s => wpAny (model X.prog X.w) X.A (call (.builtin "all") (.ref h'.objs.size :: us)) (EP X pins σ Q) X.xe s) X.xe { s₄ with
            gens := s₄.gens.push (.fresh (.compStart (.GeneratorExp elt [⟨tg, iter, ifs, 0⟩] scope gpos) 0 (.ref it) .none (genEnv scope (cloFrom X.env.cells scope.names []) s₄.heap.objs.size code bi X.env))),
            toks := s₄.toks + 1 + 1 + 1,
            heap := h'.push { cls := .type "generator", data := .fields #[.int s₄.gens.size 0, .str "<genexpr>" (s₄.toks + 1), .str (X.env.qual ++ "<genexpr>") (s₄.toks + 1 + 1)] } }) X.xe { s2 with heap := h3, toks := tk } := by
    intro code h3 tk H3 F3 hx I3 R3 s3 n3
    obtain ⟨bm, ob, e1, e2, e3, e4, e5, e6, e7, e8⟩ := TB.bm
    have keep3 : ∀ b u, b ≠ P → s2.heap.get? b = some u → h3.get? b = some u := fun b u hb e => hx b u hb e
    have nfP : ∀ b ∈ fp, b ≠ P := fun b hb z => by
      have := (f2 b hb).1
      rw [z, hHP] at this; cases this
    have f3 : ∀ b ∈ fp, FpOk X pins H3 b ∧ b < h3.objs.size := fun b hb => by
      obtain ⟨o, eo, _⟩ := Tn.obj _ _ st2 b hb
      exact ⟨⟨n3 b hb, (f2 b hb).2⟩, Heap.lt_size (keep3 b o (nfP b hb) eo)⟩
    have st3 : tn 0 h3 := Tn.keep _ _ _ st2 fun b hb o e => keep3 b o (nfP b hb) e
    refine wpAny_builtinsFor (m := X.mg) (by rw [I2.ok.glob]; exact (I2.mod.glob.keeps I2.bk).extBut hx TB.gP) e1 e2 (keep3 _ _ e4 (I2.bk _ _ e5)) e6 e7 e8 ?_
    intro h' ns sb
    have hsz : h'.objs.size = h3.objs.size + 1 := by rw [sb.1, Heap.size_push]
    have kp' : ∀ b o, h3.get? b = some o → h'.get? b = some o := fun b o e => sb.extBut b o (Nat.ne_of_lt (Heap.lt_size e)) (Heap.get?_push_of_some _ e)
    generalize hog : ({ cls := .type "generator", data := .fields #[.int s2.gens.size 0, .str "<genexpr>" (tk + 1), .str (X.env.qual ++ "<genexpr>") (tk + 1 + 1)] } : Obj) = og
    have isg : ∀ hh : Heap, hh.get? h'.objs.size = some og → hh.IsGen h'.objs.size s2.gens.size := fun hh e => by
      rw [← hog] at e
      exact ⟨_, _, _, e, rfl, rfl, rfl⟩
    have hnf : og.isFreed = false := by rw [← hog]; rfl
    refine Calls.spliced_nil ?_
    -- the call of all
    have hpg' := fun A' s H fp pn => hpg A' s H h3.objs.size (cloFrom X.env.cells scope.names []) code fp pn
    generalize hce : genEnv scope (cloFrom X.env.cells scope.names []) h3.objs.size code builtinsNs X.env = ce at hpg'
    have ceS : ce.scope = scope := by rw [← hce]; rfl
    have AS : (X.A.in1.in1.deeper ce).handled = none := S.room.hd
    have hfr : (X.A.in1.in1.deeper ce).frames = some (ce :: X.stack) := by
      show X.A.frames.map (ce :: ·) = _
      rw [I2.ok.frames]; rfl
    have St : ∀ (s : Shared) (H : Hp) (fp : List Addr) (pn : List (Addr × Obj)), Stand (gnC X (X.A.in1.in1.deeper ce) s H scope ce fp pn) k W0 := fun s H fp pn =>
      ⟨rfl, S.gu, ⟨S.room.hd, by have := S.room.dp; show X.A.depth + 1 + 3 * k + 5 < _; omega, by have := S.room.un; show X.A.units + 1 + 1 + 3 + 16 * k + 200 < _; omega⟩, takesN⟩
    obtain ⟨pg, pt, pe⟩ := hpg' (X.A.in1.in1.deeper ce) { s2 with heap := h3, toks := tk } H3 fp [(h'.objs.size, og)] (St _ _ _ _)
    have k5 : ∀ b o, h3.get? b = some o → (h'.push og).get? b = some o := fun b o e => Heap.get?_push_of_some _ (kp' b o e)
    have bare5 : ∀ x : GenState, x.bare = true → AllBare (s2.gens.push x) := fun x hx => I2.bare.push hx
    have inv5 : ∀ {g5 : Array GenState} {t5 : Nat}, AllBare g5 → Inv (gnC X (X.A.in1.in1.deeper ce) { s2 with heap := h3, toks := tk } H3 scope ce fp [(h'.objs.size, og)]) [] (L2.wipe σ (own.map (·.2))) H3 { s2 with heap := h'.push og, gens := g5, toks := t5 } := fun {g5 t5} hg5 => by
      subst hce
      exact gn_start (t5 := t5) I3 G hN f3 AS hfr k5 (Heap.Ns.push ns _) (by show h3.objs.size < h'.objs.size; omega) (Heap.get?_push_size _ hnf) (fun v z => by rw [← hog] at z; cases z) hg5
    have S1 : RS X.K F3 ρ1 (L2.wipe σ (own.map (·.2))) (wipeE env (own.map (·.2))) := (hS.mono (s1'.trans s3) p1').wipe _
    have j1 := j1.mono s3 (List.prefix_refl _)
    refine call_function_tree PySem.F.kind_all PySem.F.plain_all PySem.F.entry_all (PySem.F.args_all1 _) ?_
    unfold Builtin.«all»
    refine wpAny_bind (m := oneArg "all" _) (wpAny_pure ?_)
    refine wpAny_bind (wpAny_pyIter_gen (isg _ (Heap.get?_push_size _ hnf)) ?_)
    refine wpAny_pure ⟨plainId_quiet PySem.F.plain_all_loop _, ?_⟩
    refine all_loop (GX := gnC X (X.A.in1.in1.deeper ce) { s2 with heap := h3, toks := tk } H3 scope ce fp [(h'.objs.size, og)]) (T := T) (Φ := Φ) (F1 := F3) (ρ1 := ρ1) (vs := own.map (·.2)) (σ := σ) (br := br) (Gr := G') (g := s2.gens.size) S.room.hd S.room.depth List.mem_cons_self isg (fun s' H' F' ρ' V => ?_) ds.length _
      (isg _ (Heap.get?_push_size _ hnf)) ?_ (bare5 _ rfl) ⟨_, Array.getElem?_push_size .., rfl, ?_⟩
    · -- the end
      have I7 : Inv X pins σ H' s' := I3.call' (ch := fp) V.inv.os V.inv.base V.inv.hok V.inv.bare fun b hb => ⟨(f3 b hb).1.2.2.2.1, (f3 b hb).1.2.1, (f3 b hb).1.2.2.2.2.1, (f3 b hb).1.2.2.2.2.2⟩
      exact ⟨.bl br, H', I7, rfl, hQ (.bl br) H' F' ρ' V.r ((s1'.trans s3).trans V.sF) (p1'.trans V.pρ) (.bl br) fun _ => .of fun _ z => nomatch z⟩
    · exact (inv5 (g5 := s2.gens) (t5 := 0) I2.bare).nolimit
    · have gb : AllBare (({ s2 with gens := s2.gens.push (.fresh (.compStart (.GeneratorExp elt [⟨tg, iter, ifs, 0⟩] scope gpos) 0 (.ref it) .none ce)), toks := tk + 1 + 1 + 1, heap := h'.push og } : Shared).setGen s2.gens.size .running).gens := allBare_setGen (bare5 _ rfl) rfl
      refine seg_all0 (GX := gnC X (X.A.in1.in1.deeper ce) { s2 with heap := h3, toks := tk } H3 scope ce fp [(h'.objs.size, og)]) (stop := false) rfl rfl rfl (by show ce.scope.isCoroutine = false; rw [ceS]; exact G.co) (fun b hb => hb) (fun b hb p hp => ?_) Tn j1 S1 hu pg pt pe (Nat.le_refl _) ⟨inv5 gb, R3, Same.refl _, List.prefix_refl _⟩ ?_ (fun b hb => (f3 b hb).1.1) eL
      · have hp : p ∈ [(h'.objs.size, og)] := hp
        rw [List.mem_singleton.mp hp]
        have q := (f3 b hb).2
        show h'.objs.size ≠ b
        rw [hsz]
        exact Nat.ne_of_gt (Nat.lt_succ_of_lt q)
      · exact Tn.keep _ _ _ st3 fun b hb o e => k5 b o e
  cases hf : codeAmong gpos ps.toList with
  | none =>
    refine wpAny_genexprCodeX hcode (cd.code hPs htr.1) (cd.tab hPs) hf fun c' h' tk hx hge hlt hco' hrec htab' _ => ?_
    obtain ⟨o1, vs, f1, tf, fl, tg', inF, tx, tt', op, _, _, _, _, _, _, _, _, _, htr', _⟩ := hco'
    obtain ⟨I3, R3, s3, n3⟩ := R.code_made I2 R2 hP hHP htr (fun b o hb e => hx b o hb e) hge hrec htab'.2 htr'
    refine go _ h' tk _ _ hx I3 R3 s3 fun b hb => ?_
    obtain ⟨o, eo, _⟩ := Tn.obj _ _ st2 b hb
    exact n3 b (f2 b hb).1 (Heap.lt_size eo)
  | some cv =>
    refine wpAny_genexprCode_hit hcode (cd.code hPs htr.1) hf ?_
    exact go cv s2.heap s2.toks H2 F1 (Heap.ExtBut.refl _ _) I2 R2 (Same.refl _) fun b hb => (f2 b hb).1
end
end L2.GL
end

section
set_option Elab.async false
set_option linter.all false
set_option maxRecDepth 100000
set_option autoImplicit false
/-! G11: the law's call. -/
namespace L2.GL
open PySem PySem.Spec PyProof.Rows

/-- the heap at the law's call: the tables, empty; the script -/
def hp0 (ts : List Addr) (a : Addr) (own : Bool) (o : Obj) (ns : List Int) : Hp := fun b =>
  if b ∈ ts then some (.tbl #[]) else if b = a ∧ own = true then some (.frz o (.lst (ns.map V.int))) else none
theorem hp0_cases {ts : List Addr} {a : Addr} {own : Bool} {o : Obj} {ns : List Int} {b : Addr} {u : HO} (h : hp0 ts a own o ns b = some u) : (b ∈ ts ∧ u = .tbl #[]) ∨ (b = a ∧ b ∉ ts ∧ own = true ∧ u = .frz o (.lst (ns.map V.int))) := by
  unfold hp0 at h
  split at h
  · cases h; exact .inl ⟨by assumption, rfl⟩
  · split at h
    · rename_i h1 h2
      cases h; exact .inr ⟨h2.1, h1, h2.2, rfl⟩
    · cases h
theorem dra_ints {K : PySem.W.Frag} {F : Hp} {ρ : List Addr} : ∀ ns : List Int, DrA K F ρ (ns.map V.int) (ns.map D.int)
  | [] => .nil
  | n :: ns => .cons (.int n) (dra_ints ns)
theorem ints_vals : ∀ {vs : List Value} {ns : List Int}, IntsAre vs ns → Vals (ns.map V.int) vs
  | _, _, .nil => .nil
  | _, _, .cons n t h => .cons ⟨t, rfl⟩ (ints_vals h)

theorem law_end {P : Program} {w : World} {K : PySem.W.Frag} {mg mb : Str → Option Value} {k : Nat} {fa a : Addr} {cs : List (Addr × Addr)} {fd : FuncData} {x : Str} {φ : List D → M D} {fr : Bool} {s₁ : Shared} {vs : List Value} {ns : List Int} {Ge : Gh}
    (inK : K.In s₁.heap) (nsG : s₁.heap.Ns mainGlobals mg) (nsB : s₁.heap.Ns builtinsNs mb) (boot : ∀ x : Str, x ≠ "__name__" → mb x = bootBuiltins x) (noL : s₁.heap.NoLimit) (noG : s₁.gens = #[])
    (tE : ∀ p ∈ cs, s₁.heap.get? p.2 = some { cls := .none, data := .fields #[] }) (tK : ∀ p ∈ cs, K.lookup p.2 = none) (tC : ∀ p ∈ cs, PySem.W.CodeHd s₁.heap p.1 p.2)
    (bmm : ∃ (bm : Addr) (ob : Obj), mg "__builtins__" = some (.ref bm) ∧ bm ≠ builtinsNs ∧ s₁.heap.get? bm = some ob ∧ ob.cls = .type "module" ∧ ob.dict = some builtinsNs ∧ ob.data = .plain)
    (scr : s₁.heap.get? a = some { cls := .type "list", data := .seq vs.toArray }) (iv : IntsAre vs ns) (few : ns.length ≤ sizeLine) (rm : Room k callerA)
    (F : ∀ base : Heap, K.In base → base.Ns mainGlobals mg → (∀ p ∈ cs, LamX.TabB base mg p.1 p.2) → FnG P w K mg base k fa fd [x] (spG K (cs.map (·.2)) mg 1 fr φ))
    (bind : ∀ (s : Shared) (u : Value), BindsTo s fd ⟨[u], []⟩ [(x, u)]) (hφ : φ [.lst (ns.map D.int)] [] = some (.ok (.bl true), Ge)) :
    codeAny (model P w) callerA (.call (.ref fa) ⟨[.ref a], []⟩) (fun r s' => r = .ok (.ret (.bool true)) ∧ OldK s₁.heap s'.heap ∧ s'.os = s₁.os ∧ AllBare s'.gens) s₁ := by
  have rel := ints_vals iv
  have lenV := iv.length
  generalize hts : cs.map (·.2) = ts at F
  have tabs : ∀ b ∈ ts, s₁.heap.get? b = some { cls := .none, data := .fields #[] } ∧ ∃ p ∈ cs, p.2 = b := fun b hb => by
    rw [← hts] at hb
    obtain ⟨p, hp, rfl⟩ := List.mem_map.mp hb
    exact ⟨tE p hp, p, hp, rfl⟩
  have inT : ∀ p ∈ cs, p.2 ∈ ts := fun p hp => by rw [← hts]; exact List.mem_map.mpr ⟨p, hp, rfl⟩
  have aT : a ∉ ts := fun z => by
    have q := (tabs a z).1
    rw [scr] at q
    have := congrArg Obj.data (Option.some.inj q)
    cases this
  generalize hob : ({ cls := .type "list", data := .seq vs.toArray } : Obj) = ob at scr
  have obd : ob.data = .seq vs.toArray := by rw [← hob]
  obtain ⟨own, hown⟩ : ∃ b : Bool, b = (K.lookup a).isNone := ⟨_, rfl⟩
  generalize hHp : hp0 ts a own ob ns = H
  have cases_ : ∀ {b : Addr} {u : HO}, H b = some u → (b ∈ ts ∧ u = .tbl #[]) ∨ (b = a ∧ b ∉ ts ∧ own = true ∧ u = .frz ob (.lst (ns.map V.int))) := fun {b u} h => hp0_cases (by rw [hHp]; exact h)
  have Htab : ∀ b ∈ ts, H b = some (.tbl #[]) := fun b hb => by rw [← hHp]; exact if_pos hb
  have Hscr : own = true → H a = some (.frz ob (.lst (ns.map V.int))) := fun h => by
    rw [← hHp]
    exact (if_neg aT).trans (if_pos ⟨rfl, h⟩)
  have hok : HOk P w H s₁.heap := fun b u e => by
    rcases cases_ e with ⟨h, rfl⟩ | ⟨rfl, _, _, rfl⟩
    · exact (tabs b h).1
    · exact ⟨scr, by rw [List.length_map]; exact few, vs, _, rel, by rw [scr, ← hob]⟩
  -- what is neither a list nor a table is not held
  have loose : ∀ {b : Addr} {o : Obj}, s₁.heap.get? b = some o → (∀ ys n, o.data ≠ .seq ys n) → o.data ≠ .fields #[] → H b = none := fun {b o} e n1 n2 => by
    cases q : H b with
    | none => rfl
    | some u =>
      rcases cases_ q with ⟨h, _⟩ | ⟨rfl, _⟩
      · rw [(tabs b h).1] at e; cases e
        exact absurd rfl n2
      · rw [scr] at e; cases e
        exact absurd obd (n1 _ _)
  have looseD : ∀ {b : Addr} {o : Obj} {es : Array DictEntry} {n : Nat}, s₁.heap.get? b = some o → o.data = .dict es n → H b = none := fun e d =>
    loose e (fun ys n z => by rw [d] at z; cases z) fun z => by rw [d] at z; cases z
  have keepNs : ∀ {b : Addr} {m : Str → Option Value}, s₁.heap.Ns b m → (hidT s₁.heap H).Ns b m := fun ⟨o, es, n, e, d, r⟩ => ⟨o, es, n, hidT_get e (looseD e d), d, r⟩
  have inB : K.In (hidT s₁.heap H) := fun b o e => by
    refine hidT_get (inK b o e) ?_
    cases q : H b with
    | none => rfl
    | some u =>
      rcases cases_ q with ⟨h, _⟩ | ⟨rfl, _, ho, _⟩
      · obtain ⟨_, p, hp, rfl⟩ := tabs b h
        rw [tK p hp] at e; cases e
      · rw [hown, e] at ho; cases ho
  have md : L2.Mod K mg (hidT s₁.heap H) := ⟨inB, keepNs nsG, ⟨mb, keepNs nsB, boot⟩, by obtain ⟨mc, h1, h2⟩ := noL; exact ⟨mc, keepNs h1, h2⟩⟩
  have TB : ∀ p ∈ cs, LamX.TabB (hidT s₁.heap H) mg p.1 p.2 := fun p hp => by
    refine ⟨?_, ?_, fun z => ?_⟩
    · obtain ⟨o, us, fl, tf, flags, tg, inF, tx, tt, e1, r1, r2, r3, rest⟩ := tC p hp
      exact ⟨o, us, fl, tf, flags, tg, inF, tx, tt, hidT_get e1 (loose e1 (fun ys n z => by rw [r2] at z; cases z) fun z => by rw [r2] at z; cases z; simp at r3), r1, r2, r3, rest⟩
    · obtain ⟨bm, o, b1, b2, b3, b4, b5, b6⟩ := bmm
      refine ⟨bm, o, b1, b2, fun z => ?_, fun z => ?_, hidT_get b3 (loose b3 (fun ys n z => by rw [b6] at z; cases z) fun z => by rw [b6] at z; cases z), b4, b5, b6⟩
      · obtain ⟨o', es, n, e, d, _⟩ := nsG
        rw [z, e] at b3; cases b3
        rw [d] at b6; cases b6
      · rw [z, tE p hp] at b3; cases b3
        cases b6
    · obtain ⟨o', es, n, e, d, _⟩ := nsG
      rw [z, tE p hp] at e; cases e
      cases d
  have e0 : Env0 P w K mg (hidT s₁.heap H) callerA [] s₁ H := ⟨rfl, md, fun b o e => of_hidT e, Nat.le_of_eq (hidT_size _ _), trivial, fun b hb => (List.not_mem_nil hb).elim, hok, .of_eq noG⟩
  -- the data
  generalize hFF : (fun b => if b = a then H b else none : Hp) = FF
  have FFa : ∀ {b : Addr} {u : HO}, FF b = some u → b = a ∧ H b = some u := fun {b u} h => by
    rw [← hFF] at h
    dsimp only at h
    split at h
    · exact ⟨by assumption, h⟩
    · cases h
  have rr : R K ⟨ts, []⟩ H FF [] [] := by
    refine ⟨fun b o e => (FFa e).2, rfl, .nil, fun b m => (List.not_mem_nil m).elim, fun n b ds e => by simp at e, fun b hb => ⟨?_, #[], Htab b hb, by simp [TriplesOk], codesIn_nil⟩, fun q m => (List.not_mem_nil m).elim, .nil⟩
    cases q : FF b with
    | none => rfl
    | some u => exact absurd ((FFa q).1 ▸ hb) aT
  have sq : SqL K FF a (ns.map V.int) := by
    cases hk : K.lookup a with
    | some o =>
      have e := inK a o hk
      rw [scr] at e; cases e
      refine .inr ⟨_, vs.toArray, _, hk, by rw [← hob], by rw [← hob], obd, by rw [List.size_toArray, lenV]; exact few, by simpa using rel⟩
    | none =>
      refine .inl (.inr ⟨ob, ?_⟩)
      rw [← hFF]
      exact (if_pos rfl).trans (Hscr (by rw [hown, hk]; rfl))
  have sp : spG K ts mg 1 fr φ [.ref a] H (fun v _ => v = .bl true) (fun _ _ _ => False) :=
    ⟨rfl, [], FF, [], [], [.lst (ns.map D.int)], rr, .cons (.lst sq (dra_ints ns)) .nil, _, Ge, hφ, fun v H' F' ρ' _ _ _ r _ => by cases r; rfl⟩
  refine codeAny_mono ((F _ inB (keepNs nsG) TB).run callerA [] s₁ H ⟨[.ref a], []⟩ [.ref a] [.ref a] _ _ rfl rm e0 (bind s₁ (.ref a)) (.cons rfl .nil) sp) fun r s' h => ?_
  match r, h with
  | .error e, h =>
    obtain ⟨_, _, _, _, _, _, _, _, _, _, _, _, z⟩ := h
    exact z.elim
  | .ok (.ret u), ⟨v, H', os, bare, un, hok', r', q⟩ =>
    have q : v = .bl true := q
    subst q
    obtain rfl : u = Value.bool true := r'
    have same_ : ∀ b o, b ∉ ts → s₁.heap.get? b = some o → s'.heap.get? b = some o := fun b o nb e => by
      cases q : H b with
      | none => exact un.keep b o e q (fun z => (List.not_mem_nil z).elim) (fun z => (List.not_mem_nil z).elim)
      | some u =>
        rcases cases_ q with ⟨h, _⟩ | ⟨rfl, _, _, rfl⟩
        · exact absurd h nb
        · have e1 := (hok' b _ (un.frzs b _ _ q)).1
          rw [scr] at e; cases e
          exact e1
    have more_ : ∀ b ∈ ts, ∃ more : Array Value, s'.heap.get? b = some { cls := .none, data := .fields more } := fun b hb => by
      obtain ⟨more, z⟩ := un.tbls b #[] (Htab b hb)
      exact ⟨_, hok' b _ z⟩
    refine ⟨rfl, ⟨fun b o e => ?_, fun b o e => ?_⟩, os, bare⟩
    · by_cases hb : b ∈ ts
      · obtain ⟨_, p, hp, rfl⟩ := tabs b hb
        obtain ⟨more, hm⟩ := more_ _ hb
        rw [tE p hp] at e; cases e
        refine .inr (.inl ⟨((tC p hp).tab (tE p hp)).isCodeTable, rfl, #[], more, rfl, ?_⟩)
        rw [Array.empty_append]; exact hm
      · exact .inl (same_ b o hb e)
    · by_cases hb : b ∈ ts
      · obtain ⟨more, hm⟩ := more_ b hb
        exact ⟨_, hm⟩
      · exact ⟨o, same_ b o hb e⟩
end L2.GL
end

section
set_option Elab.async false
set_option linter.all false
set_option maxRecDepth 100000
set_option autoImplicit false
/-! G12: lists: +, *, append. -/
namespace L2.GL
open PySem PySem.Spec PyProof.Rows

/-- an exact list, whatever its slots -/
abbrev lobj (items : Array Value) (n : Nat) (sl : Array (Option Value)) : Obj := { cls := .type "list", dict := none, data := .seq items n, slots := sl }
theorem meets_add (l b : Addr) (items items2 : Array Value) (n n2 : Nat) (sl sl2 : Array (Option Value)) (few : items.size + items2.size ≤ sizeLine) :
    Meets (Builtin.«list.__add__» ⟨[.ref l, .ref b], []⟩) (fun _ R s => s.heap.get? l = some (lobj items n sl) ∧ s.heap.get? b = some (lobj items2 n2 sl2) ∧
      R (.ok (.ret (Value.ref s.heap.objs.size))) { s with heap := s.heap.push { cls := Value.type "list", data := Data.seq (items ++ items2) }, toks := s.toks }) :=
  .of_wp fun prog w A R s h => by
    obtain ⟨hp, g, d, tk, os⟩ := s
    obtain ⟨e1, e2, h⟩ := h
    have f1 := AutoSeq1.idx_int
    have f2 := AutoSeq1.sub_tuple_tuple
    have f3 := AutoSeq1.sub_list_list
    have f4 := AutoSeq1.sub_tuple_list
    have f5 := AutoSeq1.sub_list_tuple
    wp_walk using wpAny_loadPart' e1, wpAny_loadPart' e2
    exact ⟨_, rfl, h⟩
theorem plain_obj {h : Heap} {a : Addr} {its : Array Value} (p : PlainL h a its) : ∃ n sl, h.get? a = some (lobj its n sl) := by
  obtain ⟨⟨c, d, dt, sl⟩, n, e, rfl, rfl, rfl⟩ := p
  exact ⟨n, sl, e⟩
def rCatG (K : PySem.W.Frag) : R2 := fun x y H Q => ∃ l b xs zs, x = .ref l ∧ y = .ref b ∧ SqL K H l xs ∧ SqL K H b zs ∧ xs.length + zs.length ≤ sizeLine ∧ ∀ p, H p = none → Q (.ref p) (upd H p (.lst (xs ++ zs)))
theorem op_catG {X : Cx} : OpR X (binaryOp .Add) (rCatG X.K) := by
  intro pins s σ H x y v u Q I rx ry h
  obtain ⟨l, b, xs, zs, rfl, rfl, h1, h2, hz, q⟩ := h
  cases rx
  cases ry
  obtain ⟨its, r1, p1, z1⟩ := I.list h1
  obtain ⟨its2, r2, p2, z2⟩ := I.list h2
  obtain ⟨n, sl, e1⟩ := plain_obj p1
  obtain ⟨n2, sl2, e2⟩ := plain_obj p2
  have l1 := r1.length
  have l2 := r2.length
  refine concat_meets (T := "list") ⟨_, e1, rfl⟩ ⟨_, e2, rfl⟩ noFill_list_add seq_list_add PySem.F.slot_list_add PySem.F.entry_list_add (PySem.F.args_list_add_2 _ _)
    (meets_add l b its.toArray its2.toArray n n2 sl sl2 (by rw [List.size_toArray, List.size_toArray]; omega)) ⟨e1, e2, ?_⟩
  rw [show its.toArray ++ its2.toArray = (its ++ its2).toArray from by simp]
  exact ⟨.ref _, _, I.lnew (t' := s.toks) (r1.append r2) (by rw [List.length_append]; omega), rfl, q _ I.fresh⟩
theorem meets_rmulL (a : Int) (t : Tok) (l : Addr) (items : Array Value) (n : Nat) (sl : Array (Option Value)) :
    Meets (Builtin.«int.__rmul__» ⟨[.int a t, .ref l], []⟩) (fun _ R s => s.heap.get? l = some (lobj items n sl) ∧ R (.ok (.ret Value.notImplemented)) s) :=
  .of_wp fun prog w A R s h => by
    obtain ⟨hp, g, d, tk, os⟩ := s
    obtain ⟨e1, h⟩ := h
    wp_walk using wpAny_loadPart' e1
    exact ⟨_, rfl, h⟩
theorem meets_mulL (l : Addr) (items : Array Value) (n : Nat) (sl : Array (Option Value)) (x : Int) (u : Tok) (c0 : ¬(!Builtin.List.listFitsIndex x) = true) (c1 : ¬items.size * x.toNat > (2 ^ 63 - 1) / 8) (c2 : ¬Builtin.List.listTooLong (items.size * x.toNat) = true) :
    Meets (Builtin.«list.__mul__» ⟨[.ref l, .int x u], []⟩) (fun _ R s => s.heap.get? l = some (lobj items n sl) ∧
      R (.ok (.ret (Value.ref s.heap.objs.size))) { s with heap := s.heap.push { cls := Value.type "list", data := Data.seq (List.foldl (fun x1 x2 => x1 ++ x2) #[] (List.replicate (if items.isEmpty = true then 0 else x.toNat) items)) }, toks := s.toks }) :=
  .of_wp fun prog w A R s h => by
    obtain ⟨hp, g, d, tk, os⟩ := s
    obtain ⟨e1, h⟩ := h
    have few := AutoListH.joined_fits c2
    wp_walk using wpAny_loadPart' e1
    refine wpAny_ite_false (decide_eq_false (Nat.not_lt.mpr few)) ?_
    wp_walk using wpAny_loadPart' e1
    exact ⟨_, rfl, h⟩
theorem rep_flat (its : List Value) (m : Nat) : List.foldl (fun x1 x2 => x1 ++ x2) #[] (List.replicate (if its.toArray.isEmpty = true then 0 else m) its.toArray) = (List.replicate m its).flatten.toArray := by
  cases its with
  | nil => simp
  | cons a r => rw [if_neg (by simp)]; exact size_rep _ _
def rRepG (K : PySem.W.Frag) : R2 := fun x y H Q => ∃ l k xs, x = .ref l ∧ y = .int k ∧ SqL K H l xs ∧ -(2 ^ 63) ≤ k ∧ k < 2 ^ 63 ∧ xs.length * k.toNat ≤ sizeLine ∧ ∀ p, H p = none → Q (.ref p) (upd H p (.lst (List.replicate k.toNat xs).flatten))
theorem op_repG {X : Cx} : OpR X (binaryOp .Mult) (rRepG X.K) := by
  intro pins s σ H x y v u Q I rx ry h
  obtain ⟨l, k, xs, rfl, rfl, hx, k1, k2, hz, q⟩ := h
  cases rx
  obtain ⟨t, rfl⟩ := ry
  obtain ⟨its, r1, p1, z1⟩ := I.list hx
  obtain ⟨n, sl, e1⟩ := plain_obj p1
  have l1 := r1.length
  have few : its.toArray.size * k.toNat ≤ sizeLine := by rw [List.size_toArray, ← l1]; exact hz
  have cap : ¬ its.toArray.size * k.toNat > (2 ^ 63 - 1) / 8 := by
    have : (sizeLine : Nat) ≤ (2 ^ 63 - 1) / 8 := by decide
    omega
  have fit : ¬ (!Builtin.List.listFitsIndex k) = true := by rw [fitsIndex_both k1 k2]; exact Bool.false_ne_true
  have short : ¬ Builtin.List.listTooLong (its.toArray.size * k.toNat) = true := by rw [notLongL few]; exact Bool.false_ne_true
  refine wpAny_binaryOp_repeat_ref (T := "list") (U := "int") (by decide) ⟨_, e1, rfl⟩ (fun s' => typeIs_int s' k t) noFill_list_mul PySem.F.fills_int_mul PySem.F.slot_int_rmul repeat_list PySem.F.slot_int_index.lookup
    (call_meets PySem.F.slot_int_rmul (typeIs_int s k t) PySem.F.entry_int_rmul (PySem.F.args_int_rmul_2 _ _) (meets_rmulL k t l its.toArray n sl)
      ⟨e1, rfl, ⟨_, e1, rfl⟩, call_meets PySem.F.slot_list_mul ⟨_, e1, rfl⟩ PySem.F.entry_list_mul (PySem.F.args_list_mul_2 _ _) (meets_mulL l its.toArray n sl k t fit cap short) ⟨e1, ?_⟩⟩)
  rw [rep_flat]
  exact ⟨.ref _, _, I.lnew (t' := s.toks) (r1.rep k.toNat) (by rw [PyProof.Rows.lm_len_rep_flat, Nat.mul_comm]; exact hz), rfl, q _ I.fresh⟩

/-! ### as data -/
def D.isL : D → Bool
  | .lst _ => true
  | .cell _ => true
  | _ => false
def opCat (d e : D) : M D := do
  let a ← getL d
  let b ← getL e
  if a.length + b.length ≤ sizeLine then pure (.lst (a ++ b)) else stuck
def opAddL (d e : D) : M D := if d.isL = true then opCat d e else opAdd d e
def opRep (d e : D) : M D := do
  let a ← getL d
  match e with
  | .int k => if -(2 ^ 63) ≤ k ∧ k < 2 ^ 63 ∧ a.length * k.toNat ≤ sizeLine then pure (.lst (List.replicate k.toNat a).flatten) else stuck
  | _ => stuck
def opRepT (d e : D) : M D := match d, e with
  | .tup xs, .int k => if xs ≠ [] ∧ 2 ≤ k ∧ k ≤ 1000 ∧ xs.length ≤ 1000 then pure (.tup (List.replicate k.toNat xs).flatten) else stuck
  | _, _ => stuck
def D.isT : D → Bool
  | .tup _ => true
  | _ => false
def opMulL (d e : D) : M D := if d.isL = true then opRep d e else if d.isT = true then opRepT d e else opMul d e
section
variable {K : PySem.W.Frag} {F : Hp} {ρ : List Addr} {mg : Str → Option Value} {fr : Bool}
theorem DrA.rep {xs : List V} {ds : List D} (r : DrA K F ρ xs ds) : ∀ n : Nat, DrA K F ρ (List.replicate n xs).flatten (List.replicate n ds).flatten
  | 0 => .nil
  | n + 1 => by
    rw [List.replicate_succ, List.replicate_succ, List.flatten_cons, List.flatten_cons]
    exact r.append (DrA.rep r n)
theorem Dr.ref_of_isL {v : V} {d : D} (r : Dr K F ρ v d) (h : d.isL = true) : ∃ a, v = .ref a := by cases r <;> first | exact ⟨_, rfl⟩ | cases h
def rAddL (K : PySem.W.Frag) : R2 := fun x y H Q => rAdd K x y H Q ∨ rCatG K x y H Q
theorem op_addL {X : Cx} : OpR X (binaryOp .Add) (rAddL X.K) := op_addX.or op_catG
theorem o_addL : OpV K mg fr (rAddL K) opAddL := by
  intro T W σ x y d e H F ρ G Q hR rx ry h
  unfold opAddL at h
  split at h
  · refine .inr ?_
    obtain ⟨a, xs, ds, rfl, q1, q2, h⟩ := h.getL hR rx
    obtain ⟨b, ys, es, rfl, q3, q4, h⟩ := h.getL hR ry
    split at h
    · rename_i hz
      exact ⟨a, b, xs, ys, rfl, rfl, q1, q3, by rw [q2.length, q4.length]; exact hz, fun p hp => h.newL hR (q2.append q4) hp⟩
    · exact h.stuck.elim
  · exact .inl (o_add T W σ x y d e H F ρ G Q hR rx ry h)
def rMulL (K : PySem.W.Frag) : R2 := fun x y H Q => (rI (fun i j => bitsOk i j = true) (fun i j => .int (i * j)) x y H Q ∨ rRepT K x y H Q) ∨ rRepG K x y H Q
theorem op_mulL {X : Cx} : OpR X (binaryOp .Mult) (rMulL X.K) := (op_mulX.or op_repT).or op_repG
theorem o_mulL : OpV K mg fr (rMulL K) opMulL := by
  intro T W σ x y d e H F ρ G Q hR rx ry h
  unfold opMulL at h
  split at h
  · refine .inr ?_
    obtain ⟨a, xs, ds, rfl, q1, q2, h⟩ := h.getL hR rx
    cases ry with
    | int k =>
      dsimp only at h
      split at h
      · rename_i hz
        exact ⟨a, k, xs, rfl, rfl, q1, hz.1, hz.2.1, by rw [q2.length]; exact hz.2.2, fun p hp => h.newL hR (q2.rep k.toNat) hp⟩
      · exact h.stuck.elim
    | _ => exact h.stuck.elim
  · refine .inl ?_
    split at h
    · refine .inr ?_
      cases rx with
      | @tup a xs ds q1 q2 =>
        cases ry with
        | int k =>
          rw [show opRepT (.tup ds) (.int k) = if ds ≠ [] ∧ 2 ≤ k ∧ k ≤ 1000 ∧ ds.length ≤ 1000 then pure (.tup (List.replicate k.toNat ds).flatten) else stuck from rfl] at h
          split at h
          · rename_i hz
            refine ⟨a, k, xs, rfl, rfl, Same.tup hR.sub q1, fun z => hz.1 ?_, hz.2.1, hz.2.2.1, by rw [q2.length]; exact hz.2.2.2, fun p hp => h.newT hR (q2.rep k.toNat) hp⟩
            subst z
            cases q2
            rfl
          · exact h.stuck.elim
        | _ => exact h.stuck.elim
      | _ => exact h.stuck.elim
    · exact .inl (o_mul T W σ x y d e H F ρ G Q hR rx ry h)
end

/-! ### append -/
section
variable {X : Cx} {T : List Addr} {W : WX} {pos p apos cpos : Pos} {o e : Expr} {fo fe : EnvD → M D} {gr ge : Bool} {x : Str} {i : Nat}
/-- xs.append(e), xs a name -/
def appM (i : Nat) (fe : EnvD → M D) : EnvD → M D := fun env => do
  let l ← getV i env
  match l with
  | .cell n => do
    let d ← fe env
    fun G => match G[n]? with
      | some ds => if ds.length < sizeLine ∧ d.pure = true then some (.ok .non, G.set n (ds ++ [d])) else none
      | none => none
  | _ => stuck
theorem v_append (hN : X.N[i]? = some x) (hv : Vis X.env.scope x) (he : PV X T W ge e fe) (hd : (x == ("__debug__" : Str)) = false := by decide) (hcd : (x == ("__classdict__" : Str)) = false := by decide)
    (hbase : attributeBase (.Name x p) "append" X.env (eval (.Name x p) X.env) = eval (.Name x p) X.env := by rfl)
    (hfew : ((backTo cpos (starEach [e] X.env)).all (fun x => !x.1) && (backToKw cpos (keywordEach [] X.env)).all (fun x => x.1.isSome) && decide (([e] : List Expr).length + ([] : List Keyword).length + (if ([] : List Keyword).isEmpty then 0 else 1) < 30)) = true := by rfl)
    (hline : (apos.endLine == cpos.line) = true := by rfl) (hs : starEach [e] X.env = (false, eval e X.env) :: starEach [] X.env := by rfl) :
    PV X T W true (.Call (.Attribute (.Name x p) "append" apos) [e] [] cpos) (appM i fe) := by
  have h0 : PV X T W false (.Name x p) (getV i) := v_var hN hv hd hcd
  have h1 : PVs X T W [e] (fun env => do let d ← fe env; pure [d]) := PA.imp (pa_cons he pa_nil hs) fun σ H Q ⟨Φ, F, ρ, G, env, hR, hS, h⟩ => ⟨Φ, F, ρ, G, env, hR, hS, RunA.bind (fr1 := ge) h fun v d H1 F1 ρ1 G1 R1 s1 p1 r1 h1 => h1.pure R1 (.cons r1 .nil)⟩
  refine PE.imp (pe_bm PySem.F.plainAttrs_list PySem.F.slot_list_append PySem.F.type_list_append mt_append h0 h1 hbase hfew hline hs) fun σ H Q ⟨Φ, F, ρ, G, env, hR, hS, h⟩ => ?_
  refine ⟨Φ, F, ρ, G, env, hR, hS, Run.bind (fr := true) h fun xv l H1 F1 ρ1 G1 R1 s1 p1 r1 _ h2 => ?_⟩
  -- the name is a cell
  by_cases hl : ∃ n, l = .cell n
  · obtain ⟨n, rfl⟩ := hl
    cases r1 with
    | @cell a _ hn =>
      obtain ⟨xs, q1⟩ := R1.some_of (List.mem_of_getElem? hn)
      refine ⟨.inl ⟨rfl, xs, .of q1⟩, Φ, F1, ρ1, G1, env, R1, hS.mono s1 p1, ?_⟩
      have h3 : Run X.K ⟨T, Φ⟩ X.mg W σ true F1 ρ1 (fe env >>= fun d G => match G[n]? with
        | some ds => if ds.length < sizeLine ∧ d.pure = true then some (.ok .non, G.set n (ds ++ [d])) else none
        | none => none) G1 Q := h2
      have h4 : RunA X.K ⟨T, Φ⟩ X.mg W σ F1 ρ1 (fe env >>= fun d => (pure [d] : M (List D))) G1 fun vs H2 => rAppend (.ref a) vs H2 Q := by
        obtain ⟨r, G', e, h3⟩ := h3
        rcases bind_parts e with ⟨d, G2, e1, e2⟩ | ⟨c, e1, rfl⟩
        · refine ⟨.ok [d], G2, bind_ok e1, fun vs H2 F2 ρ2 R2 s2 p2 r2 => ?_⟩
          split at e2
          · rename_i ds q2
            split at e2
            · rename_i hz
              cases e2
              obtain ⟨v, rfl, rv⟩ := r2.one
              have hn2 := prefix_get p2 hn
              obtain ⟨ys, q3, q4⟩ := R2.cel n a ds hn2 q2
              exact ⟨a, ys, v, rfl, rfl, q3, by rw [q4.length]; exact hz.1, h3 .non _ F2 ρ2 (R2.setcell hn2 (q4.append (.cons (Dr.anyrho hz.2 rv) .nil))) s2 p2 .non fun _ => .of fun _ z => nomatch z⟩
            · cases e2
          · cases e2
        · exact ⟨.ex c, G', bind_ex e1, h3⟩
      exact h4
  · cases l <;> first | exact h2.stuck.elim | exact absurd ⟨_, rfl⟩ hl
end
end L2.GL
end

section
set_option Elab.async false
set_option linter.all false
set_option maxRecDepth 100000
set_option maxHeartbeats 1000000
set_option autoImplicit false
/-! G13: zip of a list and a tuple in one. -/
namespace L2.GL
open PySem PySem.Spec PyProof.Rows
/-- kd: a list; else a tuple -/
def KSeq (kd : Bool) (h : Heap) (l : Addr) (xs : Array Value) : Prop := if kd = true then h.IsList l xs else h.IsTuple l xs
def KIt (kd : Bool) (h : Heap) (it l : Addr) (i : Nat) : Prop := if kd = true then h.IsListIter it l i else h.IsTupleIter it l i
section
variable {kd : Bool} {h h' : Heap} {it l : Addr} {i : Nat} {xs : Array Value}
theorem KSeq.but (x : KSeq kd h l xs) {b : Addr} (s : Heap.ExtBut b h h') (n : l ≠ b) : KSeq kd h' l xs := by
  cases kd
  · exact Heap.IsTuple.extBut x s n
  · exact Heap.IsList.extBut x s n
theorem KIt.at (x : KIt kd h it l i) (s : ∀ o, h.get? it = some o → h'.get? it = some o) : KIt kd h' it l i := by
  cases kd
  · exact Heap.IsTupleIter.at x s
  · exact Heap.IsListIter.at x s
theorem KIt.but (x : KIt kd h it l i) {b : Addr} (s : Heap.ExtBut b h h') (n : it ≠ b) : KIt kd h' it l i := x.at fun o e => s it o n e
theorem KIt.obj (x : KIt kd h it l i) : ∃ o, h.get? it = some o ∧ ∀ v, o.data ≠ .cell v := by
  cases kd <;> (obtain ⟨o, e, _, d⟩ := x; exact ⟨o, e, fun v z => by rw [d] at z; cases z⟩)
end
section
variable {kd : Bool} {prog : Program} {w : World} {A : Around} {E : Value → Shared → Prop} {s : Shared}
theorem knext_item {it l : Addr} {i : Nat} {xs : Array Value} {x : Value} {Q : Value → Shared → Prop} (hit : KIt kd s.heap it l i) (hl : KSeq kd s.heap l xs) (hx : xs[i]? = some x)
    (hQ : ∀ h', KIt kd h' it l (i + 1) → Heap.SameBut it s.heap h' → Q x { s with heap := h' }) : wpAny (model prog w) A (Builtin.SmallTypes.nextOf (.ref it)) Q E s := by
  cases kd
  · exact RZ.nextOf_tuple_item hit hl hx hQ
  · exact wpAny_nextOf_list_item hit hl hx hQ
theorem knext_end {it l : Addr} {i : Nat} {xs : Array Value} {Q : Value → Shared → Prop} (hh : A.handled = none) (hit : KIt kd s.heap it l i) (hl : KSeq kd s.heap l xs) (hx : xs[i]? = none)
    (hE : ∀ h' e, Heap.ExtBut it s.heap h' → (∃ o, h'.get? e = some o ∧ o.cls = .type "StopIteration") → E (.ref e) { s with heap := h' }) : wpAny (model prog w) A (Builtin.SmallTypes.nextOf (.ref it)) Q E s := by
  cases kd
  · exact RZ.nextOf_tuple_end hh hit hl hx hE
  · exact wpAny_nextOf_list_end hh hit hl hx hE
end
section
variable {kd ke : Bool} {prog : Program} {w : World} {A : Around} {E : Value → Shared → Prop} {s : Shared} {z TI TO i1 i2 l1 l2 : Addr} {k1 k2 : Nat} {xs ys : Array Value} {a b : Value}
/-- the state of a zip object -/
structure ZSt (kd ke : Bool) (h : Heap) (z TI TO i1 i2 l1 l2 : Addr) (k1 k2 : Nat) (xs ys : Array Value) (a b : Value) : Prop where
  zz : IsZip h z TI TO .none
  ti : IsPair h TI (.ref i1) (.ref i2)
  to : IsPair h TO a b
  i1 : KIt kd h i1 l1 k1
  i2 : KIt ke h i2 l2 k2
  l1 : KSeq kd h l1 xs
  l2 : KSeq ke h l2 ys
theorem zipG_item {x y : Value} {Q : Value → Shared → Prop} (D : ZipApart z TI TO i1 i2 l1 l2) (S : ZSt kd ke s.heap z TI TO i1 i2 l1 l2 k1 k2 xs ys a b) (hx : xs[k1]? = some x) (hy : ys[k2]? = some y)
    (hQ : ∀ h', IsZip h' z TI TO (rawInt s.heap.objs.size) → IsPair h' TO x y → KIt kd h' i1 l1 (k1 + 1) → KIt ke h' i2 l2 (k2 + 1) → IsPair h' s.heap.objs.size x y → h'.objs.size = s.heap.objs.size + 1 →
      (∀ c o, c ≠ z → c ≠ TO → c ≠ i1 → c ≠ i2 → s.heap.get? c = some o → h'.get? c = some o) → Q (.ref s.heap.objs.size) { s with heap := h' }) :
    wpAny (model prog w) A (Builtin.«zip.__next__» ⟨[.ref z], []⟩) (fun fin s' => ∃ v, fin = .done (.ret v) ∧ Q v s') E s := by
  obtain ⟨hz, hTI, hTO, h1, h2, hl1, hl2⟩ := S
  show wpAny _ _ (field (.ref z) 2 >>= _) _ _ _
  refine wpAny_bind (wpAny_field hz rfl (x := .bool false) rfl ?_)
  show wpAny _ _ (field (.ref z) 3 >>= _) _ _ _
  refine wpAny_bind (wpAny_field hz rfl (x := .ref TI) rfl (wpAny_bind (wpAny_seqItems hTI rfl ?_)))
  show wpAny _ _ (Builtin.SmallTypes.ownedTupleIsFree (.ref z) >>= _) _ _ _
  unfold Builtin.SmallTypes.ownedTupleIsFree
  refine wpAny_bind (wpAny_bind (wpAny_field hz rfl (x := .none) rfl (wpAny_pure ?_)))
  simp only [if_true]
  refine wpAny_bind (wpAny_rule (wpAny_bind (wpAny_field hz rfl (x := .ref TO) rfl (wpAny_bind (wpAny_setField_rec hz (by simp) fun ha za sa => ?_)))))
  replace za : IsZip ha z TI TO .ellipsis := za
  refine wpAny_bind ?_
  simp only [List.zipIdx_cons, List.zipIdx_nil, List.forIn_cons, List.forIn_nil]
  -- the first
  refine wpAny_bind (wpAny_bind (wpAny_onRaise ?_))
  show wpAny _ _ (Builtin.SmallTypes.nextOf (.ref i1) >>= _) _ _ _
  refine wpAny_bind (knext_item (h1.but sa.extBut D.i1z) (hl1.but sa.extBut D.l1z) hx fun hb b1 sb => wpAny_pure ?_)
  have tb : IsPair hb TO a b := sb.extBut _ _ D.TOi1 (sa.extBut _ _ D.TOz hTO)
  refine wpAny_bind (wpAny_seqItems tb rfl (wpAny_bind (wpAny_updateSeq_pair tb fun hc tc sc => ?_)))
  replace tc : IsPair hc TO x b := tc
  refine wpAny_bind (wpAny_letGo (wpAny_pure ?_))
  -- the second
  refine wpAny_bind (wpAny_bind (wpAny_onRaise ?_))
  show wpAny _ _ (Builtin.SmallTypes.nextOf (.ref i2) >>= _) _ _ _
  refine wpAny_bind (knext_item (((h2.but sa.extBut D.i2z).but sb.extBut D.i12.symm).but sc.extBut D.TOi2.symm) (((hl2.but sa.extBut D.l2z).but sb.extBut D.l2i1).but sc.extBut D.l2TO) hy fun hd d2 sd => wpAny_pure ?_)
  have td : IsPair hd TO x b := sd.extBut _ _ D.TOi2 tc
  refine wpAny_bind (wpAny_seqItems td rfl (wpAny_bind (wpAny_updateSeq_pair td fun he te se => ?_)))
  replace te : IsPair he TO x y := te
  refine wpAny_bind (wpAny_letGo (wpAny_pure (wpAny_pure ?_)))
  refine wpAny_bind (wpAny_seqItems te rfl (wpAny_bind (wpAny_newTuple ?_)))
  have sz : he.objs.size = s.heap.objs.size := by rw [se.1, sd.1, sc.1, sb.1, sa.1]
  have ze : IsZip he z TI TO .ellipsis := se.extBut _ _ D.TOz.symm (sd.extBut _ _ D.i2z.symm (sc.extBut _ _ D.TOz.symm (sb.extBut _ _ D.i1z.symm za)))
  have ke' : ∀ c o, c ≠ z → c ≠ TO → c ≠ i1 → c ≠ i2 → s.heap.get? c = some o → he.get? c = some o := fun c o n1 n2 n3 n4 e =>
    se.extBut _ _ n2 (sd.extBut _ _ n4 (sc.extBut _ _ n2 (sb.extBut _ _ n3 (sa.extBut _ _ n1 e))))
  have e1 : KIt kd he i1 l1 (k1 + 1) := ((b1.but sc.extBut D.TOi1.symm).but sd.extBut D.i12).but se.extBut D.TOi1.symm
  have e2 : KIt ke he i2 l2 (k2 + 1) := d2.but se.extBut D.TOi2.symm
  have zl : z < he.objs.size := Heap.lt_size ze
  show wpAny _ _ (Builtin.SmallTypes.ownedTupleHandOut (.ref z) (.ref he.objs.size) >>= _) _ _ _
  unfold Builtin.SmallTypes.ownedTupleHandOut
  have zf : IsZip (he.push { cls := .type "tuple", data := .seq #[x, y] }) z TI TO .ellipsis := Heap.get?_push_of_some _ ze
  refine wpAny_bind (wpAny_bind (wpAny_setField_rec zf (by simp) fun hg zg sg => ?_))
  replace zg : IsZip hg z TI TO (rawInt he.objs.size) := zg
  refine wpAny_setField_rec zg (by simp) fun hh zh sh => ?_
  replace zh : IsZip hh z TI TO (rawInt he.objs.size) := zh
  have up : ∀ c o, c ≠ z → he.get? c = some o → hh.get? c = some o := fun c o n e => sh.extBut _ _ n (sg.extBut _ _ n (Heap.get?_push_of_some _ e))
  have new : IsPair hh he.objs.size x y := sh.extBut _ _ (Nat.ne_of_gt zl) (sg.extBut _ _ (Nat.ne_of_gt zl) (Heap.get?_push_size _ rfl))
  have szh : hh.objs.size = he.objs.size + 1 := by rw [sh.1, sg.1, Heap.size_push]
  rw [sz] at zh new szh
  refine wpAny_pure ⟨_, rfl, ?_⟩
  show Q (.ref he.objs.size) _
  rw [sz]
  exact hQ hh zh (up _ _ D.TOz te) (e1.at fun o e => up _ o D.i1z e) (e2.at fun o e => up _ o D.i2z e) new szh fun c o n1 n2 n3 n4 e => up c o n1 (ke' c o n1 n2 n3 n4 e)
theorem zipG_end {Q : Fin → Shared → Prop} (hh : A.handled = none) (D : ZipApart z TI TO i1 i2 l1 l2) (S : ZSt kd ke s.heap z TI TO i1 i2 l1 l2 k1 k2 xs ys a b) (stop : xs[k1]? = none ∨ ys[k2]? = none)
    (hE : ∀ h' e, (∀ c o, c ≠ z → c ≠ TO → c ≠ i1 → c ≠ i2 → s.heap.get? c = some o → h'.get? c = some o) → (∃ o, h'.get? e = some o ∧ o.cls = .type "StopIteration") → E (.ref e) { s with heap := h' }) :
    wpAny (model prog w) A (Builtin.«zip.__next__» ⟨[.ref z], []⟩) Q E s := by
  obtain ⟨hz, hTI, hTO, h1, h2, hl1, hl2⟩ := S
  show wpAny _ _ (field (.ref z) 2 >>= _) _ _ _
  refine wpAny_bind (wpAny_field hz rfl (x := .bool false) rfl ?_)
  show wpAny _ _ (field (.ref z) 3 >>= _) _ _ _
  refine wpAny_bind (wpAny_field hz rfl (x := .ref TI) rfl (wpAny_bind (wpAny_seqItems hTI rfl ?_)))
  show wpAny _ _ (Builtin.SmallTypes.ownedTupleIsFree (.ref z) >>= _) _ _ _
  unfold Builtin.SmallTypes.ownedTupleIsFree
  refine wpAny_bind (wpAny_bind (wpAny_field hz rfl (x := .none) rfl (wpAny_pure ?_)))
  simp only [if_true]
  refine wpAny_bind (wpAny_rule (wpAny_bind (wpAny_field hz rfl (x := .ref TO) rfl (wpAny_bind (wpAny_setField_rec hz (by simp) fun ha za sa => ?_)))))
  replace za : IsZip ha z TI TO .ellipsis := za
  refine wpAny_bind ?_
  simp only [List.zipIdx_cons, List.zipIdx_nil, List.forIn_cons, List.forIn_nil]
  refine wpAny_bind (wpAny_bind (wpAny_onRaise ?_))
  show wpAny _ _ (Builtin.SmallTypes.nextOf (.ref i1) >>= _) _ _ _
  cases hx : xs[k1]? with
  | none =>
    refine wpAny_bind (knext_end hh (h1.but sa.extBut D.i1z) (hl1.but sa.extBut D.l1z) hx fun hb e sb st => ?_)
    obtain ⟨oe, e1, e2⟩ := st
    have zb : IsZip hb z TI TO .ellipsis := sb _ _ D.i1z.symm za
    have ne : e ≠ z := fun q => by subst q; rw [zb] at e1; cases e1; simp at e2
    exact wpAny_setField_rec zb (by simp) fun hc _ sc => hE hc e (fun c o n1 n2 n3 n4 q => sc.extBut _ _ n1 (sb _ _ n3 (sa.extBut _ _ n1 q))) ⟨oe, sc.extBut _ _ ne e1, e2⟩
  | some x =>
    have hy : ys[k2]? = none := stop.resolve_left fun q => by rw [hx] at q; cases q
    refine wpAny_bind (knext_item (h1.but sa.extBut D.i1z) (hl1.but sa.extBut D.l1z) hx fun hb b1 sb => wpAny_pure ?_)
    have tb : IsPair hb TO a b := sb.extBut _ _ D.TOi1 (sa.extBut _ _ D.TOz hTO)
    refine wpAny_bind (wpAny_seqItems tb rfl (wpAny_bind (wpAny_updateSeq_pair tb fun hc tc sc => ?_)))
    refine wpAny_bind (wpAny_letGo (wpAny_pure ?_))
    refine wpAny_bind (wpAny_bind (wpAny_onRaise ?_))
    show wpAny _ _ (Builtin.SmallTypes.nextOf (.ref i2) >>= _) _ _ _
    refine wpAny_bind (knext_end hh (((h2.but sa.extBut D.i2z).but sb.extBut D.i12.symm).but sc.extBut D.TOi2.symm) (((hl2.but sa.extBut D.l2z).but sb.extBut D.l2i1).but sc.extBut D.l2TO) hy fun hd e sd st => ?_)
    obtain ⟨oe, e1, e2⟩ := st
    have zd : IsZip hd z TI TO .ellipsis := sd _ _ D.i2z.symm (sc.extBut _ _ D.TOz.symm (sb.extBut _ _ D.i1z.symm za))
    have ne : e ≠ z := fun q => by subst q; rw [zd] at e1; cases e1; simp at e2
    exact wpAny_setField_rec zd (by simp) fun he _ se => hE he e (fun c o n1 n2 n3 n4 q => se.extBut _ _ n1 (sd _ _ n4 (sc.extBut _ _ n2 (sb.extBut _ _ n3 (sa.extBut _ _ n1 q))))) ⟨oe, se.extBut _ _ ne e1, e2⟩
theorem pyNext_zipG {x y : Value} {Q : Option Value → Shared → Prop} (D : ZipApart z TI TO i1 i2 l1 l2) (S : ZSt kd ke s.heap z TI TO i1 i2 l1 l2 k1 k2 xs ys a b) (hx : xs[k1]? = some x) (hy : ys[k2]? = some y)
    (hQ : ∀ h', IsZip h' z TI TO (rawInt s.heap.objs.size) → IsPair h' TO x y → KIt kd h' i1 l1 (k1 + 1) → KIt ke h' i2 l2 (k2 + 1) → IsPair h' s.heap.objs.size x y → h'.objs.size = s.heap.objs.size + 1 →
      (∀ c o, c ≠ z → c ≠ TO → c ≠ i1 → c ≠ i2 → s.heap.get? c = some o → h'.get? c = some o) → Q (some (.ref s.heap.objs.size)) { s with heap := h' }) : wpAny (model prog w) A (pyNext (.ref z)) Q E s := by
  have ty : s.TypeIs (.ref z) "zip" := ⟨_, S.zz, rfl⟩
  unfold pyNext
  exact wpAny_bind (wpAny_attempt (wpAny_callSpecial?_slot (name := Str.ofString "__next__") ty PySem.F.slot_zip_next (wpAny_call_entry PySem.F.slot_zip_next ty PySem.F.entry_zip_next
    (zipG_item D S hx hy fun h' c1 c2 c3 c4 c5 c6 c7 => wpAny_pure (hQ h' c1 c2 c3 c4 c5 c6 c7)) (PySem.F.args_zip_next_1 _))))
theorem pyNext_zipG0 {Q : Option Value → Shared → Prop} (hh : A.handled = none) (D : ZipApart z TI TO i1 i2 l1 l2) (S : ZSt kd ke s.heap z TI TO i1 i2 l1 l2 k1 k2 xs ys a b) (stop : xs[k1]? = none ∨ ys[k2]? = none)
    (hQ : ∀ h', (∀ c o, c ≠ z → c ≠ TO → c ≠ i1 → c ≠ i2 → s.heap.get? c = some o → h'.get? c = some o) → Q none { s with heap := h' }) : wpAny (model prog w) A (pyNext (.ref z)) Q E s := by
  have ty : s.TypeIs (.ref z) "zip" := ⟨_, S.zz, rfl⟩
  unfold pyNext
  refine wpAny_bind (wpAny_attempt (wpAny_callSpecial?_slot (name := Str.ofString "__next__") ty PySem.F.slot_zip_next (wpAny_call_entry PySem.F.slot_zip_next ty PySem.F.entry_zip_next
    (zipG_end hh D S stop fun h' e k st => ?_) (PySem.F.args_zip_next_1 _))))
  obtain ⟨o, e1, e2⟩ := st
  exact wpAny_bind (wpAny_isInstance (T := "StopIteration") (b := true) ⟨o, e1, e2⟩ isSubtype_stop (wpAny_pure (hQ _ k)))
end
/-! ### zip(a, b) made -/
def itO (kd : Bool) (l : Addr) : Obj := { cls := .type (if kd = true then "list_iterator" else "tuple_iterator"), data := .fields #[.ref l, .int 0 0] }
def zh1 (kd : Bool) (h : Heap) (l1 : Addr) : Heap := h.push (itO kd l1)
def zh2 (kd ke : Bool) (h : Heap) (l1 l2 : Addr) : Heap := (zh1 kd h l1).push (itO ke l2)
def zh3 (kd ke : Bool) (h : Heap) (l1 l2 : Addr) : Heap := (zh2 kd ke h l1 l2).push { cls := .type "tuple", data := .seq #[.ref h.objs.size, .ref (zh1 kd h l1).objs.size] }
def zh4 (kd ke : Bool) (h : Heap) (l1 l2 : Addr) : Heap := (zh3 kd ke h l1 l2).push { cls := .type "tuple", data := .seq #[.none, .none] }
def zh5 (kd ke : Bool) (h : Heap) (l1 l2 : Addr) : Heap := (zh4 kd ke h l1 l2).push { cls := .type "zip", data := .fields #[.none, .bool false, .bool false, .ref (zh2 kd ke h l1 l2).objs.size, .ref (zh3 kd ke h l1 l2).objs.size] }
theorem meets_zipLT (l1 l2 : Addr) (xs ys : Array Value) :
    Meets (Builtin.«zip.__new__» ⟨[.type "zip", .ref l1, .ref l2], []⟩) (fun _ R s => s.heap.IsList l1 xs ∧ s.heap.IsTuple l2 ys ∧ R (.ok (.ret (.ref (zh4 true false s.heap l1 l2).objs.size))) { s with heap := zh5 true false s.heap l1 l2 }) :=
  .of_wp fun prog w A R s h => by
    obtain ⟨hp, g, d, tk, os⟩ := s
    obtain ⟨q1, q2, h⟩ := h
    have hsub := sub_zip
    have e1 : Heap.IsList (Shared.heap ⟨hp, g, d, tk, os⟩) l1 xs := q1
    have e2 : Heap.IsTuple (Shared.heap ⟨hp.push { cls := .type "list_iterator", data := .fields #[.ref l1, .int 0 0] }, g, d, tk, os⟩) l2 ys := Heap.IsTuple.push q2 _
    wp_walk using wpAny_pyIter_list e1, wpAny_pyIter_tuple e2
    exact ⟨_, rfl, h⟩
theorem meets_zipTL (l1 l2 : Addr) (xs ys : Array Value) :
    Meets (Builtin.«zip.__new__» ⟨[.type "zip", .ref l1, .ref l2], []⟩) (fun _ R s => s.heap.IsTuple l1 xs ∧ s.heap.IsList l2 ys ∧ R (.ok (.ret (.ref (zh4 false true s.heap l1 l2).objs.size))) { s with heap := zh5 false true s.heap l1 l2 }) :=
  .of_wp fun prog w A R s h => by
    obtain ⟨hp, g, d, tk, os⟩ := s
    obtain ⟨q1, q2, h⟩ := h
    have hsub := sub_zip
    have e1 : Heap.IsTuple (Shared.heap ⟨hp, g, d, tk, os⟩) l1 xs := q1
    have e2 : Heap.IsList (Shared.heap ⟨hp.push { cls := .type "tuple_iterator", data := .fields #[.ref l1, .int 0 0] }, g, d, tk, os⟩) l2 ys := Heap.IsList.push q2 _
    wp_walk using wpAny_pyIter_tuple e1, wpAny_pyIter_list e2
    exact ⟨_, rfl, h⟩
theorem it_new {kd : Bool} {h h' : Heap} {l : Addr} (e : ∀ o, (h.push (itO kd l)).get? h.objs.size = some o → h'.get? h.objs.size = some o) : KIt kd h' h.objs.size l 0 := by
  have q := e _ (Heap.get?_push_size h (by cases kd <;> rfl))
  cases kd
  · exact ⟨_, q, rfl, rfl⟩
  · exact ⟨_, q, rfl, rfl⟩
section
variable {kd ke : Bool} {prog : Program} {w : World} {A : Around} {E : Value → Shared → Prop} {s : Shared} {l1 l2 : Addr} {xs ys : Array Value}
/-- what stands behind the making -/
def ZMade (kd ke : Bool) (l1 l2 : Addr) (s : Shared) (Q : Value → Shared → Prop) : Prop := ∀ h' : Heap, IsZip h' (s.heap.objs.size + 4) (s.heap.objs.size + 2) (s.heap.objs.size + 3) .none → IsPair h' (s.heap.objs.size + 2) (.ref s.heap.objs.size) (.ref (s.heap.objs.size + 1)) →
  IsPair h' (s.heap.objs.size + 3) .none .none → KIt kd h' s.heap.objs.size l1 0 → KIt ke h' (s.heap.objs.size + 1) l2 0 → (∀ c o, s.heap.get? c = some o → h'.get? c = some o) → Q (.ref (s.heap.objs.size + 4)) { s with heap := h' }
theorem zmade_at {Q : Value → Shared → Prop} (h : ZMade kd ke l1 l2 s Q) : Q (.ref (zh4 kd ke s.heap l1 l2).objs.size) { s with heap := zh5 kd ke s.heap l1 l2 } := by
  have z1 : (zh1 kd s.heap l1).objs.size = s.heap.objs.size + 1 := Heap.size_push ..
  have z2 : (zh2 kd ke s.heap l1 l2).objs.size = s.heap.objs.size + 2 := (Heap.size_push ..).trans (by rw [z1])
  have z3 : (zh3 kd ke s.heap l1 l2).objs.size = s.heap.objs.size + 3 := (Heap.size_push ..).trans (by rw [z2])
  have z4 : (zh4 kd ke s.heap l1 l2).objs.size = s.heap.objs.size + 4 := (Heap.size_push ..).trans (by rw [z3])
  have u4 : ∀ c o, (zh4 kd ke s.heap l1 l2).get? c = some o → (zh5 kd ke s.heap l1 l2).get? c = some o := fun c o e => Heap.get?_push_of_some _ e
  have u3 : ∀ c o, (zh3 kd ke s.heap l1 l2).get? c = some o → (zh5 kd ke s.heap l1 l2).get? c = some o := fun c o e => u4 c o (Heap.get?_push_of_some _ e)
  have u2 : ∀ c o, (zh2 kd ke s.heap l1 l2).get? c = some o → (zh5 kd ke s.heap l1 l2).get? c = some o := fun c o e => u3 c o (Heap.get?_push_of_some _ e)
  have u1 : ∀ c o, (zh1 kd s.heap l1).get? c = some o → (zh5 kd ke s.heap l1 l2).get? c = some o := fun c o e => u2 c o (Heap.get?_push_of_some _ e)
  have g5 : (zh5 kd ke s.heap l1 l2).get? (zh4 kd ke s.heap l1 l2).objs.size = some _ := Heap.get?_push_size _ rfl
  have g4 : (zh5 kd ke s.heap l1 l2).get? (zh3 kd ke s.heap l1 l2).objs.size = some _ := u4 _ _ (Heap.get?_push_size _ rfl)
  have g3 : (zh5 kd ke s.heap l1 l2).get? (zh2 kd ke s.heap l1 l2).objs.size = some _ := u3 _ _ (Heap.get?_push_size _ rfl)
  have k2 : KIt ke (zh5 kd ke s.heap l1 l2) (zh1 kd s.heap l1).objs.size l2 0 := it_new fun o e => u2 _ o e
  have k1 : KIt kd (zh5 kd ke s.heap l1 l2) s.heap.objs.size l1 0 := it_new fun o e => u1 _ o e
  rw [z2, z3, z4] at g5
  rw [z1, z2] at g3
  rw [z3] at g4
  rw [z1] at k2
  rw [z4]
  exact h _ g5 g3 g4 k1 k2 fun c o e => u1 c o (Heap.get?_push_of_some _ e)
theorem call_zipG {Q : Value → Shared → Prop} (h1 : KSeq kd s.heap l1 xs) (h2 : KSeq ke s.heap l2 ys) (h : ZMade kd ke l1 l2 s Q) : wpAny (model prog w) A (call (.type "zip") [.ref l1, .ref l2]) Q E s := by
  cases kd <;> cases ke
  · exact RZ.call_zipT h1 h2 fun h' a1 a2 a3 a4 a5 _ a7 => h h' a1 a2 a3 a4 a5 a7
  · exact callType_new PySem.F.called_zip (by decide) (PySem.F.typeCall_zip_2 _ _) (PySem.F.newCall_zip_2 _ _) (fun obj => PySem.F.args_object_init_3 obj _ _) PySem.F.entry_zip_new (meets_zipTL l1 l2 xs ys) ⟨h1, h2, ⟨_, (show (zh5 false true s.heap l1 l2).get? (zh4 false true s.heap l1 l2).objs.size = some _ from Heap.get?_push_size _ rfl), rfl⟩, zmade_at h⟩
  · exact callType_new PySem.F.called_zip (by decide) (PySem.F.typeCall_zip_2 _ _) (PySem.F.newCall_zip_2 _ _) (fun obj => PySem.F.args_object_init_3 obj _ _) PySem.F.entry_zip_new (meets_zipLT l1 l2 xs ys) ⟨h1, h2, ⟨_, (show (zh5 true false s.heap l1 l2).get? (zh4 true false s.heap l1 l2).objs.size = some _ from Heap.get?_push_size _ rfl), rfl⟩, zmade_at h⟩
  · exact call_zip_2 h1 h2 fun h' a1 a2 a3 a4 a5 _ a7 => h h' a1 a2 a3 a4 a5 a7
end

/-! ### the walk -/
def SqK (kd : Bool) (K : PySem.W.Frag) (H : Hp) (a : Addr) (xs : List V) : Prop := if kd = true then SqL K H a xs else SqT K H a xs
theorem SqK.of {kd : Bool} {X : Cx} {pins : List (Addr × Obj)} {σ : L2.St} {H : Hp} {s : Shared} {a : Addr} {xs : List V} (I : Inv X pins σ H s) (h : SqK kd X.K H a xs) : ∃ its : List Value, Vals xs its ∧ KSeq kd s.heap a its.toArray ∧ a < s.heap.objs.size := by
  cases kd
  · obtain ⟨its, r, p, _⟩ := I.tuple h
    obtain ⟨o, e, _⟩ := id p
    exact ⟨its, r, p, Heap.lt_size e⟩
  · obtain ⟨its, r, p, _⟩ := I.list h
    exact ⟨its, r, p.isList, p.lt⟩
theorem SqK.inj {kd : Bool} {X : Cx} {pins : List (Addr × Obj)} {σ : L2.St} {H : Hp} {s : Shared} {a : Addr} {xs ys : List V} (I : Inv X pins σ H s) (h : SqK kd X.K H a xs) (h' : SqK kd X.K H a ys) : xs = ys := by
  cases kd
  · exact I.tuple_inj h h'
  · exact I.list_inj h h'
theorem SqK.mono {kd : Bool} {K : PySem.W.Frag} {F H : Hp} {a : Addr} {xs : List V} (s : Same F H) (h : SqK kd K F a xs) : SqK kd K H a xs := by
  cases kd
  · exact Same.tup s h
  · exact s.seq h
def ItzG (kd ke : Bool) (K : PySem.W.Frag) (a b : Addr) : It :=
  ⟨fun i H => ∃ (xs ys : List V) (x y : V), SqK kd K H a xs ∧ SqK ke K H b ys ∧ xs[i]? = some x ∧ ys[i]? = some y,
    fun i H v H' => ∃ p x y, v = .ref p ∧ H p = none ∧ H' = upd H p (.tup [x, y]) ∧ (∀ xs, SqK kd K H a xs → xs[i]? = some x) ∧ ∀ ys, SqK ke K H b ys → ys[i]? = some y,
    fun i H => ∃ xs ys : List V, SqK kd K H a xs ∧ SqK ke K H b ys ∧ (xs.length ≤ i ∨ ys.length ≤ i)⟩
theorem turn_zipG {kd ke : Bool} {P : Program} {w : World} {K : PySem.W.Frag} {elts : List Expr} {kk : Nat} {tpos : Pos} {a b z TI TO i1 i2 : Addr} (D : ZipApart z TI TO i1 i2 a b) :
    Turn P w K (.Tuple elts kk tpos) (ItzG kd ke K a b) [z, TI, TO, i1, i2] z (fun i h => IsZip h z TI TO .none ∧ IsPair h TI (.ref i1) (.ref i2) ∧ (∃ x y, IsPair h TO x y) ∧ KIt kd h i1 a i ∧ KIt ke h i2 b i) where
  mem := by simp
  obj := fun i h st c hc => by
    obtain ⟨hz, hTI, ⟨x, y, hTO⟩, h1, h2⟩ := st
    have e' : c = z ∨ c = TI ∨ c = TO ∨ c = i1 ∨ c = i2 := by simpa using hc
    rcases e' with q | q | q | q | q
    · rw [q]; exact ⟨_, hz, fun v q => nomatch q⟩
    · rw [q]; exact ⟨_, hTI, fun v q => nomatch q⟩
    · rw [q]; exact ⟨_, hTO, fun v q => nomatch q⟩
    · rw [q]; exact h1.obj
    · rw [q]; exact h2.obj
  keep := fun i h h' st k => by
    obtain ⟨hz, hTI, ⟨x, y, hTO⟩, h1, h2⟩ := st
    exact ⟨k z (by simp) _ hz, k TI (by simp) _ hTI, ⟨x, y, k TO (by simp) _ hTO⟩, h1.at fun o q => k i1 (by simp) o q, h2.at fun o q => k i2 (by simp) o q⟩
  item := by
    intro X hP hw hK hc i pins s σ H E I hf st hg
    subst hP hw hK
    obtain ⟨hz, hTI, ⟨x0, y0, hTO⟩, h1, h2⟩ := st
    obtain ⟨xs, ys, x, y, hqx, hqy, hx, hy⟩ := hg
    obtain ⟨its, rv, p1, _⟩ := hqx.of I
    obtain ⟨its2, rv2, p2, _⟩ := hqy.of I
    obtain ⟨u, hu, ru⟩ := rv.get hx
    obtain ⟨u2, hu2, ru2⟩ := rv2.get hy
    have zl : z < s.heap.objs.size := Heap.lt_size hz
    refine pyNext_zipG D ⟨hz, hTI, hTO, h1, h2, p1, p2⟩ (x := u) (y := u2) (by simpa using hu) (by simpa using hu2) fun h' z' TO' h1' h2' hT hsz hk => ?_
    refine ⟨_, rfl, wpAny_letOwnedTupleGo_zip (s := { s with heap := h' }) z' fun h'' z'' sb => ?_⟩
    have hT2 : h''.get? s.heap.objs.size = some { cls := .type "tuple", data := .seq #[u, u2] } := (sb.2 _ (Nat.ne_of_gt zl)).trans hT
    have new : ObjOk X.prog X.w (upd H s.heap.objs.size (.tup [x, y])) h'' s.heap.objs.size (.tup [x, y]) := ⟨by show 2 ≤ sizeLine; decide, [u, u2], .cons ru (.cons ru2 .nil), ⟨_, hT2, rfl, _, rfl⟩⟩
    have out : ∀ c, c ∉ [z, TI, TO, i1, i2] → c ≠ z ∧ c ≠ TO ∧ c ≠ i1 ∧ c ≠ i2 := fun c hc => by
      simp only [List.mem_cons, List.not_mem_nil, or_false, not_or] at hc
      exact ⟨hc.1, hc.2.2.1, hc.2.2.2.1, hc.2.2.2.2⟩
    have I1 : Inv X pins σ (upd H s.heap.objs.size (.tup [x, y])) { s with heap := h'' } :=
      I.turnedNew (t' := s.toks) (ch := [z, TI, TO, i1, i2]) (fun c o hb q => let n := out c hb; (sb.2 c n.1).trans (hk c o n.1 n.2.1 n.2.2.1 n.2.2.2 q)) hf (Nat.le_refl _) new
    refine ⟨.ref s.heap.objs.size, _, I1, rfl, ⟨_, x, y, rfl, I.hok.fresh (Nat.le_refl _), rfl, fun l hl => by rw [SqK.inj I hl hqx]; exact hx, fun l hl => by rw [SqK.inj I hl hqy]; exact hy⟩, ⟨z'', ?_, ⟨u, u2, ?_⟩, ?_, ?_⟩, fun c hcm => ?_⟩
    · exact (sb.2 _ D.TIz).trans (hk _ _ D.TIz D.TITO D.TIi1 D.TIi2 hTI)
    · exact (sb.2 _ D.TOz).trans TO'
    · exact h1'.at fun o q => (sb.2 _ D.i1z).trans q
    · exact h2'.at fun o q => (sb.2 _ D.i2z).trans q
    · have lt : c < s.heap.objs.size := by
        have e' : c = z ∨ c = TI ∨ c = TO ∨ c = i1 ∨ c = i2 := by simpa using hcm
        rcases e' with q | q | q | q | q
        · rw [q]; exact zl
        · rw [q]; exact Heap.lt_size hTI
        · rw [q]; exact Heap.lt_size hTO
        · rw [q]; obtain ⟨_, e1, _⟩ := h1.obj; exact Heap.lt_size e1
        · rw [q]; obtain ⟨_, e2, _⟩ := h2.obj; exact Heap.lt_size e2
      rw [upd_ne (Nat.ne_of_lt lt)]
      exact (hf c hcm).1
  done := by
    intro X hP hw hK hc i pins s σ H E I hf st hg
    subst hP hw hK
    obtain ⟨hz, hTI, ⟨x0, y0, hTO⟩, h1, h2⟩ := st
    obtain ⟨xs, ys, hqx, hqy, stop⟩ := hg
    obtain ⟨its, rv, p1, _⟩ := hqx.of I
    obtain ⟨its2, rv2, p2, _⟩ := hqy.of I
    have n1 := rv.length
    have n2 := rv2.length
    have he : its.toArray[i]? = none ∨ its2.toArray[i]? = none := stop.imp (fun q => by simp; omega) fun q => by simp; omega
    refine pyNext_zipG0 (I.ok.hd hc) D ⟨hz, hTI, hTO, h1, h2, p1, p2⟩ he fun h' hk => ⟨rfl, I.turnedL (t' := s.toks) (ch := [z, TI, TO, i1, i2]) (fun c o hb q => ?_) hf⟩
    simp only [List.mem_cons, List.not_mem_nil, or_false, not_or] at hb
    exact hk c o hb.1 hb.2.2.1 hb.2.2.2.1 hb.2.2.2.2 q
  self := fun A i s Q E st h => wpAny_pyIter_zip st.1 h
theorem j_zipG {kd ke : Bool} {K : PySem.W.Frag} {T : List Addr} {F : Hp} {ρ : List Addr} {a b : Addr} {xs ys : List V} {ds es : List D} (h : SqK kd K F a xs) (r : DrA K F ρ xs ds) (h2 : SqK ke K F b ys) (r2 : DrA K F ρ ys es) : JOk K T (ItzG kd ke K a b) F ρ (zipD ds es) where
  go := fun Φ i H F' ρ' G' s p hR hi => by
    have n1 := r.length
    have n2 := r2.length
    rw [zipD_length] at hi
    exact ⟨xs, ys, xs[i]'(by omega), ys[i]'(by omega), h.mono (s.trans hR.sub), h2.mono (s.trans hR.sub), List.getElem?_eq_getElem (by omega), List.getElem?_eq_getElem (by omega)⟩
  stop := fun Φ H F' ρ' G' s p hR => by
    have n1 := r.length
    have n2 := r2.length
    refine ⟨xs, ys, h.mono (s.trans hR.sub), h2.mono (s.trans hR.sub), ?_⟩
    rw [zipD_length]
    omega
  yld := fun Φ i H F' ρ' G' v H' d s p hR e y => by
    obtain ⟨q, x, y, rfl, hT, rfl, f1, f2⟩ := y
    obtain ⟨dp, dq, e1, e2, rfl⟩ := zipD_get _ _ _ _ e
    obtain ⟨v1, g1, q1⟩ := r.get e1
    obtain ⟨v2, g2, q2⟩ := r2.get e2
    have z1 := f1 xs (h.mono (s.trans hR.sub))
    have z2 := f2 ys (h2.mono (s.trans hR.sub))
    rw [g1] at z1; cases z1
    rw [g2] at z2; cases z2
    exact pair_new hR hT (q1.mono s p) (q2.mono s p)
/-- zip(..) of lists and tuples -/
def seqK : D → Option (Bool × List D)
  | .lst xs => some (true, xs)
  | .tup xs => some (false, xs)
  | _ => none
def zipGM (ds : List D) : M (List D) := match ds with
  | [d, e] => match seqK d, seqK e with
    | some (_, xs), some (_, ys) => pure (zipD xs ys)
    | _, _ => stuck
  | _ => stuck
theorem seqK_spec {K : PySem.W.Frag} {F : Hp} {ρ : List Addr} {v : V} {d : D} {kd : Bool} {ds : List D} (r : Dr K F ρ v d) (e : seqK d = some (kd, ds)) : ∃ a xs, v = .ref a ∧ SqK kd K F a xs ∧ DrA K F ρ xs ds := by
  cases r with
  | tup h t => cases e; exact ⟨_, _, rfl, h, t⟩
  | lst h t => cases e; exact ⟨_, _, rfl, h, t⟩
  | _ => cases e
section
variable {X : Cx} {T : List Addr} {W : WX} {pos p : Pos} {a b : Expr} {fs : EnvD → M (List D)}
theorem i_zipG {elts : List Expr} {kk : Nat} {tpos : Pos} (hg : Gl X "zip") (hm : X.mg "zip" = none) (ha : PVs X T W [a, b] fs) (hs : starEach [a, b] X.env = (false, eval a X.env) :: starEach [b] X.env := by rfl) (hpl : (backTo pos (starEach [b] X.env)).any (·.1) = false := by rfl) :
    PIV X T W (.Tuple elts kk tpos) (.Call (.Name "zip" p) [a, b] [] pos) (fun env => do let ds ← fs env; zipGM ds) := by
  refine ⟨fun pins s σ H R' I h => ?_⟩
  have h := args_iter (q := fun vs H1 => ∃ u v kd ke xs ys, vs = [.ref u, .ref v] ∧ SqK kd X.K H1 u xs ∧ SqK ke X.K H1 v ys ∧ R' (ItzG kd ke X.K u v) H1) h fun Φ vs ds H1 F1 ρ1 G1 r G' R1 r1 e2 h => by
    unfold zipGM at e2
    split at e2
    · rename_i d e
      have e3 : ∃ kd xs ke ys, seqK d = some (kd, xs) ∧ seqK e = some (ke, ys) ∧ (some (r, G') : Option (Res (List D) × Gh)) = some (.ok (zipD xs ys), G1) := by
        cases q1 : seqK d with
        | none => cases q2 : seqK e <;> (rw [q1, q2] at e2; cases e2)
        | some z1 => cases q2 : seqK e with
          | none => rw [q1, q2] at e2; cases e2
          | some z2 => rw [q1, q2] at e2; exact ⟨_, _, _, _, rfl, rfl, e2.symm⟩
      obtain ⟨kd, xs, ke, ys, q1, q2, e3⟩ := e3
      cases e3
      obtain ⟨v, u, rfl, rv, ru⟩ := r1.two
      obtain ⟨a1, xs', rfl, s1, t1⟩ := seqK_spec rv q1
      obtain ⟨a2, ys', rfl, s2, t2⟩ := seqK_spec ru q2
      exact ⟨a1, a2, kd, ke, xs', ys', rfl, s1.mono R1.sub, s2.mono R1.sub, h _ H1 F1 ρ1 R1 (Same.refl _) (List.prefix_refl _) (j_zipG s1 t1 s2 t2)⟩
    · cases e2
  refine Call_ (ld_blt I hg hm PyProof.Rows.boot_zip (PyProof.Rows.callWith_type1 (thn (ha.run pos pins s σ H _ I h) fun us s1 ⟨vs, H1, I1, r1, u, v, kd, ke, xs, ys, ex, h1, h2, q⟩ => ?_) hs hpl))
  subst ex
  cases r1 with
  | cons r rr =>
    cases rr with
    | cons r' rr =>
      cases rr
      cases r
      cases r'
      obtain ⟨its, rv, p1, lt1⟩ := h1.of I1
      obtain ⟨its2, rv2, p2, lt2⟩ := h2.of I1
      refine call_zipG p1 p2 fun h' hz hTI hTO k1 k2 hk => wpAny_pyIter_zip hz ?_
      have I2 : Inv X pins σ H1 { s1 with heap := h' } := I1.kept (t' := s1.toks) hk
      refine ⟨s1.heap.objs.size + 4, [s1.heap.objs.size + 4, s1.heap.objs.size + 2, s1.heap.objs.size + 3, s1.heap.objs.size, s1.heap.objs.size + 1], _, _, H1, rfl, I2, turn_zipG (PySem.W.ktu_apart s1.heap.objs.size u v lt1 lt2), ⟨hz, hTI, ⟨_, _, hTO⟩, k1, k2⟩, fun c hc => ?_, q⟩
      have le : s1.heap.objs.size ≤ c := by
        have e' : c = s1.heap.objs.size + 4 ∨ c = s1.heap.objs.size + 2 ∨ c = s1.heap.objs.size + 3 ∨ c = s1.heap.objs.size ∨ c = s1.heap.objs.size + 1 := by simpa using hc
        rcases e' with q | q | q | q | q <;> rw [q] <;> first | exact Nat.le_refl _ | exact Nat.le_add_right _ _
      exact I1.fpOk le (I1.hok.fresh le)
end
end L2.GL
end

section
set_option Elab.async false
set_option linter.all false
set_option maxRecDepth 100000
set_option autoImplicit false
/-! G14: short words for derivations; a def by its body; the law. -/
namespace L2.GL
open PySem PySem.Spec PyProof.Rows

section
variable {X : Cx} {T : List Addr} {W : WX} {pos p : Pos}
theorem vn (i : Nat) {x : Str} (hN : X.N[i]? = some x := by rfl) (hv : Vis X.env.scope x := by first | exact Or.inl rfl | exact Or.inr (Or.inl rfl) | exact Or.inr (Or.inr rfl)) (hd : (x == ("__debug__" : Str)) = false := by decide) (hcd : (x == ("__classdict__" : Str)) = false := by decide) :
    PV X T W false (.Name x pos) (getV i) := v_var hN hv hd hcd
theorem gn (i : Nat) {x : Str} (nd : X.N.Nodup) (hN : X.N[i]? = some x := by rfl) (hv : Loc X.env.scope x := by first | exact Or.inl rfl | exact Or.inr rfl) (hf : X.fn x = true ∨ X.env.scope.names.lookup x = some .local := by first | exact .inl rfl | exact .inr rfl) :
    PGV X T [i] (.Name x pos) (gN i) := g_name nd hN hv hf
def LenIs (fs : EnvD → M (List D)) (n : Nat) : Prop := ∀ env G ds G', fs env G = some (.ok ds, G') → ds.length = n
theorem ln : LenIs (fun _ => pure []) 0 := fun env G ds G' e => by cases e; rfl
theorem lc {fa : EnvD → M D} {fs : EnvD → M (List D)} {n : Nat} (h : LenIs fs n) : LenIs (fun env => do let d ← fa env; let ds ← fs env; pure (d :: ds)) (n + 1) := fun env G ds G' e => by
  rcases bind_parts e with ⟨d, G1, e1, e2⟩ | ⟨c, e1, z⟩
  · rcases bind_parts e2 with ⟨es, G2, e3, e4⟩ | ⟨c, e3, z⟩
    · cases e4
      rw [List.length_cons, h env G1 es _ e3]
    · cases z
  · cases z
theorem mkT {es : List Expr} {k : Nat} {fs : EnvD → M (List D)} (h : PVs X T W es fs) (hn : LenIs fs es.length) (hl : es.length ≤ sizeLine := by decide) : PV X T W true (.Tuple es k pos) (fun env => do let ds ← fs env; pure (.tup ds)) := v_tup h hl hn
theorem mkL {es : List Expr} {fs : EnvD → M (List D)} (h : PVs X T W es fs) (hn : LenIs fs es.length) (hl : es.length ≤ sizeLine := by decide) : PV X T W true (.List es pos) (fun env => do let ds ← fs env; pure (.lst ds)) := v_lst h hl hn
end

section
variable {X : Cx} {T : List Addr} {W : WX} {pos p : Pos} {elt tg iter : Expr} {ifs : List Expr} {scope : Scope} {own : List (Str × Nat)} {fi : EnvD → M (List D)} {ft : MT} {us : List Nat} {tt : EnvD → M Bool} {te : EnvD → M D} {fr gr : Bool} {k : Nat}
/-- a block's parts -/
abbrev InBlk (X : Cx) (T : List Addr) (k : Nat) (scope : Scope) (tg elt : Expr) (ifs : List Expr) (us : List Nat) (ft : MT) (tt : EnvD → M Bool) (te : EnvD → M D) (gr : Bool) : Prop :=
  ∀ (s : Shared) (H : Hp) (C : Addr) (cl : List (Str × Addr)) (fp : List Addr), Stand (X.blk s H scope (compEnvC scope cl C X.env) fp) k W0 →
    PGV (X.blk s H scope (compEnvC scope cl C X.env) fp) T us tg ft ∧ PTsV (X.blk s H scope (compEnvC scope cl C X.env) fp) T ifs tt ∧ PV (X.blk s H scope (compEnvC scope cl C X.env) fp) T W0 gr elt te
theorem mkLc (S : Stand X k W) (nd : X.N.Nodup) (hi : PIV X T W tg iter fi) (ok : BlkOk X.N X.env.scope scope own) (hu : ∀ i ∈ us, i ∈ own.map (·.2)) (h : InBlk X T k scope tg elt ifs us ft tt te gr) (hs : ∀ x, foldedSetIterable iter X.env x = pure x := by intro _; rfl) :
    PV X T W true (.ListComp elt [⟨tg, iter, ifs, 0⟩] scope pos) (lcM fi ft tt te (own.map (·.2))) :=
  v_lc S.calm nd hi ok hu (fun s H C cl fp => (h s H C cl fp S.blk).1) (fun s H C cl fp => (h s H C cl fp S.blk).2.1) (fun s H C cl fp => (h s H C cl fp S.blk).2.2) hs
theorem setLc (i : Nat) {y : Str} {py spos : Pos} (S : Stand X k W) (nd : X.N.Nodup) (hy : X.N[i]? = some y) (hyl : X.env.scope.names.lookup y = some .local) (hsw : swapsWith (.ListComp elt [⟨tg, iter, ifs, 0⟩] scope pos) (some (.Name y py)) spos.line X.env = pure true)
    (hi : PIV X T W tg iter fi) (ok : BlkOk X.N X.env.scope scope own) (hu : ∀ i ∈ us, i ∈ own.map (·.2)) (h : InBlk X T k scope tg elt ifs us ft tt te gr) (hs : ∀ x, foldedSetIterable iter X.env x = pure x := by intro _; rfl) :
    PSV X T W (.Assign [.Name y py] (.ListComp elt [⟨tg, iter, ifs, 0⟩] scope pos) spos) (setS i (lcM fi ft tt te (own.map (·.2)))) :=
  s_setLc S.calm nd hy hyl hsw hi ok hu (fun s H C cl fp => (h s H C cl fp S.blk).1) (fun s H C cl fp => (h s H C cl fp S.blk).2.1) (fun s H C cl fp => (h s H C cl fp S.blk).2.2) hs
theorem cellLc (i : Nat) {y : Str} {py spos : Pos} (S : Stand X k W) (nd : X.N.Nodup) (hy : X.N[i]? = some y) (hyl : X.env.scope.names.lookup y = some .local) (hsw : swapsWith (.ListComp elt [⟨tg, iter, ifs, 0⟩] scope pos) (some (.Name y py)) spos.line X.env = pure true)
    (hi : PIV X T W tg iter fi) (ok : BlkOk X.N X.env.scope scope own) (hu : ∀ i ∈ us, i ∈ own.map (·.2)) (h : InBlk X T k scope tg elt ifs us ft tt te gr) (hs : ∀ x, foldedSetIterable iter X.env x = pure x := by intro _; rfl) :
    PSV X T W (.Assign [.Name y py] (.ListComp elt [⟨tg, iter, ifs, 0⟩] scope pos) spos) (cellS i (lcM fi ft tt te (own.map (·.2)))) :=
  s_cellLc S.calm nd hy hyl hsw hi ok hu (fun s H C cl fp => (h s H C cl fp S.blk).1) (fun s H C cl fp => (h s H C cl fp S.blk).2.1) (fun s H C cl fp => (h s H C cl fp S.blk).2.2) hs
end

/-! ### ==, texts as they are -/
def eqX : D → D → M Bool
  | .str a, .str b => pure (decide (a = b))
  | d, e => eqM d e
def neX : D → D → M Bool
  | .str a, .str b => pure (!decide (a = b))
  | d, e => neM d e
section
variable {K : PySem.W.Frag} {mg : Str → Option Value} {fr : Bool}
def rEqX (K : PySem.W.Frag) : R2 := fun x y H Q => rEq x y H Q ∨ rEqD K x y H Q
def rNeX (K : PySem.W.Frag) : R2 := fun x y H Q => rNe x y H Q ∨ rNeD K x y H Q
theorem op_eqX {X : Cx} (hu : X.A.units + 64 < cLine) : OpR X (compareOp .Eq) (rEqX X.K) := op_eq.or (op_eqD hu)
theorem op_neX {X : Cx} (hu : X.A.units + 64 < cLine) : OpR X (compareOp .NotEq) (rNeX X.K) := op_ne.or (op_neD hu)
theorem o_eqX : OpV K mg fr (rEqX K) fun d e => vB (eqX d e) := by
  intro T W σ x y d e H F ρ G Q hR rx ry h
  by_cases hs : (∃ a, d = .str a) ∧ ∃ b, e = .str b
  · obtain ⟨⟨a, rfl⟩, b, rfl⟩ := hs
    cases rx
    cases ry
    refine .inl ⟨rfl, ?_⟩
    rw [show decide (V.str a = V.str b) = decide (a = b) from decide_eq_decide.mpr ⟨fun z => V.str.inj z, fun z => congrArg _ z⟩]
    exact Run.pure (d := .bl (decide (a = b))) h hR (.bl _) fun _ => .of fun _ z => nomatch z
  · have q : eqX d e = eqM d e := by
      cases d <;> first | rfl | (cases e <;> first | rfl | exact absurd ⟨⟨_, rfl⟩, _, rfl⟩ hs)
    refine .inr (o_eq (mg := mg) (fr := fr) T W σ x y d e H F ρ G Q hR rx ry ?_)
    have h : Run K T mg W σ fr F ρ (vB (eqX d e)) G Q := h
    rw [q] at h
    exact h
theorem o_neX : OpV K mg fr (rNeX K) fun d e => vB (neX d e) := by
  intro T W σ x y d e H F ρ G Q hR rx ry h
  by_cases hs : (∃ a, d = .str a) ∧ ∃ b, e = .str b
  · obtain ⟨⟨a, rfl⟩, b, rfl⟩ := hs
    cases rx
    cases ry
    refine .inl ⟨rfl, ?_⟩
    rw [show decide (V.str a = V.str b) = decide (a = b) from decide_eq_decide.mpr ⟨fun z => V.str.inj z, fun z => congrArg _ z⟩]
    exact Run.pure (d := .bl (!decide (a = b))) h hR (.bl _) fun _ => .of fun _ z => nomatch z
  · have q : neX d e = neM d e := by
      cases d <;> first | rfl | (cases e <;> first | rfl | exact absurd ⟨⟨_, rfl⟩, _, rfl⟩ hs)
    refine .inr (o_ne (mg := mg) (fr := fr) T W σ x y d e H F ρ G Q hR rx ry ?_)
    have h : Run K T mg W σ fr F ρ (vB (neX d e)) G Q := h
    rw [q] at h
    exact h
end

section
variable {P : Program} {w : World} {K : PySem.W.Frag} {mg : Str → Option Value} {base : Heap} {T : List Addr} {k : Nat} {fr : Bool}
abbrev FnD (K : PySem.W.Frag) (x : Str) (st : Stmt) (fa : Addr) (fd : FuncData) : Prop := FunD K x x (defArgs st) (defBody st) (defScope st) [] [] fa fd
/-- a def by its body -/
theorem fnG_of {x : Str} {st : Stmt} {fa : Addr} {fd : FuncData} {N ps : List Str} {f : MS} (F : FnD K x st fa fd) (hfa : fa = He.fAd K (x, none)) (S : FnScope N ps (defScope st))
    (hbody : ∀ (cdv : Value) (A : Around) (outer : List Env) (s : Shared) (H : Hp) (E : XK), cdv = .ref (He.codeOf K (x, none)) → Stand (cxG P w K mg base N x (defScope st) fa cdv A outer s H E) k (wG E) →
      PSsV (cxG P w K mg base N x (defScope st) fa cdv A outer s H E) T (wG E) (defBody st) f) : FnG P w K mg base (k + 1) fa fd ps (spG K T mg ps.length fr (defM ps.length N.length fr f)) := by
  obtain ⟨oc, od, dV, kV, doc, pm, an, cdv, ct, osl, rfl, lk, hcd, _, _⟩ := F.ex
  obtain ⟨c, rfl⟩ := He.codeIn_ref hcd
  have hc : Value.ref c = .ref (He.codeOf K (x, none)) := by
    rw [He.codeOf_eq (p := (x, none)) (by rw [← hfa]; exact lk) rfl]
  exact fn_G lk hcd S fun A outer s H E St => hbody _ A outer s H E hc St
theorem cal_of {x : Str} {st : Stmt} {fa : Addr} {fd : FuncData} {N ps : List Str} {f : MS} (F : FnD K x st fa fd) (hfa : fa = He.fAd K (x, none)) (S : FnScope N ps (defScope st))
    (hbind : ∀ (kV doc pm : Value) (an : Option Addr) (cdv ct : Value) (us : List Value), us.length = ps.length → bindArgs (PySem.W.fnOf x x (defArgs st) (defBody st) (defScope st) .none kV doc pm an cdv ct) ⟨us, []⟩ = pure (ps.zip us))
    (hmg : mg x = some (.ref fa))
    (hbody : ∀ (cdv : Value) (A : Around) (outer : List Env) (s : Shared) (H : Hp) (E : XK), cdv = .ref (He.codeOf K (x, none)) → Stand (cxG P w K mg base N x (defScope st) fa cdv A outer s H E) k (wG E) →
      PSsV (cxG P w K mg base N x (defScope st) fa cdv A outer s H E) T (wG E) (defBody st) f) : Cal P w K mg base T (k + 1) x ps.length fr (defM ps.length N.length fr f) :=
  ⟨⟨fa, fd, ps, fnG_of F hfa S hbody, hmg, F.kp, F.bindsN hbind, rfl⟩, fun ds G r h => defM_len h⟩
end
/-- the law's last step -/
theorem law_walk {l : PySem.W.OpenLaw} {q : Program} {loose : List Str} {XP : (Str → Option Value) → Heap → Prop} {YP : World → Heap → Prop} {d : DefRec} {x : Str} {k : Nat} {φ : List D → M D} {fr : Bool} (hn : l.most = some 63) (hdf : d.params.defaults = []) (rm : Room k callerA)
    (F : ∀ (w : World) (mg : Str → Option Value) (fa : Addr) (h : Heap), YP w h → h.Ns mainGlobals mg → mg d.name = some (.ref fa) → ∃ (K : PySem.W.Frag) (cs : List (Addr × Addr)) (fd : FuncData), K.In h ∧ (∀ p ∈ cs, h.get? p.2 = some { cls := .none, data := .fields #[] }) ∧ (∀ p ∈ cs, K.lookup p.2 = none) ∧ (∀ p ∈ cs, PySem.W.CodeHd h p.1 p.2) ∧
      (∀ (s : Shared) (u : Value), BindsTo s fd ⟨[u], []⟩ [(x, u)]) ∧ ∀ base : Heap, K.In base → base.Ns mainGlobals mg → (∀ p ∈ cs, LamX.TabB base mg p.1 p.2) → FnG l.prog w K mg base k fa fd [x] (spG K (cs.map (·.2)) mg 1 fr φ))
    (hφ : ∀ ns : List Int, ns.length ≤ 63 → (∀ z ∈ ns, Builtin.Int.intBits z ≤ 1048576) → ∃ Ge, φ [.lst (ns.map D.int)] [] = some (.ok (.bl true), Ge)) :
    PySem.W.WalkO q loose XP YP l.row.toRowW d [] (fun f vs => PySem.call f vs) := by
  refine Att.attach_callB hn hdf fun w s₀ s₁ mg mb fa o pm cd doc a vs ns G Y ho hd hcd hmg hobj hints hlen hbits hg => ?_
  obtain ⟨K, cs, fd, inK, tE, tK, tC, bind, hF⟩ := F w mg fa _ Y G.T.g hmg
  obtain ⟨Ge, e⟩ := hφ ns hlen hbits
  exact law_end inK G.T.g G.T.b G.T.builtins G.T.nolimit hg tE tK tC G.T.bmain hobj hints (Nat.le_trans hlen (by decide)) rm hF bind e
/-- the def of the law, by its name's object -/
theorem Cal.at {P : Program} {w : World} {K : PySem.W.Frag} {mg : Str → Option Value} {base : Heap} {T : List Addr} {k n : Nat} {x : Str} {fr : Bool} {φ : List D → M D} (c : Cal P w K mg base T k x n fr φ) {fa : Addr} (h : mg x = some (.ref fa)) : ∃ (fd : FuncData) (ps : List Str), FnG P w K mg base k fa fd ps (spG K T mg n fr φ) ∧ ps.length = n := by
  obtain ⟨fa', fd, ps, F, hm, _, _, hn⟩ := c.ex
  rw [h] at hm; cases hm
  exact ⟨fd, ps, F, hn⟩
/-- x is None -/
def isNM (d e : D) : M Bool := match e with
  | .non => pure (isNon d)
  | _ => stuck
theorem o_isNM {K : PySem.W.Frag} {mg : Str → Option Value} {fr : Bool} : OpV K mg fr (fun x y H Q => y = .non ∧ Q (.bl (decide (x = .non))) H) fun d e => vB (isNM d e) := o_isN
end L2.GL
end

section
set_option Elab.async false
set_option linter.all false
set_option maxRecDepth 100000
set_option autoImplicit false
/-! G15: what a run of the data gives. -/
namespace L2.GL
open PySem PySem.Spec PyProof.Rows

def wpM {α : Type} (m : M α) (G : Gh) (Q : α → Gh → Prop) : Prop := ∃ a G', m G = some (.ok a, G') ∧ Q a G'
section
variable {α β : Type} {G : Gh} {Q Q' : α → Gh → Prop}
theorem wpM.mono {m : M α} (h : wpM m G Q) (hq : ∀ a G', Q a G' → Q' a G') : wpM m G Q' := by
  obtain ⟨a, G', e, h⟩ := h
  exact ⟨a, G', e, hq a G' h⟩
@[simp ↓] theorem wpM_pure {a : α} : wpM (pure a) G Q ↔ Q a G := ⟨fun ⟨_, _, e, h⟩ => by cases e; exact h, fun h => ⟨a, G, rfl, h⟩⟩
@[simp ↓] theorem wpM_bind {m : M β} {k : β → M α} : wpM (m >>= k) G Q ↔ wpM m G fun a G1 => wpM (k a) G1 Q := by
  constructor
  · rintro ⟨a, G', e, h⟩
    rcases bind_parts e with ⟨b, G1, e1, e2⟩ | ⟨c, e1, z⟩
    · exact ⟨b, G1, e1, a, G', e2, h⟩
    · cases z
  · rintro ⟨b, G1, e1, a, G', e2, h⟩
    exact ⟨a, G', by rw [bind_ok e1]; exact e2, h⟩
@[simp ↓] theorem wpM_stuck : wpM (stuck : M α) G Q ↔ False := ⟨fun ⟨_, _, e, _⟩ => (nomatch e), False.elim⟩
@[simp ↓] theorem wpM_ite {c : Prop} [Decidable c] {m n : M α} : wpM (if c then m else n) G Q ↔ if c then wpM m G Q else wpM n G Q := by split <;> rfl
theorem wpM_lift {o : Option α} : wpM (liftO o) G Q ↔ ∃ a, o = some a ∧ Q a G := by
  constructor
  · rintro ⟨a, G', e, h⟩
    cases o with
    | none => cases e
    | some b => cases e; exact ⟨_, rfl, h⟩
  · rintro ⟨a, rfl, h⟩
    exact ⟨a, G, rfl, h⟩
end
section
variable {G : Gh} {Q : D → Gh → Prop} {QB : Bool → Gh → Prop}
@[simp ↓] theorem wp_get0 {d : D} {r : EnvD} : wpM (getV 0 (some d :: r)) G Q ↔ Q d G := wpM_pure
@[simp ↓] theorem wp_getS {i : Nat} {o : Option D} {r : EnvD} : wpM (getV (i + 1) (o :: r)) G Q ↔ wpM (getV i r) G Q := by unfold getV; simp only [List.getElem?_cons_succ]
@[simp ↓] theorem wp_vB {m : M Bool} : wpM (vB m) G Q ↔ wpM m G fun b G1 => Q (.bl b) G1 := by unfold vB; simp
@[simp ↓] theorem wp_add {i j : Int} : wpM (opAddL (.int i) (.int j)) G Q ↔ Q (.int (i + j)) G := by unfold opAddL opAdd; simp [D.isL]
@[simp ↓] theorem wp_addT {xs ys : List D} : wpM (opAddL (.tup xs) (.tup ys)) G Q ↔ xs.length + ys.length ≤ sizeLine ∧ Q (.tup (xs ++ ys)) G := by unfold opAddL opAdd; simp [D.isL]
theorem getL_lst {ds : List D} : getL (.lst ds) = pure ds := rfl
theorem getS_lst {ds : List D} : getS (.lst ds) = pure ds := rfl
theorem getS_tup {ds : List D} : getS (.tup ds) = pure ds := rfl
@[simp ↓] theorem wp_addL {xs ys : List D} : wpM (opAddL (.lst xs) (.lst ys)) G Q ↔ xs.length + ys.length ≤ sizeLine ∧ Q (.lst (xs ++ ys)) G := by unfold opAddL opCat; simp [D.isL, getL_lst]
@[simp ↓] theorem wp_sub {i j : Int} : wpM (opSub (.int i) (.int j)) G Q ↔ Q (.int (i - j)) G := by unfold opSub; simp
@[simp ↓] theorem wp_mul {i j : Int} : wpM (opMulL (.int i) (.int j)) G Q ↔ bitsOk i j = true ∧ Q (.int (i * j)) G := by unfold opMulL opMul; simp [D.isL, D.isT]
@[simp ↓] theorem wp_rep {xs : List D} {k : Int} : wpM (opMulL (.lst xs) (.int k)) G Q ↔ (-(2 ^ 63) ≤ k ∧ k < 2 ^ 63 ∧ xs.length * k.toNat ≤ sizeLine) ∧ Q (.lst (List.replicate k.toNat xs).flatten) G := by unfold opMulL opRep; simp [D.isL, getL_lst]
@[simp ↓] theorem wp_repT {xs : List D} {k : Int} : wpM (opMulL (.tup xs) (.int k)) G Q ↔ (xs ≠ [] ∧ 2 ≤ k ∧ k ≤ 1000 ∧ xs.length ≤ 1000) ∧ Q (.tup (List.replicate k.toNat xs).flatten) G := by unfold opMulL opRepT; simp [D.isL, D.isT]
@[simp ↓] theorem wp_div {i j : Int} : wpM (opDiv (.int i) (.int j)) G Q ↔ (j ≠ 0 ∧ j.natAbs.log2 < 9000) ∧ Q (.int (i.fdiv j)) G := by
  unfold opDiv
  by_cases h : j = 0 <;> simp [h]
@[simp ↓] theorem wp_mod {i j : Int} : wpM (opMod (.int i) (.int j)) G Q ↔ j ≠ 0 ∧ Q (.int (i.fmod j)) G := by
  unfold opMod
  by_cases h : j = 0 <;> simp [h]
@[simp ↓] theorem wp_pow {i j : Int} : wpM (opPow (.int i) (.int j)) G Q ↔ (0 ≤ j ∧ j ≤ 1000000 ∧ i.natAbs < 2 ^ 64) ∧ Q (.int (i ^ j.toNat)) G := by unfold opPow; simp
@[simp ↓] theorem wp_neg {i : Int} : wpM (opNeg (.int i)) G Q ↔ Q (.int (-i)) G := wpM_pure
@[simp ↓] theorem wp_cmp {p : Int → Int → Bool} {i j : Int} : wpM (cInt p (.int i) (.int j)) G QB ↔ QB (p i j) G := wpM_pure
@[simp ↓] theorem wp_eqI {i j : Int} : wpM (eqX (.int i) (.int j)) G QB ↔ QB (decide (i = j)) G := by
  have e : eqX (.int i) (.int j) = pure (decide (i = j)) := by
    funext G
    show (if SeqAt.shaped (.int i) = true ∧ SeqAt.shaped (.int j) = true then some (Res.ok (i == j), G) else none) = some (Res.ok (decide (i = j)), G)
    rw [if_pos ⟨rfl, rfl⟩]
    rfl
  rw [e]; simp
@[simp ↓] theorem wp_neI {i j : Int} : wpM (neX (.int i) (.int j)) G QB ↔ QB (!decide (i = j)) G := by
  have e : neX (.int i) (.int j) = (do let b ← eqX (.int i) (.int j); pure (!b)) := rfl
  rw [e]; simp
@[simp ↓] theorem wp_eqS {i j : Str} : wpM (eqX (.str i) (.str j)) G QB ↔ QB (decide (i = j)) G := wpM_pure
@[simp ↓] theorem wp_neS {i j : Str} : wpM (neX (.str i) (.str j)) G QB ↔ QB (!decide (i = j)) G := wpM_pure
@[simp ↓] theorem wp_truth {b : Bool} : wpM (truth (.bl b)) G QB ↔ QB b G := wpM_pure
@[simp ↓] theorem wp_not {m : M Bool} : wpM (notM m) G QB ↔ wpM m G fun b G1 => QB (!b) G1 := by unfold notM; simp
@[simp ↓] theorem wp_and {m n : M Bool} : wpM (andM m n) G QB ↔ wpM m G fun b G1 => if b = true then wpM n G1 QB else QB false G1 := by unfold andM; simp
@[simp ↓] theorem wp_or {m n : M Bool} : wpM (orM m n) G QB ↔ wpM m G fun b G1 => if b = true then QB true G1 else wpM n G1 QB := by unfold orM; simp
@[simp ↓] theorem wp_andV {m n : M D} {Q : D → Gh → Prop} : wpM (andV m n) G Q ↔ wpM m G fun d G1 => match d with | .bl true => wpM n G1 Q | .bl false => Q (.bl false) G1 | _ => False := by
  unfold andV
  rw [wpM_bind]
  constructor
  · exact fun h => h.mono fun d G' h => by cases d with
      | bl b => cases b <;> simpa using h
      | _ => simpa using h
  · exact fun h => h.mono fun d G' h => by cases d with
      | bl b => cases b <;> simpa using h
      | _ => exact h.elim
@[simp ↓] theorem wp_notV {m : M D} {Q : D → Gh → Prop} : wpM (notV m) G Q ↔ wpM m G fun d G1 => match d with | .bl b => Q (.bl (!b)) G1 | _ => False := by
  unfold notV
  rw [wpM_bind]
  constructor
  · exact fun h => h.mono fun d G' h => by cases d with
      | bl b => simpa using h
      | _ => simpa using h
  · exact fun h => h.mono fun d G' h => by cases d with
      | bl b => simpa using h
      | _ => exact h.elim
@[simp ↓] theorem wp_lenT {ds : List D} : wpM (fLen [.tup ds]) G Q ↔ Q (.int ds.length) G := by unfold fLen; simp [getS_tup]
@[simp ↓] theorem wp_lenL {ds : List D} : wpM (fLen [.lst ds]) G Q ↔ Q (.int ds.length) G := by unfold fLen; simp [getS_lst]
@[simp ↓] theorem wp_abs {i : Int} : wpM (fAbs [.int i]) G Q ↔ Q (.int i.natAbs) G := by
  have e : (if i < 0 then -i else i) = (i.natAbs : Int) := by split <;> omega
  show wpM (pure (.int (if i < 0 then -i else i))) G Q ↔ _
  rw [e]; simp
@[simp ↓] theorem wp_max {i j : Int} : wpM (fMax2 [.int i, .int j]) G Q ↔ Q (.int (if j > i then j else i)) G := wpM_pure
@[simp ↓] theorem wp_min {i j : Int} : wpM (fMin2 [.int i, .int j]) G Q ↔ Q (.int (if j < i then j else i)) G := wpM_pure
@[simp ↓] theorem wp_tupT {ds : List D} : wpM (fTuple [.tup ds]) G Q ↔ Q (.tup ds) G := wpM_pure
@[simp ↓] theorem wp_tupL {ds : List D} : wpM (fTuple [.lst ds]) G Q ↔ Q (.tup ds) G := by unfold fTuple; simp [getL_lst]
theorem wp_tupC {n : Nat} {ds : List D} (h : G[n]? = some ds) : wpM (fTuple [.cell n]) G Q ↔ Q (.tup ds) G := by
  unfold fTuple
  have e : wpM (getL (.cell n)) G (fun ds G1 => wpM (pure (D.tup ds)) G1 Q) ↔ Q (.tup ds) G := by
    constructor
    · rintro ⟨a, G', e, z⟩
      unfold getL at e
      dsimp only at e
      rw [h] at e
      cases e
      simpa using z
    · exact fun z => ⟨ds, G, by unfold getL; dsimp only; rw [h], by simpa using z⟩
  simpa using e
@[simp ↓] theorem wp_divmod {i j : Int} : wpM (fDivmod [.int i, .int j]) G Q ↔ (j ≠ 0 ∧ j.natAbs.log2 < 9000) ∧ Q (.tup [.int (i.fdiv j), .int (i.fmod j)]) G := by
  unfold fDivmod
  by_cases h : j = 0 <;> simp [h]
theorem isi_eq {d : D} {a n : String} {b : Bool} (h : tyName d = some a) (h2 : isiT a n = some b) : wpM (fIsi [d, .ty n]) G Q ↔ Q (.bl b) G := by
  unfold fIsi
  simp only [h, h2, wpM_pure]
@[simp ↓] theorem wp_isi_int_int {i : Int} : wpM (fIsi [.int i, .ty "int"]) G Q ↔ Q (.bl true) G := isi_eq rfl (by decide +kernel)
@[simp ↓] theorem wp_isi_int_bool {i : Int} : wpM (fIsi [.int i, .ty "bool"]) G Q ↔ Q (.bl false) G := isi_eq rfl (by decide +kernel)
@[simp ↓] theorem wp_isi_tup {ds : List D} : wpM (fIsi [.tup ds, .ty "tuple"]) G Q ↔ Q (.bl true) G := isi_eq rfl (by decide +kernel)
@[simp ↓] theorem wp_ixT {ds : List D} {k : Int} : wpM (ixM (.tup ds) (.int k)) G Q ↔ wpM (liftO (atI ds k)) G Q := by
  rw [show ixM (.tup ds) (.int k) = (getS (.tup ds) >>= fun ds => liftO (atI ds k)) from rfl, getS_tup]
  simp
@[simp ↓] theorem wp_ixL {ds : List D} {k : Int} : wpM (ixM (.lst ds) (.int k)) G Q ↔ wpM (liftO (atI ds k)) G Q := by
  rw [show ixM (.lst ds) (.int k) = (getS (.lst ds) >>= fun ds => liftO (atI ds k)) from rfl, getS_lst]
  simp
@[simp ↓] theorem wp_slT {ds : List D} {l u : Option Int} : wpM (slM (.tup ds) l u) G Q ↔ Q (.tup (cutD ds l u)) G := wpM_pure
@[simp ↓] theorem wp_asI {i : Int} {QO : Option Int → Gh → Prop} : wpM (asI (.int i)) G QO ↔ QO (some i) G := wpM_pure
end
theorem atI_nat {α : Type} {xs : List α} {k : Nat} {a : α} (h : xs[k]? = some a) : atI xs (k : Int) = some a := by
  have hl : k < xs.length := (List.getElem?_eq_some_iff.mp h).1
  unfold atI ixN
  rw [if_pos (by omega), if_pos (by omega)]
  simpa using h
@[simp] theorem atI_0 {α : Type} {a : α} {xs : List α} : atI (a :: xs) 0 = some a := atI_nat (k := 0) rfl
@[simp] theorem atI_1 {α : Type} {a b : α} {xs : List α} : atI (a :: b :: xs) 1 = some b := atI_nat (k := 1) rfl
@[simp] theorem atI_2 {α : Type} {a b c : α} {xs : List α} : atI (a :: b :: c :: xs) 2 = some c := atI_nat (k := 2) rfl

/-- what follows is looked at when it is come to -/
theorem wpM_congr {α : Type} {m m' : M α} {G G' : Gh} {Q : α → Gh → Prop} (h : m = m') (h2 : G = G') : wpM m G Q = wpM m' G' Q := by rw [h, h2]
/-! ### statements -/
structure K4 where
  nx : EnvD → Gh → Prop
  rt : D → Bool → Gh → Prop
  bk : EnvD → Gh → Prop := fun _ _ => False
  ct : EnvD → Gh → Prop := fun _ _ => False
def K4.thn (k : K4) (n : EnvD → Gh → Prop) : K4 := { k with nx := n }
def K4.lp (k : K4) (n : EnvD → Gh → Prop) : K4 := { k with nx := n, ct := n, bk := k.nx }
theorem thn_congr {k : K4} {n : EnvD → Gh → Prop} : k.thn n = k.thn n := rfl
theorem lp_congr {k : K4} {n : EnvD → Gh → Prop} : k.lp n = k.lp n := rfl
theorem mk_congr {a b c : EnvD → Gh → Prop} {r : D → Bool → Gh → Prop} : K4.mk a r b c = K4.mk a r b c := rfl
section
variable {k : K4} {n : EnvD → Gh → Prop}
@[simp ↓] theorem thn_nx : (k.thn n).nx = n := rfl
@[simp ↓] theorem thn_rt : (k.thn n).rt = k.rt := rfl
@[simp ↓] theorem thn_bk : (k.thn n).bk = k.bk := rfl
@[simp ↓] theorem thn_ct : (k.thn n).ct = k.ct := rfl
@[simp ↓] theorem lp_nx : (k.lp n).nx = n := rfl
@[simp ↓] theorem lp_rt : (k.lp n).rt = k.rt := rfl
@[simp ↓] theorem lp_bk : (k.lp n).bk = k.nx := rfl
@[simp ↓] theorem lp_ct : (k.lp n).ct = n := rfl
end
def wpR (r : RO) (k : K4) : Prop := ∃ o G', r = some (o, G') ∧ match o with
  | .nx e => k.nx e G'
  | .ret d fr => k.rt d fr G'
  | .bk e => k.bk e G'
  | .ct e => k.ct e G'
  | .ex _ _ => False
def wpS (f : MS) (env : EnvD) (G : Gh) (k : K4) : Prop := wpR (f env G) k
theorem wpR.mono {r : RO} {k k' : K4} (h : wpR r k) (h1 : ∀ e G, k.nx e G → k'.nx e G) (h2 : ∀ d f G, k.rt d f G → k'.rt d f G) (h3 : ∀ e G, k.bk e G → k'.bk e G) (h4 : ∀ e G, k.ct e G → k'.ct e G) : wpR r k' := by
  obtain ⟨o, G', e, h⟩ := h
  refine ⟨o, G', e, ?_⟩
  cases o with
  | nx e => exact h1 _ _ h
  | ret d f => exact h2 _ _ _ h
  | bk e => exact h3 _ _ h
  | ct e => exact h4 _ _ h
  | ex _ _ => exact h
theorem wpR_runE {α : Type} {m : M α} {env : EnvD} {k : α → Gh → RO} {G : Gh} {q : K4} : wpR (runE m env k G) q ↔ wpM m G fun a G1 => wpR (k a G1) q := by
  constructor
  · rintro ⟨o, G', e, h⟩
    rcases runE_parts e with ⟨a, G1, e1, e2⟩ | ⟨c, e1, e2⟩
    · exact ⟨a, G1, e1, o, G', e2, h⟩
    · obtain rfl : o = .ex c env := e2
      exact h.elim
  · rintro ⟨a, G1, e1, o, G', e2, h⟩
    refine ⟨o, G', ?_, h⟩
    unfold runE
    rw [e1]
    exact e2
section
variable {env : EnvD} {G : Gh} {k : K4} {f g : MS} {fe : EnvD → M D} {i : Nat}
@[simp ↓] theorem wpR_nx {e : EnvD} : wpR (some (.nx e, G)) k ↔ k.nx e G := ⟨fun ⟨_, _, e, h⟩ => by cases e; exact h, fun h => ⟨_, _, rfl, h⟩⟩
@[simp ↓] theorem wpR_ret {d : D} {b : Bool} : wpR (some (.ret d b, G)) k ↔ k.rt d b G := ⟨fun ⟨_, _, e, h⟩ => by cases e; exact h, fun h => ⟨_, _, rfl, h⟩⟩
@[simp ↓] theorem wpR_none : wpR none k ↔ False := ⟨fun ⟨_, _, e, _⟩ => (nomatch e), False.elim⟩
@[simp ↓] theorem wpS_seq : wpS (seqS f g) env G k ↔ wpS f env G (k.thn fun e G1 => wpS g e G1 k) := by
  unfold wpS seqS K4.thn
  cases q : f env G with
  | none => simp
  | some r =>
    obtain ⟨o, G1⟩ := r
    constructor
    · intro h
      refine ⟨o, G1, rfl, ?_⟩
      cases o with
      | nx e => exact h
      | ret d b => obtain ⟨_, _, z, h⟩ := h; cases z; exact h
      | bk e => obtain ⟨_, _, z, h⟩ := h; cases z; exact h
      | ct e => obtain ⟨_, _, z, h⟩ := h; cases z; exact h
      | ex c e => obtain ⟨_, _, z, h⟩ := h; cases z; exact h
    · rintro ⟨o', G', e, h⟩
      cases e
      cases o with
      | nx e => exact h
      | ret d b => exact ⟨_, _, rfl, h⟩
      | bk e => exact ⟨_, _, rfl, h⟩
      | ct e => exact ⟨_, _, rfl, h⟩
      | ex c e => exact h.elim
@[simp ↓] theorem wpS_skip : wpS skipS env G k ↔ k.nx env G := wpR_nx
@[simp ↓] theorem wpS_ret {b : Bool} : wpS (retS fe b) env G k ↔ wpM (fe env) G fun d G1 => k.rt d b G1 := by unfold wpS retS; rw [wpR_runE]; simp
@[simp ↓] theorem wpS_if {c : EnvD → M Bool} : wpS (ifS c f g) env G k ↔ wpM (c env) G fun b G1 => if b = true then wpS f env G1 k else wpS g env G1 k := by
  unfold wpS ifS
  rw [wpR_runE]
  constructor <;> exact fun h => h.mono fun b G' h => by cases b <;> simpa using h
@[simp ↓] theorem wpS_drop : wpS (dropS fe) env G k ↔ wpM (fe env) G fun _ G1 => k.nx env G1 := by unfold wpS dropS; rw [wpR_runE]; simp
@[simp ↓] theorem wpS_set : wpS (setS i fe) env G k ↔ wpM (fe env) G fun d G1 => k.nx (env.set i (some d)) G1 := by unfold wpS setS; rw [wpR_runE]; simp
theorem wpS_cell : wpS (cellS i fe) env G k ↔ wpM (fe env) G fun d G1 => match d with
    | .lst ds => D.pureA ds = true ∧ k.nx (env.set i (some (.cell G1.length))) (G1 ++ [ds])
    | d => k.nx (env.set i (some d)) G1 := by
  unfold wpS cellS
  rw [wpR_runE]
  constructor
  · exact fun h => h.mono fun d G' h => by cases d with
      | lst ds =>
        dsimp only at h
        split at h
        · exact ⟨by assumption, by simpa using h⟩
        · simp at h
      | _ => simpa using h
  · exact fun h => h.mono fun d G' h => by cases d with
      | lst ds => dsimp only at h ⊢; rw [if_pos h.1]; simpa using h.2
      | _ => simpa using h
@[simp ↓] theorem wpS_par {j : Nat} {fs : EnvD → M (List D)} : wpS (parS i j fs) env G k ↔ wpM (fs env) G fun ds G1 => match ds with
    | [d, e] => k.nx ((env.set i (some d)).set j (some e)) G1
    | _ => False := by
  unfold wpS parS
  rw [wpR_runE]
  constructor
  · exact fun h => h.mono fun ds G' h => by
      match ds, h with
      | [], h => simpa using h
      | [_], h => simpa using h
      | [_, _], h => simpa using h
      | _ :: _ :: _ :: _, h => simpa using h
  · exact fun h => h.mono fun ds G' h => by
      match ds, h with
      | [_, _], h => simpa using h
@[simp ↓] theorem wpS_never : wpS (fun _ _ => none) env G k ↔ False := wpR_none
/-- targets -/
def wpT (f : MT) (d : D) (env : EnvD) (G : Gh) (Q : EnvD → Gh → Prop) : Prop := ∃ e G', f d env G = some (e, G') ∧ Q e G'
def wpTs (f : MTs) (ds : List D) (env : EnvD) (G : Gh) (Q : EnvD → Gh → Prop) : Prop := ∃ e G', f ds env G = some (e, G') ∧ Q e G'
variable {Q : EnvD → Gh → Prop} {d : D} {ds : List D}
@[simp ↓] theorem wpT_name : wpT (gN i) d env G Q ↔ Q (env.set i (some d)) G := ⟨fun ⟨_, _, e, h⟩ => by cases e; exact h, fun h => ⟨_, _, rfl, h⟩⟩
@[simp ↓] theorem wpT_tup {n : Nat} {f : MTs} : wpT (gT n f) (.tup ds) env G Q ↔ ds.length = n ∧ wpTs f ds env G Q := by
  unfold wpT wpTs gT
  dsimp only
  split <;> simp [*]
@[simp ↓] theorem wpT_lst {n : Nat} {f : MTs} : wpT (gT n f) (.lst ds) env G Q ↔ ds.length = n ∧ wpTs f ds env G Q := by
  unfold wpT wpTs gT
  dsimp only
  split <;> simp [*]
@[simp ↓] theorem wpTs_nil : wpTs gs0 [] env G Q ↔ Q env G := ⟨fun ⟨_, _, e, h⟩ => by cases e; exact h, fun h => ⟨_, _, rfl, h⟩⟩
@[simp ↓] theorem wpTs_cons {f : MT} {g : MTs} : wpTs (gs1 f g) (d :: ds) env G Q ↔ wpT f d env G fun e G1 => wpTs g ds e G1 Q := by
  unfold wpTs gs1 wpT
  dsimp only
  cases q : f d env G with
  | none => simp
  | some r =>
    obtain ⟨e, G1⟩ := r
    exact ⟨fun h => ⟨e, G1, rfl, h⟩, fun ⟨_, _, z, h⟩ => by cases z; exact h⟩
@[simp ↓] theorem wpS_asg {ft : MT} : wpS (asgS fe ft) env G k ↔ wpM (fe env) G fun d G1 => wpT ft d env G1 k.nx := by
  unfold wpS asgS
  rw [wpR_runE]
  constructor
  · exact fun h => h.mono fun d G' h => by
      unfold wpT
      cases q : ft d env G' with
      | none => rw [q] at h; simp at h
      | some r => obtain ⟨e, G1⟩ := r; rw [q] at h; exact ⟨e, G1, rfl, by simpa using h⟩
  · exact fun h => h.mono fun d G' ⟨e, G1, q, h⟩ => by rw [q]; simpa using h
/-- loops -/
def wpF (ft : MT) (body : MS) (ds : List D) (env : EnvD) (G : Gh) (k : K4) : Prop := wpR (forL ft body ds env G) k
@[simp ↓] theorem wpS_for {fi : EnvD → M (List D)} {ft : MT} {body : MS} : wpS (forS fi ft body) env G k ↔ wpM (fi env) G fun ds G1 => wpF ft body ds env G1 k := by unfold wpS forS wpF; rw [wpR_runE]
@[simp ↓] theorem wpF_nil {ft : MT} {body : MS} : wpF ft body [] env G k ↔ k.nx env G := wpR_nx
@[simp ↓] theorem wpF_cons {ft : MT} {body : MS} : wpF ft body (d :: ds) env G k ↔ wpT ft d env G fun e G1 => wpS body e G1 (k.lp fun e G => wpF ft body ds e G k) := by
  unfold wpF wpT wpS K4.lp
  rw [show forL ft body (d :: ds) env G = (match ft d env G with
    | none => none
    | some (e1, G1) => match body e1 G1 with
      | some (.nx e2, G2) => forL ft body ds e2 G2
      | some (.ct e2, G2) => forL ft body ds e2 G2
      | some (.bk e2, G2) => some (.nx e2, G2)
      | r => r) from rfl]
  cases q : ft d env G with
  | none => simp
  | some r =>
    obtain ⟨e1, G1⟩ := r
    dsimp only
    cases q2 : body e1 G1 with
    | none => exact ⟨fun h => (wpR_none.mp h).elim, fun ⟨_, _, z, h⟩ => by cases z; rw [q2] at h; exact (wpR_none.mp h).elim⟩
    | some r2 =>
      obtain ⟨o, G2⟩ := r2
      have key : wpR (match (some (o, G2) : RO) with
          | some (.nx e2, G2) => forL ft body ds e2 G2
          | some (.ct e2, G2) => forL ft body ds e2 G2
          | some (.bk e2, G2) => some (.nx e2, G2)
          | r => r) k ↔ wpR (some (o, G2)) { k with nx := fun e G => wpR (forL ft body ds e G) k, ct := fun e G => wpR (forL ft body ds e G) k, bk := k.nx } := by
        cases o with
        | nx e => simp
        | ret d b => simp
        | bk e => exact ⟨fun h => ⟨_, _, rfl, by simpa using h⟩, fun ⟨_, _, z, h⟩ => by cases z; simpa using h⟩
        | ct e => exact ⟨fun h => ⟨_, _, rfl, h⟩, fun ⟨_, _, z, h⟩ => by cases z; exact h⟩
        | ex c e => exact ⟨fun ⟨_, _, z, h⟩ => by cases z; exact h.elim, fun ⟨_, _, z, h⟩ => by cases z; exact h.elim⟩
      constructor
      · exact fun h => ⟨e1, G1, rfl, by rw [q2]; exact key.mp h⟩
      · rintro ⟨e', G', z, h⟩
        cases z
        rw [q2] at h
        exact key.mpr h
/-- comprehensions -/
def wpC (ft : MT) (tt : EnvD → M Bool) (te : EnvD → M D) (env : EnvD) (ds acc : List D) (G : Gh) (Q : List D → Gh → Prop) : Prop := ∃ r G', lcL ft tt te env ds acc G = some (r, G') ∧ Q r G'
@[simp ↓] theorem wp_lc {fi : EnvD → M (List D)} {ft : MT} {tt : EnvD → M Bool} {te : EnvD → M D} {vs : List Nat} {Q : D → Gh → Prop} : wpM (lcM fi ft tt te vs env) G Q ↔ wpM (fi env) G fun ds G1 => wpC ft tt te (wipeE env vs) ds [] G1 fun r G2 => Q (.lst r) G2 := by
  unfold lcM
  rw [wpM_bind]
  constructor
  · exact fun h => h.mono fun ds G1 ⟨a, G', e, h⟩ => by
      dsimp only at e
      cases q : lcL ft tt te (wipeE env vs) ds [] G1 with
      | none => rw [q] at e; cases e
      | some r => obtain ⟨r, G2⟩ := r; rw [q] at e; cases e; exact ⟨r, _, q, h⟩
  · exact fun h => h.mono fun ds G1 ⟨r, G', e, h⟩ => ⟨.lst r, G', by dsimp only; rw [e], h⟩
section
variable {ft : MT} {tt : EnvD → M Bool} {te : EnvD → M D} {acc : List D} {QL : List D → Gh → Prop}
@[simp ↓] theorem wpC_nil : wpC ft tt te env [] acc G QL ↔ QL acc G := ⟨fun ⟨_, _, e, h⟩ => by cases e; exact h, fun h => ⟨_, _, rfl, h⟩⟩
@[simp ↓] theorem wpC_cons : wpC ft tt te env (d :: ds) acc G QL ↔ wpT ft d env G fun e G1 => wpM (tt e) G1 fun b G2 => if b = true then wpM (te e) G2 fun y G3 => acc.length < sizeLine ∧ wpC ft tt te env ds (acc ++ [y]) G3 QL else wpC ft tt te env ds acc G2 QL := by
  unfold wpC wpT
  constructor
  · rintro ⟨r, G', e, h⟩
    unfold lcL at e
    split at e
    · cases e
    rename_i e1 G1 q1
    refine ⟨e1, G1, q1, ?_⟩
    split at e
    rotate_left
    · cases e
    rename_i b G2 q2
    refine ⟨b, G2, q2, ?_⟩
    cases b with
    | false => exact ⟨r, G', by simpa using e, h⟩
    | true =>
      simp only [if_true] at e ⊢
      split at e
      rotate_left
      · cases e
      rename_i y G3 q3
      split at e
      · rename_i hz
        exact ⟨y, G3, q3, hz, r, G', e, h⟩
      · cases e
  · rintro ⟨e1, G1, q1, b, G2, q2, h⟩
    cases b with
    | false =>
      obtain ⟨r, G', e, h⟩ := h
      exact ⟨r, G', by unfold lcL; rw [q1]; dsimp only; rw [q2]; simpa using e, h⟩
    | true =>
      obtain ⟨y, G3, q3, hz, r, G', e, h⟩ := h
      exact ⟨r, G', by unfold lcL; rw [q1]; dsimp only; rw [q2]; dsimp only; rw [q3]; simp only [if_true]; rw [if_pos hz]; exact e, h⟩
end
/-- all -/
def wpA (stop : Bool) (ft : MT) (tt : EnvD → M Bool) (te : EnvD → M D) (env : EnvD) (ds : List D) (G : Gh) (Q : Bool → Gh → Prop) : Prop := ∃ r G', allL stop ft tt te env ds G = some (r, G') ∧ Q r G'
@[simp ↓] theorem wp_all {stop : Bool} {fi : EnvD → M (List D)} {ft : MT} {tt : EnvD → M Bool} {te : EnvD → M D} {vs : List Nat} {Q : D → Gh → Prop} : wpM (allM stop fi ft tt te vs env) G Q ↔ wpM (fi env) G fun ds G1 => wpA stop ft tt te (wipeE env vs) ds G1 fun r G2 => Q (.bl r) G2 := by
  unfold allM
  rw [wpM_bind]
  constructor
  · exact fun h => h.mono fun ds G1 ⟨a, G', e, h⟩ => by
      dsimp only at e
      cases q : allL stop ft tt te (wipeE env vs) ds G1 with
      | none => rw [q] at e; cases e
      | some r => obtain ⟨r, G2⟩ := r; rw [q] at e; cases e; exact ⟨r, _, q, h⟩
  · exact fun h => h.mono fun ds G1 ⟨r, G', e, h⟩ => ⟨.bl r, G', by dsimp only; rw [e], h⟩
section
variable {stop : Bool} {ft : MT} {tt : EnvD → M Bool} {te : EnvD → M D} {QB : Bool → Gh → Prop}
@[simp ↓] theorem wpA_nil : wpA stop ft tt te env [] G QB ↔ QB (!stop) G := ⟨fun ⟨_, _, e, h⟩ => by cases e; exact h, fun h => ⟨_, _, rfl, h⟩⟩
@[simp ↓] theorem wpA_cons : wpA stop ft tt te env (d :: ds) G QB ↔ wpT ft d env G fun e G1 => wpM (tt e) G1 fun b G2 => if b = true then wpM (te e) G2 fun y G3 => (match y with
    | .bl y => if y = stop then QB stop G3 else wpA stop ft tt te env ds G3 QB
    | _ => False) else wpA stop ft tt te env ds G2 QB := by
  unfold wpA wpT
  constructor
  · rintro ⟨r, G', e, h⟩
    unfold allL at e
    split at e
    · cases e
    rename_i e1 G1 q1
    refine ⟨e1, G1, q1, ?_⟩
    split at e
    rotate_left
    · cases e
    rename_i b G2 q2
    refine ⟨b, G2, q2, ?_⟩
    cases b with
    | false => exact ⟨r, G', by simpa using e, h⟩
    | true =>
      simp only [if_true] at e ⊢
      split at e
      rotate_left
      · cases e
      rename_i y G3 q3
      refine ⟨.bl y, G3, q3, ?_⟩
      dsimp only
      split at e
      · rename_i hs
        rw [if_pos hs]
        cases e
        exact h
      · rename_i hs
        rw [if_neg hs]
        exact ⟨r, G', e, h⟩
  · rintro ⟨e1, G1, q1, b, G2, q2, h⟩
    cases b with
    | false =>
      obtain ⟨r, G', e, h⟩ := h
      exact ⟨r, G', by unfold allL; rw [q1]; dsimp only; rw [q2]; simpa using e, h⟩
    | true =>
      obtain ⟨y, G3, q3, h⟩ := h
      cases y with
      | bl y =>
        dsimp only at h
        split at h
        · rename_i hs
          exact ⟨stop, G3, by unfold allL; rw [q1]; dsimp only; rw [q2]; dsimp only; rw [q3]; simp only [if_true]; rw [if_pos hs], h⟩
        · rename_i hs
          obtain ⟨r, G', e, h⟩ := h
          exact ⟨r, G', by unfold allL; rw [q1]; dsimp only; rw [q2]; dsimp only; rw [q3]; simp only [if_true]; rw [if_neg hs]; exact e, h⟩
      | _ => exact h.elim
end
end
/-! ### defs -/
theorem wp_def {m n : Nat} {fr : Bool} {f : MS} {ds : List D} {G : Gh} {Q : D → Gh → Prop} : wpM (defM m n fr f ds) G Q ↔ ds.length = m ∧ wpS f (ds.map some ++ List.replicate (n - ds.length) none) G
    { nx := fun _ G' => Q .non (G'.take G.length), rt := fun d f' G' => match d with
      | .lst es => ¬ (fr = true ∧ f' = false) ∧ Q (D.conv G.length G' (.lst es)) (G'.take G.length)
      | d => Q (D.conv G.length G' d) (G'.take G.length) } := by
  constructor
  · rintro ⟨a, G1, e, h⟩
    have hm := defM_len e
    refine ⟨hm, ?_⟩
    unfold defM at e
    rw [if_pos hm] at e
    unfold wpS wpR
    split at e
    · rename_i q; cases e; exact ⟨_, _, q, h⟩
    · rename_i d f' G' q
      refine ⟨_, _, q, ?_⟩
      dsimp only
      split at e
      · split at e
        · cases e
        · rename_i hn; cases e; exact ⟨hn, h⟩
      · cases e
        cases d <;> first | exact h | (rename_i hd; exact absurd rfl (hd _))
    · cases e
    · cases e
  · rintro ⟨hm, o, G', q, h⟩
    have e0 : defM m n fr f ds G = (match f (ds.map some ++ List.replicate (n - ds.length) none) G with
      | some (.nx _, G') => some (.ok .non, G'.take G.length)
      | some (.ret d f', G') => match d with
        | .lst es => if fr = true ∧ f' = false then none else some (.ok (D.conv G.length G' (.lst es)), G'.take G.length)
        | d => some (.ok (D.conv G.length G' d), G'.take G.length)
      | some (.ex c _, G') => some (.ex c, G'.take G.length)
      | _ => none) := if_pos hm
    unfold wpM
    rw [e0, q]
    cases o with
    | nx e => exact ⟨_, _, rfl, h⟩
    | ret d f' =>
      dsimp only at h ⊢
      cases d with
      | lst es => exact ⟨_, _, if_neg h.1, h.2⟩
      | _ => exact ⟨_, _, rfl, h⟩
    | bk e => exact h.elim
    | ct e => exact h.elim
    | ex c e => exact h.elim
@[simp] theorem conv_int {k : Nat} {G : Gh} {i : Int} : D.conv k G (.int i) = .int i := by simp [D.conv]
@[simp] theorem conv_bl {k : Nat} {G : Gh} {i : Bool} : D.conv k G (.bl i) = .bl i := by simp [D.conv]
@[simp] theorem conv_non {k : Nat} {G : Gh} : D.conv k G .non = .non := by simp [D.conv]
@[simp] theorem conv_str {k : Nat} {G : Gh} {x : Str} : D.conv k G (.str x) = .str x := by simp [D.conv]
@[simp] theorem conv_tup {k : Nat} {G : Gh} {ds : List D} : D.conv k G (.tup ds) = .tup (D.convA k G ds) := by simp [D.conv]
@[simp] theorem conv_lst {k : Nat} {G : Gh} {ds : List D} : D.conv k G (.lst ds) = .lst (D.convA k G ds) := by simp [D.conv]
@[simp] theorem convA_nil {k : Nat} {G : Gh} : D.convA k G [] = [] := by simp [D.convA]
@[simp] theorem convA_cons {k : Nat} {G : Gh} {d : D} {ds : List D} : D.convA k G (d :: ds) = D.conv k G d :: D.convA k G ds := by simp [D.convA]
@[simp] theorem convA_ints {k : Nat} {G : Gh} : ∀ xs : List Int, D.convA k G (xs.map D.int) = xs.map D.int
  | [] => by simp
  | x :: xs => by simp [convA_ints xs]
@[simp] theorem szl : sizeLine = 16777216 := sizeLine_eq
section
variable {G : Gh} {QL : List D → Gh → Prop} {QB : Bool → Gh → Prop} {Q : D → Gh → Prop}
@[simp ↓] theorem wp_walkT {ds : List D} : wpM (walkM (.tup ds)) G QL ↔ QL ds G := wpM_pure
@[simp ↓] theorem wp_walkL {ds : List D} : wpM (walkM (.lst ds)) G QL ↔ QL ds G := wpM_pure
@[simp ↓] theorem wp_rng1 {n : Int} : wpM (rng1 [.int n]) G QL ↔ (-(2 ^ 62) ≤ n ∧ n < 2 ^ 62) ∧ QL (rangeD 0 n.toNat) G := by unfold rng1; simp
@[simp ↓] theorem wp_rng2 {m n : Int} : wpM (rng2 [.int m, .int n]) G QL ↔ (-(2 ^ 62) ≤ m ∧ m < 2 ^ 62 ∧ -(2 ^ 62) ≤ n ∧ n < 2 ^ 62) ∧ QL (rangeD m (n - m).toNat) G := by unfold rng2; simp
@[simp ↓] theorem wp_zTT {xs ys : List D} : wpM (zipGM [.tup xs, .tup ys]) G QL ↔ QL (zipD xs ys) G := wpM_pure
@[simp ↓] theorem wp_zTL {xs ys : List D} : wpM (zipGM [.tup xs, .lst ys]) G QL ↔ QL (zipD xs ys) G := wpM_pure
@[simp ↓] theorem wp_zLT {xs ys : List D} : wpM (zipGM [.lst xs, .tup ys]) G QL ↔ QL (zipD xs ys) G := wpM_pure
@[simp ↓] theorem wp_zLL {xs ys : List D} : wpM (zipGM [.lst xs, .lst ys]) G QL ↔ QL (zipD xs ys) G := wpM_pure
@[simp] theorem rangeD_zero {m : Int} : rangeD m 0 = [] := rfl
@[simp] theorem rangeD_succ {m : Int} {n : Nat} : rangeD m (n + 1) = .int m :: rangeD (m + 1) n := by
  unfold rangeD
  rw [List.range_succ_eq_map, List.map_cons, List.map_map]
  simp only [Int.natCast_zero, Int.add_zero, List.cons.injEq, true_and]
  apply List.map_congr_left
  intro i _
  simp only [Function.comp]
  congr 1
  omega
@[simp] theorem zipD_nil {ys : List D} : zipD [] ys = [] := rfl
@[simp] theorem zipD_nil2 {xs : List D} : zipD xs [] = [] := by cases xs <;> rfl
@[simp] theorem zipD_cons {x y : D} {xs ys : List D} : zipD (x :: xs) (y :: ys) = .tup [x, y] :: zipD xs ys := rfl
@[simp ↓] theorem wp_inT {d : D} {ds : List D} : wpM (inM d (.tup ds)) G QB ↔ (flatD d = true ∧ ds.all flatD = true) ∧ QB (ds.any fun y => eqF y d) G := by unfold inM; simp [getS_tup]
@[simp ↓] theorem wp_notInT {d : D} {ds : List D} : wpM (notInM d (.tup ds)) G QB ↔ (flatD d = true ∧ ds.all flatD = true) ∧ QB (!ds.any fun y => eqF y d) G := by unfold notInM; simp [getS_tup]
@[simp] theorem flat_int {i : Int} : flatD (.int i) = true := rfl
@[simp] theorem flat_str {i : Str} : flatD (.str i) = true := rfl
@[simp] theorem eqF_int {i j : Int} : eqF (.int i) (.int j) = decide (i = j) := rfl
/-- the sum of ints -/
theorem intsOf_map : ∀ ns : List Int, intsOf (ns.map D.int) = some ns
  | [] => rfl
  | n :: ns => by
    have := intsOf_map ns
    simp only [List.map_cons]
    unfold intsOf
    rw [this]
theorem wp_sum {ds : List D} {ns : List Int} (h : intsOf ds = some ns) : wpM (fSum [.lst ds]) G Q ↔ Q (.int ns.sum) G := by
  unfold fSum getI
  simp [getL_lst, h]
end
theorem wpS_congr {f : MS} {e e' : EnvD} {G G' : Gh} {k : K4} (h : e = e') (h2 : G = G') : wpS f e G k = wpS f e' G' k := by rw [h, h2]
theorem wpT_congr {f : MT} {d d' : D} {e e' : EnvD} {G G' : Gh} {Q : EnvD → Gh → Prop} (h0 : d = d') (h : e = e') (h2 : G = G') : wpT f d e G Q = wpT f d' e' G' Q := by rw [h0, h, h2]
theorem wpTs_congr {f : MTs} {d d' : List D} {e e' : EnvD} {G G' : Gh} {Q : EnvD → Gh → Prop} (h0 : d = d') (h : e = e') (h2 : G = G') : wpTs f d e G Q = wpTs f d' e' G' Q := by rw [h0, h, h2]
theorem wpF_congr {ft : MT} {b : MS} {d d' : List D} {e e' : EnvD} {G G' : Gh} {k : K4} (h0 : d = d') (h : e = e') (h2 : G = G') : wpF ft b d e G k = wpF ft b d' e' G' k := by rw [h0, h, h2]
theorem wpC_congr {ft : MT} {tt : EnvD → M Bool} {te : EnvD → M D} {e e' : EnvD} {d d' a a' : List D} {G G' : Gh} {Q : List D → Gh → Prop} (h : e = e') (h0 : d = d') (h1 : a = a') (h2 : G = G') : wpC ft tt te e d a G Q = wpC ft tt te e' d' a' G' Q := by rw [h, h0, h1, h2]
theorem wpA_congr {stop : Bool} {ft : MT} {tt : EnvD → M Bool} {te : EnvD → M D} {e e' : EnvD} {d d' : List D} {G G' : Gh} {Q : Bool → Gh → Prop} (h : e = e') (h0 : d = d') (h2 : G = G') : wpA stop ft tt te e d G Q = wpA stop ft tt te e' d' G' Q := by rw [h, h0, h2]
@[simp ↓] theorem wp_isN {d : D} {G : Gh} {QB : Bool → Gh → Prop} : wpM (isNM d .non) G QB ↔ QB (isNon d) G := wpM_pure
@[simp ↓] theorem wp_isNotN {d : D} {G : Gh} {QB : Bool → Gh → Prop} : wpM (isNotM d .non) G QB ↔ QB (!isNon d) G := wpM_pure
@[simp] theorem isNon_non : isNon .non = true := rfl
@[simp] theorem isNon_tup {ds : List D} : isNon (.tup ds) = false := rfl
@[simp] theorem isNon_int {i : Int} : isNon (.int i) = false := rfl
end L2.GL
end

section
set_option Elab.async false
set_option linter.all false
set_option maxRecDepth 100000
set_option autoImplicit false
/-! G16: tuples one ahead of the other; all([...]); while. -/
namespace L2.GL
open PySem PySem.Spec PyProof.Rows
def ltX : D → D → M Bool
  | .int i, .int j => pure (decide (i < j))
  | .tup a, .tup b => do let ns ← liftO (intsOf a); let ms ← liftO (intsOf b); pure (HT.lexLt ns ms)
  | _, _ => stuck
def rLtX (K : PySem.W.Frag) : R2 := fun x y H Q => rI0 (fun i j => .bl (decide (i < j))) x y H Q ∨ rLtT K x y H Q
section
variable {K : PySem.W.Frag} {mg : Str → Option Value} {fr : Bool}
theorem op_ltX {X : Cx} (hu : X.A.units + 64 < cLine) : OpR X (compareOp .Lt) (rLtX X.K) := op_lt.or (op_ltT (by omega))
theorem ltX_tup {a b : List D} : ltX (.tup a) (.tup b) = (do let ns ← liftO (intsOf a); let ms ← liftO (intsOf b); pure (HT.lexLt ns ms)) := rfl
theorem o_ltX : OpV K mg fr (rLtX K) fun d e => vB (ltX d e) := by
  intro T W σ x y d e H F ρ G Q hR rx ry h
  have no : ∀ {P : Prop}, Run K T mg W σ fr F ρ (vB stuck) G Q → P := fun z => by
    obtain ⟨r, G', e, _⟩ := z
    cases e
  cases rx with
  | int i =>
    cases ry with
    | int j => exact .inl ⟨i, j, rfl, rfl, Run.pure (d := .bl (decide (i < j))) h hR (.bl _) fun _ => .of fun _ z => nomatch z⟩
    | _ => exact no h
  | @tup a xs ds hx tx =>
    cases ry with
    | @tup b ys es hy ty =>
      cases h1 : intsOf ds with
      | none =>
        have : ltX (.tup ds) (.tup es) = stuck := by rw [ltX_tup, h1]; rfl
        have h : Run K T mg W σ fr F ρ (vB (ltX (.tup ds) (.tup es))) G Q := h
        rw [this] at h
        exact no h
      | some ns =>
        cases h2 : intsOf es with
        | none =>
          have : ltX (.tup ds) (.tup es) = stuck := by rw [ltX_tup, h1, h2]; rfl
          have h : Run K T mg W σ fr F ρ (vB (ltX (.tup ds) (.tup es))) G Q := h
          rw [this] at h
          exact no h
        | some ms =>
          have : ltX (.tup ds) (.tup es) = pure (HT.lexLt ns ms) := by rw [ltX_tup, h1, h2]; rfl
          have h : Run K T mg W σ fr F ρ (vB (ltX (.tup ds) (.tup es))) G Q := h
          rw [this] at h
          refine .inr ⟨a, b, ns, ms, rfl, rfl, by rw [← intsOf_V h1 tx]; exact Same.tup hR.sub hx, by rw [← intsOf_V h2 ty]; exact Same.tup hR.sub hy, ?_⟩
          exact Run.pure (d := .bl (HT.lexLt ns ms)) h hR (.bl _) fun _ => .of fun _ z => nomatch z
    | _ => exact no h
  | _ => exact no h
def blsOf : List D → Option (List Bool)
  | [] => some []
  | .bl i :: ds => match blsOf ds with
    | some ns => some (i :: ns)
    | none => none
  | _ :: _ => none
theorem blsOf_V {F : Hp} {ρ : List Addr} : ∀ {ds : List D} {ns : List Bool} {vs : List V}, blsOf ds = some ns → DrA K F ρ vs ds → vs = ns.map V.bl
  | [], ns, vs, e, r => by cases e; cases r; rfl
  | d :: ds, ns, vs, e, r => by
    unfold blsOf at e
    cases r with
    | cons r t =>
      cases r with
      | bl i =>
        dsimp only at e
        split at e
        · rename_i ns' q
          cases e
          rw [blsOf_V q t]
          rfl
        · cases e
      | _ => cases e
def fAll : List D → M D
  | [d] => do let ds ← getL d; let bs ← liftO (blsOf ds); pure (.bl (bs.all id))
  | _ => stuck
theorem call_allX {X : Cx} (hc : X.calm = true) : CallR X (.builtin "all") (rAll X.K) := cr_all hc
theorem s_all : CallV K mg fr (rAll K) fAll := by
  intro T W σ vs ds H F ρ G Q hR rs h
  match ds, rs, h with
  | [], rs, h => exact h.stuck.elim
  | [d], rs, h =>
    obtain ⟨v, rfl, r⟩ := rs.one
    obtain ⟨a, xs, ds, rfl, q2, q3, q4⟩ := Run.getL (k := fun ds => liftO (blsOf ds) >>= fun bs => (Pure.pure (D.bl (bs.all id)) : M D)) h hR r
    cases hi : blsOf ds with
    | none => rw [hi] at q4; obtain ⟨r', G', e', _⟩ := q4; cases e'
    | some ns =>
      rw [hi] at q4
      refine ⟨a, ns, rfl, by rw [← blsOf_V hi q3]; exact q2, ?_⟩
      exact Run.pure (d := .bl (ns.all id)) q4 hR (.bl _) fun _ => .of fun _ z => nomatch z
  | d :: e :: r, rs, h => exact h.stuck.elim
end
section
variable {G : Gh} {Q : D → Gh → Prop} {QB : Bool → Gh → Prop}
theorem intsOf_cons {i : Int} {ds : List D} {ns : List Int} (h : intsOf ds = some ns) : intsOf (.int i :: ds) = some (i :: ns) := by unfold intsOf; rw [h]
@[simp ↓] theorem wp_ltI {i j : Int} : wpM (ltX (.int i) (.int j)) G QB ↔ QB (decide (i < j)) G := wpM_pure
theorem wp_ltT {a b : List D} {ns ms : List Int} (h : intsOf a = some ns) (h2 : intsOf b = some ms) : wpM (ltX (.tup a) (.tup b)) G QB ↔ QB (HT.lexLt ns ms) G := by
  have : ltX (.tup a) (.tup b) = pure (HT.lexLt ns ms) := by rw [ltX_tup, h, h2]; rfl
  rw [this]; exact wpM_pure
theorem wp_allL {ds : List D} {bs : List Bool} (h : blsOf ds = some bs) : wpM (fAll [.lst ds]) G Q ↔ Q (.bl (bs.all id)) G := by
  unfold fAll
  rw [wpM_bind, getL_lst, wpM_pure, wpM_bind, h, liftO_some, wpM_pure, wpM_pure]
@[simp ↓] theorem wp_all0 : wpM (fAll [.lst []]) G Q ↔ Q (.bl true) G := by rw [wp_allL (bs := []) rfl]; simp
@[simp ↓] theorem wp_all2 {a b : Bool} : wpM (fAll [.lst [.bl a, .bl b]]) G Q ↔ Q (.bl (a && b)) G := by rw [wp_allL (bs := [a, b]) rfl]; simp
@[simp ↓] theorem wp_all3 {a b c : Bool} : wpM (fAll [.lst [.bl a, .bl b, .bl c]]) G Q ↔ Q (.bl (a && (b && c))) G := by rw [wp_allL (bs := [a, b, c]) rfl]; simp
end
theorem whN_ok {c : EnvD → M Bool} {body : MS} {n : Nat} {env : EnvD} {G G1 : Gh} {b : Bool} (e : c env G = some (.ok b, G1)) :
    whN c body (n + 1) env G = if b = true then (match body env G1 with
      | some (.nx e2, G2) => whN c body n e2 G2
      | some (.ct e2, G2) => whN c body n e2 G2
      | some (.bk e2, G2) => some (.nx e2, G2)
      | r => r) else some (.nx env, G1) := by
  conv => lhs; unfold whN
  unfold runE
  rw [e] <;> rfl
/-- a loop with something that grows less: a lap keeps I, and μ is less each time -/
theorem wpS_while {c : EnvD → M Bool} {body : MS} {k : K4} (I : EnvD → Gh → Prop) (μ : EnvD → Gh → Nat)
    (h : ∀ env G, I env G → wpM (c env) G fun b G1 => if b = true then wpS body env G1 { nx := fun e G2 => I e G2 ∧ μ e G2 < μ env G, ct := fun e G2 => I e G2 ∧ μ e G2 < μ env G, bk := k.nx, rt := k.rt } else k.nx env G1)
    {env : EnvD} {G : Gh} (i : I env G) : wpS (whS c body) env G k := by
  have key : ∀ (n : Nat) (env : EnvD) (G : Gh), I env G → μ env G < n → ∃ m r, whN c body m env G = some r ∧ wpR (some r) k := by
    intro n
    induction n with
    | zero => intro env G i hn; omega
    | succ n ih =>
      intro env G i hn
      obtain ⟨b, G1, e, q⟩ := h env G i
      cases b with
      | false => exact ⟨1, (.nx env, G1), by rw [whN_ok e]; rfl, wpR_nx.mpr (by simpa using q)⟩
      | true =>
        simp only [if_true] at q
        obtain ⟨o, G2, e2, q⟩ := q
        cases o with
        | nx e' =>
          obtain ⟨m, r, w, z⟩ := ih e' G2 q.1 (by have := q.2; omega)
          exact ⟨m + 1, r, by rw [whN_ok e, if_pos rfl, e2]; exact w, z⟩
        | ct e' =>
          obtain ⟨m, r, w, z⟩ := ih e' G2 q.1 (by have := q.2; omega)
          exact ⟨m + 1, r, by rw [whN_ok e, if_pos rfl, e2]; exact w, z⟩
        | ret d f => exact ⟨1, (.ret d f, G2), by rw [whN_ok e, if_pos rfl, e2], wpR_ret.mpr q⟩
        | bk e' => exact ⟨1, (.nx e', G2), by rw [whN_ok e, if_pos rfl, e2], wpR_nx.mpr q⟩
        | ex _ _ => exact q.elim
  obtain ⟨m, r, w, z⟩ := key (μ env G + 1) env G i (Nat.lt_succ_self _)
  unfold wpS
  rw [whS_eq w]
  exact z
section
variable {G : Gh} {Q : D → Gh → Prop} {QB : Bool → Gh → Prop}
theorem wp_eqM {d e : D} {p q : PyData} (h1 : toPG G d = some p) (h2 : toPG G e = some q) (s1 : SeqAt.shaped p = true) (s2 : SeqAt.shaped q = true) : wpM (eqM d e) G QB ↔ QB (PyData.eqv p q) G := by
  have e : eqM d e G = some (.ok (PyData.eqv p q), G) := by
    unfold eqM
    rw [h1, h2]
    dsimp only
    rw [if_pos ⟨s1, s2⟩]
  constructor
  · rintro ⟨a, G', e', q⟩
    rw [e] at e'
    cases e'
    exact q
  · exact fun q => ⟨_, _, e, q⟩
@[simp ↓] theorem wp_eqB {a b : Bool} : wpM (eqX (.bl a) (.bl b)) G QB ↔ QB (decide (a = b)) G := by
  have e : PyData.eqv (.bool a) (.bool b) = decide (a = b) := by cases a <;> cases b <;> rfl
  rw [← e]
  exact wp_eqM (d := .bl a) (e := .bl b) rfl rfl rfl rfl
@[simp ↓] theorem wp_intI {i : Int} : wpM (fInt [.int i]) G Q ↔ Q (.int i) G := wpM_pure
@[simp ↓] theorem wp_intB {b : Bool} : wpM (fInt [.bl b]) G Q ↔ Q (.int (if b = true then 1 else 0)) G := wpM_pure
@[simp ↓] theorem wp_isi_bool {b : Bool} : wpM (fIsi [.bl b, .ty "bool"]) G Q ↔ Q (.bl true) G := isi_eq rfl (by decide +kernel)
@[simp ↓] theorem wp_isi_lst {ds : List D} : wpM (fIsi [.lst ds, .ty "list"]) G Q ↔ Q (.bl true) G := isi_eq rfl (by decide +kernel)
@[simp ↓] theorem wp_isi_cell {n : Nat} : wpM (fIsi [.cell n, .ty "list"]) G Q ↔ Q (.bl true) G := isi_eq rfl (by decide +kernel)
@[simp ↓] theorem wp_isi_tupl {ds : List D} : wpM (fIsi [.tup ds, .ty "list"]) G Q ↔ Q (.bl false) G := isi_eq rfl (by decide +kernel)
end
/-- one lap of a loop -/
theorem wpS_wh {c : EnvD → M Bool} {body : MS} {k : K4} {env : EnvD} {G : Gh}
    (h : wpM (c env) G fun b G1 => if b = true then wpS body env G1 { nx := fun e G2 => wpS (whS c body) e G2 k, ct := fun e G2 => wpS (whS c body) e G2 k, bk := k.nx, rt := k.rt } else k.nx env G1) : wpS (whS c body) env G k := by
  have key : ∀ (e' : EnvD) (G2 : Gh), wpS (whS c body) e' G2 k → ∃ m r, whN c body m e' G2 = some r ∧ wpR (some r) k := by
    rintro e' G2 ⟨o, G3, e, q⟩
    obtain ⟨m, w⟩ := whS_some e
    exact ⟨m, _, w, o, G3, rfl, q⟩
  have main : ∃ m r, whN c body m env G = some r ∧ wpR (some r) k := by
    obtain ⟨b, G1, e, q⟩ := h
    cases b with
    | false => exact ⟨1, (.nx env, G1), by rw [whN_ok e]; rfl, wpR_nx.mpr (by simpa using q)⟩
    | true =>
      simp only [if_true] at q
      obtain ⟨o, G2, e2, q⟩ := q
      cases o with
      | nx e' =>
        obtain ⟨m, r, w, z⟩ := key e' G2 q
        exact ⟨m + 1, r, by rw [whN_ok e, if_pos rfl, e2]; exact w, z⟩
      | ct e' =>
        obtain ⟨m, r, w, z⟩ := key e' G2 q
        exact ⟨m + 1, r, by rw [whN_ok e, if_pos rfl, e2]; exact w, z⟩
      | ret d f => exact ⟨1, (.ret d f, G2), by rw [whN_ok e, if_pos rfl, e2], wpR_ret.mpr q⟩
      | bk e' => exact ⟨1, (.nx e', G2), by rw [whN_ok e, if_pos rfl, e2], wpR_nx.mpr q⟩
      | ex _ _ => exact q.elim
  obtain ⟨m, r, w, z⟩ := main
  unfold wpS
  rw [whS_eq w]
  exact z
end L2.GL
end

section
set_option Elab.async false
set_option linter.all false
set_option maxRecDepth 100000
set_option autoImplicit false
/-! G17: sorted of a list of pairs of numbers. -/
namespace L2.GL
open PySem PySem.Spec PyProof.Rows
abbrev I2 := Int × Int
def insP (p : I2) : List I2 → List I2
  | [] => [p]
  | q :: r => if SrtO.lexB q p = true then q :: insP p r else p :: q :: r
def sortP : List I2 → List I2
  | [] => []
  | p :: r => insP p (sortP r)
theorem insP_perm (p : I2) : ∀ l : List I2, (insP p l).Perm (p :: l)
  | [] => List.Perm.refl _
  | q :: r => by
    unfold insP
    split
    · exact ((insP_perm p r).cons q).trans (List.Perm.swap p q r)
    · exact List.Perm.refl _
theorem sortP_perm : ∀ l : List I2, (sortP l).Perm l
  | [] => List.Perm.refl _
  | p :: r => (insP_perm p (sortP r)).trans ((sortP_perm r).cons p)
abbrev Up (l : List I2) : Prop := l.Pairwise fun x y => SrtO.lexB y x = false
theorem insP_up (p : I2) : ∀ l : List I2, Up l → Up (insP p l)
  | [], _ => List.pairwise_singleton _ _
  | q :: r, h => by
    obtain ⟨h1, h2⟩ := List.pairwise_cons.mp h
    unfold insP
    split
    · rename_i z
      refine List.pairwise_cons.mpr ⟨fun y hy => ?_, insP_up p r h2⟩
      rcases List.mem_cons.mp ((insP_perm p r).mem_iff.mp hy) with e | hy
      · subst e
        have := SrtO.lexB_iff.mp z
        exact SrtO.lexB_no.mpr (by omega)
      · exact h1 y hy
    · rename_i z
      have z' : SrtO.lexB q p = false := by simpa using z
      refine List.pairwise_cons.mpr ⟨fun y hy => ?_, h⟩
      rcases List.mem_cons.mp hy with e | hy
      · subst e; exact z'
      · have a := SrtO.lexB_no.mp z'
        have b := SrtO.lexB_no.mp (h1 y hy)
        exact SrtO.lexB_no.mpr (by omega)
theorem sortP_up : ∀ l : List I2, Up (sortP l)
  | [] => List.Pairwise.nil
  | p :: r => insP_up p _ (sortP_up r)
theorem up_uniq : ∀ {l m : List I2}, Up l → Up m → l.Perm m → l = m
  | [], m, _, _, p => (List.Perm.nil_eq p)
  | x :: l, [], _, _, p => absurd p.length_eq (by simp)
  | x :: l, y :: m, hl, hm, p => by
    obtain ⟨l1, l2⟩ := List.pairwise_cons.mp hl
    obtain ⟨m1, m2⟩ := List.pairwise_cons.mp hm
    have e : x = y := by
      rcases List.mem_cons.mp (p.mem_iff.mp List.mem_cons_self) with e | hx
      · exact e
      · rcases List.mem_cons.mp (p.mem_iff.mpr (List.mem_cons_self (a := y) (l := m))) with e | hy
        · exact e.symm
        · have a := SrtO.lexB_no.mp (m1 x hx)
          have b := SrtO.lexB_no.mp (l1 y hy)
          exact Prod.ext (by omega) (by omega)
    subst e
    rw [up_uniq l2 m2 p.cons_inv]
/-- of a permutation there is just one sorted list -/
theorem sortP_eq {l m : List I2} (p : l.Perm m) : sortP l = sortP m := up_uniq (sortP_up l) (sortP_up m) (((sortP_perm l).trans p).trans (sortP_perm m).symm)
/-- these values are these pairs -/
def Tp (K : PySem.W.Frag) (H : Hp) (x : V) (p : I2) : Prop := ∃ t, x = .ref t ∧ SqT K H t [.int p.1, .int p.2]
inductive Tps (K : PySem.W.Frag) (H : Hp) : List V → List I2 → Prop where
  | nil : Tps K H [] []
  | cons {x : V} {p : I2} {xs : List V} {ps : List I2} : Tp K H x p → Tps K H xs ps → Tps K H (x :: xs) (p :: ps)
theorem Tps.map {K : PySem.W.Frag} {H : Hp} {k : V → I2} : ∀ {xs : List V} {ps : List I2}, Tps K H xs ps → (∀ x p, Tp K H x p → k x = p) → xs.map k = ps ∧ ∀ x ∈ xs, Tp K H x (k x)
  | _, _, .nil, _ => ⟨rfl, fun _ h => absurd h (by simp)⟩
  | _, _, .cons h t, hk => by
    obtain ⟨h1, h2⟩ := t.map hk
    have e := hk _ _ h
    refine ⟨by rw [List.map_cons, h1, e], fun x hx => ?_⟩
    rcases List.mem_cons.mp hx with rfl | hx
    · rw [e]; exact h
    · exact h2 x hx
theorem Tps.of {K : PySem.W.Frag} {H : Hp} {k : V → I2} : ∀ {xs : List V}, (∀ x ∈ xs, Tp K H x (k x)) → Tps K H xs (xs.map k)
  | [], _ => .nil
  | x :: xs, h => .cons (h x List.mem_cons_self) (Tps.of fun y hy => h y (List.mem_cons_of_mem _ hy))
def rSP (K : PySem.W.Frag) : List V → Hp → VK → Prop := fun vs H Q => ∃ (a : Addr) (xs : List V) (ps : List I2) (F : Hp), Same F H ∧ vs = [V.ref a] ∧ SqL K H a xs ∧ Tps K F xs ps ∧
  ∀ ys p, Tps K F ys (sortP ps) → H p = none → Q (.ref p) (upd H p (.lst ys))
section
variable {X : Cx}
open Classical in
theorem call_sortedX : CallR X (.builtin "sorted") (rSP X.K) := by
  intro pins s σ H vs us Q I r h
  obtain ⟨a, xs, ps, F, hF, rfl, hs, hx, q⟩ := h
  let k : V → I2 := fun x => if h : ∃ p, Tp X.K F x p then Classical.choose h else (0, 0)
  have hk : ∀ x p, Tp X.K F x p → k x = p := fun x p hp => by
    have hex : ∃ p, Tp X.K F x p := ⟨p, hp⟩
    show (if h : ∃ p, Tp X.K F x p then Classical.choose h else (0, 0)) = p
    rw [dif_pos hex]
    obtain ⟨t, rfl, h1⟩ := Classical.choose_spec hex
    obtain ⟨t', e, h2⟩ := hp
    cases e
    have e := I.tuple_inj (Same.tup hF h1) (Same.tup hF h2)
    simp only [List.cons.injEq, V.int.injEq, and_true] at e
    exact Prod.ext e.1 e.2
  obtain ⟨hm1, hm2⟩ := hx.map hk
  obtain ⟨its, rv, hl, hz⟩ := I.list hs
  obtain ⟨u, rfl, ru⟩ := vals1 r
  obtain rfl : u = Value.ref a := ru
  obtain ⟨e1, e2⟩ := refs_back rv fun x m => by
    obtain ⟨t, e, _⟩ := hm2 x m
    exact ⟨t, e⟩
  refine SrtO.sorted_pairsO (k := fun u => k (backV u)) hl.isList (by rw [← rv.length]; exact hz) (fun v hv => ?_) fun h' d out h1 h2 kp hd hn => ?_
  · obtain ⟨t, rfl⟩ := e2 v hv
    have hm : V.ref t ∈ xs := by rw [e1]; exact List.mem_map.mpr ⟨_, hv, rfl⟩
    obtain ⟨t', e, ht⟩ := hm2 _ hm
    cases e
    obtain ⟨its2, r2, ⟨o, ho, hc, n, hd⟩, _⟩ := I.tuple (Same.tup hF ht)
    obtain ⟨u1, u2, rfl, ri, rj⟩ := vals2 r2
    obtain ⟨t1, rfl⟩ := ri
    obtain ⟨t2, rfl⟩ := rj
    exact ⟨t, o, t1, t2, n, rfl, ho, hc, hd⟩
  · have h3 : ∀ u ∈ out, ∃ a, u = Value.ref a := fun u hu => e2 u (h2.perm.mem_iff.mp hu)
    obtain ⟨n, hn⟩ := hn
    have hb : SrtO.Stb (ltP k) (out.map backV) xs := by
      rw [e1]
      exact SrtO.Stb.map (ltP_swo k) backV h2
    have hsr : SrtO.Srtd (ltP k) (out.map backV) := SrtO.srtd_map h1
    have hpm : ((out.map backV).map k).Perm ps := by rw [← hm1]; exact hb.perm.map k
    have hup : Up ((out.map backV).map k) := List.pairwise_map.mpr hsr
    have heq : (out.map backV).map k = sortP ps := up_uniq hup (sortP_up ps) (hpm.trans (sortP_perm ps).symm)
    refine ⟨.ref d, upd H d (.lst (out.map backV)), I.laid (t' := s.toks) kp hd ⟨?_, out, n, vals_back h3, hn⟩, rfl, q _ d ?_ (I.hok.fresh hd)⟩
    · rw [hb.len]
      exact hz
    · rw [← heq]
      exact Tps.of fun y hy => hm2 y (hb.perm.mem_iff.mp hy)
end
def ptsOf : List D → Option (List I2)
  | [] => some []
  | .tup [.int i, .int j] :: ds => match ptsOf ds with
    | some ns => some ((i, j) :: ns)
    | none => none
  | _ :: _ => none
def ptD (p : I2) : D := .tup [.int p.1, .int p.2]
def fSorted : List D → M D
  | [d] => do let ds ← getL d; let ps ← liftO (ptsOf ds); pure (.lst ((sortP ps).map ptD))
  | _ => stuck
section
variable {K : PySem.W.Frag} {mg : Str → Option Value}
theorem DrA.ints2 {F : Hp} {ρ : List Addr} {xs : List V} {i j : Int} (h : DrA K F ρ xs [.int i, .int j]) : xs = [.int i, .int j] := by
  cases h with
  | cons h1 h => cases h1; cases h with
    | cons h2 h => cases h2; cases h; rfl
theorem ptsOf_V {F : Hp} {ρ : List Addr} : ∀ {ds : List D} {ns : List I2} {vs : List V}, ptsOf ds = some ns → DrA K F ρ vs ds → Tps K F vs ns
  | [], ns, vs, e, r => by cases e; cases r; exact .nil
  | d :: ds, ns, vs, e, r => by
    unfold ptsOf at e
    split at e
    · rename_i z
      cases z
    · rename_i i j ds' z
      cases z
      split at e
      · rename_i ns' q
        cases e
        cases r with
        | cons r t =>
          cases r with
          | tup h1 h2 =>
            have := h2.ints2
            subst this
            exact .cons ⟨_, rfl, h1⟩ (ptsOf_V q t)
      · cases e
    · cases e
theorem Tps.dr {F : Hp} {ρ : List Addr} : ∀ {xs : List V} {ps : List I2}, Tps K F xs ps → DrA K F ρ xs (ps.map ptD)
  | _, _, .nil => .nil
  | _, _, .cons ⟨t, e, h⟩ r => by
    subst e
    exact .cons (.tup h (.cons (.int _) (.cons (.int _) .nil))) r.dr
theorem s_sorted : CallV K mg true (rSP K) fSorted := by
  intro T W σ vs ds H F ρ G Q hR rs h
  match ds, rs, h with
  | [], rs, h => exact h.stuck.elim
  | [d], rs, h =>
    obtain ⟨v, rfl, r⟩ := rs.one
    obtain ⟨a, xs, ds, rfl, q2, q3, q4⟩ := Run.getL (k := fun ds => liftO (ptsOf ds) >>= fun ps => (Pure.pure (D.lst ((sortP ps).map ptD)) : M D)) h hR r
    cases hi : ptsOf ds with
    | none => rw [hi] at q4; obtain ⟨r', G', e', _⟩ := q4; cases e'
    | some ps =>
      rw [hi] at q4
      have q5 : Run K T mg W σ true F ρ (Pure.pure (D.lst ((sortP ps).map ptD)) : M D) G Q := q4
      exact ⟨a, xs, ps, F, hR.sub, rfl, q2, ptsOf_V hi q3, fun ys p hy hp => q5.newL hR hy.dr hp⟩
  | d :: e :: r, rs, h => exact h.stuck.elim
end
theorem wp_sorted {G : Gh} {Q : D → Gh → Prop} {ds : List D} {ps : List I2} (h : ptsOf ds = some ps) : wpM (fSorted [.lst ds]) G Q ↔ Q (.lst ((sortP ps).map ptD)) G := by
  unfold fSorted
  rw [wpM_bind, getL_lst, wpM_pure, wpM_bind, h, liftO_some, wpM_pure, wpM_pure]
theorem ptsOf_map : ∀ ps : List I2, ptsOf (ps.map ptD) = some ps
  | [] => rfl
  | p :: ps => by
    show (match ptsOf (ps.map ptD) with | some ns => some ((p.1, p.2) :: ns) | none => none) = _
    rw [ptsOf_map ps]
end L2.GL
end

section
set_option Elab.async false
set_option linter.all false
set_option maxRecDepth 100000
set_option autoImplicit false
/-! G18: for over a list made in this run, that stays while it is walked. -/
namespace L2.GL
open PySem PySem.Spec PyProof.Rows
/-- the iterator J gives just ds, while the cell n is ds -/
structure JOkC (K : PySem.W.Frag) (T : List Addr) (J : It) (ρ : List Addr) (n : Nat) (ds : List D) : Prop where
  go : ∀ (Φ : List (Addr × List V)) (i : Nat) (H F' : Hp) (ρ' : List Addr) (G' : Gh), ρ <+: ρ' → R K ⟨T, Φ⟩ H F' ρ' G' → G'[n]? = some ds → i < ds.length → J.go i H
  stop : ∀ (Φ : List (Addr × List V)) (H F' : Hp) (ρ' : List Addr) (G' : Gh), ρ <+: ρ' → R K ⟨T, Φ⟩ H F' ρ' G' → G'[n]? = some ds → J.stop ds.length H
  yld : ∀ (Φ : List (Addr × List V)) (i : Nat) (H F' : Hp) (ρ' : List Addr) (G' : Gh) (x : V) (H' : Hp) (d : D), ρ <+: ρ' → R K ⟨T, Φ⟩ H F' ρ' G' → G'[n]? = some ds → ds[i]? = some d → J.yld i H x H' →
    H' = H ∧ Dr K F' ρ' x d
section
variable {K : PySem.W.Frag} {T : List Addr} {ρ : List Addr} {a : Addr} {n : Nat} {ds : List D}
theorem j_cell (h : ρ[n]? = some a) : JOkC K T (Itl K a) ρ n ds where
  go := fun Φ i H F' ρ' G' p hR hg hi => by
    obtain ⟨xs, h1, h2⟩ := hR.cel n a ds (prefix_get p h) hg
    have hl := h2.length
    exact ⟨xs, xs[i]'(by omega), .of h1, List.getElem?_eq_getElem (by omega)⟩
  stop := fun Φ H F' ρ' G' p hR hg => by
    obtain ⟨xs, h1, h2⟩ := hR.cel n a ds (prefix_get p h) hg
    exact ⟨xs, .of h1, Nat.le_of_eq h2.length⟩
  yld := fun Φ i H F' ρ' G' x H' d p hR hg e y => by
    obtain ⟨rfl, y⟩ := y
    obtain ⟨xs, h1, h2⟩ := hR.cel n a ds (prefix_get p h) hg
    obtain ⟨v, q1, q2⟩ := h2.get e
    have := y xs (.of h1)
    rw [q1] at this
    cases this
    exact ⟨rfl, q2.mono (Same.refl _) List.nil_prefix⟩
end
open Classical in
noncomputable def forLC (n : Nat) (ds0 : List D) (ft : MT) (body : MS) : List D → MS
  | [], env, G => if G[n]? = some ds0 then some (.nx env, G) else none
  | d :: ds, env, G => if G[n]? = some ds0 then (match ft d env G with
    | none => none
    | some (e1, G1) => match body e1 G1 with
      | some (.nx e2, G2) => forLC n ds0 ft body ds e2 G2
      | some (.ct e2, G2) => forLC n ds0 ft body ds e2 G2
      | some (.bk e2, G2) => some (.nx e2, G2)
      | r => r) else none
noncomputable def forCS (fe : EnvD → M D) (ft : MT) (body : MS) : MS := fun env => runE (fe env) env fun d G => match d with
  | .cell n => (match G[n]? with
    | some ds => forLC n ds ft body ds env G
    | none => none)
  | _ => none
def tC (K : PySem.W.Frag) (T : List Addr) (mg : Str → Option Value) (W : WX) (fe : EnvD → M D) : TI := fun σ H Rr => ∃ Φ F ρ G env, R K ⟨T, Φ⟩ H F ρ G ∧ RS K F ρ σ env ∧ ∃ r G', fe env G = some (r, G') ∧ match r with
  | .ok d => ∃ n ds, d = .cell n ∧ G'[n]? = some ds ∧ ∀ J H' F' ρ', R K ⟨T, Φ⟩ H' F' ρ' G' → Same F F' → ρ <+: ρ' → JOkC K T J ρ' n ds → Rr J H'
  | .ex c => PostX K ⟨T, Φ⟩ mg F ρ c G' fun cls H' => W cls none σ H'
section
variable {X : Cx} {T : List Addr} {W : WX} {pos : Pos} {tg iter a : Expr} {fa : EnvD → M D} {ga : Bool}
theorem i_cell (ha : PV X T W ga a fa) : PI X tg a (tC X.K T X.mg W fa) := by
  refine ⟨fun pins s σ H Rr I ⟨Φ, F, ρ, G, env, hR, hS, r, G', e, h⟩ => ?_⟩
  have hrun : Run X.K ⟨T, Φ⟩ X.mg W σ ga F ρ (fa env) G fun x H1 => ∃ F1 ρ1 G1 n ds, Dr X.K F1 ρ1 x (.cell n) ∧ R X.K ⟨T, Φ⟩ H1 F1 ρ1 G1 ∧ G1[n]? = some ds ∧ ∀ J, JOkC X.K T J ρ1 n ds → Rr J H1 := by
    refine ⟨r, G', e, ?_⟩
    cases r with
    | ok d =>
      obtain ⟨n, ds, rfl, hn, h⟩ := h
      exact fun v H' F' ρ' h1 h2 h3 h4 _ => ⟨F', ρ', _, n, ds, h4, h1, hn, fun J j => h J H' F' ρ' h1 h2 h3 j⟩
    | ex c => exact h
  refine thn (ha.run pins s σ H _ I ⟨Φ, F, ρ, G, env, hR, hS, hrun⟩) fun v s1 ⟨x, H1, I1, r1, F1, ρ1, G1, n, ds, rd, R1, hn, hq⟩ => ?_
  cases rd with
  | @cell ad _ hc =>
    cases r1
    obtain ⟨xs, h1, h2⟩ := R1.cel n ad ds hc hn
    obtain ⟨its, rv, pl, _⟩ := I1.list (.of h1)
    refine wpAny_pyIter_list pl.isList ?_
    have made : ∀ {it : Addr}, it = s1.heap.objs.size → ∀ b, b ∈ [it] → FpOk X pins H1 b := fun {it} e b hb => by
      rw [List.mem_singleton.mp hb, e]
      exact I1.fpOk (Nat.le_refl _) (I1.hok.fresh (Nat.le_refl _))
    exact ⟨_, _, _, _, H1, rfl, I1.kept (t' := s1.toks) fun b o q => Heap.get?_push_of_some _ q, turn_list ad _, ⟨_, Heap.get?_push_size _ rfl, rfl, rfl⟩, made rfl, hq _ (j_cell hc)⟩
theorem s_forC {body : List Stmt} {ft : MT} {us : List Nat} {f : MS} (hp : PassesOwn (model X.prog X.w) X.A X.env X.xe) (hc : X.calm = true) (hi : PV X T W ga iter fa) (hg : PGV X T us tg ft) (hb : PSsV X T W body f) (hs : ∀ x, foldedSetIterable iter X.env x = pure x := by intro _; rfl) :
    PSV X T W (.For tg iter body [] pos) (forCS fa ft f) := PS.imp (ps_for hp hc (i_cell (tg := tg) hi) hg hb hs) fun Dn σ H ⟨Φ, F, ρ, G, env, hR, hS, o, G', e, h⟩ => ⟨Φ, F, ρ, G, env, hR, hS, by
  rcases runE_parts e with ⟨d, G1, e1, e2⟩ | ⟨c, e1, e2⟩
  · split at e2
    rotate_left
    · cases e2
    rename_i n
    split at e2
    rotate_left
    · cases e2
    rename_i ds hn
    refine ⟨.ok (.cell n), G1, e1, n, ds, rfl, hn, fun J H1 F1 ρ1 R1 s1 p1 j1 => ?_⟩
    have h1 : RunS X.K ⟨T, Φ⟩ X.mg W F1 ρ1 (forLC n ds ft f ds env G1) Dn := RunS.from ⟨o, G', e2, h⟩ s1 p1
    refine ⟨fun i m σ H => m = ds.length - i ∧ i ≤ ds.length ∧ ∃ F2 ρ2 G2 env2, R X.K ⟨T, Φ⟩ H F2 ρ2 G2 ∧ Same F1 F2 ∧ ρ1 <+: ρ2 ∧ RS X.K F2 ρ2 σ env2 ∧ RunS X.K ⟨T, Φ⟩ X.mg W F2 ρ2 (forLC n ds ft f (ds.drop i) env2 G2) Dn,
      ⟨ds.length, by simp, Nat.zero_le _, F1, ρ1, G1, env, R1, Same.refl _, List.prefix_refl _, hS.mono s1 p1, h1⟩, ?_⟩
    rintro i m σ2 H2 ⟨rfl, hi, F2, ρ2, G2, env2, R2, s2, p2, S2, h2⟩
    by_cases hlt : i < ds.length
    · have hd : ds[i]? = some ds[i] := List.getElem?_eq_getElem hlt
      rw [List.drop_eq_getElem_cons hlt] at h2
      unfold forLC at h2
      by_cases hg2 : G2[n]? = some ds
      rotate_left
      · rw [if_neg hg2] at h2; exact h2.none
      rw [if_pos hg2] at h2
      refine .inr ⟨j1.go Φ i H2 F2 ρ2 G2 p2 R2 hg2 hlt, fun σ H => ∃ F3 ρ3 G3 env3, R X.K ⟨T, Φ⟩ H F3 ρ3 G3 ∧ Same F1 F3 ∧ ρ1 <+: ρ3 ∧ RS X.K F3 ρ3 σ env3 ∧ RunS X.K ⟨T, Φ⟩ X.mg W F3 ρ3 (forLC n ds ft f (ds.drop (i + 1)) env3 G3) Dn, ?_, fun x H3 y => ?_⟩
      · rintro σ' H' ⟨F3, ρ3, G3, env3, q⟩
        exact ⟨ds.length - (i + 1), by omega, rfl, hlt, F3, ρ3, G3, env3, q⟩
      · obtain ⟨rfl, r3⟩ := j1.yld Φ i H2 F2 ρ2 G2 x H3 _ p2 R2 hg2 hd y
        cases q : ft ds[i] env2 G2 with
        | none => rw [q] at h2; exact h2.none
        | some r =>
          obtain ⟨e4, G4⟩ := r
          rw [q] at h2
          refine ⟨Φ, F2, ρ2, G2, env2, _, e4, G4, R2, S2, r3, q, fun σ4 H4 F4 ρ4 R4 s4 p4 S4 _ => ?_⟩
          refine ⟨Φ, F4, ρ4, G4, e4, R4, S4, ?_⟩
          dsimp only at h2
          have h4 := h2.from s4 p4
          cases q5 : f e4 G4 with
          | none => rw [q5] at h4; exact h4.none
          | some r5 =>
            obtain ⟨o5, G5⟩ := r5
            rw [q5] at h4
            refine ⟨o5, G5, rfl, ?_⟩
            have s14 : Same F1 F4 := s2.trans s4
            have p14 : ρ1 <+: ρ4 := p2.trans p4
            cases o5 with
            | nx e5 => exact fun σ5 H5 F5 ρ5 R5 s5 p5 S5 => ⟨F5, ρ5, G5, e5, R5, s14.trans s5, p14.trans p5, S5, h4.from s5 p5⟩
            | ct e5 => exact fun σ5 H5 F5 ρ5 R5 s5 p5 S5 => ⟨F5, ρ5, G5, e5, R5, s14.trans s5, p14.trans p5, S5, h4.from s5 p5⟩
            | bk e5 => exact fun σ5 H5 F5 ρ5 R5 s5 p5 S5 => h4.nx R5 s5 p5 S5
            | ret d fr => obtain ⟨o', G', z, h⟩ := h4; cases z; exact h
            | ex c e5 => obtain ⟨o', G', z, h⟩ := h4; cases z; exact h
    · have he : i = ds.length := by omega
      subst he
      rw [List.drop_length] at h2
      unfold forLC at h2
      by_cases hg2 : G2[n]? = some ds
      rotate_left
      · rw [if_neg hg2] at h2; exact h2.none
      rw [if_pos hg2] at h2
      exact .inl ⟨j1.stop Φ H2 F2 ρ2 G2 p2 R2 hg2, h2.nx R2 (Same.refl _) (List.prefix_refl _) S2⟩
  · refine ⟨.ex c, G', e1, fun cls H' F' ρ' h0 h1 h2 h3 => ?_⟩
    obtain rfl : o = .ex c env := e2
    exact h cls σ H' F' ρ' h0 h1 h2 h3 (hS.mono h2 h3)⟩
end
/-! what it gives -/
section
variable {env : EnvD} {G : Gh} {k : K4} {fe : EnvD → M D} {ft : MT} {body : MS} {n : Nat} {ds0 ds : List D} {d : D}
def wpFC (n : Nat) (ds0 : List D) (ft : MT) (body : MS) (ds : List D) (env : EnvD) (G : Gh) (k : K4) : Prop := wpR (forLC n ds0 ft body ds env G) k
theorem wpS_forC : wpS (forCS fe ft body) env G k ↔ wpM (fe env) G fun d G1 => match d with
    | .cell n => ∃ ds, G1[n]? = some ds ∧ wpFC n ds ft body ds env G1 k
    | _ => False := by
  unfold wpS forCS wpFC
  rw [wpR_runE]
  constructor
  · exact fun h => h.mono fun d G' h => by
      cases d with
      | cell n =>
        dsimp only at h ⊢
        cases q : G'[n]? with
        | none => rw [q] at h; exact (wpR_none.mp h).elim
        | some ds => rw [q] at h; exact ⟨ds, rfl, h⟩
      | _ => exact (wpR_none.mp h).elim
  · exact fun h => h.mono fun d G' h => by
      cases d with
      | cell n =>
        obtain ⟨ds, q, h⟩ := h
        dsimp only
        rw [q]
        exact h
      | _ => exact h.elim
theorem wpFC_nil (h : G[n]? = some ds0) : wpFC n ds0 ft body [] env G k ↔ k.nx env G := by
  unfold wpFC forLC
  rw [if_pos h]
  exact wpR_nx
theorem wpFC_cons (h : G[n]? = some ds0) : wpFC n ds0 ft body (d :: ds) env G k ↔ wpT ft d env G fun e G1 => wpS body e G1 (k.lp fun e G => wpFC n ds0 ft body ds e G k) := by
  unfold wpFC wpT wpS K4.lp
  rw [show forLC n ds0 ft body (d :: ds) env G = (match ft d env G with
    | none => none
    | some (e1, G1) => match body e1 G1 with
      | some (.nx e2, G2) => forLC n ds0 ft body ds e2 G2
      | some (.ct e2, G2) => forLC n ds0 ft body ds e2 G2
      | some (.bk e2, G2) => some (.nx e2, G2)
      | r => r) by conv => lhs; unfold forLC
                   rw [if_pos h]]
  cases q : ft d env G with
  | none => simp
  | some r =>
    obtain ⟨e1, G1⟩ := r
    dsimp only
    cases q2 : body e1 G1 with
    | none => exact ⟨fun h => (wpR_none.mp h).elim, fun ⟨_, _, z, h⟩ => by cases z; rw [q2] at h; exact (wpR_none.mp h).elim⟩
    | some r2 =>
      obtain ⟨o, G2⟩ := r2
      have key : wpR (match (some (o, G2) : RO) with
          | some (.nx e2, G2) => forLC n ds0 ft body ds e2 G2
          | some (.ct e2, G2) => forLC n ds0 ft body ds e2 G2
          | some (.bk e2, G2) => some (.nx e2, G2)
          | r => r) k ↔ wpR (some (o, G2)) { k with nx := fun e G => wpR (forLC n ds0 ft body ds e G) k, ct := fun e G => wpR (forLC n ds0 ft body ds e G) k, bk := k.nx } := by
        cases o with
        | nx e => simp
        | ret d b => simp
        | bk e => exact ⟨fun h => ⟨_, _, rfl, by simpa using h⟩, fun ⟨_, _, z, h⟩ => by cases z; simpa using h⟩
        | ct e => exact ⟨fun h => ⟨_, _, rfl, h⟩, fun ⟨_, _, z, h⟩ => by cases z; exact h⟩
        | ex c e => exact ⟨fun ⟨_, _, z, h⟩ => by cases z; exact h.elim, fun ⟨_, _, z, h⟩ => by cases z; exact h.elim⟩
      constructor
      · exact fun h => ⟨e1, G1, rfl, by rw [q2]; exact key.mp h⟩
      · rintro ⟨e', G', z, h⟩
        cases z
        rw [q2] at h
        exact key.mpr h
end
end L2.GL
end

section
set_option Elab.async false
set_option linter.all false
set_option maxRecDepth 100000
set_option autoImplicit false
/-! G19: a tuple of tuples of numbers that stands at the module's top. -/
namespace L2.GL
open PySem PySem.Spec PyProof.Rows
def rowB (K : PySem.W.Frag) (ns : List Int) (u : Value) : Bool := match u with
  | .ref b => (match K.lookup b with
    | some ⟨.type c, _, .seq its _, _⟩ => decide (c = "tuple") && (decide (its.size ≤ sizeLine) && He.relAll (ns.map V.int) its.toList)
    | _ => false)
  | _ => false
def rowsB (K : PySem.W.Frag) : List (List Int) → List Value → Bool
  | [], [] => true
  | r :: rs, u :: us => rowB K r u && rowsB K rs us
  | _, _ => false
def unitB (K : PySem.W.Frag) (rows : List (List Int)) (u : Value) : Bool := match u with
  | .ref b => (match K.lookup b with
    | some ⟨.type c, _, .seq its _, _⟩ => decide (c = "tuple") && (decide (its.size ≤ sizeLine) && rowsB K rows its.toList)
    | _ => false)
  | _ => false
def rowD (r : List Int) : D := .tup (r.map D.int)
def unitD (rows : List (List Int)) : D := .tup (rows.map rowD)
section
variable {K : PySem.W.Frag}
theorem DrA.of_ints {F : Hp} {ρ : List Addr} : ∀ ns : List Int, DrA K F ρ (ns.map V.int) (ns.map D.int)
  | [] => .nil
  | n :: ns => .cons (.int n) (DrA.of_ints ns)
theorem rowB_ok {ns : List Int} {u : Value} (h : rowB K ns u = true) : ∃ b, u = .ref b ∧ ∀ (F : Hp) (ρ : List Addr), Dr K F ρ (.ref b) (rowD ns) := by
  unfold rowB at h
  cases u with
  | ref b =>
    dsimp only at h
    cases q : K.lookup b with
    | none => rw [q] at h; cases h
    | some o =>
      obtain ⟨oc, od, dt, osl⟩ := o
      rw [q] at h
      cases oc with
      | type c =>
        cases dt with
        | seq its n =>
          have h : (decide (c = "tuple") && (decide (its.size ≤ sizeLine) && He.relAll (ns.map V.int) its.toList)) = true := h
          simp only [Bool.and_eq_true, decide_eq_true_eq] at h
          obtain ⟨h1, h2, h3⟩ := h
          exact ⟨b, rfl, fun F ρ => .tup (.inr ⟨_, its, n, q, congrArg Value.type h1, rfl, h2, He.relAll_ok h3⟩) (DrA.of_ints ns)⟩
        | _ => cases h
      | _ => cases dt <;> cases h
  | _ => cases h
theorem rowsB_ok : ∀ {rows : List (List Int)} {us : List Value}, rowsB K rows us = true → ∃ vs, Vals vs us ∧ ∀ (F : Hp) (ρ : List Addr), DrA K F ρ vs (rows.map rowD)
  | [], [], _ => ⟨[], .nil, fun _ _ => .nil⟩
  | [], _ :: _, h => by cases h
  | _ :: _, [], h => by cases h
  | r :: rs, u :: us, h => by
    unfold rowsB at h
    rw [Bool.and_eq_true] at h
    obtain ⟨b, rfl, h1⟩ := rowB_ok h.1
    obtain ⟨vs, h2, h3⟩ := rowsB_ok h.2
    exact ⟨.ref b :: vs, .cons rfl h2, fun F ρ => .cons (h1 F ρ) (h3 F ρ)⟩
theorem unitB_ok {rows : List (List Int)} {u : Value} (h : unitB K rows u = true) : ∃ b, u = .ref b ∧ ∀ (F : Hp) (ρ : List Addr), Dr K F ρ (.ref b) (unitD rows) := by
  unfold unitB at h
  cases u with
  | ref b =>
    dsimp only at h
    cases q : K.lookup b with
    | none => rw [q] at h; cases h
    | some o =>
      obtain ⟨oc, od, dt, osl⟩ := o
      rw [q] at h
      cases oc with
      | type c =>
        cases dt with
        | seq its n =>
          have h : (decide (c = "tuple") && (decide (its.size ≤ sizeLine) && rowsB K rows its.toList)) = true := h
          simp only [Bool.and_eq_true, decide_eq_true_eq] at h
          obtain ⟨h1, h2, h3⟩ := h
          obtain ⟨vs, h4, h5⟩ := rowsB_ok h3
          exact ⟨b, rfl, fun F ρ => .tup (.inr ⟨_, its, n, q, congrArg Value.type h1, rfl, h2, h4⟩) (h5 F ρ)⟩
        | _ => cases h
      | _ => cases dt <;> cases h
  | _ => cases h
/-- the name x of the module is always the data d -/
def GlD (K : PySem.W.Frag) (mg : Str → Option Value) (x : Str) (d : D) : Prop := ∃ b, mg x = some (.ref b) ∧ ∀ (F : Hp) (ρ : List Addr), Dr K F ρ (.ref b) d
def atMain (K : PySem.W.Frag) (x : Str) (f : Value → Bool) : Bool := match PySem.W.nsIn K mainGlobals x with
  | some (some u) => f u
  | _ => false
theorem glD_of {h : Heap} {mg : Str → Option Value} (X : K.In h) (G : h.Ns mainGlobals mg) {x : Str} {rows : List (List Int)} (c : atMain K x (unitB K rows) = true) : GlD K mg x (unitD rows) := by
  unfold atMain at c
  split at c
  · rename_i u q
    obtain ⟨b, rfl, hb⟩ := unitB_ok c
    exact ⟨b, PySem.W.mg_of X G q, hb⟩
  · cases c
end
section
variable {X : Cx} {T : List Addr} {W : WX} {pos : Pos}
theorem v_globD {x : Str} {rows : List (List Int)} (hg : Gl X x) (g : GlD X.K X.mg x (unitD rows)) (hd : (x == ("__debug__" : Str)) = false := by decide) : PV X T W true (.Name x pos) (fun _ => pure (unitD rows)) := by
  obtain ⟨b, hm, hb⟩ := g
  exact PE.imp (pe_glob (v := .ref b) hg hm rfl hd) fun σ H Q ⟨Φ, F, ρ, G, env, hR, hS, h⟩ => h.pure hR (hb _ _) fun _ => .of fun _ z => nomatch z
end
end L2.GL
end

section
set_option Elab.async false
set_option linter.all false
set_option maxRecDepth 100000
set_option autoImplicit false
/-! G20: is True, is False; [..].count(True). -/
namespace L2.GL
open PySem PySem.Spec PyProof.Rows
theorem is_bool_gen {M : Model} {A : Around} {Q E : Value → Shared → Prop} {s : Shared} {c b : Bool} (h : Q (.bool (c == b)) s) : wpAny M A (compareOp .Is (.bool c) (.bool b)) Q E s := wpAny_pure (by cases c <;> cases b <;> exact h)
theorem isnot_bool_gen {M : Model} {A : Around} {Q E : Value → Shared → Prop} {s : Shared} {c b : Bool} (h : Q (.bool (!(c == b))) s) : wpAny M A (compareOp .IsNot (.bool c) (.bool b)) Q E s := wpAny_pure (by cases c <;> cases b <;> exact h)
section
variable {X : Cx}
theorem op_isB : OpR X (compareOp .Is) (fun x y H Q => ∃ c b, x = .bl c ∧ y = .bl b ∧ Q (.bl (c == b)) H) := by
  intro pins s σ H x y v u Q I rx ry h
  obtain ⟨c, b, rfl, rfl, q⟩ := h
  cases rx
  cases ry
  exact is_bool_gen (fin_bl I q rfl)
theorem op_notB : OpR X (compareOp .IsNot) (fun x y H Q => ∃ c b, x = .bl c ∧ y = .bl b ∧ Q (.bl (!(c == b))) H) := by
  intro pins s σ H x y v u Q I rx ry h
  obtain ⟨c, b, rfl, rfl, q⟩ := h
  cases rx
  cases ry
  exact isnot_bool_gen (fin_bl I q rfl)
end
def isBM (d e : D) : M Bool := match d, e with
  | .bl c, .bl b => pure (c == b)
  | _, _ => stuck
def notBM (d e : D) : M Bool := match d, e with
  | .bl c, .bl b => pure (!(c == b))
  | _, _ => stuck
section
variable {K : PySem.W.Frag} {mg : Str → Option Value} {fr : Bool}
theorem o_isB : OpV K mg fr (fun x y H Q => ∃ c b, x = .bl c ∧ y = .bl b ∧ Q (.bl (c == b)) H) fun d e => vB (isBM d e) := by
  intro T W σ x y d e H F ρ G Q hR rx ry h
  have no : ∀ {P : Prop}, Run K T mg W σ fr F ρ (vB stuck) G Q → P := fun z => vB_stuck z
  cases rx with
  | bl c =>
    cases ry with
    | bl b => exact ⟨c, b, rfl, rfl, Run.pure (d := .bl (c == b)) h hR (.bl _) fun _ => .of fun _ z => nomatch z⟩
    | _ => exact no h
  | _ => exact no h
theorem o_notB : OpV K mg fr (fun x y H Q => ∃ c b, x = .bl c ∧ y = .bl b ∧ Q (.bl (!(c == b))) H) fun d e => vB (notBM d e) := by
  intro T W σ x y d e H F ρ G Q hR rx ry h
  have no : ∀ {P : Prop}, Run K T mg W σ fr F ρ (vB stuck) G Q → P := fun z => vB_stuck z
  cases rx with
  | bl c =>
    cases ry with
    | bl b => exact ⟨c, b, rfl, rfl, Run.pure (d := .bl (!(c == b))) h hR (.bl _) fun _ => .of fun _ z => nomatch z⟩
    | _ => exact no h
  | _ => exact no h
end
/-! count -/
def rCntB (K : PySem.W.Frag) : V → List V → Hp → VK → Prop := fun x xs H Q => ∃ (p : Addr) (bs : List Bool) (k : Bool), x = .ref p ∧ xs = [.bl k] ∧ SqL K H p (bs.map V.bl) ∧ Q (.int (bs.count k : Nat)) H
theorem bls_reads {h : Heap} : ∀ bs : List Bool, ReadsAll h (bs.map Value.bool) (bs.map PyData.bool) []
  | [] => .nil
  | b :: bs => .cons (as := []) (.bool b) (bls_reads bs)
theorem bls_count (k : Bool) : ∀ bs : List Bool, (bs.map PyData.bool).countP (fun y => PyData.eqv y (.bool k)) = bs.count k
  | [] => rfl
  | b :: bs => by
    rw [List.map_cons, List.countP_cons, List.count_cons, bls_count k bs]
    cases b <;> cases k <;> rfl
theorem bls_depth : ∀ bs : List Bool, PyData.depthAll (bs.map PyData.bool) = 0
  | [] => rfl
  | b :: bs => by
    rw [List.map_cons]
    unfold PyData.depthAll
    rw [bls_depth bs]
    rfl
theorem bls_plain : ∀ bs : List Bool, PyData.plainAll (bs.map PyData.bool) = true
  | [] => rfl
  | b :: bs => by
    rw [List.map_cons]
    unfold PyData.plainAll
    rw [bls_plain bs]
    rfl
section
variable {X : Cx}
theorem mt_cntB (hu : X.A.units + 64 < cLine) : MtR X "list.count" (rCntB X.K) := by
  intro pins s σ H x xs v us Q I rx rxs h
  obtain ⟨p, bs, k, rfl, rfl, hs, q⟩ := h
  cases rx
  obtain ⟨u, rfl, ru⟩ := rxs.one
  obtain rfl : u = .bool k := ru
  obtain ⟨its, rv, hl, _⟩ := I.list hs
  have hb := rv.bls
  refine SeqAt.count_list_data (d := .bool k) (xs := bs.map PyData.bool) hl.isList (by rw [List.toList_toArray, hb]; exact bls_reads bs) (.bool k) (bls_plain bs) rfl (by rw [bls_depth]; omega) ?_
  refine ⟨.int (bs.count k : Nat), H, I.tok _, ⟨s.toks, ?_⟩, q⟩
  rw [bls_count]
end
def cntB (k : Bool) (l : D) : M D := match l with
  | .lst ds => do let bs ← liftO (blsOf ds); pure (.int (bs.count k : Nat))
  | _ => stuck
section
variable {X : Cx} {T : List Addr} {W : WX} {e : Expr} {fe : EnvD → M D} {ge : Bool} {apos cpos pos : Pos} {j : Nat} {k : Bool}
theorem v_countB (hu : X.A.units + 64 < cLine) (he : PV X T W ge e fe) (hbase : attributeBase e "count" X.env (eval e X.env) = eval e X.env := by rfl)
    (hfew : ((backTo cpos (starEach [Expr.Constant (.bool k) j pos] X.env)).all (fun x => !x.1) && (backToKw cpos (keywordEach [] X.env)).all (fun x => x.1.isSome) && decide (([Expr.Constant (.bool k) j pos] : List Expr).length + ([] : List Keyword).length + (if ([] : List Keyword).isEmpty then 0 else 1) < 30)) = true := by rfl)
    (hline : (apos.endLine == cpos.line) = true := by rfl) (hs : starEach [Expr.Constant (.bool k) j pos] X.env = (false, eval (Expr.Constant (.bool k) j pos) X.env) :: starEach [] X.env := by rfl) :
    PV X T W true (.Call (.Attribute e "count" apos) [.Constant (.bool k) j pos] [] cpos) (fun env => do let l ← fe env; cntB k l) := by
  have h1 : PVs X T W [Expr.Constant (.bool k) j pos] (fun env => do let d ← (fun _ => pure (.bl k) : EnvD → M D) env; pure [d]) := PA.imp (pa_cons v_bl pa_nil hs) fun σ H Q ⟨Φ, F, ρ, G, env, hR, hS, h⟩ => ⟨Φ, F, ρ, G, env, hR, hS, RunA.bind (fr1 := true) h fun v d H1 F1 ρ1 G1 R1 s1 p1 r1 h1 => h1.pure R1 (.cons r1 .nil)⟩
  refine PE.imp (pe_bm PySem.F.plainAttrs_list PySem.F.slot_list_count PySem.F.type_list_count (mt_cntB hu) he h1 hbase hfew hline hs) fun σ H Q ⟨Φ, F, ρ, G, env, hR, hS, h⟩ => ?_
  refine ⟨Φ, F, ρ, G, env, hR, hS, Run.bind (fr := true) h fun xv l H1 F1 ρ1 G1 R1 s1 p1 r1 _ h2 => ?_⟩
  cases r1 with
  | @lst a xs ds hx tx =>
    cases hi : blsOf ds with
    | none =>
      have e : cntB k (.lst ds) = (liftO (blsOf ds) >>= fun bs => pure (.int (bs.count k : Nat))) := rfl
      rw [e, hi] at h2
      obtain ⟨r', G', z, _⟩ := h2
      cases z
    | some bs =>
      have e : cntB k (.lst ds) = (liftO (blsOf ds) >>= fun bs => pure (.int (bs.count k : Nat))) := rfl
      rw [e, hi] at h2
      have hq : SqL X.K H1 a (bs.map V.bl) := by rw [← blsOf_V hi tx]; exact R1.sub.seq hx
      refine ⟨.inl ⟨rfl, _, hq⟩, Φ, F1, ρ1, G1, env, R1, hS.mono s1 p1, ?_⟩
      refine ⟨.ok [.bl k], G1, rfl, fun vs H2 F2 ρ2 R2 s2 p2 r2 => ?_⟩
      obtain ⟨v, rfl, rv⟩ := r2.one
      cases rv
      refine ⟨a, bs, k, rfl, rfl, by rw [← blsOf_V hi tx]; exact R2.sub.seq (s2.seq hx), ?_⟩
      have h3 : Run X.K ⟨T, Φ⟩ X.mg W σ true F2 ρ2 (pure (.int (bs.count k : Nat)) : M D) G1 Q := Run.from h2 s2 p2
      exact Run.pure (d := .int (bs.count k : Nat)) h3 R2 (.int _) fun _ => .of fun _ z => nomatch z
  | _ => obtain ⟨r', G', z, _⟩ := h2; cases z
end
section
variable {G : Gh} {Q : D → Gh → Prop} {QB : Bool → Gh → Prop}
@[simp ↓] theorem wp_isB {c b : Bool} : wpM (isBM (.bl c) (.bl b)) G QB ↔ QB (c == b) G := wpM_pure
@[simp ↓] theorem wp_notB {c b : Bool} : wpM (notBM (.bl c) (.bl b)) G QB ↔ QB (!(c == b)) G := wpM_pure
theorem wp_cntB {k : Bool} {ds : List D} {bs : List Bool} (h : blsOf ds = some bs) : wpM (cntB k (.lst ds)) G Q ↔ Q (.int (bs.count k : Nat)) G := by
  rw [show cntB k (.lst ds) = (liftO (blsOf ds) >>= fun bs => pure (.int (bs.count k : Nat))) from rfl, wpM_bind, h, liftO_some, wpM_pure, wpM_pure]
end
end L2.GL
end

section
set_option Elab.async false
set_option linter.all false
set_option maxRecDepth 100000
set_option autoImplicit false
/-! G21: comprehensions with two for; the whole root. -/
namespace L2.GL
open PySem PySem.Spec PyProof.Rows
def lc2L (ft : MT) (tt : EnvD → M Bool) (fi1 : EnvD → M (List D)) (ft1 : MT) (tt1 : EnvD → M Bool) (te : EnvD → M D) (env : EnvD) (vs1 : List Nat) : List D → List D → Gh → Option (List D × Gh)
  | [], acc, G => some (acc, G)
  | d :: ds, acc, G => match ft d env G with
    | none => none
    | some (e1, G1) => match tt e1 G1 with
      | some (.ok b, G2) => if b = true then (match fi1 e1 G2 with
          | some (.ok ds1, G3) => (match lcL ft1 tt1 te (wipeE e1 vs1) ds1 acc G3 with
            | some (acc2, G4) => lc2L ft tt fi1 ft1 tt1 te env vs1 ds acc2 G4
            | none => none)
          | _ => none) else lc2L ft tt fi1 ft1 tt1 te env vs1 ds acc G2
      | _ => none
def lc2M (fi : EnvD → M (List D)) (ft : MT) (tt : EnvD → M Bool) (fi1 : EnvD → M (List D)) (ft1 : MT) (tt1 : EnvD → M Bool) (te : EnvD → M D) (vs vs1 : List Nat) : EnvD → M D := fun env => do
  let ds ← fi env
  fun G => match lc2L ft tt fi1 ft1 tt1 te (wipeE env vs) vs1 ds [] G with
    | some (r, G') => some (.ok (.lst r), G')
    | none => none
section
variable {X : Cx} {T : List Addr} {W : WX} {pos p : Pos} {elt tg iter tg1 iter1 : Expr} {ifs ifs1 : List Expr} {scope : Scope} {own : List (Str × Nat)} {fi fi1 : EnvD → M (List D)} {ft ft1 : MT} {us us1 vs1 : List Nat} {tt tt1 : EnvD → M Bool} {te : EnvD → M D} {fr gr : Bool}
theorem lc2_go {σ : L2.St} {H : Hp} {Q : VK} (hu : ∀ i ∈ us, i ∈ own.map (·.2)) (hu1 : ∀ i ∈ us1, i ∈ vs1) (h : tV X.K T X.mg W true (lc2M fi ft tt fi1 ft1 tt1 te (own.map (·.2)) vs1) σ H Q) :
    tLc2 (tI X.K T X.mg W fi) (tG X.K T us ft) (tTs X.K T X.mg tt) (tI X.K T X.mg W0 fi1) (tG X.K T us1 ft1) (tTs X.K T X.mg tt1) (tV X.K T X.mg W0 gr te) (own.map (·.2)) vs1 σ H Q := by
  obtain ⟨Φ, F, ρ, G, env, hR, hS, r, G', e, h⟩ := h
  refine ⟨Φ, F, ρ, G, env, hR, hS, ?_⟩
  rcases bind_parts e with ⟨ds, G1, e1, e2⟩ | ⟨c, e1, rfl⟩
  rotate_left
  · exact ⟨.ex c, G', e1, h⟩
  refine ⟨.ok ds, G1, e1, fun J H1 F1 ρ1 R1 s1 p1 j1 => fun D0 hD0 => ?_⟩
  split at e2
  rotate_left
  · cases e2
  rename_i rs G2' e3
  cases e2
  have hF0 : F D0 = none := s1.free (R1.sub.free hD0)
  refine ⟨fun i m H => m = ds.length - i ∧ i ≤ ds.length ∧ ∃ F2 ρ2 G2 acc accD, R X.K ⟨T, (D0, acc) :: Φ⟩ H F2 ρ2 G2 ∧ Same F1 F2 ∧ ρ1 <+: ρ2 ∧ DrA X.K F2 ρ2 acc accD ∧ lc2L ft tt fi1 ft1 tt1 te (wipeE env (own.map (·.2))) vs1 (ds.drop i) accD G2 = some (rs, G'),
    ⟨ds.length, by simp, Nat.zero_le _, F1, ρ1, G1, [], [], R1.hold hD0, Same.refl _, List.prefix_refl _, .nil, e3⟩, ?_⟩
  rintro i m H2 ⟨rfl, hi, F2, ρ2, G2, acc, accD, R2, s2, p2, ra, e4⟩
  by_cases hlt : i < ds.length
  · refine .inr ⟨j1.go _ i H2 F2 ρ2 G2 s2 p2 R2 hlt, fun H => ∃ F2 ρ2 G2 acc accD, R X.K ⟨T, (D0, acc) :: Φ⟩ H F2 ρ2 G2 ∧ Same F1 F2 ∧ ρ1 <+: ρ2 ∧ DrA X.K F2 ρ2 acc accD ∧ lc2L ft tt fi1 ft1 tt1 te (wipeE env (own.map (·.2))) vs1 (ds.drop (i + 1)) accD G2 = some (rs, G'),
      fun H' q => ⟨ds.length - (i + 1), by omega, rfl, hlt, q⟩, fun x H3 y => ?_⟩
    have hd : ds[i]? = some ds[i] := List.getElem?_eq_getElem hlt
    obtain ⟨F3, R3, s3, _, r3⟩ := j1.yld _ i H2 F2 ρ2 G2 x H3 _ s2 p2 R2 hd y
    rw [List.drop_eq_getElem_cons hlt] at e4
    unfold lc2L at e4
    split at e4
    · cases e4
    rename_i e5 G5 q5
    have S3 : RS X.K F3 ρ2 (L2.wipe σ (own.map (·.2))) (wipeE env (own.map (·.2))) := (((hS.mono s1 p1).mono s2 p2).mono s3 (List.prefix_refl _)).wipe _
    refine ⟨_, F3, ρ2, G2, _, _, e5, G5, R3, S3, r3, q5, fun σ5 H5 F5 ρ5 R5 s5 p5 S5 t5 => ⟨wipe_touch t5 hu, ?_⟩⟩
    split at e4
    rotate_left
    · cases e4
    rename_i b G6 q6
    have s15 : Same F1 F5 := (s2.trans s3).trans s5
    have p15 : ρ1 <+: ρ5 := p2.trans p5
    refine ⟨_, F5, ρ5, G5, e5, R5, S5, .ok b, G6, q6, fun H6 F6 ρ6 R6 s6 p6 => ?_⟩
    cases b with
    | false =>
      rw [if_neg Bool.false_ne_true] at e4 ⊢
      exact ⟨F6, ρ6, G6, acc, accD, R6, s15.trans s6, p15.trans p6, ((ra.mono s3 (List.prefix_refl _)).mono s5 p5).mono s6 p6, e4⟩
    | true =>
      rw [if_pos rfl] at e4 ⊢
      split at e4
      rotate_left
      · cases e4
      rename_i ds1 G7 q7
      split at e4
      rotate_left
      · cases e4
      rename_i acc2 G8 q8
      have S6 := S5.mono s6 p6
      have s16 : Same F1 F6 := s15.trans s6
      have p16 : ρ1 <+: ρ6 := p15.trans p6
      have ra6 : DrA X.K F6 ρ6 acc accD := ((ra.mono s3 (List.prefix_refl _)).mono s5 p5).mono s6 p6
      refine ⟨_, F6, ρ6, G6, e5, R6, S6, .ok ds1, G7, q7, fun J1 H7 F7 ρ7 R7 s7 p7 k1 => ?_⟩
      refine ⟨fun j k H => k = ds1.length - j ∧ j ≤ ds1.length ∧ ∃ F8 ρ8 G9 ac acD, R X.K ⟨T, (D0, ac) :: Φ⟩ H F8 ρ8 G9 ∧ Same F7 F8 ∧ ρ7 <+: ρ8 ∧ DrA X.K F8 ρ8 ac acD ∧ lcL ft1 tt1 te (wipeE e5 vs1) (ds1.drop j) acD G9 = some (acc2, G8),
        ⟨ds1.length, by simp, Nat.zero_le _, F7, ρ7, G7, acc, accD, R7, Same.refl _, List.prefix_refl _, ra6.mono s7 p7, q8⟩, ?_⟩
      rintro j k H8 ⟨rfl, hj, F8, ρ8, G9, ac, acD, R8, s8, p8, ra8, e8⟩
      by_cases hlt1 : j < ds1.length
      · refine .inr ⟨k1.go _ j H8 F8 ρ8 G9 s8 p8 R8 hlt1, fun H => ∃ F8 ρ8 G9 ac acD, R X.K ⟨T, (D0, ac) :: Φ⟩ H F8 ρ8 G9 ∧ Same F7 F8 ∧ ρ7 <+: ρ8 ∧ DrA X.K F8 ρ8 ac acD ∧ lcL ft1 tt1 te (wipeE e5 vs1) (ds1.drop (j + 1)) acD G9 = some (acc2, G8),
          fun H' q => ⟨ds1.length - (j + 1), by omega, rfl, hlt1, q⟩, fun x1 H9 y1 => ?_⟩
        have hd1 : ds1[j]? = some ds1[j] := List.getElem?_eq_getElem hlt1
        obtain ⟨F9, R9, s9, _, r9⟩ := k1.yld _ j H8 F8 ρ8 G9 x1 H9 _ s8 p8 R8 hd1 y1
        rw [List.drop_eq_getElem_cons hlt1] at e8
        unfold lcL at e8
        split at e8
        · cases e8
        rename_i e10 G10 q10
        have S9 : RS X.K F9 ρ8 (L2.wipe σ5 vs1) (wipeE e5 vs1) := (((S6.mono s7 p7).mono s8 p8).mono s9 (List.prefix_refl _)).wipe _
        refine ⟨_, F9, ρ8, G9, _, _, e10, G10, R9, S9, r9, q10, fun σ10 H10 F10 ρ10 R10 s10 p10 S10 t10 => ⟨wipe_touch t10 hu1, ?_⟩⟩
        split at e8
        rotate_left
        · cases e8
        rename_i b1 G11 q11
        have s710 : Same F7 F10 := (s8.trans s9).trans s10
        have p710 : ρ7 <+: ρ10 := p8.trans p10
        refine ⟨_, F10, ρ10, G10, e10, R10, S10, .ok b1, G11, q11, fun H11 F11 ρ11 R11 s11 p11 => ?_⟩
        cases b1 with
        | false =>
          rw [if_neg Bool.false_ne_true] at e8 ⊢
          exact ⟨F11, ρ11, G11, ac, acD, R11, s710.trans s11, p710.trans p11, ((ra8.mono s9 (List.prefix_refl _)).mono s10 p10).mono s11 p11, e8⟩
        | true =>
          rw [if_pos rfl] at e8 ⊢
          split at e8
          rotate_left
          · cases e8
          rename_i yd G12 q12
          split at e8
          rotate_left
          · cases e8
          rename_i hz
          refine ⟨_, F11, ρ11, G11, e10, R11, S10.mono s11 p11, .ok yd, G12, q12, fun v H12 F12 ρ12 R12 s12 p12 r12 _ => ?_⟩
          obtain ⟨h1, _, _⟩ := R12.hld (D0, ac) List.mem_cons_self
          refine ⟨ac, h1, by rw [ra8.length]; exact hz, F12, ρ12, G12, ac ++ [v], acD ++ [yd], R12.sethld, (s710.trans s11).trans s12, (p710.trans p11).trans p12, ?_, e8⟩
          exact ((((ra8.mono s9 (List.prefix_refl _)).mono s10 p10).mono s11 p11).mono s12 p12).append (.cons r12 .nil)
      · have he : j = ds1.length := by omega
        subst he
        rw [List.drop_length] at e8
        cases e8
        refine .inl ⟨k1.stop _ H8 F8 ρ8 _ s8 p8 R8, ?_⟩
        exact ⟨F8, ρ8, _, ac, _, R8, (s16.trans s7).trans s8, (p16.trans p7).trans p8, ra8, e4⟩
  · have he : i = ds.length := by omega
    subst he
    rw [List.drop_length] at e4
    cases e4
    refine .inl ⟨j1.stop _ H2 F2 ρ2 _ s2 p2 R2, ?_⟩
    obtain ⟨f1, f2⟩ := fresh_held R2 ra hF0
    have hF2 := (R2.hld (D0, acc) List.mem_cons_self).2.1
    exact h (.ref D0) H2 _ ρ2 R2.release ((s1.trans s2).trans (same_updN hF2)) (p1.trans p2) f1 fun _ => f2
abbrev InBlk2 (X : Cx) (T : List Addr) (k : Nat) (scope : Scope) (tg tg1 iter1 elt : Expr) (ifs ifs1 : List Expr) (us us1 : List Nat) (ft : MT) (tt : EnvD → M Bool) (fi1 : EnvD → M (List D)) (ft1 : MT) (tt1 : EnvD → M Bool) (te : EnvD → M D) (gr : Bool) : Prop :=
  ∀ (s : Shared) (H : Hp) (C : Addr) (cl : List (Str × Addr)) (fp : List Addr), Stand (X.blk s H scope (compEnvC scope cl C X.env) fp) k W0 →
    PGV (X.blk s H scope (compEnvC scope cl C X.env) fp) T us tg ft ∧ PTsV (X.blk s H scope (compEnvC scope cl C X.env) fp) T ifs tt ∧ PIV (X.blk s H scope (compEnvC scope cl C X.env) fp) T W0 tg1 iter1 fi1 ∧
    PGV (X.blk s H scope (compEnvC scope cl C X.env) fp) T us1 tg1 ft1 ∧ PTsV (X.blk s H scope (compEnvC scope cl C X.env) fp) T ifs1 tt1 ∧ PV (X.blk s H scope (compEnvC scope cl C X.env) fp) T W0 gr elt te
theorem mkLc2 {k : Nat} (S : Stand X k W) (nd : X.N.Nodup) (hi : PIV X T W tg iter fi) (ok : BlkOk X.N X.env.scope scope own) (hv : ∀ i ∈ vs1, i ∈ own.map (·.2)) (hu : ∀ i ∈ us, i ∈ own.map (·.2)) (hu1 : ∀ i ∈ us1, i ∈ vs1) (h : InBlk2 X T k scope tg tg1 iter1 elt ifs ifs1 us us1 ft tt fi1 ft1 tt1 te gr)
    (hs : ∀ x, foldedSetIterable iter X.env x = pure x := by intro _; rfl) (hs1 : ∀ env x, foldedSetIterable iter1 env x = pure x := by intro _ _; rfl) :
    PV X T W true (.ListComp elt [⟨tg, iter, ifs, 0⟩, ⟨tg1, iter1, ifs1, 0⟩] scope pos) (lc2M fi ft tt fi1 ft1 tt1 te (own.map (·.2)) vs1) :=
  PE.imp (pe_lc2 S.calm nd hi ok hv (fun s H C cl fp => (h s H C cl fp S.blk).1) (fun s H C cl fp => (h s H C cl fp S.blk).2.1) (fun s H C cl fp => (h s H C cl fp S.blk).2.2.1) (fun s H C cl fp => (h s H C cl fp S.blk).2.2.2.1) (fun s H C cl fp => (h s H C cl fp S.blk).2.2.2.2.1) (fun s H C cl fp => (h s H C cl fp S.blk).2.2.2.2.2) hs hs1) fun σ H Q h => lc2_go hu hu1 h
theorem setLc2 {k : Nat} (i : Nat) {y : Str} {py spos : Pos} (S : Stand X k W) (nd : X.N.Nodup) (hy : X.N[i]? = some y) (hyl : X.env.scope.names.lookup y = some .local) (hsw : swapsWith (.ListComp elt [⟨tg, iter, ifs, 0⟩, ⟨tg1, iter1, ifs1, 0⟩] scope pos) (some (.Name y py)) spos.line X.env = pure true)
    (hi : PIV X T W tg iter fi) (ok : BlkOk X.N X.env.scope scope own) (hv : ∀ i ∈ vs1, i ∈ own.map (·.2)) (hu : ∀ i ∈ us, i ∈ own.map (·.2)) (hu1 : ∀ i ∈ us1, i ∈ vs1) (h : InBlk2 X T k scope tg tg1 iter1 elt ifs ifs1 us us1 ft tt fi1 ft1 tt1 te gr)
    (hs : ∀ x, foldedSetIterable iter X.env x = pure x := by intro _; rfl) (hs1 : ∀ env x, foldedSetIterable iter1 env x = pure x := by intro _ _; rfl) :
    PSV X T W (.Assign [.Name y py] (.ListComp elt [⟨tg, iter, ifs, 0⟩, ⟨tg1, iter1, ifs1, 0⟩] scope pos) spos) (setS i (lc2M fi ft tt fi1 ft1 tt1 te (own.map (·.2)) vs1)) :=
  PS.imp (ps_setLc2 S.calm nd hy hyl hsw hi ok hv (fun s H C cl fp => (h s H C cl fp S.blk).1) (fun s H C cl fp => (h s H C cl fp S.blk).2.1) (fun s H C cl fp => (h s H C cl fp S.blk).2.2.1) (fun s H C cl fp => (h s H C cl fp S.blk).2.2.2.1) (fun s H C cl fp => (h s H C cl fp S.blk).2.2.2.2.1) (fun s H C cl fp => (h s H C cl fp S.blk).2.2.2.2.2) hs hs1) fun Dn σ H h => lc2_go hu hu1 (set_go (fr := true) h)
end
/-! list(range(a, b)) -/
theorem DrA.maps {α : Type} {K : PySem.W.Frag} {F : Hp} {ρ : List Addr} {f : α → V} {g : α → D} (h : ∀ x, Dr K F ρ (f x) (g x)) : ∀ l : List α, DrA K F ρ (l.map f) (l.map g)
  | [] => .nil
  | x :: l => .cons (h x) (DrA.maps h l)
open Classical in
noncomputable def rngL (d e : D) : M D := match d, e with
  | .int i, .int j => if RgOk i j then pure (.lst (rangeD i (j - i).toNat)) else stuck
  | _, _ => stuck
section
variable {X : Cx} {T : List Addr} {W : WX} {pos p q rpos : Pos} {a b : Expr} {fa fb : EnvD → M D} {ga gb : Bool}
theorem v_listRg (hc : X.calm = true) (hg : Gl X "list") (hm : X.mg "list" = none) (hg2 : Gl X "range") (hm2 : X.mg "range" = none) (ha : PV X T W ga a fa) (hb : PV X T W gb b fb)
    (na : starEach [Expr.Call (.Name "range" q) [a, b] [] rpos] X.env = (false, eval (Expr.Call (.Name "range" q) [a, b] [] rpos) X.env) :: starEach [] X.env := by rfl) (na2 : starEach [a, b] X.env = (false, eval a X.env) :: starEach [b] X.env := by rfl) (nb3 : starEach [b] X.env = (false, eval b X.env) :: starEach [] X.env := by rfl) (nb2 : (backTo rpos (starEach [b] X.env)).any (fun x => x.1) = false := by rfl) :
    PV X T W true (.Call (.Name "list" p) [.Call (.Name "range" q) [a, b] [] rpos] [] pos) (fun env => do let d ← fa env; let e ← fb env; rngL d e) :=
  PE.imp (pe_listRg hc hg hm (prg_2 hg2 hm2 ha hb na2 nb3 nb2) na) fun σ H Q ⟨Φ, F, ρ, G, env, hR, hS, h⟩ => ⟨Φ, F, ρ, G, env, hR, hS, Run.bind (fr1 := ga) h fun v d H1 F1 ρ1 G1 R1 s1 p1 r1 _ h1 => ⟨Φ, F1, ρ1, G1, env, R1, hS.mono s1 p1, Run.bind (fr1 := gb) h1 fun w e H2 F2 ρ2 G2 R2 s2 p2 r2 _ h2 => by
    have r1 := r1.mono s2 p2
    have no : ∀ {P : Prop}, Run X.K ⟨T, Φ⟩ X.mg W σ true F2 ρ2 (stuck : M D) G2 Q → P := fun z => z.stuck.elim
    cases r1 with
    | int i =>
      cases r2 with
      | int j =>
        unfold rngL at h2
        dsimp only at h2
        split at h2
        · rename_i hok
          exact ⟨i, j, rfl, rfl, hok, fun l hl => Run.newL h2 R2 (DrA.maps (fun k => .int _) _) hl⟩
        · exact no h2
      | _ => exact no h2
    | _ => exact no h2⟩⟩
end
/-! the whole root -/
def rIsq : List V → Hp → VK → Prop := fun vs H Q => ∃ i, vs = [.int i] ∧ (0 ≤ i ∧ i < 2 ^ 64) ∧ Q (.int (Float64.isqrt i.toNat : Nat)) H
theorem call_isqrtX {X : Cx} : CallR X (.builtin "math.isqrt") rIsq := by
  intro pins s σ H vs us Q I r h
  obtain ⟨i, rfl, ⟨h0, h1⟩, q⟩ := h
  obtain ⟨u, rfl, ru⟩ := vals1 r
  obtain ⟨t, rfl⟩ := ru
  exact PySem.W.mg_isqrt h0 h1 ⟨.int (Float64.isqrt i.toNat : Nat), H, I.tok _, ⟨s.toks, rfl⟩, q⟩
def fIsqrt : List D → M D
  | [.int i] => if 0 ≤ i ∧ i < 2 ^ 64 then pure (.int (Float64.isqrt i.toNat : Nat)) else stuck
  | _ => stuck
theorem s_isqrt {K : PySem.W.Frag} {mg : Str → Option Value} {fr : Bool} : CallV K mg fr rIsq fIsqrt := by
  intro T W σ vs ds H F ρ G Q hR rs h
  unfold fIsqrt at h
  split at h
  · rename_i i
    obtain ⟨v, rfl, r⟩ := rs.one
    cases r
    split at h
    · rename_i hz
      exact ⟨i, rfl, hz, Run.pure (d := .int (Float64.isqrt i.toNat : Nat)) h hR (.int _) fun _ => .of fun _ z => nomatch z⟩
    · exact h.stuck.elim
  · exact h.stuck.elim
section
variable {X : Cx} {T : List Addr} {W : WX} {pos : Pos} {fr : Bool}
theorem v_callMB {x : Str} {p : Pos} {id : String} {e : Expr} {es : List Expr} {fs : EnvD → M (List D)} {r : List V → Hp → VK → Prop} {g : List D → M D} (hc : CallR X (.builtin id) r) (hg : CallV X.K X.mg fr r g) (hgl : Gl X x) (hm : X.mg x = some (.builtin id)) (ha : PVs X T W (e :: es) fs) (hdb : (x == ("__debug__" : Str)) = false := by decide)
    (he : starEach (e :: es) X.env = (false, eval e X.env) :: starEach es X.env := by rfl) (hpl : (backTo pos (starEach es X.env)).any (·.1) = false := by rfl) : PV X T W fr (.Call (.Name x p) (e :: es) [] pos) (fun env => do let ds ← fs env; g ds) :=
  PE.imp (pe_callMB hc hgl hm ha hdb he hpl) fun σ H Q h => args_vals hg h
end
def isBlt (id : String) (u : Value) : Bool := decide (u = .builtin id)
theorem glB_of {K : PySem.W.Frag} {h : Heap} {mg : Str → Option Value} (X : K.In h) (G : h.Ns mainGlobals mg) {x : Str} {id : String} (c : atMain K x (isBlt id) = true) : mg x = some (.builtin id) := by
  unfold atMain at c
  split at c
  · rename_i u q
    have e : u = .builtin id := of_decide_eq_true c
    rw [← e]
    exact PySem.W.mg_of X G q
  · cases c
/-! what they give -/
def wpC2 (ft : MT) (tt : EnvD → M Bool) (fi1 : EnvD → M (List D)) (ft1 : MT) (tt1 : EnvD → M Bool) (te : EnvD → M D) (env : EnvD) (vs1 : List Nat) (ds acc : List D) (G : Gh) (Q : List D → Gh → Prop) : Prop := ∃ r G', lc2L ft tt fi1 ft1 tt1 te env vs1 ds acc G = some (r, G') ∧ Q r G'
section
variable {G : Gh} {Q : D → Gh → Prop} {QL : List D → Gh → Prop} {env : EnvD} {ft ft1 : MT} {tt tt1 : EnvD → M Bool} {te : EnvD → M D} {fi fi1 : EnvD → M (List D)} {vs vs1 : List Nat} {d : D} {ds acc : List D}
theorem wp_lc2 : wpM (lc2M fi ft tt fi1 ft1 tt1 te vs vs1 env) G Q ↔ wpM (fi env) G fun ds G1 => wpC2 ft tt fi1 ft1 tt1 te (wipeE env vs) vs1 ds [] G1 fun r G2 => Q (.lst r) G2 := by
  unfold lc2M
  rw [wpM_bind]
  constructor
  · exact fun h => h.mono fun ds G1 ⟨a, G', e, h⟩ => by
      dsimp only at e
      cases q : lc2L ft tt fi1 ft1 tt1 te (wipeE env vs) vs1 ds [] G1 with
      | none => rw [q] at e; cases e
      | some r => obtain ⟨r, G2⟩ := r; rw [q] at e; cases e; exact ⟨r, _, q, h⟩
  · exact fun h => h.mono fun ds G1 ⟨r, G', e, h⟩ => ⟨.lst r, G', by dsimp only; rw [e], h⟩
theorem wpC2_nil : wpC2 ft tt fi1 ft1 tt1 te env vs1 [] acc G QL ↔ QL acc G := ⟨fun ⟨_, _, e, h⟩ => by cases e; exact h, fun h => ⟨_, _, rfl, h⟩⟩
/-- one direction is enough: an outer element, its inner ones, the rest -/
theorem wpC2_cons (h : wpT ft d env G fun e G1 => wpM (tt e) G1 fun b G2 => if b = true then wpM (fi1 e) G2 fun ds1 G3 => wpC ft1 tt1 te (wipeE e vs1) ds1 acc G3 fun acc2 G4 => wpC2 ft tt fi1 ft1 tt1 te env vs1 ds acc2 G4 QL else wpC2 ft tt fi1 ft1 tt1 te env vs1 ds acc G2 QL) :
    wpC2 ft tt fi1 ft1 tt1 te env vs1 (d :: ds) acc G QL := by
  obtain ⟨e1, G1, q1, b, G2, q2, h⟩ := h
  cases b with
  | false =>
    obtain ⟨r, G', e, h⟩ := h
    exact ⟨r, G', by unfold lc2L; rw [q1]; dsimp only; rw [q2]; simpa using e, h⟩
  | true =>
    obtain ⟨ds1, G3, q3, acc2, G4, q4, r, G', e, h⟩ := h
    exact ⟨r, G', by unfold lc2L; rw [q1]; dsimp only; rw [q2]; dsimp only; rw [if_pos rfl, q3]; dsimp only; rw [q4]; exact e, h⟩
theorem wp_isqrt {i : Int} (h0 : 0 ≤ i) (h1 : i < 2 ^ 64) : wpM (fIsqrt [.int i]) G Q ↔ Q (.int (Float64.isqrt i.toNat : Nat)) G := by
  unfold fIsqrt
  rw [wpM_ite, if_pos ⟨h0, h1⟩, wpM_pure]
theorem wp_rngL {i j : Int} (h : RgOk i j) : wpM (rngL (.int i) (.int j)) G Q ↔ Q (.lst (rangeD i (j - i).toNat)) G := by
  unfold rngL
  dsimp only
  rw [if_pos h]
  exact wpM_pure
end
end L2.GL
end

section
set_option Elab.async false
set_option linter.all false
set_option maxRecDepth 100000
set_option autoImplicit false
/-! G22: a comprehension over a list made in this run. -/
namespace L2.GL
open PySem PySem.Spec PyProof.Rows
open Classical in
noncomputable def lcLC (n : Nat) (ds0 : List D) (ft : MT) (tt : EnvD → M Bool) (te : EnvD → M D) (env : EnvD) : List D → List D → Gh → Option (List D × Gh)
  | [], acc, G => if G[n]? = some ds0 then some (acc, G) else none
  | d :: ds, acc, G => if G[n]? = some ds0 then (match ft d env G with
    | none => none
    | some (e1, G1) => match tt e1 G1 with
      | some (.ok b, G2) => if b = true then (match te e1 G2 with
          | some (.ok y, G3) => if acc.length < sizeLine then lcLC n ds0 ft tt te env ds (acc ++ [y]) G3 else none
          | _ => none) else lcLC n ds0 ft tt te env ds acc G2
      | _ => none) else none
noncomputable def lcCM (fe : EnvD → M D) (ft : MT) (tt : EnvD → M Bool) (te : EnvD → M D) (vs : List Nat) : EnvD → M D := fun env => do
  let d ← fe env
  fun G => match d with
    | .cell n => (match G[n]? with
      | some ds => (match lcLC n ds ft tt te (wipeE env vs) ds [] G with
        | some (r, G') => some (.ok (.lst r), G')
        | none => none)
      | none => none)
    | _ => none
section
variable {X : Cx} {T : List Addr} {W : WX} {pos p : Pos} {elt tg iter : Expr} {ifs : List Expr} {scope : Scope} {own : List (Str × Nat)} {fe : EnvD → M D} {ft : MT} {us : List Nat} {tt : EnvD → M Bool} {te : EnvD → M D} {fr gr ga : Bool} {k : Nat}
theorem lcC_go {σ : L2.St} {H : Hp} {Q : VK} (hu : ∀ i ∈ us, i ∈ own.map (·.2)) (h : tV X.K T X.mg W true (lcCM fe ft tt te (own.map (·.2))) σ H Q) :
    tLc (tC X.K T X.mg W fe) (tG X.K T us ft) (tTs X.K T X.mg tt) (tV X.K T X.mg W0 gr te) (own.map (·.2)) σ H Q := by
  obtain ⟨Φ, F, ρ, G, env, hR, hS, r, G', e, h⟩ := h
  refine ⟨Φ, F, ρ, G, env, hR, hS, ?_⟩
  rcases bind_parts e with ⟨d, G1, e1, e2⟩ | ⟨c, e1, rfl⟩
  rotate_left
  · exact ⟨.ex c, G', e1, h⟩
  split at e2
  rotate_left
  · cases e2
  rename_i n
  split at e2
  rotate_left
  · cases e2
  rename_i ds hn
  split at e2
  rotate_left
  · cases e2
  rename_i rs G2' e3
  cases e2
  refine ⟨.ok (.cell n), G1, e1, n, ds, rfl, hn, fun J H1 F1 ρ1 R1 s1 p1 j1 => fun D0 hD0 => ?_⟩
  have hF0 : F D0 = none := s1.free (R1.sub.free hD0)
  refine ⟨fun i m H => m = ds.length - i ∧ i ≤ ds.length ∧ ∃ F2 ρ2 G2 acc accD, R X.K ⟨T, (D0, acc) :: Φ⟩ H F2 ρ2 G2 ∧ Same F1 F2 ∧ ρ1 <+: ρ2 ∧ DrA X.K F2 ρ2 acc accD ∧ lcLC n ds ft tt te (wipeE env (own.map (·.2))) (ds.drop i) accD G2 = some (rs, G'),
    ⟨ds.length, by simp, Nat.zero_le _, F1, ρ1, G1, [], [], R1.hold hD0, Same.refl _, List.prefix_refl _, .nil, e3⟩, ?_⟩
  rintro i m H2 ⟨rfl, hi, F2, ρ2, G2, acc, accD, R2, s2, p2, ra, e4⟩
  by_cases hlt : i < ds.length
  · rw [List.drop_eq_getElem_cons hlt] at e4
    unfold lcLC at e4
    split at e4
    rotate_left
    · cases e4
    rename_i hg2
    refine .inr ⟨j1.go _ i H2 F2 ρ2 G2 p2 R2 hg2 hlt, fun H => ∃ F2 ρ2 G2 acc accD, R X.K ⟨T, (D0, acc) :: Φ⟩ H F2 ρ2 G2 ∧ Same F1 F2 ∧ ρ1 <+: ρ2 ∧ DrA X.K F2 ρ2 acc accD ∧ lcLC n ds ft tt te (wipeE env (own.map (·.2))) (ds.drop (i + 1)) accD G2 = some (rs, G'),
      fun H' q => ⟨ds.length - (i + 1), by omega, rfl, hlt, q⟩, fun x H3 y => ?_⟩
    have hd : ds[i]? = some ds[i] := List.getElem?_eq_getElem hlt
    obtain ⟨rfl, r3⟩ := j1.yld _ i H2 F2 ρ2 G2 x H3 _ p2 R2 hg2 hd y
    split at e4
    · cases e4
    rename_i e5 G5 q5
    have S3 : RS X.K F2 ρ2 (L2.wipe σ (own.map (·.2))) (wipeE env (own.map (·.2))) := ((hS.mono s1 p1).mono s2 p2).wipe _
    refine ⟨_, F2, ρ2, G2, _, _, e5, G5, R2, S3, r3, q5, fun σ5 H5 F5 ρ5 R5 s5 p5 S5 t5 => ⟨wipe_touch t5 hu, ?_⟩⟩
    split at e4
    rotate_left
    · cases e4
    rename_i b G6 q6
    have s15 : Same F1 F5 := s2.trans s5
    have p15 : ρ1 <+: ρ5 := p2.trans p5
    refine ⟨_, F5, ρ5, G5, e5, R5, S5, .ok b, G6, q6, fun H6 F6 ρ6 R6 s6 p6 => ?_⟩
    cases b with
    | false =>
      rw [if_neg Bool.false_ne_true] at e4 ⊢
      exact ⟨F6, ρ6, G6, acc, accD, R6, s15.trans s6, p15.trans p6, (ra.mono s5 p5).mono s6 p6, e4⟩
    | true =>
      rw [if_pos rfl] at e4 ⊢
      split at e4
      rotate_left
      · cases e4
      rename_i yd G7 q7
      split at e4
      rotate_left
      · cases e4
      rename_i hz
      refine ⟨_, F6, ρ6, G6, e5, R6, S5.mono s6 p6, .ok yd, G7, q7, fun v H7 F7 ρ7 R7 s7 p7 r7 _ => ?_⟩
      obtain ⟨h1, _, _⟩ := R7.hld (D0, acc) List.mem_cons_self
      refine ⟨acc, h1, by rw [ra.length]; exact hz, F7, ρ7, G7, acc ++ [v], accD ++ [yd], R7.sethld, (s15.trans s6).trans s7, (p15.trans p6).trans p7, ?_, e4⟩
      exact (((ra.mono s5 p5).mono s6 p6).mono s7 p7).append (.cons r7 .nil)
  · have he : i = ds.length := by omega
    subst he
    rw [List.drop_length] at e4
    unfold lcLC at e4
    split at e4
    rotate_left
    · cases e4
    rename_i hg2
    cases e4
    refine .inl ⟨j1.stop _ H2 F2 ρ2 _ p2 R2 hg2, ?_⟩
    obtain ⟨f1, f2⟩ := fresh_held R2 ra hF0
    have hF2 := (R2.hld (D0, acc) List.mem_cons_self).2.1
    exact h (.ref D0) H2 _ ρ2 R2.release ((s1.trans s2).trans (same_updN hF2)) (p1.trans p2) f1 fun _ => f2
theorem mkLcC (S : Stand X k W) (nd : X.N.Nodup) (hi : PV X T W ga iter fe) (ok : BlkOk X.N X.env.scope scope own) (hu : ∀ i ∈ us, i ∈ own.map (·.2)) (h : InBlk X T k scope tg elt ifs us ft tt te gr) (hs : ∀ x, foldedSetIterable iter X.env x = pure x := by intro _; rfl) :
    PV X T W true (.ListComp elt [⟨tg, iter, ifs, 0⟩] scope pos) (lcCM fe ft tt te (own.map (·.2))) :=
  PE.imp (pe_lc S.calm nd (i_cell (tg := tg) hi) ok (fun s H C cl fp => (h s H C cl fp S.blk).1) (fun s H C cl fp => (h s H C cl fp S.blk).2.1) (fun s H C cl fp => (h s H C cl fp S.blk).2.2) hs) fun σ H Q h => lcC_go hu h
theorem setLcC (i : Nat) {y : Str} {py spos : Pos} (S : Stand X k W) (nd : X.N.Nodup) (hy : X.N[i]? = some y) (hyl : X.env.scope.names.lookup y = some .local) (hsw : swapsWith (.ListComp elt [⟨tg, iter, ifs, 0⟩] scope pos) (some (.Name y py)) spos.line X.env = pure true)
    (hi : PV X T W ga iter fe) (ok : BlkOk X.N X.env.scope scope own) (hu : ∀ i ∈ us, i ∈ own.map (·.2)) (h : InBlk X T k scope tg elt ifs us ft tt te gr) (hs : ∀ x, foldedSetIterable iter X.env x = pure x := by intro _; rfl) :
    PSV X T W (.Assign [.Name y py] (.ListComp elt [⟨tg, iter, ifs, 0⟩] scope pos) spos) (setS i (lcCM fe ft tt te (own.map (·.2)))) :=
  PS.imp (ps_setLc S.calm nd hy hyl hsw (i_cell (tg := tg) hi) ok (fun s H C cl fp => (h s H C cl fp S.blk).1) (fun s H C cl fp => (h s H C cl fp S.blk).2.1) (fun s H C cl fp => (h s H C cl fp S.blk).2.2) hs) fun Dn σ H h => lcC_go hu (set_go (fr := true) h)
end
def wpCC (n : Nat) (ds0 : List D) (ft : MT) (tt : EnvD → M Bool) (te : EnvD → M D) (env : EnvD) (ds acc : List D) (G : Gh) (Q : List D → Gh → Prop) : Prop := ∃ r G', lcLC n ds0 ft tt te env ds acc G = some (r, G') ∧ Q r G'
section
variable {G : Gh} {Q : D → Gh → Prop} {QL : List D → Gh → Prop} {env : EnvD} {ft : MT} {tt : EnvD → M Bool} {te : EnvD → M D} {fe : EnvD → M D} {vs : List Nat} {d : D} {ds acc ds0 : List D} {n : Nat}
theorem wp_lcC (h : wpM (fe env) G fun d G1 => match d with
    | .cell n => ∃ ds, G1[n]? = some ds ∧ wpCC n ds ft tt te (wipeE env vs) ds [] G1 fun r G2 => Q (.lst r) G2
    | _ => False) : wpM (lcCM fe ft tt te vs env) G Q := by
  unfold lcCM
  rw [wpM_bind]
  exact h.mono fun d G1 h => by
    cases d with
    | cell n =>
      obtain ⟨ds, q, r, G', e, h⟩ := h
      exact ⟨.lst r, G', by dsimp only; rw [q]; dsimp only; rw [e], h⟩
    | _ => exact h.elim
theorem wpCC_nil (hg : G[n]? = some ds0) (h : QL acc G) : wpCC n ds0 ft tt te env [] acc G QL := ⟨acc, G, by unfold lcLC; rw [if_pos hg], h⟩
theorem wpCC_cons (hg : G[n]? = some ds0) (h : wpT ft d env G fun e G1 => wpM (tt e) G1 fun b G2 => if b = true then wpM (te e) G2 fun y G3 => acc.length < sizeLine ∧ wpCC n ds0 ft tt te env ds (acc ++ [y]) G3 QL else wpCC n ds0 ft tt te env ds acc G2 QL) :
    wpCC n ds0 ft tt te env (d :: ds) acc G QL := by
  obtain ⟨e1, G1, q1, b, G2, q2, h⟩ := h
  cases b with
  | false =>
    obtain ⟨r, G', e, h⟩ := h
    exact ⟨r, G', by unfold lcLC; rw [if_pos hg, q1]; dsimp only; rw [q2]; simpa using e, h⟩
  | true =>
    obtain ⟨y, G3, q3, hz, r, G', e, h⟩ := h
    exact ⟨r, G', by unfold lcLC; rw [if_pos hg, q1]; dsimp only; rw [q2]; dsimp only; rw [if_pos rfl, q3]; dsimp only; rw [if_pos hz]; exact e, h⟩
end
end L2.GL
end

section
set_option Elab.async false
set_option linter.all false
set_option maxRecDepth 100000
set_option autoImplicit false
/-! G23: x, y = [], e (x a list that is changed); min of a list; sorted of a list made in the run. -/
namespace L2.GL
open PySem PySem.Spec PyProof.Rows
def parES (i j : Nat) (fb : EnvD → M D) : MS := fun env G => runE (fb env) env (fun e G1 => some (.nx ((env.set i (some (.cell G.length))).set j (some e)), G1)) (G ++ [[]])
section
variable {X : Cx} {T : List Addr} {W : WX} {pos : Pos} {b : Expr} {fb : EnvD → M D} {gb : Bool}
theorem s_parE {i j : Nat} {x y : Str} {px py pt lpos : Pos} {kt k2 : Nat} {pt2 : Pos} (hc : X.calm = true) (hN : X.N.Nodup) (hi : X.N[i]? = some x) (hj : X.N[j]? = some y) (hij : i ≠ j)
    (hx : X.env.scope.names.lookup x = some .local) (hy : X.env.scope.names.lookup y = some .local) (hb : PV X T W gb b fb)
    (hw : swappedStores [.Tuple [.Name x px, .Name y py] kt pt] (.Tuple [.List [] lpos, b] k2 pt2) X.env = pure (some [x, y]))
    (ns : starEach [Expr.List [] lpos, b] X.env = (false, eval (Expr.List [] lpos) X.env) :: starEach [b] X.env := by rfl) (nb : starEach [b] X.env = (false, eval b X.env) :: starEach [] X.env := by rfl)
    (hs : swapsWithSole [.Tuple [.Name x px, .Name y py] kt pt] (.Tuple [.List [] lpos, b] k2 pt2) pos.line X.env = pure false := by rfl) :
    PSV X T W (.Assign [.Tuple [.Name x px, .Name y py] kt pt] (.Tuple [.List [] lpos, b] k2 pt2) pos) (parES i j fb) :=
  PS.imp (ps_par hc hN hi hj hij hx hy (pa_cons (pe_lst pa_nil) (pa_cons hb pa_nil nb) ns) hw hs) fun Dn σ H ⟨Φ, F, ρ, G, env, hR, hS, o, G', e, h⟩ => by
    refine ⟨Nat.zero_le _, fun p hp => ?_⟩
    have R1 : R X.K ⟨T, Φ⟩ (upd H p (.lst [])) F (ρ ++ [p]) (G ++ [[]]) := hR.newcell hp .nil
    have p1 : ρ <+: ρ ++ [p] := List.prefix_append _ _
    have S1 : RS X.K F (ρ ++ [p]) σ env := hS.mono (Same.refl _) p1
    have hcell : (ρ ++ [p])[G.length]? = some p := by
      rw [← hR.len, List.getElem?_append_right (Nat.le_refl _)]
      simp
    rcases runE_parts e with ⟨d, G1, e1, e2⟩ | ⟨c, e1, e2⟩
    · refine ⟨Φ, F, ρ ++ [p], G ++ [[]], env, R1, S1, .ok d, G1, e1, fun v H2 F2 ρ2 R2 s2 p2 r2 _ => ?_⟩
      refine ⟨.ref p, v, rfl, ?_⟩
      have hrun : RunS X.K ⟨T, Φ⟩ X.mg W F ρ (some (o, G')) Dn := ⟨o, G', rfl, h⟩
      rw [← e2] at hrun
      exact hrun.nx R2 s2 (p1.trans p2) (((S1.mono s2 p2).set (.cell (prefix_get p2 hcell))).set r2)
    · refine ⟨Φ, F, ρ ++ [p], G ++ [[]], env, R1, S1, .ex c, (o, G').2, e1, fun cls H' F' ρ' h0 h1 h2 h3 => ?_⟩
      obtain rfl : o = .ex c env := e2
      exact h cls σ H' F' ρ' h0 h1 h2 (p1.trans h3) ((hS.mono h2 (p1.trans h3)))
end
/-! min of a list -/
def minOf : List Int → Int → Int
  | [], m => m
  | n :: ns, m => minOf ns (if n < m then n else m)
theorem minOf_le : ∀ (ns : List Int) (m : Int), minOf ns m ≤ m ∧ (∀ y ∈ ns, minOf ns m ≤ y) ∧ (minOf ns m = m ∨ minOf ns m ∈ ns)
  | [], m => ⟨Int.le_refl _, fun _ h => absurd h (by simp), .inl rfl⟩
  | n :: ns, m => by
    obtain ⟨h1, h2, h3⟩ := minOf_le ns (if n < m then n else m)
    rw [show minOf (n :: ns) m = minOf ns (if n < m then n else m) from rfl]
    generalize minOf ns (if n < m then n else m) = q at *
    have h4 : q ≤ m ∧ q ≤ n := by split at h1 <;> omega
    refine ⟨h4.1, fun y hy => ?_, ?_⟩
    · rcases List.mem_cons.mp hy with e | hy
      · rw [e]; exact h4.2
      · exact h2 y hy
    · rcases h3 with h3 | h3
      · split at h3
        · exact .inr (by rw [h3]; exact List.mem_cons_self)
        · exact .inl h3
      · exact .inr (List.mem_cons_of_mem _ h3)
def fMinL : List D → M D
  | [d] => do let ds ← getL d; let ns ← liftO (intsOf ds); (match ns with
    | [] => stuck
    | n :: ns => pure (.int (minOf ns n)))
  | _ => stuck
theorem s_minL {K : PySem.W.Frag} {mg : Str → Option Value} {fr : Bool} : CallV K mg fr (rMin K) fMinL := by
  intro T W σ vs ds H F ρ G Q hR rs h
  match ds, rs, h with
  | [], rs, h => exact h.stuck.elim
  | [d], rs, h =>
    obtain ⟨v, rfl, r⟩ := rs.one
    obtain ⟨a, xs, ds, rfl, q2, q3, q4⟩ := Run.getL (k := fun ds => liftO (intsOf ds) >>= fun ns => (match ns with | [] => (stuck : M D) | n :: ns => pure (.int (minOf ns n)))) h hR r
    cases hi : intsOf ds with
    | none => rw [hi] at q4; obtain ⟨r', G', e', _⟩ := q4; cases e'
    | some ns =>
      rw [hi] at q4
      cases ns with
      | nil => obtain ⟨r', G', e', _⟩ := q4; cases e'
      | cons n ns =>
        have q5 : Run K T mg W σ fr F ρ (Pure.pure (D.int (minOf ns n)) : M D) G Q := q4
        obtain ⟨m1, m2, m3⟩ := minOf_le ns n
        refine ⟨a, n :: ns, rfl, by rw [← intsOf_V hi q3]; exact q2, Nat.succ_pos _, fun m hm hle => ?_⟩
        have e : m = minOf ns n := by
          have a1 : m ≤ minOf ns n := by
            rcases m3 with m3 | m3
            · rw [m3]; exact hle _ List.mem_cons_self
            · exact hle _ (List.mem_cons_of_mem _ m3)
          have a2 : minOf ns n ≤ m := by
            rcases List.mem_cons.mp hm with rfl | hm
            · exact m1
            · exact m2 _ hm
          omega
        rw [e]
        exact Run.pure (d := .int (minOf ns n)) q5 hR (.int _) fun _ => .of fun _ z => nomatch z
  | d :: e :: r, rs, h => exact h.stuck.elim
section
variable {G : Gh} {Q : D → Gh → Prop} {n : Nat} {ds : List D}
theorem wp_minL {ns : List Int} {m : Int} (h : intsOf ds = some (m :: ns)) : wpM (fMinL [.lst ds]) G Q ↔ Q (.int (minOf ns m)) G := by
  unfold fMinL
  rw [wpM_bind, getL_lst, wpM_pure, wpM_bind, h, liftO_some, wpM_pure, wpM_pure]
theorem wp_sortedC {ps : List I2} (h : G[n]? = some ds) (h2 : ptsOf ds = some ps) : wpM (fSorted [.cell n]) G Q ↔ Q (.lst ((sortP ps).map ptD)) G := by
  have e : getL (.cell n) G = some (.ok ds, G) := by
    unfold getL
    dsimp only
    rw [h]
  rw [show fSorted [.cell n] = (getL (.cell n) >>= fun ds => liftO (ptsOf ds) >>= fun ps => pure (.lst ((sortP ps).map ptD))) from rfl, wpM_bind]
  constructor
  · rintro ⟨a, G', e', z⟩
    rw [e] at e'
    cases e'
    replace z : wpM (liftO (ptsOf ds) >>= fun ps => pure (.lst ((sortP ps).map ptD))) G Q := z
    rw [wpM_bind, h2, liftO_some, wpM_pure, wpM_pure] at z
    exact z
  · exact fun z => ⟨_, _, e, by
      show wpM (liftO (ptsOf ds) >>= fun ps => pure (.lst ((sortP ps).map ptD))) G Q
      rw [wpM_bind, h2, liftO_some, wpM_pure, wpM_pure]; exact z⟩
end
section
variable {env : EnvD} {G : Gh} {k : K4} {i j : Nat} {fb : EnvD → M D}
theorem wpS_parE : wpS (parES i j fb) env G k ↔ wpM (fb env) (G ++ [[]]) fun e G1 => k.nx ((env.set i (some (.cell G.length))).set j (some e)) G1 := by
  unfold wpS parES
  rw [wpR_runE]
  constructor <;> exact fun h => h.mono fun e G' h => by simpa using h
end
end L2.GL
end

section
set_option Elab.async false
set_option linter.all false
set_option maxRecDepth 100000
set_option autoImplicit false
/-! G24: gcd; a chain as a value; xs[::-1]; max of a list; three names at once; in, of nested data; == of nested data as it is. -/
namespace L2.GL
open PySem PySem.Spec PyProof.Rows

/-! ### gcd -/
def fGcd : List D → M D
  | [.int a, .int b] => pure (.int ((Nat.gcd a.natAbs b.natAbs : Nat) : Int))
  | _ => stuck
theorem s_gcd {K : PySem.W.Frag} {mg : Str → Option Value} {fr : Bool} : CallV K mg fr rGcd fGcd := by
  intro T W σ vs ds H F ρ G Q hR rs h
  unfold fGcd at h
  split at h
  · rename_i a b
    obtain ⟨v, u, rfl, r1, r2⟩ := rs.two
    cases r1
    cases r2
    exact ⟨a, b, rfl, Run.pure (d := .int ((Nat.gcd a.natAbs b.natAbs : Nat) : Int)) h hR (.int _) fun _ => .of fun _ z => nomatch z⟩
  · exact h.stuck.elim
@[simp ↓] theorem wp_gcd {a b : Int} {G : Gh} {Q : D → Gh → Prop} : wpM (fGcd [.int a, .int b]) G Q ↔ Q (.int ((Nat.gcd a.natAbs b.natAbs : Nat) : Int)) G := wpM_pure

/-! ### a op1 b op2 c, as a value -/
section
variable {X : Cx} {T : List Addr} {W : WX} {pos : Pos} {a b c : Expr} {fa fb fc : EnvD → M D} {ga gb gc : Bool}
theorem v_chain {op op' : CmpOp} {r r' : R2} {p q : D → D → M Bool} (ho : OpR X (compareOp op) r) (ho' : OpR X (compareOp op') r') (hp : OpV X.K X.mg true r fun d e => vB (p d e)) (hq : OpV X.K X.mg true r' fun d e => vB (q d e))
    (ha : PV X T W ga a fa) (hb : PV X T W gb b fb) (hc : PV X T W gc c fc) (hm : lastMarks [op, op'] [b, c] = false := by with_unfolding_all rfl) :
    PV X T W true (.Compare a [op, op'] [b, c] pos) (fun env => vB (chainM p q (fa env) (fb env) (fc env))) :=
  PE.imp (pe_chain ho ho' ha hb hc hm) fun σ H Q ⟨Φ, F, ρ, G, env, hR, hS, h⟩ => by
    have h0 : Run X.K ⟨T, Φ⟩ X.mg W σ true F ρ (do
        let d ← fa env
        let e ← fb env
        let k ← p d e
        if k = true then (do let f ← fc env; vB (q e f)) else vB (Pure.pure false)) G Q := by
      obtain ⟨r', G', e, h⟩ := h
      refine ⟨r', G', ?_, h⟩
      rw [← e]
      show _ = vB (fa env >>= fun d => fb env >>= fun e => p d e >>= fun k => if k = true then (fc env >>= fun f => q e f) else Pure.pure false) G
      rw [vB_bind]
      refine congrFun (congrArg _ (funext fun d => ?_)) G
      rw [vB_bind]
      refine congrArg _ (funext fun e => ?_)
      rw [vB_bind]
      refine congrArg _ (funext fun k => ?_)
      cases k with
      | true => rw [if_pos rfl, if_pos rfl, vB_bind]
      | false => rw [if_neg Bool.false_ne_true, if_neg Bool.false_ne_true]
    refine ⟨Φ, F, ρ, G, env, hR, hS, h0.bind fun v d H1 F1 ρ1 G1 R1 s1 p1 r1 _ h1 => ?_⟩
    refine ⟨Φ, F1, ρ1, G1, env, R1, hS.mono s1 p1, h1.bind fun u e H2 F2 ρ2 G2 R2 s2 p2 r2 _ h2 => ?_⟩
    refine hp _ W σ v u d e H2 F2 ρ2 G2 _ R2 (r1.mono s2 p2) r2 ?_
    obtain ⟨r', G', e', h2⟩ := h2
    rcases bind_parts e' with ⟨k, G3, e1, e2⟩ | ⟨c', e1, rfl⟩
    · refine ⟨.ok (.bl k), G3, bind_ok e1, fun w H3 F3 ρ3 R3 s3 p3 r3 _ => ?_⟩
      cases r3
      refine ⟨k, rfl, ?_⟩
      have h3 : Run X.K ⟨T, Φ⟩ X.mg W σ true F3 ρ3 (if k = true then (do let f ← fc env; vB (q e f)) else vB (Pure.pure false)) G3 Q := Run.from ⟨r', G', e2, h2⟩ s3 p3
      cases k with
      | true =>
        rw [if_pos rfl] at h3 ⊢
        refine ⟨Φ, F3, ρ3, G3, env, R3, ((hS.mono s1 p1).mono s2 p2).mono s3 p3, h3.bind fun t f H4 F4 ρ4 G4 R4 s4 p4 r4 _ h4 => ?_⟩
        exact hq _ W σ u t e f H4 F4 ρ4 G4 _ R4 ((r2.mono s3 p3).mono s4 p4) r4 h4
      | false =>
        rw [if_neg Bool.false_ne_true] at h3 ⊢
        exact Run.pure (d := .bl false) h3 R3 (.bl _) fun _ => .of fun _ z => nomatch z
    · exact ⟨.ex c', G', bind_ex e1, h2⟩
end
@[simp ↓] theorem wp_chainM {p q : D → D → M Bool} {m n o : M D} {G : Gh} {QB : Bool → Gh → Prop} : wpM (chainM p q m n o) G QB ↔ wpM m G fun d G1 => wpM n G1 fun e G2 => wpM (p d e) G2 fun k G3 => if k = true then wpM o G3 fun f G4 => wpM (q e f) G4 QB else QB false G3 := by
  unfold chainM
  simp

/-! ### xs[::-1] -/
def revM (d : D) : M D := do let ds ← getL d; pure (.lst ds.reverse)
theorem DrA.reverse {K : PySem.W.Frag} {F : Hp} {ρ : List Addr} : ∀ {xs : List V} {ds : List D}, DrA K F ρ xs ds → DrA K F ρ xs.reverse ds.reverse
  | _, _, .nil => .nil
  | _, _, .cons r t => by
    rw [List.reverse_cons, List.reverse_cons]
    exact t.reverse.append (.cons r .nil)
section
variable {X : Cx} {T : List Addr} {W : WX} {a : Expr} {fa : EnvD → M D} {ga : Bool}
theorem v_rev {k : Nat} {p1 p2 p3 pos : Pos} (ha : PV X T W ga a fa) : PV X T W true (.Subscript a (.Slice none none (some (.UnaryOp .USub (.Constant (.int 1) k p1) p2)) p3) pos) (fun env => do let d ← fa env; revM d) :=
  PE.imp (pe_revL ha) fun σ H Q ⟨Φ, F, ρ, G, env, hR, hS, h⟩ => ⟨Φ, F, ρ, G, env, hR, hS, h.bind fun v d H1 F1 ρ1 G1 R1 s1 p1 r1 _ h1 => by
    obtain ⟨a', xs, ds, rfl, q2, q3, q4⟩ := Run.getL (k := fun ds => (Pure.pure (D.lst ds.reverse) : M D)) h1 R1 r1
    exact ⟨a', xs, rfl, q2, fun p hp => Run.newL q4 R1 q3.reverse hp⟩⟩
end
@[simp ↓] theorem wp_revL {ds : List D} {G : Gh} {Q : D → Gh → Prop} : wpM (revM (.lst ds)) G Q ↔ Q (.lst ds.reverse) G := by
  unfold revM
  rw [wpM_bind, getL_lst, wpM_pure, wpM_pure]

/-! ### max of a list -/
def maxOf : List Int → Int → Int
  | [], m => m
  | n :: ns, m => maxOf ns (if m < n then n else m)
theorem maxOf_le : ∀ (ns : List Int) (m : Int), m ≤ maxOf ns m ∧ (∀ y ∈ ns, y ≤ maxOf ns m) ∧ (maxOf ns m = m ∨ maxOf ns m ∈ ns)
  | [], m => ⟨Int.le_refl _, fun _ h => absurd h (by simp), .inl rfl⟩
  | n :: ns, m => by
    obtain ⟨h1, h2, h3⟩ := maxOf_le ns (if m < n then n else m)
    rw [show maxOf (n :: ns) m = maxOf ns (if m < n then n else m) from rfl]
    generalize maxOf ns (if m < n then n else m) = q at *
    have h4 : m ≤ q ∧ n ≤ q := by split at h1 <;> omega
    refine ⟨h4.1, fun y hy => ?_, ?_⟩
    · rcases List.mem_cons.mp hy with e | hy
      · rw [e]; exact h4.2
      · exact h2 y hy
    · rcases h3 with h3 | h3
      · split at h3
        · exact .inr (by rw [h3]; exact List.mem_cons_self)
        · exact .inl h3
      · exact .inr (List.mem_cons_of_mem _ h3)
def fMaxL : List D → M D
  | [d] => do let ds ← getL d; let ns ← liftO (intsOf ds); (match ns with
    | [] => stuck
    | n :: ns => pure (.int (maxOf ns n)))
  | _ => stuck
theorem s_maxL {K : PySem.W.Frag} {mg : Str → Option Value} {fr : Bool} : CallV K mg fr (rMax K) fMaxL := by
  intro T W σ vs ds H F ρ G Q hR rs h
  match ds, rs, h with
  | [], rs, h => exact h.stuck.elim
  | [d], rs, h =>
    obtain ⟨v, rfl, r⟩ := rs.one
    obtain ⟨a, xs, ds, rfl, q2, q3, q4⟩ := Run.getL (k := fun ds => liftO (intsOf ds) >>= fun ns => (match ns with | [] => (stuck : M D) | n :: ns => pure (.int (maxOf ns n)))) h hR r
    cases hi : intsOf ds with
    | none => rw [hi] at q4; obtain ⟨r', G', e', _⟩ := q4; cases e'
    | some ns =>
      rw [hi] at q4
      cases ns with
      | nil => obtain ⟨r', G', e', _⟩ := q4; cases e'
      | cons n ns =>
        have q5 : Run K T mg W σ fr F ρ (Pure.pure (D.int (maxOf ns n)) : M D) G Q := q4
        obtain ⟨m1, m2, m3⟩ := maxOf_le ns n
        refine ⟨a, n :: ns, rfl, by rw [← intsOf_V hi q3]; exact q2, Nat.succ_pos _, fun m hm hle => ?_⟩
        have e : m = maxOf ns n := by
          have a1 : maxOf ns n ≤ m := by
            rcases m3 with m3 | m3
            · rw [m3]; exact hle _ List.mem_cons_self
            · exact hle _ (List.mem_cons_of_mem _ m3)
          have a2 : m ≤ maxOf ns n := by
            rcases List.mem_cons.mp hm with rfl | hm
            · exact m1
            · exact m2 _ hm
          omega
        rw [e]
        exact Run.pure (d := .int (maxOf ns n)) q5 hR (.int _) fun _ => .of fun _ z => nomatch z
  | d :: e :: r, rs, h => exact h.stuck.elim
theorem wp_maxL {ns : List Int} {m : Int} {ds : List D} {G : Gh} {Q : D → Gh → Prop} (h : intsOf ds = some (m :: ns)) : wpM (fMaxL [.lst ds]) G Q ↔ Q (.int (maxOf ns m)) G := by
  unfold fMaxL
  rw [wpM_bind, getL_lst, wpM_pure, wpM_bind, h, liftO_some, wpM_pure, wpM_pure]

/-! ### a, b, c = x, y, z -/
def parS3 (i j l : Nat) (fs : EnvD → M (List D)) : MS := fun env => runE (fs env) env fun ds G => match ds with
  | [d, e, f] => some (.nx (((env.set i (some d)).set j (some e)).set l (some f)), G)
  | _ => none
section
variable {X : Cx} {T : List Addr} {W : WX} {pos : Pos} {a b c : Expr}
theorem DrA.three {K : PySem.W.Frag} {F : Hp} {ρ : List Addr} {vs : List V} {d e f : D} (h : DrA K F ρ vs [d, e, f]) : ∃ v u w, vs = [v, u, w] ∧ Dr K F ρ v d ∧ Dr K F ρ u e ∧ Dr K F ρ w f := by
  cases h with
  | cons r1 t =>
    obtain ⟨u, w, rfl, r2, r3⟩ := t.two
    exact ⟨_, u, w, rfl, r1, r2, r3⟩
theorem s_par3 {i j l : Nat} {x y z : Str} {fs : EnvD → M (List D)} {px py pz pt : Pos} {kt k2 : Nat} {pt2 : Pos} (hc : X.calm = true) (hN : X.N.Nodup) (hi : X.N[i]? = some x) (hj : X.N[j]? = some y) (hl : X.N[l]? = some z) (hij : i ≠ j) (hil : i ≠ l) (hjl : j ≠ l)
    (hx : X.env.scope.names.lookup x = some .local) (hy : X.env.scope.names.lookup y = some .local) (hz : X.env.scope.names.lookup z = some .local) (ha : PVs X T W [a, b, c] fs)
    (hw : swappedStores [.Tuple [.Name x px, .Name y py, .Name z pz] kt pt] (.Tuple [a, b, c] k2 pt2) X.env = pure (some [x, y, z]))
    (hs : swapsWithSole [.Tuple [.Name x px, .Name y py, .Name z pz] kt pt] (.Tuple [a, b, c] k2 pt2) pos.line X.env = pure false := by rfl) :
    PSV X T W (.Assign [.Tuple [.Name x px, .Name y py, .Name z pz] kt pt] (.Tuple [a, b, c] k2 pt2) pos) (parS3 i j l fs) := PS.imp (ps_par3 hc hN hi hj hl hij hil hjl hx hy hz ha hw hs) fun Dn σ H ⟨Φ, F, ρ, G, env, hR, hS, h⟩ => ⟨Φ, F, ρ, G, env, hR, hS, h.ofA hS fun vs ds H1 F1 ρ1 G1 R1 s1 p1 r1 h1 => by
  match ds, r1, h1 with
  | [], r1, h1 => exact h1.none
  | [d], r1, h1 => exact h1.none
  | [d, e], r1, h1 => exact h1.none
  | [d, e, f], r1, h1 =>
    obtain ⟨v, u, w, rfl, r2, r3, r4⟩ := r1.three
    exact ⟨v, u, w, rfl, h1.nx R1 (Same.refl _) (List.prefix_refl _) ((((hS.mono s1 p1).set r2).set r3).set r4)⟩
  | d :: e :: f :: q :: r, r1, h1 => exact h1.none⟩
end
section
variable {env : EnvD} {G : Gh} {k : K4} {i j l : Nat} {fs : EnvD → M (List D)}
@[simp ↓] theorem wpS_par3 : wpS (parS3 i j l fs) env G k ↔ wpM (fs env) G fun ds G1 => match ds with
    | [d, e, f] => k.nx (((env.set i (some d)).set j (some e)).set l (some f)) G1
    | _ => False := by
  unfold wpS parS3
  rw [wpR_runE]
  constructor
  · exact fun h => h.mono fun ds G' h => by
      match ds, h with
      | [], h => exact wpR_none.mp h
      | [d], h => exact wpR_none.mp h
      | [d, e], h => exact wpR_none.mp h
      | [d, e, f], h => exact wpR_nx.mp h
      | d :: e :: f :: q :: r, h => exact wpR_none.mp h
  · exact fun h => h.mono fun ds G' h => by
      match ds, h with
      | [], h => exact h.elim
      | [d], h => exact h.elim
      | [d, e], h => exact h.elim
      | [d, e, f], h => exact wpR_nx.mpr h
      | d :: e :: f :: q :: r, h => exact h.elim
end

/-! ### in, of nested data -/
def inDM (d e : D) : M Bool := fun G => match toPG G d, toPG G e with
  | some p, some (.list qs) => if SeqAt.shaped p = true ∧ SeqAt.shaped (.list qs) = true then some (.ok (qs.any fun z => PyData.eqv z p), G) else none
  | _, _ => none
def inX (d e : D) : M Bool := if flatD d = true then inM d e else inDM d e
def notInX (d e : D) : M Bool := if flatD d = true then notInM d e else (do let b ← inDM d e; pure (!b))
def rInX (K : PySem.W.Frag) : R2 := fun x y H Q => rIn K false x y H Q ∨ rInD K x y H Q
def rNotInX (K : PySem.W.Frag) : R2 := fun x y H Q => rIn K true x y H Q ∨ rNotInD K x y H Q
section
variable {K : PySem.W.Frag} {mg : Str → Option Value} {fr : Bool}
theorem op_inX {X : Cx} (hu : X.A.units + 65 < cLine) : OpR X (compareOp .In) (rInX X.K) := op_in_seq.or (op_inD hu)
theorem op_notInX {X : Cx} (hu : X.A.units + 65 < cLine) : OpR X (compareOp .NotIn) (rNotInX X.K) := op_notIn_seq.or (op_notInD hu)
theorem inDM_spec {T : Side} {W : WX} {σ : L2.St} {H F : Hp} {ρ : List Addr} {G : Gh} {x y : V} {d e : D} {k : Bool → M D} {Q : VK} (h : Run K T mg W σ fr F ρ (inDM d e >>= k) G Q) (hR : R K T H F ρ G) (rx : Dr K F ρ x d) (ry : Dr K F ρ y e) :
    ∃ p qs, Dp K H x p ∧ Dp K H y (.list qs) ∧ SeqAt.shaped p = true ∧ SeqAt.shaped (.list qs) = true ∧ Run K T mg W σ fr F ρ (k (qs.any fun z => PyData.eqv z p)) G Q := by
  obtain ⟨r, G', e', h⟩ := h
  have key : ∀ {r : Res Bool} {G1 : Gh}, inDM d e G = some (r, G1) → ∃ p qs, Dp K H x p ∧ Dp K H y (.list qs) ∧ SeqAt.shaped p = true ∧ SeqAt.shaped (.list qs) = true ∧ r = .ok (qs.any fun z => PyData.eqv z p) ∧ G1 = G := fun {r G1} z => by
    unfold inDM at z
    split at z
    · rename_i p qs h1 h2
      split at z
      · rename_i hs
        cases z
        exact ⟨p, qs, dp_of hR rx h1, dp_of hR ry h2, hs.1, hs.2, rfl, rfl⟩
      · cases z
    · cases z
  rcases bind_parts e' with ⟨b, G1, e1, e2⟩ | ⟨c, e1, _⟩
  · obtain ⟨p, q, h1, h2, h3, h4, h5, rfl⟩ := key e1
    cases h5
    exact ⟨p, q, h1, h2, h3, h4, r, G', e2, h⟩
  · obtain ⟨p, q, h1, h2, h3, h4, h5, _⟩ := key e1
    cases h5
theorem o_inX : OpV K mg fr (rInX K) fun d e => vB (inX d e) := by
  intro T W σ x y d e H F ρ G Q hR rx ry h
  replace h : Run K T mg W σ fr F ρ (vB (inX d e)) G Q := h
  by_cases hf : flatD d = true
  · have q : inX d e = inM d e := if_pos hf
    rw [q] at h
    exact .inl (o_in (mg := mg) (fr := fr) T W σ x y d e H F ρ G Q hR rx ry h)
  · have q : inX d e = inDM d e := if_neg hf
    rw [q] at h
    obtain ⟨p, qs, h1, h2, h3, h4, h5⟩ := inDM_spec h hR rx ry
    exact .inr ⟨p, qs, h1, h2, h3, h4, h5.pure hR (.bl _) fun _ => .of fun _ z => nomatch z⟩
theorem o_notInX : OpV K mg fr (rNotInX K) fun d e => vB (notInX d e) := by
  intro T W σ x y d e H F ρ G Q hR rx ry h
  replace h : Run K T mg W σ fr F ρ (vB (notInX d e)) G Q := h
  by_cases hf : flatD d = true
  · have q : notInX d e = notInM d e := if_pos hf
    rw [q] at h
    exact .inl (o_notIn (mg := mg) (fr := fr) T W σ x y d e H F ρ G Q hR rx ry h)
  · have q : notInX d e = (do let b ← inDM d e; pure (!b)) := if_neg hf
    rw [q, vB_bind] at h
    obtain ⟨p, qs, h1, h2, h3, h4, h5⟩ := inDM_spec h hR rx ry
    exact .inr ⟨p, qs, h1, h2, h3, h4, Run.pure (d := .bl (!(qs.any fun z => PyData.eqv z p))) h5 hR (.bl _) fun _ => .of fun _ z => nomatch z⟩
end

/-! ### data that is compared as it is -/
mutual
/-- whole numbers, None, short texts, tuples and lists of such, n deep at most -/
def niceD : Nat → D → Bool
  | _, .int _ => true
  | _, .non => true
  | _, .str x => PyData.strOk x
  | n + 1, .tup xs => niceA n xs
  | n + 1, .lst xs => niceA n xs
  | _, _ => false
def niceA : Nat → List D → Bool
  | _, [] => true
  | n, d :: ds => niceD n d && niceA n ds
end
mutual
def eqD : D → D → Bool
  | .int i, .int j => decide (i = j)
  | .non, .non => true
  | .str x, .str y => decide (x = y)
  | .tup xs, .tup ys => eqDA xs ys
  | .lst xs, .lst ys => eqDA xs ys
  | _, _ => false
def eqDA : List D → List D → Bool
  | [], [] => true
  | x :: xs, y :: ys => eqD x y && eqDA xs ys
  | _, _ => false
end
end L2.GL
end

section
set_option Elab.async false
set_option linter.all false
set_option maxRecDepth 100000
set_option autoImplicit false
/-! G25: nested data, == and in. -/
namespace L2.GL
open PySem PySem.Spec PyProof.Rows
theorem _root_.L2.Room.units65 {k : Nat} {A : Around} (r : L2.Room k A) : A.units + 65 < cLine := by have := r.un; omega
mutual
theorem nice_toP : ∀ (n : Nat) (d : D), niceD n d = true → ∃ p, d.toP = some p ∧ p.canLay0 = true ∧ p.depth ≤ n + 1
  | n, .int i, _ => ⟨.int i, by simp [D.toP], by simp [PyData.canLay0], by simp [PyData.depth]⟩
  | n, .non, _ => ⟨.none, by simp [D.toP], by simp [PyData.canLay0], by simp [PyData.depth]⟩
  | n, .str x, h => ⟨.str x, by simp [D.toP], by simpa [PyData.canLay0, niceD] using h, by simp [PyData.depth]⟩
  | n + 1, .tup xs, h => by
    obtain ⟨ps, h1, h2, h3⟩ := nice_toPA n xs (by simpa [niceD] using h)
    exact ⟨.tuple ps, by simp [D.toP, h1], by simpa [PyData.canLay0] using h2, by simp only [PyData.depth]; omega⟩
  | n + 1, .lst xs, h => by
    obtain ⟨ps, h1, h2, h3⟩ := nice_toPA n xs (by simpa [niceD] using h)
    exact ⟨.list ps, by simp [D.toP, h1], by simpa [PyData.canLay0] using h2, by simp only [PyData.depth]; omega⟩
  | 0, .tup _, h => by simp [niceD] at h
  | 0, .lst _, h => by simp [niceD] at h
  | _, .bl _, h => by simp [niceD] at h
  | _, .cell _, h => by simp [niceD] at h
  | _, .ty _, h => by simp [niceD] at h
  | _, .dct _, h => by simp [niceD] at h
  | _, .exn _ _, h => by simp [niceD] at h
theorem nice_toPA : ∀ (n : Nat) (ds : List D), niceA n ds = true → ∃ ps, D.toPA ds = some ps ∧ PyData.canLayAll0 ps = true ∧ PyData.depthAll ps ≤ n + 1
  | n, [], _ => ⟨[], by simp [D.toPA], by simp [PyData.canLayAll0], by simp [PyData.depthAll]⟩
  | n, d :: ds, h => by
    rw [niceA, Bool.and_eq_true] at h
    obtain ⟨p, h1, h2, h3⟩ := nice_toP n d h.1
    obtain ⟨ps, k1, k2, k3⟩ := nice_toPA n ds h.2
    exact ⟨p :: ps, by simp [D.toPA, h1, k1], by simp [PyData.canLayAll0, h2, k2], by simp only [PyData.depthAll]; omega⟩
end
mutual
theorem eqD_eqv : ∀ (n m : Nat) (d e : D) (p q : PyData), niceD n d = true → niceD m e = true → d.toP = some p → e.toP = some q → PyData.eqv p q = eqD d e
  | n, m, .int i, e, p, q, h1, h2, h3, h4 => by
    simp [D.toP] at h3; subst h3
    cases e <;> simp [D.toP] at h4 <;> first | (subst h4; simp [PyData.eqv, eqD]; done) | (subst h4; simp only [PyData.eqv, eqD]; rfl; done) | (subst h4; simp only [PyData.eqv, eqD]; by_cases z : x = ‹_› <;> simp [z]; done) | skip
    all_goals first | (simp [niceD] at h2; done) | skip
    all_goals (split at h4 <;> simp at h4; subst h4; simp [PyData.eqv, eqD])
  | n, m, .non, e, p, q, h1, h2, h3, h4 => by
    simp [D.toP] at h3; subst h3
    cases e <;> simp [D.toP] at h4 <;> first | (subst h4; simp [PyData.eqv, eqD]; done) | (subst h4; simp only [PyData.eqv, eqD]; rfl; done) | (subst h4; simp only [PyData.eqv, eqD]; by_cases z : x = ‹_› <;> simp [z]; done) | skip
    all_goals first | (simp [niceD] at h2; done) | skip
    all_goals (split at h4 <;> simp at h4; subst h4; simp [PyData.eqv, eqD])
  | n, m, .str x, e, p, q, h1, h2, h3, h4 => by
    simp [D.toP] at h3; subst h3
    cases e <;> simp [D.toP] at h4 <;> first | (subst h4; simp [PyData.eqv, eqD]; done) | (subst h4; simp only [PyData.eqv, eqD]; rfl; done) | (subst h4; simp only [PyData.eqv, eqD]; by_cases z : x = ‹_› <;> simp [z]; done) | skip
    all_goals first | (simp [niceD] at h2; done) | skip
    all_goals (split at h4 <;> simp at h4; subst h4; simp [PyData.eqv, eqD])
  | n + 1, m, .tup xs, e, p, q, h1, h2, h3, h4 => by
    rw [niceD] at h1
    simp [D.toP] at h3
    split at h3 <;> simp at h3
    rename_i ps hps
    subst h3
    match m, e, h2, h4 with
    | _, .int i, h2, h4 => simp [D.toP] at h4; subst h4; simp [PyData.eqv, eqD]
    | _, .non, h2, h4 => simp [D.toP] at h4; subst h4; simp [PyData.eqv, eqD]
    | _, .str x, h2, h4 => simp [D.toP] at h4; subst h4; simp [PyData.eqv, eqD]
    | m + 1, .tup ys, h2, h4 =>
      rw [niceD] at h2
      simp [D.toP] at h4
      split at h4 <;> simp at h4
      rename_i qs hqs
      subst h4
      simp only [PyData.eqv, eqD]
      exact eqDA_eqv n m xs ys ps qs h1 h2 hps hqs
    | m + 1, .lst ys, h2, h4 =>
      simp [D.toP] at h4
      split at h4 <;> simp at h4
      subst h4; simp [PyData.eqv, eqD]
    | 0, .tup _, h2, _ => simp [niceD] at h2
    | 0, .lst _, h2, _ => simp [niceD] at h2
    | _, .bl _, h2, _ => simp [niceD] at h2
    | _, .cell _, h2, _ => simp [niceD] at h2
    | _, .ty _, h2, _ => simp [niceD] at h2
    | _, .dct _, h2, _ => simp [niceD] at h2
    | _, .exn _ _, h2, _ => simp [niceD] at h2
  | n + 1, m, .lst xs, e, p, q, h1, h2, h3, h4 => by
    rw [niceD] at h1
    simp [D.toP] at h3
    split at h3 <;> simp at h3
    rename_i ps hps
    subst h3
    match m, e, h2, h4 with
    | _, .int i, h2, h4 => simp [D.toP] at h4; subst h4; simp [PyData.eqv, eqD]
    | _, .non, h2, h4 => simp [D.toP] at h4; subst h4; simp [PyData.eqv, eqD]
    | _, .str x, h2, h4 => simp [D.toP] at h4; subst h4; simp [PyData.eqv, eqD]
    | m + 1, .lst ys, h2, h4 =>
      rw [niceD] at h2
      simp [D.toP] at h4
      split at h4 <;> simp at h4
      rename_i qs hqs
      subst h4
      simp only [PyData.eqv, eqD]
      exact eqDA_eqv n m xs ys ps qs h1 h2 hps hqs
    | m + 1, .tup ys, h2, h4 =>
      simp [D.toP] at h4
      split at h4 <;> simp at h4
      subst h4; simp [PyData.eqv, eqD]
    | 0, .tup _, h2, _ => simp [niceD] at h2
    | 0, .lst _, h2, _ => simp [niceD] at h2
    | _, .bl _, h2, _ => simp [niceD] at h2
    | _, .cell _, h2, _ => simp [niceD] at h2
    | _, .ty _, h2, _ => simp [niceD] at h2
    | _, .dct _, h2, _ => simp [niceD] at h2
    | _, .exn _ _, h2, _ => simp [niceD] at h2
  | 0, _, .tup _, _, _, _, h, _, _, _ => by simp [niceD] at h
  | 0, _, .lst _, _, _, _, h, _, _, _ => by simp [niceD] at h
  | _, _, .bl _, _, _, _, h, _, _, _ => by simp [niceD] at h
  | _, _, .cell _, _, _, _, h, _, _, _ => by simp [niceD] at h
  | _, _, .ty _, _, _, _, h, _, _, _ => by simp [niceD] at h
  | _, _, .dct _, _, _, _, h, _, _, _ => by simp [niceD] at h
  | _, _, .exn _ _, _, _, _, h, _, _, _ => by simp [niceD] at h
theorem eqDA_eqv : ∀ (n m : Nat) (ds es : List D) (ps qs : List PyData), niceA n ds = true → niceA m es = true → D.toPA ds = some ps → D.toPA es = some qs → PyData.eqvAll ps qs = eqDA ds es
  | n, m, [], [], ps, qs, _, _, h3, h4 => by simp [D.toPA] at h3 h4; subst h3; subst h4; simp [PyData.eqvAll, eqDA]
  | n, m, [], e :: es, ps, qs, _, _, h3, h4 => by
    simp [D.toPA] at h3; subst h3
    rw [D.toPA] at h4
    split at h4 <;> simp at h4
    subst h4; simp [PyData.eqvAll, eqDA]
  | n, m, d :: ds, [], ps, qs, _, _, h3, h4 => by
    simp [D.toPA] at h4; subst h4
    rw [D.toPA] at h3
    split at h3 <;> simp at h3
    subst h3; simp [PyData.eqvAll, eqDA]
  | n, m, d :: ds, e :: es, ps, qs, h1, h2, h3, h4 => by
    rw [niceA, Bool.and_eq_true] at h1 h2
    rw [D.toPA] at h3 h4
    split at h3 <;> simp at h3
    split at h4 <;> simp at h4
    rename_i p ps' a1 a2 _ _ q qs' b1 b2
    subst h3; subst h4
    simp only [PyData.eqvAll, eqDA]
    rw [eqD_eqv n m d e p q h1.1 h2.1 a1 b1, eqDA_eqv n m ds es ps' qs' h1.2 h2.2 a2 b2]
end
mutual
theorem eqD_true : ∀ (d e : D), eqD d e = true → d = e
  | .int i, e, h => by cases e <;> simp [eqD] at h; rw [h]
  | .non, e, h => by cases e <;> simp [eqD] at h; rfl
  | .str x, e, h => by cases e <;> simp [eqD] at h; rw [h]
  | .tup xs, e, h => by
    cases e <;> simp [eqD] at h
    rw [eqDA_true _ _ h]
  | .lst xs, e, h => by
    cases e <;> simp [eqD] at h
    rw [eqDA_true _ _ h]
  | .bl _, e, h => by cases e <;> simp [eqD] at h
  | .cell _, e, h => by cases e <;> simp [eqD] at h
  | .ty _, e, h => by cases e <;> simp [eqD] at h
  | .dct _, e, h => by cases e <;> simp [eqD] at h
  | .exn _ _, e, h => by cases e <;> simp [eqD] at h
theorem eqDA_true : ∀ (ds es : List D), eqDA ds es = true → ds = es
  | [], [], _ => rfl
  | [], _ :: _, h => by simp [eqDA] at h
  | _ :: _, [], h => by simp [eqDA] at h
  | d :: ds, e :: es, h => by
    rw [eqDA, Bool.and_eq_true] at h
    rw [eqD_true _ _ h.1, eqDA_true _ _ h.2]
end
mutual
theorem eqD_refl : ∀ (n : Nat) (d : D), niceD n d = true → eqD d d = true
  | _, .int i, _ => by simp [eqD]
  | _, .non, _ => by simp [eqD]
  | _, .str x, _ => by simp [eqD]
  | n + 1, .tup xs, h => by rw [niceD] at h; rw [eqD]; exact eqDA_refl n xs h
  | n + 1, .lst xs, h => by rw [niceD] at h; rw [eqD]; exact eqDA_refl n xs h
  | 0, .tup _, h => by simp [niceD] at h
  | 0, .lst _, h => by simp [niceD] at h
  | _, .bl _, h => by simp [niceD] at h
  | _, .cell _, h => by simp [niceD] at h
  | _, .ty _, h => by simp [niceD] at h
  | _, .dct _, h => by simp [niceD] at h
  | _, .exn _ _, h => by simp [niceD] at h
theorem eqDA_refl : ∀ (n : Nat) (ds : List D), niceA n ds = true → eqDA ds ds = true
  | _, [], _ => by simp [eqDA]
  | n, d :: ds, h => by
    rw [niceA, Bool.and_eq_true] at h
    rw [eqDA, eqD_refl n d h.1, eqDA_refl n ds h.2]; rfl
end
theorem toPG_toP {G : Gh} {d : D} {n : Nat} (h : niceD n d = true) : toPG G d = d.toP := by
  cases d <;> first | rfl | (simp [niceD] at h)
theorem niceA_all {n : Nat} : ∀ {ds : List D}, niceA n ds = true ↔ ∀ d ∈ ds, niceD n d = true
  | [] => by simp [niceA]
  | d :: ds => by rw [niceA, Bool.and_eq_true, niceA_all]; simp
section
variable {G : Gh} {QB : Bool → Gh → Prop} {n m : Nat} {d e : D}
theorem wp_eqMn (h1 : niceD n d = true) (h2 : niceD m e = true) (hn : n ≤ 63) (hm : m ≤ 63) : wpM (eqM d e) G QB ↔ QB (eqD d e) G := by
  obtain ⟨p, a1, a2, a3⟩ := nice_toP n d h1
  obtain ⟨q, b1, b2, b3⟩ := nice_toP m e h2
  rw [← eqD_eqv n m d e p q h1 h2 a1 b1]
  refine wp_eqM (by rw [toPG_toP h1, a1]) (by rw [toPG_toP h2, b1]) ?_ ?_
  · unfold SeqAt.shaped; rw [a2, Bool.true_and]; exact decide_eq_true (by omega)
  · unfold SeqAt.shaped; rw [b2, Bool.true_and]; exact decide_eq_true (by omega)
/-- nested data, == -/
theorem wp_eqN (h1 : niceD n d = true) (h2 : niceD m e = true) (hn : n ≤ 63 := by decide) (hm : m ≤ 63 := by decide) : wpM (eqX d e) G QB ↔ QB (eqD d e) G := by
  by_cases hs : (∃ a, d = .str a) ∧ ∃ b, e = .str b
  · obtain ⟨⟨a, rfl⟩, b, rfl⟩ := hs
    rw [wp_eqS]; simp [eqD]
  · have q : eqX d e = eqM d e := by
      cases d <;> first | rfl | (cases e <;> first | rfl | exact absurd ⟨⟨_, rfl⟩, _, rfl⟩ hs)
    rw [q]; exact wp_eqMn h1 h2 hn hm
theorem wp_neN (h1 : niceD n d = true) (h2 : niceD m e = true) (hn : n ≤ 63 := by decide) (hm : m ≤ 63 := by decide) : wpM (neX d e) G QB ↔ QB (!eqD d e) G := by
  by_cases hs : (∃ a, d = .str a) ∧ ∃ b, e = .str b
  · obtain ⟨⟨a, rfl⟩, b, rfl⟩ := hs
    rw [wp_neS]; simp [eqD]
  · have q : neX d e = neM d e := by
      cases d <;> first | rfl | (cases e <;> first | rfl | exact absurd ⟨⟨_, rfl⟩, _, rfl⟩ hs)
    rw [q]
    unfold neM
    rw [wpM_bind, wp_eqMn h1 h2 hn hm]
    exact wpM_pure
theorem wp_inDM {ds : List D} (h1 : niceD n d = true) (h2 : niceA m ds = true) (hn : n ≤ 62) (hm : m ≤ 62) : wpM (inDM d (.lst ds)) G QB ↔ QB (ds.any fun y => eqD y d) G := by
  obtain ⟨p, a1, a2, a3⟩ := nice_toP n d h1
  obtain ⟨qs, b1, b2, b3⟩ := nice_toPA m ds h2
  have key : ∀ (es : List D) (rs : List PyData), niceA m es = true → D.toPA es = some rs → (rs.any fun z => PyData.eqv z p) = es.any fun y => eqD y d := by
    intro es
    induction es with
    | nil => intro rs _ h; simp [D.toPA] at h; subst h; rfl
    | cons x xs ih =>
      intro rs hx h
      rw [niceA, Bool.and_eq_true] at hx
      rw [D.toPA] at h
      split at h <;> simp at h
      rename_i u us c1 c2
      subst h
      rw [List.any_cons, List.any_cons, eqD_eqv m n x d u p hx.1 h1 c1 a1, ih us hx.2 c2]
  have e : inDM d (.lst ds) G = some (.ok (ds.any fun y => eqD y d), G) := by
    unfold inDM
    rw [toPG_toP h1, a1, show toPG G (.lst ds) = some (.list qs) by simp [toPG, D.toP, b1]]
    dsimp only
    rw [if_pos ⟨by unfold SeqAt.shaped; rw [a2, Bool.true_and]; exact decide_eq_true (by omega), by unfold SeqAt.shaped; rw [PyData.canLay0, b2, Bool.true_and, PyData.depth]; exact decide_eq_true (by omega)⟩, key ds qs h2 b1]
  constructor
  · rintro ⟨a, G', e', q⟩
    rw [e] at e'
    cases e'
    exact q
  · exact fun q => ⟨_, _, e, q⟩
/-- in, not in, of nested data in a list -/
theorem wp_inN {ds : List D} (hd : flatD d = false) (h1 : niceD n d = true) (h2 : niceA m ds = true) (hn : n ≤ 62 := by decide) (hm : m ≤ 62 := by decide) : wpM (inX d (.lst ds)) G QB ↔ QB (ds.any fun y => eqD y d) G := by
  rw [show inX d (.lst ds) = inDM d (.lst ds) from if_neg (by rw [hd]; exact Bool.false_ne_true)]
  exact wp_inDM h1 h2 hn hm
theorem wp_notInN {ds : List D} (hd : flatD d = false) (h1 : niceD n d = true) (h2 : niceA m ds = true) (hn : n ≤ 62 := by decide) (hm : m ≤ 62 := by decide) : wpM (notInX d (.lst ds)) G QB ↔ QB (!ds.any fun y => eqD y d) G := by
  rw [show notInX d (.lst ds) = (do let b ← inDM d (.lst ds); pure (!b)) from if_neg (by rw [hd]; exact Bool.false_ne_true), wpM_bind, wp_inDM h1 h2 hn hm]
  exact wpM_pure
theorem any_eqD {ds : List D} (h2 : niceA m ds = true) : (ds.any fun y => eqD y d) = true ↔ d ∈ ds := by
  rw [List.any_eq_true]
  constructor
  · rintro ⟨x, hx, h⟩
    rw [← eqD_true _ _ h]; exact hx
  · exact fun h => ⟨d, h, eqD_refl m d (niceA_all.mp h2 d h)⟩
end
end L2.GL
end

section
set_option Elab.async false
set_option linter.all false
set_option maxRecDepth 100000
set_option autoImplicit false
/-! G26: loops by an invariant, comprehensions by a function. -/
namespace L2.GL
open PySem PySem.Spec PyProof.Rows
section
variable {ft : MT} {body : MS} {k : K4} {env : EnvD} {G : Gh}
/-- for, over any list: I of what is done and what is left -/
theorem wpF_inv (I : List D → List D → EnvD → Gh → Prop) {ds : List D} (h0 : I [] ds env G)
    (step : ∀ pre d post env G, ds = pre ++ d :: post → I pre (d :: post) env G → wpT ft d env G fun e G1 => wpS body e G1 { nx := I (pre ++ [d]) post, ct := I (pre ++ [d]) post, bk := k.nx, rt := k.rt })
    (hend : ∀ env G, I ds [] env G → k.nx env G) : wpF ft body ds env G k := by
  have key : ∀ (post pre : List D) (env : EnvD) (G : Gh), ds = pre ++ post → I pre post env G → wpF ft body post env G k := by
    intro post
    induction post with
    | nil =>
      intro pre env G e i
      rw [wpF_nil]
      rw [List.append_nil] at e
      subst e
      exact hend env G i
    | cons d post ih =>
      intro pre env G e i
      rw [wpF_cons]
      obtain ⟨e1, G1, q, o, G2, q2, h⟩ := step pre d post env G e i
      refine ⟨e1, G1, q, o, G2, q2, ?_⟩
      have e' : ds = (pre ++ [d]) ++ post := by rw [e]; simp
      cases o with
      | nx e2 => exact ih _ _ _ e' h
      | ct e2 => exact ih _ _ _ e' h
      | ret d f => exact h
      | bk e2 => exact h
      | ex _ _ => exact h
  exact key ds [] env G rfl h0
/-- for, over a range -/
theorem wpF_range (I : Int → EnvD → Gh → Prop) {m : Int} {n : Nat} (h0 : I m env G)
    (step : ∀ i env G, m ≤ i → i < m + n → I i env G → wpT ft (.int i) env G fun e G1 => wpS body e G1 { nx := I (i + 1), ct := I (i + 1), bk := k.nx, rt := k.rt })
    (hend : ∀ env G, I (m + n) env G → k.nx env G) : wpF ft body (rangeD m n) env G k := by
  induction n generalizing m env G with
  | zero =>
    rw [rangeD_zero, wpF_nil]
    exact hend env G (by simpa using h0)
  | succ n ih =>
    rw [rangeD_succ, wpF_cons]
    obtain ⟨e1, G1, q, o, G2, q2, h⟩ := step m env G (Int.le_refl _) (by omega) h0
    refine ⟨e1, G1, q, o, G2, q2, ?_⟩
    have next : ∀ e2, I (m + 1) e2 G2 → wpF ft body (rangeD (m + 1) n) e2 G2 k := fun e2 hi =>
      ih hi (fun i env G h1 h2 h3 => step i env G (by omega) (by omega) h3) fun env G h => hend env G (by rw [show m + ((n + 1 : Nat) : Int) = m + 1 + n by omega]; exact h)
    cases o with
    | nx e2 => exact next e2 h
    | ct e2 => exact next e2 h
    | ret d f => exact h
    | bk e2 => exact h
    | ex _ _ => exact h
end
section
variable {ft : MT} {tt : EnvD → M Bool} {te : EnvD → M D} {env : EnvD} {acc : List D} {G : Gh} {QL : List D → Gh → Prop}
/-- a comprehension whose items are told by a function -/
theorem wpC_map (f : D → Option D) {ds : List D} (hl : acc.length + ds.length ≤ sizeLine) (q : QL (acc ++ ds.filterMap f) G)
    (step : ∀ d ∈ ds, wpT ft d env G fun e G1 => wpM (tt e) G1 fun b G2 => if b = true then wpM (te e) G2 fun y G3 => f d = some y ∧ G3 = G else f d = none ∧ G2 = G) : wpC ft tt te env ds acc G QL := by
  induction ds generalizing acc with
  | nil => rw [wpC_nil]; simpa using q
  | cons d ds ih =>
    rw [wpC_cons]
    obtain ⟨e1, G1, q1, b, G2, q2, h⟩ := step d List.mem_cons_self
    refine ⟨e1, G1, q1, b, G2, q2, ?_⟩
    rw [List.length_cons] at hl
    cases b with
    | true =>
      simp only [if_true] at h ⊢
      obtain ⟨y, G3, q3, e3, e4⟩ := h
      subst e4
      refine ⟨y, G3, q3, by omega, ih (by rw [List.length_append, List.length_singleton]; omega) ?_ fun d hd => step d (List.mem_cons_of_mem _ hd)⟩
      rw [List.filterMap_cons, e3] at q
      simpa using q
    | false =>
      simp only [Bool.false_eq_true, if_false] at h ⊢
      obtain ⟨e3, e4⟩ := h
      subst e4
      refine ih (by omega) ?_ fun d hd => step d (List.mem_cons_of_mem _ hd)
      rw [List.filterMap_cons, e3] at q
      exact q
/-- a comprehension whose items, one by one, may change what was made -/
theorem wpC_inv (I : List D → List D → List D → Gh → Prop) {ds : List D} (h0 : I [] ds acc G) (hl : acc.length + ds.length ≤ sizeLine)
    (step : ∀ pre d post acc G, ds = pre ++ d :: post → I pre (d :: post) acc G → wpT ft d env G fun e G1 => wpM (tt e) G1 fun b G2 => if b = true then wpM (te e) G2 fun y G3 => I (pre ++ [d]) post (acc ++ [y]) G3 else I (pre ++ [d]) post acc G2)
    (hend : ∀ acc G, I ds [] acc G → QL acc G) : wpC ft tt te env ds acc G QL := by
  have key : ∀ (post pre acc : List D) (G : Gh), ds = pre ++ post → acc.length + post.length ≤ sizeLine → I pre post acc G → wpC ft tt te env post acc G QL := by
    intro post
    induction post with
    | nil =>
      intro pre acc G e hl i
      rw [wpC_nil]
      rw [List.append_nil] at e
      subst e
      exact hend acc G i
    | cons d post ih =>
      intro pre acc G e hl i
      rw [wpC_cons]
      obtain ⟨e1, G1, q1, b, G2, q2, h⟩ := step pre d post acc G e i
      have e' : ds = (pre ++ [d]) ++ post := by rw [e]; simp
      refine ⟨e1, G1, q1, b, G2, q2, ?_⟩
      rw [List.length_cons] at hl
      cases b with
      | true =>
        simp only [if_true] at h ⊢
        obtain ⟨y, G3, q3, h⟩ := h
        exact ⟨y, G3, q3, by omega, ih _ _ _ e' (by rw [List.length_append, List.length_singleton]; omega) h⟩
      | false =>
        simp only [Bool.false_eq_true, if_false] at h ⊢
        exact ih _ _ _ e' (by omega) h
  exact key ds [] acc G rfl hl h0
/-- all(..), by a function -/
theorem wpA_map {QB : Bool → Gh → Prop} (f : D → Bool) {ds : List D} (q : QB (ds.all f) G)
    (step : ∀ d ∈ ds, wpT ft d env G fun e G1 => wpM (tt e) G1 fun b G2 => b = true ∧ wpM (te e) G2 fun y G3 => y = .bl (f d) ∧ G3 = G) : wpA false ft tt te env ds G QB := by
  induction ds with
  | nil => rw [wpA_nil]; simpa using q
  | cons d ds ih =>
    rw [wpA_cons]
    obtain ⟨e1, G1, q1, b, G2, q2, rfl, y, G3, q3, rfl, rfl⟩ := step d List.mem_cons_self
    refine ⟨e1, G1, q1, true, G2, q2, ?_⟩
    simp only [if_true]
    refine ⟨_, _, q3, ?_⟩
    dsimp only
    rw [List.all_cons] at q
    cases hf : f d with
    | false => rw [if_pos rfl]; rw [hf, Bool.false_and] at q; exact q
    | true =>
      rw [if_neg (by decide)]
      rw [hf, Bool.true_and] at q
      exact ih q fun d hd => step d (List.mem_cons_of_mem _ hd)
end
theorem filterMap_map_some {α β γ : Type} {xs : List α} {f : α → β} {g : β → Option γ} {h : α → γ} (e : ∀ a ∈ xs, g (f a) = some (h a)) : (xs.map f).filterMap g = xs.map h := by
  induction xs with
  | nil => rfl
  | cons x xs ih =>
    rw [List.map_cons, List.filterMap_cons, e x List.mem_cons_self, List.map_cons, ih fun a ha => e a (List.mem_cons_of_mem _ ha)]
theorem rangeD_map {m : Int} {n : Nat} : rangeD m n = (List.range n).map fun i => .int (m + i) := by
  unfold rangeD; rfl
theorem rangeD_mem {m : Int} {n : Nat} {d : D} : d ∈ rangeD m n ↔ ∃ i : Int, d = .int i ∧ m ≤ i ∧ i < m + n := by
  rw [rangeD_map, List.mem_map]
  constructor
  · rintro ⟨i, hi, rfl⟩
    exact ⟨_, rfl, by omega, by have := List.mem_range.mp hi; omega⟩
  · rintro ⟨i, rfl, h1, h2⟩
    exact ⟨(i - m).toNat, List.mem_range.mpr (by omega), by congr 1; omega⟩
theorem rangeD_length {m : Int} {n : Nat} : (rangeD m n).length = n := by rw [rangeD_map]; simp
@[simp] theorem niceD_int {n : Nat} {i : Int} : niceD n (.int i) = true := by cases n <;> simp [niceD]
@[simp] theorem niceD_non {n : Nat} : niceD n .non = true := by cases n <;> simp [niceD]
@[simp] theorem niceD_tup {n : Nat} {xs : List D} : niceD (n + 1) (.tup xs) = niceA n xs := by rw [niceD]
@[simp] theorem niceD_lst {n : Nat} {xs : List D} : niceD (n + 1) (.lst xs) = niceA n xs := by rw [niceD]
@[simp] theorem niceA_nil {n : Nat} : niceA n [] = true := by rw [niceA]
@[simp] theorem niceA_cons {n : Nat} {d : D} {ds : List D} : niceA n (d :: ds) = (niceD n d && niceA n ds) := by rw [niceA]
theorem niceA_append {n : Nat} : ∀ {xs ys : List D}, niceA n (xs ++ ys) = (niceA n xs && niceA n ys)
  | [], ys => by simp
  | x :: xs, ys => by rw [List.cons_append, niceA_cons, niceA_cons, niceA_append, Bool.and_assoc]
@[simp] theorem niceA_ints {n : Nat} : ∀ {ns : List Int}, niceA n (ns.map D.int) = true
  | [] => by simp
  | _ :: ns => by simp [niceA_ints (ns := ns)]
theorem eqDA_nil {ds : List D} : eqDA ds [] = ds.isEmpty := by cases ds <;> simp [eqDA]
@[simp ↓] theorem wp_eqNil {ds : List D} {G : Gh} {QB : Bool → Gh → Prop} (h : niceA 10 ds = true) : wpM (eqX (.lst ds) (.lst [])) G QB ↔ QB ds.isEmpty G := by
  rw [wp_eqN (n := 11) (m := 11) (by simpa using h) (by simp), eqD, eqDA_nil]
@[simp ↓] theorem wp_neNil {ds : List D} {G : Gh} {QB : Bool → Gh → Prop} (h : niceA 10 ds = true) : wpM (neX (.lst ds) (.lst [])) G QB ↔ QB (!ds.isEmpty) G := by
  rw [wp_neN (n := 11) (m := 11) (by simpa using h) (by simp), eqD, eqDA_nil]
@[simp ↓] theorem wp_neB' {a b : Bool} {G : Gh} {QB : Bool → Gh → Prop} : wpM (neX (.bl a) (.bl b)) G QB ↔ QB (!decide (a = b)) G := by
  rw [show neX (.bl a) (.bl b) = (do let k ← eqX (.bl a) (.bl b); pure (!k)) from rfl, wpM_bind, wp_eqB]
  exact wpM_pure
theorem fmod_dvd {a n : Int} : a.fmod n = 0 ↔ n ∣ a := by
  constructor
  · intro h
    have := Int.mul_fdiv_add_fmod a n
    exact ⟨a.fdiv n, by omega⟩
  · exact Int.fmod_eq_zero_of_dvd
end L2.GL
end

section
set_option Elab.async false
set_option linter.all false
set_option maxRecDepth 100000
set_option autoImplicit false
/-! G27: repr of nested data. -/
namespace L2.GL
open PySem PySem.Spec PyProof.Rows
mutual
/-- all whole numbers below 2 ** b -/
def intsD (b : Nat) : D → Prop
  | .int i => i.natAbs < 2 ^ b
  | .str x => ∀ c ∈ x.cps.toList, c < 16 ^ 8
  | .tup xs => intsA b xs
  | .lst xs => intsA b xs
  | _ => True
def intsA (b : Nat) : List D → Prop
  | [] => True
  | d :: ds => intsD b d ∧ intsA b ds
end
mutual
def sizeD : D → Nat
  | .str x => x.cps.size
  | .tup xs => sizeA xs
  | .lst xs => sizeA xs
  | _ => 0
def sizeA : List D → Nat
  | [] => 0
  | d :: ds => sizeD d + 1 + sizeA ds
end
mutual
theorem nice_repr (b : Nat) (hb : 7 ≤ b) (hb2 : b ≤ 1919) : ∀ (n : Nat) (d : D) (p : PyData), niceD n d = true → intsD b d → d.toP = some p → p.showable = true ∧ p.hasDict = false ∧ p.leavesShort (b + 1) = true ∧ p.bulk = sizeD d
  | n, .int i, p, _, hi, hp => by
    simp [D.toP] at hp; subst hp
    have hi : i.natAbs < 2 ^ b := by simpa [intsD] using hi
    have hl : i.natAbs.log2 < b := by
      by_cases z : i.natAbs = 0
      · rw [z]; simp; omega
      · exact (Nat.log2_lt z).mpr hi
    have e := int_text_length_le (a := i) (k := b) (by omega) hl
    refine ⟨by simp [PyData.showable]; omega, by simp [PyData.hasDict], ?_, by simp [PyData.bulk, sizeD]⟩
    simp only [PyData.leavesShort, decide_eq_true_eq]
    show (Str.ofString (toString i)).length ≤ b + 1
    rw [PySem.ofString_length]; exact e
  | n, .non, p, _, _, hp => by
    simp [D.toP] at hp; subst hp
    exact ⟨by simp [PyData.showable], by simp [PyData.hasDict], by simp [PyData.leavesShort], by simp [PyData.bulk, sizeD]⟩
  | n, .str x, p, _, hi, hp => by
    simp [D.toP] at hp; subst hp
    refine ⟨by simp [PyData.showable], by simp [PyData.hasDict], ?_, by simp [PyData.bulk, sizeD]⟩
    simp only [PyData.leavesShort, List.all_eq_true, decide_eq_true_eq]
    exact hi
  | n + 1, .tup xs, p, h, hi, hp => by
    simp [D.toP] at hp
    split at hp <;> simp at hp
    rename_i ps hps
    subst hp
    obtain ⟨a1, a2, a3, a4⟩ := nice_reprA b hb hb2 n xs ps (by simpa [niceD] using h) (by simpa [intsD] using hi) hps
    exact ⟨by simpa [PyData.showable] using a1, by simpa [PyData.hasDict] using a2, by simpa [PyData.leavesShort] using a3, by simpa [PyData.bulk, sizeD] using a4⟩
  | n + 1, .lst xs, p, h, hi, hp => by
    simp [D.toP] at hp
    split at hp <;> simp at hp
    rename_i ps hps
    subst hp
    obtain ⟨a1, a2, a3, a4⟩ := nice_reprA b hb hb2 n xs ps (by simpa [niceD] using h) (by simpa [intsD] using hi) hps
    exact ⟨by simpa [PyData.showable] using a1, by simpa [PyData.hasDict] using a2, by simpa [PyData.leavesShort] using a3, by simpa [PyData.bulk, sizeD] using a4⟩
  | 0, .tup _, _, h, _, _ => by simp [niceD] at h
  | 0, .lst _, _, h, _, _ => by simp [niceD] at h
  | _, .bl _, _, h, _, _ => by simp [niceD] at h
  | _, .cell _, _, h, _, _ => by simp [niceD] at h
  | _, .ty _, _, h, _, _ => by simp [niceD] at h
  | _, .dct _, _, h, _, _ => by simp [niceD] at h
  | _, .exn _ _, _, h, _, _ => by simp [niceD] at h
theorem nice_reprA (b : Nat) (hb : 7 ≤ b) (hb2 : b ≤ 1919) : ∀ (n : Nat) (ds : List D) (ps : List PyData), niceA n ds = true → intsA b ds → D.toPA ds = some ps → PyData.showableAll ps = true ∧ PyData.hasDictAll ps = false ∧ PyData.leavesShortAll (b + 1) ps = true ∧ PyData.bulkAll ps = sizeA ds
  | n, [], ps, _, _, hp => by
    simp [D.toPA] at hp; subst hp
    exact ⟨by simp [PyData.showableAll], by simp [PyData.hasDictAll], by simp [PyData.leavesShortAll], by simp [PyData.bulkAll, sizeA]⟩
  | n, d :: ds, ps, h, hi, hp => by
    rw [niceA_cons, Bool.and_eq_true] at h
    rw [intsA] at hi
    rw [D.toPA] at hp
    split at hp <;> simp at hp
    rename_i p ps' h1 h2
    subst hp
    obtain ⟨a1, a2, a3, a4⟩ := nice_repr b hb hb2 n d p h.1 hi.1 h1
    obtain ⟨b1, b2, b3, b4⟩ := nice_reprA b hb hb2 n ds ps' h.2 hi.2 h2
    exact ⟨by simp [PyData.showableAll, a1, b1], by simp [PyData.hasDictAll, a2, b2], by simp [PyData.leavesShortAll, a3, b3], by simp [PyData.bulkAll, sizeA, a4, b4]⟩
end
/-- the text of data -/
noncomputable def txD (d : D) : Str := match d.toP with
  | some p => p.shown
  | none => ""
section
variable {G : Gh} {Q : D → Gh → Prop} {n b : Nat} {d : D}
theorem wp_reprN (h : niceD n d = true) (hi : intsD b d) (hs : (b + 3) * sizeD d + b + 1 ≤ 16777216) (hn : n ≤ 59 := by decide) (hb : 7 ≤ b := by decide) (hb2 : b ≤ 1919 := by decide) : wpM (fRepr [d]) G Q ↔ Q (.str (txD d)) G := by
  obtain ⟨p, a1, a2, a3⟩ := nice_toP n d h
  obtain ⟨c1, c2, c3, c4⟩ := nice_repr b hb hb2 n d p h hi a1
  have l := PyData.shown_le_bulk (b + 1) (by omega) p c3
  rw [c4] at l
  have ok : reprOk p = true := by
    unfold reprOk
    rw [c1, c2]
    simp only [Bool.true_and, Bool.not_false, Bool.and_true, Bool.and_eq_true, decide_eq_true_eq]
    refine ⟨by omega, ?_⟩
    rw [szl]
    rw [show b + 1 + 2 = b + 3 by omega] at l
    omega
  have t : txD d = p.shown := by unfold txD; rw [a1]
  have e : fRepr [d] G = some (.ok (.str (txD d)), G) := by
    unfold fRepr
    dsimp only
    rw [toPG_toP h, a1]
    dsimp only
    rw [if_pos ok, t]
  constructor
  · rintro ⟨a, G', e', q⟩
    rw [e] at e'
    cases e'
    exact q
  · exact fun q => ⟨_, _, e, q⟩
/-- repr of a list made in the run -/
theorem wp_reprC {k : Nat} {ds : List D} (hk : G[k]? = some ds) (h : niceA n ds = true) (hi : intsA b ds) (hs : (b + 3) * sizeA ds + b + 1 ≤ 16777216) (hn : n ≤ 58 := by decide) (hb : 7 ≤ b := by decide) (hb2 : b ≤ 1919 := by decide) : wpM (fRepr [.cell k]) G Q ↔ Q (.str (txD (.lst ds))) G := by
  have e : ∀ r, fRepr [.cell k] G = some r ↔ fRepr [.lst ds] G = some r := by
    intro r
    unfold fRepr
    dsimp only
    rw [show toPG G (.cell k) = (D.lst ds).toP by simp [toPG, hk], show toPG G (.lst ds) = (D.lst ds).toP from rfl]
  rw [← wp_reprN (G := G) (Q := Q) (n := n + 1) (b := b) (d := .lst ds) (by simpa [niceD] using h) (by simpa [intsD] using hi) (by simpa [sizeD] using hs) (by omega) hb hb2]
  unfold wpM
  constructor
  · rintro ⟨a, G', e', q⟩; exact ⟨a, G', (e _).mp e', q⟩
  · rintro ⟨a, G', e', q⟩; exact ⟨a, G', (e _).mpr e', q⟩
end
@[simp] theorem intsD_int {b : Nat} {i : Int} : intsD b (.int i) ↔ i.natAbs < 2 ^ b := by rw [intsD]
@[simp] theorem intsD_non {b : Nat} : intsD b .non ↔ True := by simp [intsD]
@[simp] theorem intsD_tup {b : Nat} {xs : List D} : intsD b (.tup xs) ↔ intsA b xs := by rw [intsD]
@[simp] theorem intsD_lst {b : Nat} {xs : List D} : intsD b (.lst xs) ↔ intsA b xs := by rw [intsD]
@[simp] theorem intsA_nil {b : Nat} : intsA b [] ↔ True := by simp [intsA]
@[simp] theorem intsA_cons {b : Nat} {d : D} {ds : List D} : intsA b (d :: ds) ↔ intsD b d ∧ intsA b ds := by rw [intsA]
theorem intsA_all {b : Nat} : ∀ {ds : List D}, intsA b ds ↔ ∀ d ∈ ds, intsD b d
  | [] => by simp
  | d :: ds => by rw [intsA_cons, intsA_all]; simp
@[simp] theorem sizeD_int {i : Int} : sizeD (.int i) = 0 := by simp [sizeD]
@[simp] theorem sizeD_non : sizeD .non = 0 := by simp [sizeD]
@[simp] theorem sizeD_tup {xs : List D} : sizeD (.tup xs) = sizeA xs := by rw [sizeD]
@[simp] theorem sizeD_lst {xs : List D} : sizeD (.lst xs) = sizeA xs := by rw [sizeD]
@[simp] theorem sizeA_nil : sizeA [] = 0 := by rw [sizeA]
@[simp] theorem sizeA_cons {d : D} {ds : List D} : sizeA (d :: ds) = sizeD d + 1 + sizeA ds := by rw [sizeA]
theorem sizeA_le {c : Nat} : ∀ {ds : List D}, (∀ d ∈ ds, sizeD d + 1 ≤ c) → sizeA ds ≤ c * ds.length
  | [], _ => by simp
  | d :: ds, h => by
    have h1 := h d List.mem_cons_self
    have h2 := sizeA_le fun x hx => h x (List.mem_cons_of_mem _ hx)
    rw [sizeA_cons, List.length_cons, Nat.mul_succ]
    omega
/-- a run has one end -/
theorem wpM_det {α : Type} {m : M α} {G G1 : Gh} {v : α} (h : ∀ Q : α → Gh → Prop, Q v G1 → wpM m G Q) (Q : α → Gh → Prop) : wpM m G Q ↔ Q v G1 := by
  refine ⟨?_, h Q⟩
  obtain ⟨a, G', e, rfl, rfl⟩ := h (fun d G' => d = v ∧ G' = G1) ⟨rfl, rfl⟩
  rintro ⟨b, G2, e2, q⟩
  rw [e] at e2
  cases e2
  exact q
end L2.GL
end

section
set_option Elab.async false
set_option linter.all false
set_option maxRecDepth 100000
set_option autoImplicit false
/-! G28: sorted of a list of nested data. -/
namespace L2.GL
open PySem PySem.Spec PyProof.Rows
theorem _root_.L2.Room.units100 {k : Nat} {A : Around} (r : L2.Room k A) : A.units + 100 < cLine := by have := r.un; omega
def encD (d : D) : PyData := d.toP.getD .none
/-- all are data, alike, and can be sorted -/
structure SortOk (ds : List D) : Prop where
  some : ∀ d ∈ ds, ∃ p, d.toP = some p ∧ p.depth ≤ 60
  alike : PySem.W.AllAlike (ds.map encD)
  sortable : PySem.W.Sortable (ds.map encD)
  len : ds.length ≤ sizeLine
def leD (d e : D) : Bool := PySem.W.dataLe false encD d e
def rSortN (K : PySem.W.Frag) : List V → Hp → VK → Prop := fun vs H Q => ∃ (a : Addr) (xs : List V) (ds : List D) (F : Hp) (ρ : List Addr), Same F H ∧ vs = [V.ref a] ∧ SqL K H a xs ∧ DrA K F ρ xs ds ∧ SortOk ds ∧
  ∀ ys p, DrA K F ρ ys (ds.mergeSort leD) → H p = none → Q (.ref p) (upd H p (.lst ys))
section
variable {X : Cx}
theorem each_dr {K : PySem.W.Frag} {F : Hp} {ρ : List Addr} : ∀ {xs : List V} {us : List Value} {ds : List D}, Vals xs us → DrA K F ρ xs ds → PySem.W.EachIs (fun u d => ∃ x, RelV x u ∧ Dr K F ρ x d) us ds
  | _, _, _, .nil, .nil => .nil
  | _, _, _, .cons r t, .cons q s => .cons ⟨_, r, q⟩ (each_dr t s)
theorem dr_each {K : PySem.W.Frag} {F : Hp} {ρ : List Addr} : ∀ {us : List Value} {ds : List D}, PySem.W.EachIs (fun u d => ∃ x, RelV x u ∧ Dr K F ρ x d) us ds → ∃ xs, Vals xs us ∧ DrA K F ρ xs ds
  | _, _, .nil => ⟨[], .nil, .nil⟩
  | _, _, .cons ⟨x, r, q⟩ t => by
    obtain ⟨xs, h1, h2⟩ := dr_each t
    exact ⟨x :: xs, .cons r h1, .cons q h2⟩
theorem each_imp {α β : Type} {R S : α → β → Prop} : ∀ {as : List α} {bs : List β}, PySem.W.EachIs R as bs → (∀ a b, b ∈ bs → R a b → S a b) → PySem.W.EachIs S as bs
  | _, _, .nil, _ => .nil
  | _, _, .cons h t, k => .cons (k _ _ List.mem_cons_self h) (each_imp t fun a b hb => k a b (List.mem_cons_of_mem _ hb))
theorem call_sortedN (hu : X.A.units + 100 < cLine) : CallR X (.builtin "sorted") (rSortN X.K) := by
  intro pins s σ H vs us Q I r h
  obtain ⟨a, xs, ds, F, ρ, hF, rfl, hs, hx, ok, q⟩ := h
  obtain ⟨its, rv, hl, hz⟩ := I.list hs
  obtain ⟨u, rfl, ru⟩ := vals1 r
  obtain rfl : u = Value.ref a := ru
  have e := each_dr rv hx
  have er : PySem.W.EachIs (fun v b => ∃ as, Reads s.heap v (encD b) as) its ds := each_imp e fun u d hd ⟨x, rx, dx⟩ => by
    obtain ⟨p, hp, _⟩ := ok.some d hd
    have : encD d = p := by unfold encD; rw [hp]; rfl
    rw [this]
    exact Dp.reads I p x u (Dr.dp hF dx hp) rx
  refine PySem.W.sorted_data hl.isList e er ok.alike ok.sortable ok.len (fun d hd => ?_) fun out ho hE => ?_
  · obtain ⟨p, hp, hd⟩ := ok.some d hd
    have : encD d = p := by unfold encD; rw [hp]; rfl
    rw [this]
    omega
  · obtain ⟨ys, y1, y2⟩ := dr_each hE
    obtain ⟨ep, he'⟩ := PyProof.Rows.sortedAll_at s.heap its (List.toArray out)
    have hlen : ys.length ≤ sizeLine := by rw [y1.length, ho]; exact ok.len
    exact ⟨.ref _, upd H (s.heap.objs.size + 1) (.lst ys), I.laid (t' := s.toks) (fun _ _ => PyProof.Rows.sortedAll_old) (Nat.le_succ _) ⟨hlen, out, ep, y1, he'⟩, rfl, q ys _ y2 (I.hok.fresh (Nat.le_succ _))⟩
end
open Classical in
/-- sorted, of pairs of numbers or of other data -/
noncomputable def fSortedX : List D → M D
  | [d] => do
    let ds ← getL d
    match ptsOf ds with
    | some ps => pure (.lst ((sortP ps).map ptD))
    | none => if SortOk ds then pure (.lst (ds.mergeSort leD)) else stuck
  | _ => stuck
theorem s_sortedX {K : PySem.W.Frag} {mg : Str → Option Value} : CallV K mg true (fun xs H Q => rSP K xs H Q ∨ rSortN K xs H Q) fSortedX := by
  intro T W σ vs ds H F ρ G Q hR rs h
  match ds, rs, h with
  | [], rs, h => exact h.stuck.elim
  | [d], rs, h =>
    obtain ⟨v, rfl, r⟩ := rs.one
    obtain ⟨a, xs, ds, rfl, q2, q3, q4⟩ := Run.getL (k := fun ds => match ptsOf ds with
      | some ps => (Pure.pure (D.lst ((sortP ps).map ptD)) : M D)
      | none => open Classical in if SortOk ds then pure (.lst (ds.mergeSort leD)) else stuck) h hR r
    cases hi : ptsOf ds with
    | some ps =>
      rw [hi] at q4
      have q5 : Run K T mg W σ true F ρ (Pure.pure (D.lst ((sortP ps).map ptD)) : M D) G Q := q4
      exact .inl ⟨a, xs, ps, F, hR.sub, rfl, q2, ptsOf_V hi q3, fun ys p hy hp => q5.newL hR hy.dr hp⟩
    | none =>
      rw [hi] at q4
      dsimp only at q4
      split at q4
      · rename_i ok
        exact .inr ⟨a, xs, ds, F, ρ, hR.sub, rfl, q2, q3, ok, fun ys p hy hp => Run.newL q4 hR hy hp⟩
      · exact q4.stuck.elim
  | d :: e :: r, rs, h => exact h.stuck.elim
section
variable {G : Gh} {Q : D → Gh → Prop} {ds : List D}
theorem wp_sortedX (h : ptsOf ds = none) (ok : SortOk ds) : wpM (fSortedX [.lst ds]) G Q ↔ Q (.lst (ds.mergeSort leD)) G := by
  unfold fSortedX
  rw [wpM_bind, getL_lst, wpM_pure, h]
  dsimp only
  rw [if_pos ok, wpM_pure]
theorem wp_sortedXP {ps : List I2} (h : ptsOf ds = some ps) : wpM (fSortedX [.lst ds]) G Q ↔ Q (.lst ((sortP ps).map ptD)) G := by
  unfold fSortedX
  rw [wpM_bind, getL_lst, wpM_pure, h]
  exact wpM_pure
theorem getL_cell {n : Nat} (h : G[n]? = some ds) : getL (.cell n) G = some (.ok ds, G) := by
  unfold getL
  dsimp only
  rw [h]
theorem wp_sortedXC {n : Nat} (hg : G[n]? = some ds) : wpM (fSortedX [.cell n]) G Q ↔ wpM (fSortedX [.lst ds]) G Q := by
  have e : fSortedX [.cell n] G = fSortedX [.lst ds] G := by
    unfold fSortedX
    dsimp only
    rw [bind_ok (getL_cell hg), bind_ok (show getL (.lst ds) G = some (.ok ds, G) from rfl)]
  unfold wpM
  rw [e]
end
/-! tuples of whole numbers, and tuples of such: in order by the numbers in a row -/
/-- x before y, number by number -/
def ltR : List Int → List Int → Bool
  | x :: xs, y :: ys => if x = y then ltR xs ys else decide (x < y)
  | [], _ :: _ => true
  | _, [] => false
theorem ltR_irr : ∀ x : List Int, ltR x x = false
  | [] => rfl
  | a :: x => by rw [ltR, if_pos rfl]; exact ltR_irr x
theorem ltR_asym : ∀ {x y : List Int}, ltR x y = true → ltR y x = false
  | [], [], h => by simp [ltR] at h
  | [], _ :: _, _ => rfl
  | _ :: _, [], h => by simp [ltR] at h
  | a :: x, b :: y, h => by
    rw [ltR] at h ⊢
    by_cases e : a = b
    · rw [if_pos e] at h; rw [if_pos e.symm]; exact ltR_asym h
    · rw [if_neg e] at h; rw [if_neg (fun z => e z.symm)]
      have := of_decide_eq_true h
      exact decide_eq_false (by omega)
theorem ltR_trans : ∀ {x y z : List Int}, ltR y x = false → ltR z y = false → ltR z x = false
  | [], [], z, _, h => h
  | [], _ :: _, [], _, _ => rfl
  | [], b :: y, c :: z, h1, h2 => by simp [ltR]
  | a :: x, [], z, h1, h2 => by simp [ltR] at h1
  | a :: x, b :: y, [], h1, h2 => by simp [ltR] at h2
  | a :: x, b :: y, c :: z, h1, h2 => by
    rw [ltR] at h1 h2 ⊢
    by_cases e1 : b = a
    · rw [if_pos e1] at h1
      by_cases e2 : c = b
      · rw [if_pos e2] at h2
        rw [if_pos (e2.trans e1)]
        exact ltR_trans h1 h2
      · rw [if_neg e2] at h2
        have := of_decide_eq_false h2
        rw [if_neg (by omega)]
        exact decide_eq_false (by omega)
    · rw [if_neg e1] at h1
      have := of_decide_eq_false h1
      by_cases e2 : c = b
      · rw [if_neg (by omega)]
        exact decide_eq_false (by omega)
      · rw [if_neg e2] at h2
        have := of_decide_eq_false h2
        rw [if_neg (by omega)]
        exact decide_eq_false (by omega)
theorem ltR_tri : ∀ {x y : List Int}, x.length = y.length → ltR x y = false → ltR y x = false → x = y
  | [], [], _, _, _ => rfl
  | [], _ :: _, h, _, _ => by simp at h
  | _ :: _, [], h, _, _ => by simp at h
  | a :: x, b :: y, h, h1, h2 => by
    rw [ltR] at h1 h2
    by_cases e : a = b
    · rw [if_pos e] at h1; rw [if_pos e.symm] at h2
      rw [e, ltR_tri (by simpa using h) h1 h2]
    · rw [if_neg e] at h1; rw [if_neg (fun z => e z.symm)] at h2
      have := of_decide_eq_false h1
      have := of_decide_eq_false h2
      omega
/-- a list is sorted by keys of numbers in a row; of each permutation there is just one such list, where the keys tell the items -/
theorem sort_uniq {α : Type} {le : α → α → Bool} {key : α → List Int} (hle : ∀ a b, le a b = !ltR (key b) (key a)) {n : Nat} (hn : ∀ a, (key a).length = n) (inj : ∀ a b, key a = key b → a = b) {l m : List α}
    (hm : m.Pairwise fun a b => ltR (key b) (key a) = false) (p : l.Perm m) : l.mergeSort le = m := by
  have hs : (l.mergeSort le).Pairwise fun a b => ltR (key b) (key a) = false := by
    have := List.pairwise_mergeSort (le := le) (fun a b c h1 h2 => by
      rw [hle, Bool.not_eq_true'] at h1 h2 ⊢
      exact ltR_trans h1 h2) (fun a b => by
      rw [hle, hle]
      cases q : ltR (key b) (key a) with
      | false => rfl
      | true => rw [ltR_asym q]; rfl) l
    exact this.imp fun h => by rw [hle, Bool.not_eq_true'] at h; exact h
  have uniq : ∀ {l m : List α}, (l.Pairwise fun a b => ltR (key b) (key a) = false) → (m.Pairwise fun a b => ltR (key b) (key a) = false) → l.Perm m → l = m := by
    intro l
    induction l with
    | nil => intro m _ _ p; exact (List.Perm.nil_eq p)
    | cons x l ih =>
      intro m hl hm p
      cases m with
      | nil => exact absurd p.length_eq (by simp)
      | cons y m =>
        obtain ⟨l1, l2⟩ := List.pairwise_cons.mp hl
        obtain ⟨m1, m2⟩ := List.pairwise_cons.mp hm
        have e : x = y := by
          rcases List.mem_cons.mp (p.mem_iff.mp List.mem_cons_self) with e | hx
          · exact e
          · rcases List.mem_cons.mp (p.mem_iff.mpr (List.mem_cons_self (a := y) (l := m))) with e | hy
            · exact e.symm
            · exact inj _ _ (ltR_tri (by rw [hn, hn]) (m1 x hx) (l1 y hy))
        subst e
        rw [ih l2 m2 p.cons_inv]
  exact uniq hs hm ((List.mergeSort_perm l le).trans p)
mutual
/-- all numbers, in a row -/
def flatI : D → List Int
  | .int i => [i]
  | .tup xs => flatIA xs
  | _ => []
def flatIA : List D → List Int
  | [] => []
  | d :: ds => flatI d ++ flatIA ds
end
mutual
/-- numbers, tuples of such, the one like the other -/
def sameS : D → D → Bool
  | .int _, .int _ => true
  | .tup xs, .tup ys => sameSA xs ys
  | _, _ => false
def sameSA : List D → List D → Bool
  | [], [] => true
  | x :: xs, y :: ys => sameS x y && sameSA xs ys
  | _, _ => false
end
theorem ltR_pre {p a b : List Int} : ltR (p ++ a) (p ++ b) = ltR a b := by
  induction p with
  | nil => rfl
  | cons x p ih => rw [List.cons_append, List.cons_append, ltR, if_pos rfl, ih]
theorem ltR_diff : ∀ {x y : List Int}, x.length = y.length → x ≠ y → ∀ a b, ltR (x ++ a) (y ++ b) = ltR x y
  | [], [], _, h, _, _ => absurd rfl h
  | [], _ :: _, h, _, _, _ => by simp at h
  | _ :: _, [], h, _, _, _ => by simp at h
  | i :: x, j :: y, h, hne, a, b => by
    rw [List.cons_append, List.cons_append, ltR, ltR]
    by_cases e : i = j
    · rw [if_pos e, if_pos e]
      exact ltR_diff (by simpa using h) (fun z => hne (by rw [e, z])) a b
    · rw [if_neg e, if_neg e]
mutual
theorem sameS_facts : ∀ (d e : D), sameS d e = true → ∃ p q, d.toP = some p ∧ e.toP = some q ∧ PySem.W.alike p q = true ∧ (PyData.eqv p q = true ↔ d = e) ∧ PySem.W.dataLt p q = ltR (flatI d) (flatI e) ∧ (flatI d).length = (flatI e).length ∧ (flatI d = flatI e → d = e)
  | .int i, e, h => by
    match e, h with
    | .int j, _ =>
      refine ⟨.int i, .int j, by simp [D.toP], by simp [D.toP], by simp [PySem.W.alike], by simp [PyData.eqv], ?_, by simp [flatI], by simp [flatI]⟩
      rw [PySem.W.dataLt_int, flatI, flatI, ltR]
      by_cases e : i = j
      · rw [if_pos e, e]; simp [ltR]
      · rw [if_neg e]
    | .non, h => simp [sameS] at h
    | .bl _, h => simp [sameS] at h
    | .str _, h => simp [sameS] at h
    | .tup _, h => simp [sameS] at h
    | .lst _, h => simp [sameS] at h
    | .cell _, h => simp [sameS] at h
    | .ty _, h => simp [sameS] at h
    | .dct _, h => simp [sameS] at h
    | .exn _ _, h => simp [sameS] at h
  | .tup xs, e, h => by
    match e, h with
    | .tup ys, h =>
      obtain ⟨ps, qs, h1, h2, h3, h4, h5, h6, h7⟩ := sameSA_facts xs ys (by simpa [sameS] using h)
      refine ⟨.tuple ps, .tuple qs, by simp [D.toP, h1], by simp [D.toP, h2], by simpa [PySem.W.alike] using h3, ?_, ?_, by simpa [flatI] using h6, fun z => ?_⟩
      · rw [PyData.eqv, h4]; simp
      · rw [PySem.W.dataLt_tuple, h5, flatI, flatI]
      · rw [flatI, flatI] at z; rw [h7 z]
    | .non, h => simp [sameS] at h
    | .bl _, h => simp [sameS] at h
    | .str _, h => simp [sameS] at h
    | .int _, h => simp [sameS] at h
    | .lst _, h => simp [sameS] at h
    | .cell _, h => simp [sameS] at h
    | .ty _, h => simp [sameS] at h
    | .dct _, h => simp [sameS] at h
    | .exn _ _, h => simp [sameS] at h
  | .non, _, h => by simp [sameS] at h
  | .bl _, _, h => by simp [sameS] at h
  | .str _, _, h => by simp [sameS] at h
  | .lst _, _, h => by simp [sameS] at h
  | .cell _, _, h => by simp [sameS] at h
  | .ty _, _, h => by simp [sameS] at h
  | .dct _, _, h => by simp [sameS] at h
  | .exn _ _, _, h => by simp [sameS] at h
theorem sameSA_facts : ∀ (ds es : List D), sameSA ds es = true → ∃ ps qs, D.toPA ds = some ps ∧ D.toPA es = some qs ∧ PySem.W.alikeAll ps qs = true ∧ (PyData.eqvAll ps qs = true ↔ ds = es) ∧ PyProof.Rows.lexLt PyProof.Rows.itemOrd (PySem.W.keyToksAll ps) (PySem.W.keyToksAll qs) = ltR (flatIA ds) (flatIA es) ∧ (flatIA ds).length = (flatIA es).length ∧ (flatIA ds = flatIA es → ds = es)
  | [], [], _ => ⟨[], [], by simp [D.toPA], by simp [D.toPA], by simp [PySem.W.alikeAll], by simp [PyData.eqvAll], by
      rw [show flatIA [] = [] from by rw [flatIA]]
      exact (PyProof.Rows.lex_irrefl _), rfl, fun _ => rfl⟩
  | [], _ :: _, h => by simp [sameSA] at h
  | _ :: _, [], h => by simp [sameSA] at h
  | d :: ds, e :: es, h => by
    rw [sameSA, Bool.and_eq_true] at h
    obtain ⟨p, q, a1, a2, a3, a4, a5, a6, a7⟩ := sameS_facts d e h.1
    obtain ⟨ps, qs, b1, b2, b3, b4, b5, b6, b7⟩ := sameSA_facts ds es h.2
    refine ⟨p :: ps, q :: qs, by simp [D.toPA, a1, b1], by simp [D.toPA, a2, b2], by simp [PySem.W.alikeAll, a3, b3], ?_, ?_, by simp [flatIA, a6, b6], fun z => ?_⟩
    · rw [PyData.eqvAll, Bool.and_eq_true, a4, b4]; simp
    · rw [flatIA, flatIA]
      cases hq : PyData.eqv p q with
      | true =>
        rw [PySem.W.dataLt_all_yes a3 hq, b5, a4.mp hq, ltR_pre]
      | false =>
        rw [PySem.W.dataLt_all_no a3 hq, a5]
        refine (ltR_diff a6 (fun z => ?_) _ _).symm
        rw [a4.mpr (a7 z)] at hq
        cases hq
    · rw [flatIA, flatIA] at z
      obtain ⟨z1, z2⟩ := List.append_inj z a6
      rw [a7 z1, b7 z2]
end
/-- sorted by the numbers in a row -/
def sortR {α : Type} (key : α → List Int) (l : List α) : List α := l.mergeSort fun a b => !ltR (key b) (key a)
section
variable {α : Type} {f : α → D}
theorem leD_R (hs : ∀ a b, sameS (f a) (f b) = true) (a b : α) : leD (f a) (f b) = !ltR (flatI (f b)) (flatI (f a)) := by
  obtain ⟨p, q, h1, h2, _, _, h5, _⟩ := sameS_facts _ _ (hs b a)
  unfold leD
  rw [PySem.W.dataLe_eq]
  show (!PySem.W.dataLt (encD (f b)) (encD (f a))) = _
  unfold encD
  rw [h1, h2]
  show (!PySem.W.dataLt p q) = _
  rw [h5]
theorem sort_map (hs : ∀ a b, sameS (f a) (f b) = true) (l : List α) : (l.map f).mergeSort leD = (sortR (fun a => flatI (f a)) l).map f := by
  unfold sortR
  rw [List.map_mergeSort]
  exact fun a _ b _ => (leD_R hs a b).symm
theorem sortOk_map (hs : ∀ a b, sameS (f a) (f b) = true) (hn : ∀ a, ∃ x r, f a = .tup (x :: r)) {n : Nat} (hd : ∀ a, niceD n (f a) = true) (h59 : n ≤ 59) {l : List α} (hl : l.length ≤ sizeLine) : SortOk (l.map f) := by
  refine ⟨fun d hm => ?_, fun d hm e he => ?_, .inl fun d hm => ?_, by rw [List.length_map]; exact hl⟩
  · obtain ⟨a, _, rfl⟩ := List.mem_map.mp hm
    obtain ⟨p, h1, _, h3⟩ := nice_toP n (f a) (hd a)
    exact ⟨p, h1, by omega⟩
  · obtain ⟨x, hx, rfl⟩ := List.mem_map.mp hm
    obtain ⟨y, hy, rfl⟩ := List.mem_map.mp he
    obtain ⟨a, _, rfl⟩ := List.mem_map.mp hx
    obtain ⟨b, _, rfl⟩ := List.mem_map.mp hy
    obtain ⟨p, q, h1, h2, h3, _⟩ := sameS_facts _ _ (hs a b)
    unfold encD
    rw [h1, h2]
    exact h3
  · obtain ⟨x, hx, rfl⟩ := List.mem_map.mp hm
    obtain ⟨a, _, rfl⟩ := List.mem_map.mp hx
    obtain ⟨x, r, e⟩ := hn a
    obtain ⟨p, h1, _, _⟩ := nice_toP n (f a) (hd a)
    unfold encD
    rw [h1]
    rw [e, D.toP] at h1
    split at h1
    · rename_i ps hp
      cases h1
      rw [D.toPA] at hp
      split at hp
      · cases hp; exact ⟨_, _, rfl⟩
      · cases hp
    · cases h1
theorem sortR_perm {key : α → List Int} {l : List α} : (sortR key l).Perm l := List.mergeSort_perm _ _
theorem sortR_up {key : α → List Int} {l : List α} : (sortR key l).Pairwise fun a b => ltR (key b) (key a) = false := by
  have := List.pairwise_mergeSort (le := fun a b => !ltR (key b) (key a)) (fun a b c h1 h2 => by
    rw [Bool.not_eq_true'] at h1 h2 ⊢
    exact ltR_trans h1 h2) (fun a b => by
    cases q : ltR (key b) (key a) with
    | false => rfl
    | true => rw [ltR_asym q]; rfl) l
  exact this.imp fun h => by rwa [Bool.not_eq_true'] at h
theorem sortR_eq {key : α → List Int} {n : Nat} (hn : ∀ a, (key a).length = n) (inj : ∀ a b, key a = key b → a = b) {l m : List α} (hm : m.Pairwise fun a b => ltR (key b) (key a) = false) (p : l.Perm m) : sortR key l = m :=
  sort_uniq (fun _ _ => rfl) hn inj hm p
theorem sortR_perm_eq {key : α → List Int} {n : Nat} (hn : ∀ a, (key a).length = n) (inj : ∀ a b, key a = key b → a = b) {l m : List α} (p : l.Perm m) : sortR key l = sortR key m :=
  sortR_eq hn inj sortR_up (p.trans sortR_perm.symm)
end
end L2.GL
end

section
set_option Elab.async false
set_option linter.all false
set_option maxRecDepth 100000
set_option autoImplicit false
/-! G29: dicts written out; repr and str of data with dicts in them. -/
namespace L2.GL
open PySem PySem.Spec PyProof.Rows

section
variable {X : Cx} {T : List Addr} {W : WX} {pos : Pos}
theorem v_d0 : PV X T W true (.Dict [] [] pos) (fun _ => pure (.dct [])) :=
  PE.imp pe_dnewK fun σ H Q ⟨Φ, F, ρ, G, env, hR, hS, h⟩ p hp =>
    Run.pure' h (hR.alloc hp) (same_updN (hR.sub.free hp)) (List.prefix_refl _) (Dr.dct upd_same) fun _ => .of fun _ z => nomatch z
theorem v_d1 {k : Str} {i : Int} {j1 j2 : Nat} {p1 p2 : Pos} : PV X T W true (.Dict [some (.Constant (.str k) j1 p1)] [.Constant (.int i) j2 p2] pos) (fun _ => pure (.dct [(k, i)])) :=
  PE.imp (pe_disp (pps_cons pe_str pe_int pps_nil) (by rfl) rfl (by simp) (show 1 ≤ 15 by decide)) fun σ H Q ⟨Φ, F, ρ, G, env, hR, hS, h⟩ p hp => by
    refine ⟨upd_same, [(Sum.inr k, .int i)], rfl, show 1 ≤ 15 by decide, ?_⟩
    have e : upd (upd H p (.dK [])) p (.dK (mergeK [] [(Sum.inr k, V.int i)])) = upd H p (.dK [(Sum.inr k, V.int i)]) := by rw [upd_upd]; rfl
    rw [e]
    exact Run.pure' h (hR.alloc hp) (same_updN (hR.sub.free hp)) (List.prefix_refl _) (Dr.dct upd_same) fun _ => .of fun _ z => nomatch z
end

/-! ### data with dicts, as the model's data -/
def kvP (kvs : List (Str × Int)) : List (PyData × PyData) := kvs.map fun p => (.str p.1, .int p.2)
mutual
inductive Dq (K : PySem.W.Frag) (H : Hp) : V → PyData → Prop
  | non : Dq K H .non .none
  | bl (b : Bool) : Dq K H (.bl b) (.bool b)
  | int (i : Int) : Dq K H (.int i) (.int i)
  | str (x : Str) : Dq K H (.str x) (.str x)
  | lst {a : Addr} {xs : List V} {ds : List PyData} : SqL K H a xs → DqA K H xs ds → Dq K H (.ref a) (.list ds)
  | tup {a : Addr} {xs : List V} {ds : List PyData} : SqT K H a xs → DqA K H xs ds → Dq K H (.ref a) (.tuple ds)
  | dct {a : Addr} {kvs : List (Str × Int)} : H a = some (.dK (kvs.map fun p => (Sum.inr p.1, V.int p.2))) → Dq K H (.ref a) (.dict (kvP kvs))
inductive DqA (K : PySem.W.Frag) (H : Hp) : List V → List PyData → Prop
  | nil : DqA K H [] []
  | cons {v : V} {vs : List V} {d : PyData} {ds : List PyData} : Dq K H v d → DqA K H vs ds → DqA K H (v :: vs) (d :: ds)
end
mutual
/-- no list within -/
def noL : PyData → Bool
  | .list _ => false
  | .tuple xs => noLA xs
  | .dict _ => true
  | .none => true | .bool _ => true | .int _ => true | .str _ => true
def noLA : List PyData → Bool
  | [] => true
  | x :: xs => noL x && noLA xs
end
theorem strs_reads {h : Heap} : ∀ {us : List Value} {xs : List Str}, Vals (xs.map V.str) us → ReadsAll h us (xs.map PyData.str) []
  | [], [], _ => .nil
  | u :: us, x :: xs, r => by
    rw [List.map_cons] at r
    cases r with
    | cons r t =>
      obtain ⟨tk, rfl⟩ := r
      exact ReadsAll.cons (as := []) (bs := []) (.str x tk) (strs_reads t)
theorem pairs_reads {P : Program} {w : World} {h : Heap} : ∀ {es : List DictEntry} {kvs : List (Str × Int)} {vs : List (Key × Value)}, KV (kvs.map fun p => ((Sum.inr p.1 : Key), V.int p.2)) vs → Pairs (mixKind P w) es vs →
    ReadsAll h (es.map (·.key)) ((kvP kvs).map (·.1)) [] ∧ ReadsAll h (es.map (·.val)) ((kvP kvs).map (·.2)) []
  | es, [], vs, r, p => by
    cases r
    cases p
    exact ⟨.nil, .nil⟩
  | es, kv :: kvs, vs, r, p => by
    rw [List.map_cons] at r
    cases r with
    | cons r t =>
      cases p with
      | @cons e kv2 es2 kvs2 h1 h2 p2 =>
        obtain ⟨q1, q2⟩ := pairs_reads t p2
        obtain ⟨r1, r2⟩ := r
        rw [← r1] at h1
        have h3 : keyIs (Sum.inr kv.1) e.key = true := h1
        rcases keyIs_shape h3 with ⟨i, tk, z, _⟩ | ⟨x, tk, z, hk⟩
        · cases z
        · cases z
          obtain ⟨t2, hv⟩ := r2
          rw [hv] at h2
          refine ⟨?_, ?_⟩
          · show ReadsAll h (e.key :: es2.map (·.key)) (PyData.str kv.1 :: (kvP kvs).map (·.1)) ([] ++ [])
            rw [hk]
            exact .cons (.str _ _) q1
          · show ReadsAll h (e.val :: es2.map (·.val)) (PyData.int kv.2 :: (kvP kvs).map (·.2)) ([] ++ [])
            rw [h2]
            exact .cons (.int _ _) q2
section
variable {X : Cx} {pins : List (Addr × Obj)} {σ : L2.St} {H : Hp} {s : Shared}
mutual
theorem Dq.reads (I : Inv X pins σ H s) : ∀ {d : PyData} {v : V} {u : Value}, Dq X.K H v d → RelV v u → ∃ as, Reads s.heap u d as ∧ (noL d = true → sysModules ∉ as)
  | _, _, _, .non, r => by cases r; exact ⟨_, .none, fun _ z => nomatch z⟩
  | _, _, _, .bl b, r => by cases r; exact ⟨_, .bool b, fun _ z => nomatch z⟩
  | _, _, _, .int i, r => by obtain ⟨t, rfl⟩ := r; exact ⟨_, .int i t, fun _ z => nomatch z⟩
  | _, _, _, .str x, r => by obtain ⟨t, rfl⟩ := r; exact ⟨_, .str x t, fun _ z => nomatch z⟩
  | _, _, _, .lst q t, r => by
    cases r
    obtain ⟨its, rv, ⟨o, n, ho, hc, _, hd⟩, _⟩ := I.list q
    obtain ⟨as, hr, _⟩ := DqA.reads I t rv
    exact ⟨_, .list ho hc hd hr, fun z => by simp [noL] at z⟩
  | _, _, _, .tup q t, r => by
    cases r
    obtain ⟨its, rv, ⟨o, ho, hc, n, hd⟩, _⟩ := I.tuple q
    obtain ⟨as, hr, hn⟩ := DqA.reads I t rv
    exact ⟨_, .tuple ho hc hd hr, fun z => hn (by simpa [noL] using z)⟩
  | _, _, _, .dct q, r => by
    cases r
    obtain ⟨_, sm, vs, rel, o, es, ep, ho, hx, hd, _, hp, _⟩ := I.hok _ _ q
    obtain ⟨q1, q2⟩ := pairs_reads (h := s.heap) rel hp
    refine ⟨_, .dict ho hx.1 hd q1 q2, fun _ z => ?_⟩
    simp only [List.append_nil, List.mem_singleton] at z
    rw [← z] at sm
    simp at sm
theorem DqA.reads (I : Inv X pins σ H s) : ∀ {ds : List PyData} {vs : List V} {us : List Value}, DqA X.K H vs ds → Vals vs us → ∃ as, ReadsAll s.heap us ds as ∧ (noLA ds = true → sysModules ∉ as)
  | _, _, _, .nil, r => by cases r; exact ⟨_, .nil, fun _ z => nomatch z⟩
  | _, _, _, .cons h t, r => by
    cases r with
    | cons r1 r2 =>
      obtain ⟨as, q1, n1⟩ := Dq.reads I h r1
      obtain ⟨bs, q2, n2⟩ := DqA.reads I t r2
      refine ⟨_, .cons q1 q2, fun z => ?_⟩
      simp only [noLA, Bool.and_eq_true] at z
      simp only [List.mem_append, not_or]
      exact ⟨n1 z.1, n2 z.2⟩
end
end
mutual
def D.toQ : D → Option PyData
  | .non => some .none
  | .bl b => some (.bool b)
  | .int i => some (.int i)
  | .str x => some (.str x)
  | .tup xs => match D.toQA xs with
    | some ps => some (.tuple ps)
    | none => none
  | .lst xs => match D.toQA xs with
    | some ps => some (.list ps)
    | none => none
  | .dct kvs => some (.dict (kvP kvs))
  | .cell _ => none
  | .ty _ => none
  | .exn _ _ => none
def D.toQA : List D → Option (List PyData)
  | [] => some []
  | d :: ds => match D.toQ d, D.toQA ds with
    | some p, some ps => some (p :: ps)
    | _, _ => none
end
section
variable {K : PySem.W.Frag} {F H : Hp} {ρ : List Addr}
mutual
theorem Dr.dq (s : Same F H) : ∀ {v : V} {d : D} {p : PyData}, Dr K F ρ v d → d.toQ = some p → Dq K H v p
  | _, _, _, .non, e => by simp only [D.toQ, Option.some.injEq] at e; subst e; exact .non
  | _, _, _, .bl b, e => by simp only [D.toQ, Option.some.injEq] at e; subst e; exact .bl b
  | _, _, _, .int i, e => by simp only [D.toQ, Option.some.injEq] at e; subst e; exact .int i
  | _, _, _, .str x, e => by simp only [D.toQ, Option.some.injEq] at e; subst e; exact .str x
  | _, _, _, .dct h, e => by simp only [D.toQ, Option.some.injEq] at e; subst e; exact .dct (s _ _ h)
  | _, _, _, .ty n, e => by simp [D.toQ] at e
  | _, _, _, .exn a c, e => by simp [D.toQ] at e
  | _, _, _, .cell h, e => by simp [D.toQ] at e
  | _, _, _, .tup h t, e => by
    unfold D.toQ at e
    split at e
    · rename_i ps q
      cases e
      exact .tup (Same.tup s h) (DrA.dq s t q)
    · cases e
  | _, _, _, .lst h t, e => by
    unfold D.toQ at e
    split at e
    · rename_i ps q
      cases e
      exact .lst (s.seq h) (DrA.dq s t q)
    · cases e
theorem DrA.dq (s : Same F H) : ∀ {v : List V} {d : List D} {p : List PyData}, DrA K F ρ v d → D.toQA d = some p → DqA K H v p
  | _, _, _, .nil, e => by simp only [D.toQA, Option.some.injEq] at e; subst e; exact .nil
  | _, _, _, .cons h t, e => by
    unfold D.toQA at e
    split at e
    · rename_i p ps q1 q2
      cases e
      exact .cons (Dr.dq s h q1) (DrA.dq s t q2)
    · cases e
end
end
def reprQk (p : PyData) : Bool := p.showable && (decide (p.depth ≤ 60) && ((!p.hasDict || noL p) && decide (p.shown.length ≤ sizeLine)))
/-- repr of data that may have dicts in it -/
def fReprQ (ds : List D) : M D := match ds with
  | [d] => match d.toQ with
    | some p => if reprQk p = true then pure (.str p.shown) else stuck
    | none => stuck
  | _ => stuck
def rReprQ (K : PySem.W.Frag) : List V → Hp → VK → Prop := fun xs H Q => ∃ x p, xs = [x] ∧ Dq K H x p ∧ reprQk p = true ∧ Q (.str p.shown) H
theorem call_reprQ {X : Cx} (hg : X.A.guards = some []) (hu : X.A.units + 64 < cLine) : CallR X (.builtin "repr") (rReprQ X.K) := by
  intro pins s σ H xs us Q I r h
  obtain ⟨x, p, rfl, hd, ho, q⟩ := h
  obtain ⟨u, rfl, rx⟩ := vals1 r
  obtain ⟨as, rd, hs⟩ := Dq.reads I hd rx
  unfold reprQk at ho
  simp only [Bool.and_eq_true, decide_eq_true_eq] at ho
  obtain ⟨h1, h2, h3, h4⟩ := ho
  have h5 : p.hasDict = true → sysModules ∉ as := fun z => hs (by
    rw [z] at h3
    simpa using h3)
  have byRef : ∀ {a : Addr}, Reads s.heap (.ref a) p as → wpAny (model X.prog X.w) X.A (call (.builtin "repr") [.ref a]) (EP X pins σ Q) X.xe s := fun rd =>
    repr_of_reads' rd h1 h5 hg (by omega) (fun _ _ e => e) (fun hp v tk kk => ⟨.str p.shown, H, I.kept (t' := tk) kk, ⟨v, rfl⟩, q⟩) h4
  cases hd with
  | non => cases rx; exact PySem.P.repr_of_none ⟨.str _, H, I.tok _, ⟨_, rfl⟩, q⟩
  | bl b => cases rx; exact PySem.P.repr_of_bool ⟨.str _, H, I.tok _, ⟨_, rfl⟩, q⟩
  | int i => obtain ⟨t, rfl⟩ := rx; exact PySem.P.repr_of_int (by simpa [PyData.showable] using h1) ⟨.str _, H, I.tok _, ⟨_, rfl⟩, q⟩
  | str y => obtain ⟨t, rfl⟩ := rx; exact PySem.P.repr_of_str ⟨.str _, H, I.tok _, ⟨_, rfl⟩, q⟩ (by simpa only [PyData.shown] using h4)
  | lst a b => cases rx; exact byRef rd
  | tup a b => cases rx; exact byRef rd
  | dct a => cases rx; exact byRef rd
section
variable {K : PySem.W.Frag} {mg : Str → Option Value} {fr : Bool}
theorem s_reprQ : CallV K mg fr (rReprQ K) fReprQ := by
  intro T W σ vs ds H F ρ G Q hR rs h
  unfold fReprQ at h
  split at h
  · obtain ⟨v, rfl, r⟩ := rs.one
    split at h
    · rename_i p e
      split at h
      · rename_i ho
        exact ⟨v, p, rfl, Dr.dq hR.sub r e, ho, h.pure hR (.str _) fun _ => .of fun _ z => nomatch z⟩
      · exact h.stuck.elim
    · exact h.stuck.elim
  · exact h.stuck.elim
end
/-! ### str(..) of a number, a text, a tuple -/
def fStr (ds : List D) : M D := match ds with
  | [.int i] => if i.natAbs.log2 < 1920 then pure (.str (PyData.int i).shown) else stuck
  | [.str x] => pure (.str x)
  | [.tup xs] => match (D.tup xs).toQ with
    | some p => if reprQk p = true then pure (.str p.shown) else stuck
    | none => stuck
  | _ => stuck
def rStr (K : PySem.W.Frag) : List V → Hp → VK → Prop := fun xs H Q => (∃ i, xs = [.int i] ∧ i.natAbs.log2 < 1920 ∧ Q (.str (toString i : String)) H) ∨ (∃ a, xs = [.str a] ∧ Q (.str a) H) ∨
  ∃ a p, xs = [.ref a] ∧ Dq K H (.ref a) p ∧ reprQk p = true ∧ Q (.str p.shown) H
theorem call_strX {X : Cx} (hg : X.A.guards = some []) (hu : X.A.units + 64 < cLine) : CallR X (.type "str") (rStr X.K) := by
  intro pins s σ H xs us Q I r h
  rcases h with h | h | h
  · exact call_str_int pins s σ H xs us Q I r h
  · exact SkE.call_str_str pins s σ H xs us Q I r h
  · obtain ⟨a, p, rfl, hd, ho, q⟩ := h
    obtain ⟨u, rfl, rx⟩ := vals1 r
    cases rx
    obtain ⟨as, rd, hs⟩ := Dq.reads I hd rfl
    unfold reprQk at ho
    simp only [Bool.and_eq_true, decide_eq_true_eq] at ho
    obtain ⟨h1, h2, h3, h4⟩ := ho
    exact str_of_reads rd h1 (fun z => hs (by rw [z] at h3; simpa using h3)) hg (by omega) (fun _ _ e => e) (fun hp v tk kk => ⟨.str p.shown, H, I.kept (t' := tk) kk, ⟨v, rfl⟩, q⟩) h4
section
variable {K : PySem.W.Frag} {mg : Str → Option Value} {fr : Bool}
theorem s_str : CallV K mg fr (rStr K) fStr := by
  intro T W σ vs ds H F ρ G Q hR rs h
  unfold fStr at h
  split at h
  · rename_i i
    obtain ⟨v, rfl, r⟩ := rs.one
    cases r
    split at h
    · rename_i hl
      refine .inl ⟨_, rfl, hl, ?_⟩
      have h' : Run K T mg W σ fr F ρ (Pure.pure (.str (toString i : String))) G Q := by simpa only [PyData.shown] using h
      exact h'.pure hR (.str _) fun _ => .of fun _ z => nomatch z
    · exact h.stuck.elim
  · obtain ⟨v, rfl, r⟩ := rs.one
    cases r
    exact .inr (.inl ⟨_, rfl, h.pure hR (.str _) fun _ => .of fun _ z => nomatch z⟩)
  · obtain ⟨v, rfl, r⟩ := rs.one
    split at h
    · rename_i p e
      split at h
      · rename_i ho
        have q := Dr.dq hR.sub r e
        cases r
        exact .inr (.inr ⟨_, p, rfl, q, ho, h.pure hR (.str _) fun _ => .of fun _ z => nomatch z⟩)
      · exact h.stuck.elim
    · exact h.stuck.elim
  · exact h.stuck.elim
end
/-! ### what they give -/
theorem wp_reprQ {d : D} {G : Gh} {Q : D → Gh → Prop} {p : PyData} (h : d.toQ = some p) (h2 : reprQk p = true) : wpM (fReprQ [d]) G Q ↔ Q (.str p.shown) G := by
  unfold fReprQ
  simp only [h, h2, if_true]
  exact wpM_pure
@[simp ↓] theorem wp_strI {i : Int} {G : Gh} {Q : D → Gh → Prop} : wpM (fStr [.int i]) G Q ↔ i.natAbs.log2 < 1920 ∧ Q (.str (PyData.int i).shown) G := by
  unfold fStr
  dsimp only
  by_cases h : i.natAbs.log2 < 1920
  · rw [if_pos h, wpM_pure]; exact ⟨fun q => ⟨h, q⟩, fun q => q.2⟩
  · rw [if_neg h, wpM_stuck]; exact ⟨False.elim, fun q => h q.1⟩
@[simp ↓] theorem wp_strS {x : Str} {G : Gh} {Q : D → Gh → Prop} : wpM (fStr [.str x]) G Q ↔ Q (.str x) G := wpM_pure
theorem wp_strT {xs : List D} {G : Gh} {Q : D → Gh → Prop} {p : PyData} (h : (D.tup xs).toQ = some p) (h2 : reprQk p = true) : wpM (fStr [.tup xs]) G Q ↔ Q (.str p.shown) G := by
  unfold fStr
  simp only [h, h2, if_true]
  exact wpM_pure
@[simp ↓] theorem wp_isi_gen {d : D} {a n : String} {b : Bool} (h : tyName d = some a) (h2 : isiT a n = some b) {G : Gh} {Q : D → Gh → Prop} : wpM (fIsi [d, .ty n]) G Q ↔ Q (.bl b) G := isi_eq h h2
@[simp] theorem conv_dct {k : Nat} {G : Gh} {kvs : List (Str × Int)} : D.conv k G (.dct kvs) = .dct kvs := by simp [D.conv]
@[simp] theorem conv_exn {k : Nat} {G : Gh} {a : Addr} {c : Str} : D.conv k G (.exn a c) = .exn a c := by simp [D.conv]
end L2.GL
end

section
set_option Elab.async false
set_option linter.all false
set_option maxRecDepth 100000
set_option autoImplicit false
/-! G30: data of any kind: numbers below 10 ^ 40, texts, truths, lists, tuples, dicts within one another; their texts. -/
namespace L2.GL
open PySem PySem.Spec PyProof.Rows

def kvOk (p : Str × Int) : Bool := PyData.strOk p.1 && decide (p.2.natAbs < 10 ^ 40)
mutual
/-- at most n deep, all numbers small, all texts good -/
def okD : Nat → D → Bool
  | _, .int i => decide (i.natAbs < 10 ^ 40)
  | _, .str x => PyData.strOk x
  | _, .non => true
  | _, .bl _ => true
  | n + 1, .tup xs => okA n xs
  | n + 1, .lst xs => okA n xs
  | _ + 1, .dct kvs => kvs.all kvOk
  | _, _ => false
def okA : Nat → List D → Bool
  | _, [] => true
  | n, d :: ds => okD n d && okA n ds
end
mutual
/-- how much it weighs, at most -/
def wz : D → Nat
  | .int _ => 135
  | .str x => x.length + 1
  | .tup xs => 1 + wzA xs
  | .lst xs => 1 + wzA xs
  | .dct kvs => 1 + (kvs.map fun p => p.1.length + 140).sum
  | .non => 1 | .bl _ => 1 | .cell _ => 1 | .ty _ => 1 | .exn _ _ => 1
def wzA : List D → Nat
  | [] => 0
  | d :: ds => wz d + wzA ds
end
mutual
/-- a dict within -/
def dcD : D → Bool
  | .tup xs => dcA xs
  | .lst xs => dcA xs
  | .dct _ => true
  | .int _ => false | .str _ => false | .non => false | .bl _ => false | .cell _ => false | .ty _ => false | .exn _ _ => false
def dcA : List D → Bool
  | [] => false
  | d :: ds => dcD d || dcA ds
end
mutual
/-- a list within -/
def lsD : D → Bool
  | .tup xs => lsA xs
  | .lst _ => true
  | .dct _ => false
  | .int _ => false | .str _ => false | .non => false | .bl _ => false | .cell _ => false | .ty _ => false | .exn _ _ => false
def lsA : List D → Bool
  | [] => false
  | d :: ds => lsD d || lsA ds
end
@[simp] theorem okA_nil {n : Nat} : okA n [] = true := by rw [okA]
@[simp] theorem okA_cons {n : Nat} {d : D} {ds : List D} : okA n (d :: ds) = (okD n d && okA n ds) := by rw [okA]
@[simp] theorem okD_int {n : Nat} {i : Int} : okD n (.int i) = decide (i.natAbs < 10 ^ 40) := by cases n <;> rw [okD]
@[simp] theorem okD_str {n : Nat} {x : Str} : okD n (.str x) = PyData.strOk x := by cases n <;> rw [okD]
@[simp] theorem okD_non {n : Nat} : okD n .non = true := by cases n <;> rw [okD]
@[simp] theorem okD_bl {n : Nat} {b : Bool} : okD n (.bl b) = true := by cases n <;> rw [okD]
@[simp] theorem okD_tup {n : Nat} {xs : List D} : okD (n + 1) (.tup xs) = okA n xs := by rw [okD]
@[simp] theorem okD_lst {n : Nat} {xs : List D} : okD (n + 1) (.lst xs) = okA n xs := by rw [okD]
@[simp] theorem okD_dct {n : Nat} {kvs : List (Str × Int)} : okD (n + 1) (.dct kvs) = kvs.all kvOk := by rw [okD]
theorem okA_append {n : Nat} : ∀ {xs ys : List D}, okA n (xs ++ ys) = (okA n xs && okA n ys)
  | [], ys => by simp
  | x :: xs, ys => by rw [List.cons_append, okA_cons, okA_cons, okA_append, Bool.and_assoc]
theorem okA_mem {n : Nat} : ∀ {xs : List D}, okA n xs = true → ∀ x ∈ xs, okD n x = true
  | x :: xs, h, y, hy => by
    simp only [okA_cons, Bool.and_eq_true] at h
    rcases List.mem_cons.mp hy with rfl | hy
    · exact h.1
    · exact okA_mem h.2 y hy
theorem okA_of {n : Nat} : ∀ {xs : List D}, (∀ x ∈ xs, okD n x = true) → okA n xs = true
  | [], _ => by simp
  | x :: xs, h => by simp [h x (by simp), okA_of fun y hy => h y (List.mem_cons_of_mem _ hy)]
@[simp] theorem wzA_nil : wzA [] = 0 := by rw [wzA]
@[simp] theorem wzA_cons {d : D} {ds : List D} : wzA (d :: ds) = wz d + wzA ds := by rw [wzA]
theorem wzA_append : ∀ {xs ys : List D}, wzA (xs ++ ys) = wzA xs + wzA ys
  | [], ys => by simp
  | x :: xs, ys => by rw [List.cons_append, wzA_cons, wzA_cons, wzA_append, Nat.add_assoc]
@[simp] theorem wz_int {i : Int} : wz (.int i) = 135 := by rw [wz]
@[simp] theorem wz_str {x : Str} : wz (.str x) = x.length + 1 := by rw [wz]
@[simp] theorem wz_non : wz .non = 1 := by rw [wz]
@[simp] theorem wz_bl {b : Bool} : wz (.bl b) = 1 := by rw [wz]
@[simp] theorem wz_tup {xs : List D} : wz (.tup xs) = 1 + wzA xs := by rw [wz]
@[simp] theorem wz_lst {xs : List D} : wz (.lst xs) = 1 + wzA xs := by rw [wz]
@[simp] theorem wz_dct {kvs : List (Str × Int)} : wz (.dct kvs) = 1 + (kvs.map fun p => p.1.length + 140).sum := by rw [wz]
@[simp] theorem dcA_nil : dcA [] = false := by rw [dcA]
@[simp] theorem dcA_cons {d : D} {ds : List D} : dcA (d :: ds) = (dcD d || dcA ds) := by rw [dcA]
theorem dcA_append : ∀ {xs ys : List D}, dcA (xs ++ ys) = (dcA xs || dcA ys)
  | [], ys => by simp
  | x :: xs, ys => by rw [List.cons_append, dcA_cons, dcA_cons, dcA_append, Bool.or_assoc]
@[simp] theorem dc_int {i : Int} : dcD (.int i) = false := by rw [dcD]
@[simp] theorem dc_str {x : Str} : dcD (.str x) = false := by rw [dcD]
@[simp] theorem dc_non : dcD .non = false := by rw [dcD]
@[simp] theorem dc_bl {b : Bool} : dcD (.bl b) = false := by rw [dcD]
@[simp] theorem dc_tup {xs : List D} : dcD (.tup xs) = dcA xs := by rw [dcD]
@[simp] theorem dc_lst {xs : List D} : dcD (.lst xs) = dcA xs := by rw [dcD]
@[simp] theorem dc_dct {kvs : List (Str × Int)} : dcD (.dct kvs) = true := by rw [dcD]
@[simp] theorem lsA_nil : lsA [] = false := by rw [lsA]
@[simp] theorem lsA_cons {d : D} {ds : List D} : lsA (d :: ds) = (lsD d || lsA ds) := by rw [lsA]
theorem lsA_append : ∀ {xs ys : List D}, lsA (xs ++ ys) = (lsA xs || lsA ys)
  | [], ys => by simp
  | x :: xs, ys => by rw [List.cons_append, lsA_cons, lsA_cons, lsA_append, Bool.or_assoc]
@[simp] theorem ls_int {i : Int} : lsD (.int i) = false := by rw [lsD]
@[simp] theorem ls_str {x : Str} : lsD (.str x) = false := by rw [lsD]
@[simp] theorem ls_non : lsD .non = false := by rw [lsD]
@[simp] theorem ls_bl {b : Bool} : lsD (.bl b) = false := by rw [lsD]
@[simp] theorem ls_tup {xs : List D} : lsD (.tup xs) = lsA xs := by rw [lsD]
@[simp] theorem ls_lst {xs : List D} : lsD (.lst xs) = true := by rw [lsD]
@[simp] theorem ls_dct {kvs : List (Str × Int)} : lsD (.dct kvs) = false := by rw [lsD]

/-- what is known of the model's data of such a thing -/
structure QOk (n : Nat) (p : PyData) (w : Nat) (dc ls : Bool) : Prop where
  sh : p.showable = true
  dp : p.depth ≤ n
  wt : p.weight + 1 ≤ w
  lv : p.leavesShort 41 = true
  hd : dc = false → p.hasDict = false
  nl : ls = false → noL p = true
structure QAk (n : Nat) (ps : List PyData) (w : Nat) (dc ls : Bool) : Prop where
  sh : PyData.showableAll ps = true
  dp : PyData.depthAll ps ≤ n
  wt : PyData.weightAll ps ≤ w
  lv : PyData.leavesShortAll 41 ps = true
  hd : dc = false → PyData.hasDictAll ps = false
  nl : ls = false → noLA ps = true
theorem int10 {i : Int} (h : i.natAbs < 10 ^ 40) : i.natAbs.log2 < 134 ∧ ((PyData.int i).shown).length ≤ 41 := by
  have l : i.natAbs.log2 < 134 := by
    rcases Nat.eq_zero_or_pos i.natAbs with e | e
    · rw [e]; decide
    · exact (Nat.log2_lt (by omega)).mpr (Nat.lt_of_lt_of_le h (by decide))
  refine ⟨l, ?_⟩
  have e := int_text_length_le10 (k := 40) (by decide) h
  simp only [PyData.shown]
  rw [PySem.ofString_length]
  exact e
theorem str_lv {x : Str} (h : PyData.strOk x = true) : (PyData.str x).leavesShort 41 = true := by
  unfold PyData.strOk at h
  simp only [PyData.leavesShort]
  rw [List.all_eq_true]
  intro c hc
  have z := Array.all_eq_true.mp h
  obtain ⟨i, hi, e⟩ := List.getElem_of_mem hc
  have z2 := z i (by simpa using hi)
  simp only [decide_eq_true_eq] at z2 ⊢
  have e2 : x.cps[i]'(by simpa using hi) = c := by simpa using e
  rw [e2] at z2
  omega
theorem kv_ok : ∀ {kvs : List (Str × Int)}, kvs.all kvOk = true → PyData.showableKv (kvP kvs) = true ∧ PyData.depthKv (kvP kvs) ≤ 0 ∧ PyData.weightKv (kvP kvs) ≤ (kvs.map fun p => p.1.length + 140).sum ∧ PyData.leavesShortKv 41 (kvP kvs) = true
  | [], _ => by simp [kvP, PyData.showableKv, PyData.depthKv, PyData.weightKv, PyData.leavesShortKv]
  | kv :: kvs, h => by
    simp only [List.all_cons, Bool.and_eq_true] at h
    obtain ⟨h0, h⟩ := h
    unfold kvOk at h0
    simp only [Bool.and_eq_true, decide_eq_true_eq] at h0
    obtain ⟨a1, a2⟩ := h0
    obtain ⟨i1, i2⟩ := int10 a2
    obtain ⟨q1, q2, q3, q4⟩ := kv_ok h
    have lv := str_lv a1
    have e : kvP (kv :: kvs) = (.str kv.1, .int kv.2) :: kvP kvs := rfl
    rw [e]
    refine ⟨?_, ?_, ?_, ?_⟩
    · simp only [PyData.showableKv, PyData.showable, q1, Bool.and_true, Bool.true_and, decide_eq_true_eq]; omega
    · simp only [PyData.depthKv, PyData.depth]; omega
    · simp only [PyData.weightKv, PyData.weight, List.map_cons, List.sum_cons]
      have : kv.1.cps.size = kv.1.length := rfl
      split <;> omega
    · simp only [PyData.leavesShortKv, lv, q4, Bool.and_true, Bool.true_and]
      simp only [PyData.leavesShort, decide_eq_true_eq]
      exact i2
mutual
theorem ok_toQ : ∀ (n : Nat) (d : D), okD n d = true → ∃ p, d.toQ = some p ∧ QOk n p (wz d) (dcD d) (lsD d)
  | n, .int i, h => by
    simp only [okD_int, decide_eq_true_eq] at h
    obtain ⟨i1, i2⟩ := int10 h
    refine ⟨.int i, by rw [D.toQ], ⟨by simp only [PyData.showable, decide_eq_true_eq]; omega, by simp [PyData.depth], ?_, by simp only [PyData.leavesShort, decide_eq_true_eq]; exact i2, fun _ => by simp [PyData.hasDict], fun _ => by simp [noL]⟩⟩
    simp only [PyData.weight, wz_int]
    split <;> omega
  | n, .str x, h => by
    refine ⟨.str x, by rw [D.toQ], ⟨by simp [PyData.showable], by simp [PyData.depth], ?_, str_lv (by simpa using h), fun _ => by simp [PyData.hasDict], fun _ => by simp [noL]⟩⟩
    simp only [PyData.weight, wz_str]
    have : x.cps.size = x.length := rfl
    omega
  | n, .non, _ => ⟨.none, by rw [D.toQ], ⟨by simp [PyData.showable], by simp [PyData.depth], by simp [PyData.weight], by simp [PyData.leavesShort], fun _ => by simp [PyData.hasDict], fun _ => by simp [noL]⟩⟩
  | n, .bl b, _ => ⟨.bool b, by rw [D.toQ], ⟨by simp [PyData.showable], by simp [PyData.depth], by simp [PyData.weight], by simp [PyData.leavesShort], fun _ => by simp [PyData.hasDict], fun _ => by simp [noL]⟩⟩
  | n + 1, .tup xs, h => by
    obtain ⟨ps, e, q⟩ := ok_toQA n xs (by simpa using h)
    refine ⟨.tuple ps, by rw [D.toQ, e], ⟨by simpa [PyData.showable] using q.sh, by have := q.dp; simp only [PyData.depth]; omega, ?_, by simpa [PyData.leavesShort] using q.lv, fun z => by simpa [PyData.hasDict] using q.hd (by simpa using z), fun z => by simpa [noL] using q.nl (by simpa using z)⟩⟩
    have := q.wt
    simp only [PyData.weight, wz_tup]
    omega
  | n + 1, .lst xs, h => by
    obtain ⟨ps, e, q⟩ := ok_toQA n xs (by simpa using h)
    refine ⟨.list ps, by rw [D.toQ, e], ⟨by simpa [PyData.showable] using q.sh, by have := q.dp; simp only [PyData.depth]; omega, ?_, by simpa [PyData.leavesShort] using q.lv, fun z => by simpa [PyData.hasDict] using q.hd (by simpa using z), fun z => by simp at z⟩⟩
    have := q.wt
    simp only [PyData.weight, wz_lst]
    omega
  | n + 1, .dct kvs, h => by
    obtain ⟨q1, q2, q3, q4⟩ := kv_ok (kvs := kvs) (by simpa using h)
    refine ⟨.dict (kvP kvs), by rw [D.toQ], ⟨by simpa [PyData.showable] using q1, by simp only [PyData.depth]; omega, ?_, by simpa [PyData.leavesShort] using q4, fun z => by simp at z, fun _ => by simp [noL]⟩⟩
    simp only [PyData.weight, wz_dct]
    omega
  | 0, .tup _, h => by simp [okD] at h
  | 0, .lst _, h => by simp [okD] at h
  | 0, .dct _, h => by simp [okD] at h
  | n, .cell _, h => by cases n <;> simp [okD] at h
  | n, .ty _, h => by cases n <;> simp [okD] at h
  | n, .exn _ _, h => by cases n <;> simp [okD] at h
theorem ok_toQA : ∀ (n : Nat) (ds : List D), okA n ds = true → ∃ ps, D.toQA ds = some ps ∧ QAk n ps (wzA ds) (dcA ds) (lsA ds)
  | n, [], _ => ⟨[], by rw [D.toQA], ⟨by simp [PyData.showableAll], by simp [PyData.depthAll], by simp [PyData.weightAll], by simp [PyData.leavesShortAll], fun _ => by simp [PyData.hasDictAll], fun _ => by simp [noLA]⟩⟩
  | n, d :: ds, h => by
    simp only [okA_cons, Bool.and_eq_true] at h
    obtain ⟨p, e1, q1⟩ := ok_toQ n d h.1
    obtain ⟨ps, e2, q2⟩ := ok_toQA n ds h.2
    refine ⟨p :: ps, by rw [D.toQA, e1, e2], ⟨by simp only [PyData.showableAll, q1.sh, q2.sh, Bool.and_self], ?_, ?_, by simp only [PyData.leavesShortAll, q1.lv, q2.lv, Bool.and_self], fun z => ?_, fun z => ?_⟩⟩
    · have := q1.dp
      have := q2.dp
      simp only [PyData.depthAll]
      omega
    · have := q1.wt
      have := q2.wt
      simp only [PyData.weightAll, wzA_cons]
      omega
    · simp only [dcA_cons, Bool.or_eq_false_iff] at z
      simp only [PyData.hasDictAll, q1.hd z.1, q2.hd z.2, Bool.or_self]
    · simp only [lsA_cons, Bool.or_eq_false_iff] at z
      simp only [noLA, q1.nl z.1, q2.nl z.2, Bool.and_self]
end
/-- a thing whose text can be told -/
def Thg (d : D) : Prop := okD 50 d = true ∧ wz d ≤ 300000 ∧ (dcD d = false ∨ lsD d = false)
theorem Thg.q {d : D} (h : Thg d) : ∃ p, d.toQ = some p ∧ reprQk p = true := by
  obtain ⟨h1, h2, h3⟩ := h
  obtain ⟨p, e, q⟩ := ok_toQ 50 d h1
  refine ⟨p, e, ?_⟩
  have l := PyData.shown_le 41 (by decide) p q.lv
  have w := q.wt
  have dp := q.dp
  unfold reprQk
  simp only [q.sh, Bool.true_and, Bool.and_eq_true, decide_eq_true_eq]
  refine ⟨by omega, ?_, by rw [szl]; omega⟩
  rcases h3 with h3 | h3
  · simp [q.hd h3]
  · simp [q.nl h3]
noncomputable def txQ (d : D) : Str := match d.toQ with
  | some p => p.shown
  | none => ""
theorem Thg.repr {d : D} (h : Thg d) {G : Gh} {Q : D → Gh → Prop} : wpM (fReprQ [d]) G Q ↔ Q (.str (txQ d)) G := by
  obtain ⟨p, e, ok⟩ := h.q
  rw [wp_reprQ e ok]
  unfold txQ
  rw [e]
mutual
theorem ok_pure : ∀ (n : Nat) (d : D), okD n d = true → d.pure = true
  | n, .int i, _ => by simp [D.pure]
  | n, .str _, _ => by simp [D.pure]
  | n, .non, _ => by simp [D.pure]
  | n, .bl _, _ => by simp [D.pure]
  | n + 1, .tup xs, h => by simp only [D.pure]; exact ok_pureA n xs (by simpa using h)
  | n + 1, .lst xs, h => by simp only [D.pure]; exact ok_pureA n xs (by simpa using h)
  | n + 1, .dct _, _ => by simp [D.pure]
  | 0, .tup _, h => by simp [okD] at h
  | 0, .lst _, h => by simp [okD] at h
  | 0, .dct _, h => by simp [okD] at h
  | n, .cell _, h => by cases n <;> simp [okD] at h
  | n, .ty _, h => by cases n <;> simp [okD] at h
  | n, .exn _ _, h => by cases n <;> simp [okD] at h
theorem ok_pureA : ∀ (n : Nat) (ds : List D), okA n ds = true → D.pureA ds = true
  | n, [], _ => by simp [D.pureA]
  | n, d :: ds, h => by
    simp only [okA_cons, Bool.and_eq_true] at h
    simp only [D.pureA, ok_pure n d h.1, ok_pureA n ds h.2, Bool.and_self]
end
mutual
theorem pure_conv {k : Nat} {G : Gh} : ∀ {d : D}, d.pure = true → D.conv k G d = d
  | .int _, _ => by simp [D.conv]
  | .str _, _ => by simp [D.conv]
  | .non, _ => by simp [D.conv]
  | .bl _, _ => by simp [D.conv]
  | .ty _, _ => by simp [D.conv]
  | .dct _, _ => by simp [D.conv]
  | .exn _ _, _ => by simp [D.conv]
  | .cell _, h => by simp [D.pure] at h
  | .tup xs, h => by simp only [D.conv]; rw [pure_convA (by simpa [D.pure] using h)]
  | .lst xs, h => by simp only [D.conv]; rw [pure_convA (by simpa [D.pure] using h)]
theorem pure_convA {k : Nat} {G : Gh} : ∀ {ds : List D}, D.pureA ds = true → D.convA k G ds = ds
  | [], _ => by simp [D.convA]
  | d :: ds, h => by
    simp only [D.pureA, Bool.and_eq_true] at h
    simp only [D.convA]
    rw [pure_conv h.1, pure_convA h.2]
end
/-- is it a whole number, a truth, a tuple, a list, a text -/
def isInt : D → Bool
  | .int _ => true
  | _ => false
def isBl : D → Bool
  | .bl _ => true
  | _ => false
def isTup : D → Bool
  | .tup _ => true
  | _ => false
def isLst : D → Bool
  | .lst _ => true
  | _ => false
def isStr : D → Bool
  | .str _ => true
  | _ => false
theorem ok_ty {n : Nat} {d : D} (h : okD n d = true) : ∃ t, tyName d = some t ∧ isiT t "int" = some (isInt d || isBl d) ∧ isiT t "bool" = some (isBl d) ∧ isiT t "tuple" = some (isTup d) ∧ isiT t "list" = some (isLst d) ∧ isiT t "str" = some (isStr d) := by
  cases d with
  | cell _ => cases n <;> simp [okD] at h
  | ty _ => cases n <;> simp [okD] at h
  | exn _ _ => cases n <;> simp [okD] at h
  | _ => refine ⟨_, rfl, ?_, ?_, ?_, ?_, ?_⟩ <;> (simp only [isInt, isBl, isTup, isLst, isStr]; decide +kernel)
section
variable {n : Nat} {d : D} {G : Gh} {Q : D → Gh → Prop}
theorem isi_int (h : okD n d = true) : wpM (fIsi [d, .ty "int"]) G Q ↔ Q (.bl (isInt d || isBl d)) G := by
  obtain ⟨t, h0, h1, h2, h3, h4, h5⟩ := ok_ty h
  exact isi_eq h0 h1
theorem isi_bool (h : okD n d = true) : wpM (fIsi [d, .ty "bool"]) G Q ↔ Q (.bl (isBl d)) G := by
  obtain ⟨t, h0, h1, h2, h3, h4, h5⟩ := ok_ty h
  exact isi_eq h0 h2
theorem isi_tuple (h : okD n d = true) : wpM (fIsi [d, .ty "tuple"]) G Q ↔ Q (.bl (isTup d)) G := by
  obtain ⟨t, h0, h1, h2, h3, h4, h5⟩ := ok_ty h
  exact isi_eq h0 h3
theorem isi_list (h : okD n d = true) : wpM (fIsi [d, .ty "list"]) G Q ↔ Q (.bl (isLst d)) G := by
  obtain ⟨t, h0, h1, h2, h3, h4, h5⟩ := ok_ty h
  exact isi_eq h0 h4
theorem isi_str (h : okD n d = true) : wpM (fIsi [d, .ty "str"]) G Q ↔ Q (.bl (isStr d)) G := by
  obtain ⟨t, h0, h1, h2, h3, h4, h5⟩ := ok_ty h
  exact isi_eq h0 h5
end
theorem sub_ok {n : Nat} {xs ys : List D} (h : ys.Sublist xs) (k : okA n xs = true) : okA n ys = true := okA_of fun y hy => okA_mem k y (h.subset hy)
theorem sub_wz {xs ys : List D} (h : ys.Sublist xs) : wzA ys ≤ wzA xs := by
  induction h with
  | slnil => exact Nat.le_refl _
  | cons a _ ih => rw [wzA_cons]; omega
  | cons_cons a _ ih => rw [wzA_cons, wzA_cons]; omega
theorem dcA_iff : ∀ {xs : List D}, dcA xs = false ↔ ∀ x ∈ xs, dcD x = false
  | [] => by simp
  | x :: xs => by simp [dcA_iff (xs := xs)]
theorem lsA_iff : ∀ {xs : List D}, lsA xs = false ↔ ∀ x ∈ xs, lsD x = false
  | [] => by simp
  | x :: xs => by simp [lsA_iff (xs := xs)]
theorem sub_dc {xs ys : List D} (h : ys.Sublist xs) (k : dcA xs = false) : dcA ys = false := dcA_iff.mpr fun y hy => dcA_iff.mp k y (h.subset hy)
theorem sub_ls {xs ys : List D} (h : ys.Sublist xs) (k : lsA xs = false) : lsA ys = false := lsA_iff.mpr fun y hy => lsA_iff.mp k y (h.subset hy)
theorem cut_sub {xs : List D} {lo hi : Option Int} : (cutD xs lo hi).Sublist xs := (List.take_sublist _ _).trans (List.drop_sublist _ _)
theorem okD_mono : ∀ {n m : Nat} {d : D}, n ≤ m → okD n d = true → okD m d = true
  | n, m, .int i, _, h => by simpa using h
  | n, m, .str x, _, h => by simpa using h
  | n, m, .non, _, _ => by simp
  | n, m, .bl _, _, _ => by simp
  | n + 1, m + 1, .tup xs, hm, h => by
    simp only [okD_tup] at h ⊢
    exact okA_of fun x hx => okD_mono (by omega) (okA_mem h x hx)
  | n + 1, m + 1, .lst xs, hm, h => by
    simp only [okD_lst] at h ⊢
    exact okA_of fun x hx => okD_mono (by omega) (okA_mem h x hx)
  | n + 1, m + 1, .dct _, _, h => by simpa using h
  | n + 1, 0, .tup _, hm, _ => absurd hm (by omega)
  | n + 1, 0, .lst _, hm, _ => absurd hm (by omega)
  | n + 1, 0, .dct _, hm, _ => absurd hm (by omega)
  | 0, _, .tup _, _, h => by simp [okD] at h
  | 0, _, .lst _, _, h => by simp [okD] at h
  | 0, _, .dct _, _, h => by simp [okD] at h
  | n, _, .cell _, _, h => by cases n <;> simp [okD] at h
  | n, _, .ty _, _, h => by cases n <;> simp [okD] at h
  | n, _, .exn _ _, _, h => by cases n <;> simp [okD] at h
termination_by _ _ d => sizeOf d
decreasing_by all_goals (simp_wf; have := List.sizeOf_lt_of_mem hx; omega)
theorem okA_mono {n m : Nat} {xs : List D} (hm : n ≤ m) (h : okA n xs = true) : okA m xs = true := okA_of fun x hx => okD_mono hm (okA_mem h x hx)
theorem so_lit (s : String) : PyData.strOk (s : Str) = true := by
  unfold PyData.strOk
  rw [Str.ofString_eq_toList]
  simp only [List.all_toArray, List.all_eq_true, List.mem_map, decide_eq_true_eq]
  rintro x ⟨c, _, rfl⟩
  have h := c.valid
  simp only [UInt32.isValidChar, Nat.isValidChar] at h
  show c.val.toNat < 0x110000
  omega
theorem so_app {x y : Str} (h : PyData.strOk x = true) (k : PyData.strOk y = true) : PyData.strOk (x ++ y) = true := by
  unfold PyData.strOk at *
  show (x.cps ++ y.cps).all _ = true
  rw [Array.all_append, h, k]; rfl
theorem so_join {sep : Str} (hs : PyData.strOk sep = true) : ∀ ts : List Str, (∀ t ∈ ts, PyData.strOk t = true) → PyData.strOk (Str.join sep ts) = true
  | [], _ => so_lit ""
  | [x], h => h x (by simp)
  | x :: y :: r, h => so_app (so_app (h x (by simp)) hs) (so_join hs (y :: r) fun t ht => h t (List.mem_cons_of_mem _ ht))
theorem so_tup {ts : List Str} (h : ∀ t ∈ ts, PyData.strOk t = true) : PyData.strOk (tupleText ts) = true := by
  unfold tupleText
  refine so_app (so_app (so_lit _) (so_join (so_lit _) ts h)) ?_
  split <;> exact so_lit _
theorem so_int {i : Int} : PyData.strOk (PyData.int i).shown = true := by
  simp only [PyData.shown]
  exact so_lit _
theorem so_ints {ns : List Int} : PyData.strOk (PyData.tuple (ns.map PyData.int)).shown = true := by
  simp only [PyData.shown]
  refine so_tup fun t ht => ?_
  have key : ∀ ns : List Int, ∀ t ∈ PyData.shownAll (ns.map PyData.int), PyData.strOk t = true := by
    intro ns
    induction ns with
    | nil => intro t ht; simp [PyData.shownAll] at ht
    | cons n ns ih =>
      intro t ht
      simp only [List.map_cons, PyData.shownAll, List.mem_cons] at ht
      rcases ht with rfl | ht
      · exact so_int
      · exact ih t ht
  exact key ns t ht
/-- all(..), by a function, both ways -/
theorem wpA_iff {ft : MT} {tt : EnvD → M Bool} {te : EnvD → M D} {env : EnvD} {G : Gh} {QB : Bool → Gh → Prop} (f : D → Bool) {ds : List D}
    (step : ∀ d ∈ ds, wpT ft d env G fun e G1 => wpM (tt e) G1 fun b G2 => b = true ∧ wpM (te e) G2 fun y G3 => y = .bl (f d) ∧ G3 = G) : wpA false ft tt te env ds G QB ↔ QB (ds.all f) G := by
  refine ⟨fun q => ?_, fun q => wpA_map f q step⟩
  obtain ⟨r, G', e1, q1⟩ := q
  obtain ⟨r2, G2, e2, q2⟩ := wpA_map (QB := fun b G' => b = ds.all f ∧ G' = G) f ⟨rfl, rfl⟩ step
  rw [e1] at e2
  cases e2
  obtain ⟨rfl, rfl⟩ := q2
  exact q1
theorem wpC_iff {ft : MT} {tt : EnvD → M Bool} {te : EnvD → M D} {env : EnvD} {G : Gh} {QL : List D → Gh → Prop} (f : D → Option D) {ds : List D} (hl : ds.length ≤ sizeLine)
    (step : ∀ d ∈ ds, wpT ft d env G fun e G1 => wpM (tt e) G1 fun b G2 => if b = true then wpM (te e) G2 fun y G3 => f d = some y ∧ G3 = G else f d = none ∧ G2 = G) : wpC ft tt te env ds [] G QL ↔ QL (ds.filterMap f) G := by
  refine ⟨fun q => ?_, fun q => wpC_map f (by simpa using hl) (by simpa using q) step⟩
  obtain ⟨r, G', e1, q1⟩ := q
  obtain ⟨r2, G2, e2, q2⟩ := wpC_map (QL := fun b G' => b = ds.filterMap f ∧ G' = G) (acc := []) f (by simpa using hl) ⟨by simp, rfl⟩ step
  rw [e1] at e2
  cases e2
  obtain ⟨rfl, rfl⟩ := q2
  exact q1
theorem at_mem {xs : List D} {i : Int} (h : 0 ≤ i) (h2 : i < xs.length) : ∃ x ∈ xs, atI xs i = some x := by
  obtain ⟨k, rfl⟩ : ∃ k : Nat, i = k := ⟨i.toNat, by omega⟩
  have hk : k < xs.length := by omega
  exact ⟨xs[k], List.getElem_mem hk, atI_nat (List.getElem?_eq_getElem hk)⟩
theorem lift_any {xs : List D} {i : Int} {G : Gh} {Q : D → Gh → Prop} (h : 0 ≤ i) (h2 : i < xs.length) (q : ∀ x ∈ xs, Q x G) : wpM (liftO (atI xs i)) G Q := by
  obtain ⟨x, hx, e⟩ := at_mem h h2
  rw [e]
  exact wpM_pure.mpr (q x hx)
/-- for, over a cell that the body leaves as it is -/
theorem wpFC_inv {n : Nat} {ds0 ds : List D} {ft : MT} {body : MS} {k : K4} {env : EnvD} {G : Gh} (I : EnvD → Gh → Prop) (h0 : I env G) (hc : ∀ env G, I env G → G[n]? = some ds0)
    (step : ∀ d ∈ ds, ∀ env G, I env G → wpT ft d env G fun e G1 => wpS body e G1 { nx := I, ct := I, bk := k.nx, rt := k.rt }) (hend : ∀ env G, I env G → k.nx env G) : wpFC n ds0 ft body ds env G k := by
  induction ds generalizing env G with
  | nil =>
    rw [wpFC_nil (hc _ _ h0)]
    exact hend env G h0
  | cons d ds ih =>
    rw [wpFC_cons (hc _ _ h0)]
    obtain ⟨e1, G1, q, o, G2, q2, h⟩ := step d List.mem_cons_self env G h0
    refine ⟨e1, G1, q, o, G2, q2, ?_⟩
    have nxt : ∀ e2, I e2 G2 → wpFC n ds0 ft body ds e2 G2 k := fun e2 hi => ih hi fun d hd => step d (List.mem_cons_of_mem _ hd)
    cases o with
    | nx e2 => exact nxt e2 h
    | ct e2 => exact nxt e2 h
    | ret d f => exact h
    | bk e2 => exact h
    | ex _ _ => exact h
theorem wpS_forCg {i n : Nat} {ft : MT} {body : MS} {k : K4} {env : EnvD} {G : Gh} {ds : List D} (h : env[i]? = some (some (.cell n))) (hg : G[n]? = some ds) : wpS (forCS (getV i) ft body) env G k ↔ wpFC n ds ft body ds env G k := by
  rw [wpS_forC]
  have e : getV i env = pure (.cell n) := by unfold getV; rw [h]
  rw [e, wpM_pure]
  exact ⟨fun ⟨ds', h1, h2⟩ => by rw [hg] at h1; cases h1; exact h2, fun h => ⟨ds, hg, h⟩⟩
/-- an odd thing -/
def Odd (x : D) : Prop := okD 3 x = true ∧ wz x ≤ 1000 ∧ (dcD x = false ∨ lsD x = false)
end L2.GL
end

section
set_option Elab.async false
set_option linter.all false
set_option maxRecDepth 100000
set_option autoImplicit false
/-! G31: t[::-1] of a tuple. -/
namespace L2.GL
open PySem PySem.Spec PyProof.Rows PySem.SeqAt PySem.AutoSeq1 PySem.MeetsSeq PySem.MeetsSeq2 PySem.MeetsSeq3

section
variable {prog : Program} {w : World} {A : Around} {E : Value → Shared → Prop} {s : Shared}
theorem places_back (n : Nat) : Builtin.Slice.slicePlaces ((n : Int) - 1) (-1) (-1) = n := by
  simp only [Builtin.Slice.slicePlaces]
  rw [if_neg (show ¬ ((-1 : Int) > 0) by decide)]
  by_cases h : (n : Int) - 1 > -1
  · rw [if_pos h, show (- -1 : Int) = 1 from rfl, Int.ediv_one]; omega
  · rw [if_neg h]; omega
theorem fm_cong {α β : Type} {f g : α → Option β} : ∀ {l : List α}, (∀ x ∈ l, f x = g x) → l.filterMap f = l.filterMap g
  | [], _ => rfl
  | x :: l, h => by rw [List.filterMap_cons, List.filterMap_cons, h x (by simp), fm_cong fun y hy => h y (List.mem_cons_of_mem _ hy)]
theorem back_pick (xs : Array Value) : (List.range xs.size).filterMap (fun (k : Nat) => xs[(((xs.size : Int) - 1) + (k : Int) * (-1)).toNat]?) = xs.toList.reverse := by
  have e : (List.range xs.size).filterMap (fun (k : Nat) => xs[(((xs.size : Int) - 1) + (k : Int) * (-1)).toNat]?) = ((List.range xs.size).map fun k => xs.size - 1 - k).filterMap (xs[·]?) := by
    rw [List.filterMap_map]
    refine fm_cong fun k hk => ?_
    have hk := List.mem_range.mp hk
    show xs[_]? = xs[xs.size - 1 - k]?
    congr 1
    omega
  rw [e, PySem.W.krv_range, List.filterMap_reverse, PySem.W.krv_all]
theorem tupBack {t sl : Addr} {items : Array Value} {vs : Value} {Q : Value → Shared → Prop} (ht : IsTup s.heap t items) (hs : s.heap.IsSliceOf sl .none .none vs) (ps : IsPart vs (some (-1)))
    (h : Q (.ref s.heap.objs.size) { s with heap := s.heap.push { cls := .type "tuple", data := .seq items.toList.reverse.toArray } }) (hz : items.size ≤ sizeLine) : wpAny (model prog w) A (getItem (.ref t) (.ref sl)) Q E s := by
  have room : sizeOk (.seq items.toList.reverse.toArray) := by
    show items.toList.reverse.toArray.size ≤ sizeLine
    simpa using hz
  obtain ⟨os, ho, hc, hd⟩ := id hs
  have tS : s.TypeIs (.ref sl) "slice" := ⟨os, ho, hc⟩
  simp only [getItem]
  first | refine wpAny_holding ?_ | skip
  first | refine wpAny_bind (wpAny_pure ?_) | skip
  refine wpAny_bind (wpAny_sequenceKey ht.typeIs (by decide) (wpAny_bind (wpAny_callSpecial?_slot (name := Str.ofString "__getitem__") ht.typeIs slot_tuple_getitem (wpAny_call_entry slot_tuple_getitem ht.typeIs entry_tuple_getitem ?_ (args_tuple_getitem _ _)))))
  show wpAny _ _ (Builtin.Tuple.tupleItemsOf (.ref t) >>= _) _ _ _
  refine wpAny_bind (tupleItemsOf_ ht (wpAny_bind (wpAny_typeOf tS ?_)))
  rw [if_pos (show (Value.type "slice" == Value.type "slice") = true by decide)]
  refine wpAny_bind ?_
  · simp only [Builtin.Slice.sliceApplied, Builtin.Slice.sliceFields]
    refine wpAny_bind (wpAny_bind (wpAny_field ho hd (x := Value.none) rfl (wpAny_bind (wpAny_field ho hd (x := Value.none) rfl (wpAny_bind (wpAny_field ho hd (x := vs) rfl (wpAny_pure ?_)))))))
    refine wpAny_bind (HT.slicePart_ ps ?_)
    show wpAny _ _ (if ((-1 : Int) == 0) = true then _ else _) _ _ _
    rw [if_neg (show ¬ ((-1 : Int) == 0) = true by decide)]
    refine wpAny_bind (HT.slicePart_ .none (wpAny_bind (HT.slicePart_ .none (wpAny_bind (wpAny_pure ?_)))))
    show wpAny _ _ (pure (((items.size : Int) - 1), (-1 : Int), Builtin.Slice.slicePlaces ((items.size : Int) - 1) (-1) (-1))) _ _ _
    rw [places_back]
    refine wpAny_pure ?_
    show wpAny _ _ (if (((items.size : Int) - 1) == 0 && (-1 : Int) == 1 && items.size == items.size) = true then _ else _) _ _ _
    rw [if_neg (show ¬ (((items.size : Int) - 1) == 0 && (-1 : Int) == 1 && items.size == items.size) = true by simp), back_pick]
    exact wpAny_bind (m := Builtin.Tuple.tupleExact _) (wpAny_newObj_type (wpAny_pure ⟨_, rfl, wpAny_pure h⟩) room)
end
def rRevX (K : PySem.W.Frag) : V → Hp → VK → Prop := fun x H Q => (∃ a xs, x = .ref a ∧ SqL K H a xs ∧ ∀ p, H p = none → Q (.ref p) (upd H p (.lst xs.reverse))) ∨ ∃ a xs, x = .ref a ∧ SqT K H a xs ∧ ∀ p, H p = none → Q (.ref p) (upd H p (.tup xs.reverse))
theorem pe_revX {X : Cx} {e : Expr} {te : TE} {k : Nat} {p1 p2 p3 pos : Pos} (he : PE X e te) : PE X (.Subscript e (.Slice none none (some (.UnaryOp .USub (.Constant (.int 1) k p1) p2)) p3) pos) (fun σ H Q => te σ H fun x H1 => rRevX X.K x H1 Q) := by
  constructor
  intro pins s σ H Q I h
  refine Subscript_ (thn (he.run pins s σ H _ I h) fun v s1 ⟨x, H1, I1, r1, q1⟩ => ?_)
  have step : PO X (some (.UnaryOp .USub (.Constant (.int 1) k p1) p2)) (L2.tPart (L2.tUn (L2.rU fun i => .int (-i)) (L2.tC (.int 1)))) := po_some (pe_un un_neg pe_int)
  refine wpAny_Slice (thn (po_none.run pins s1 σ H1 (fun o H2 => o = none ∧ H2 = H1) I1 ⟨rfl, rfl⟩) fun w1 s2 ⟨o1, H2, I2, k1, z1, z2⟩ => ?_)
  obtain rfl := z1
  obtain rfl := z2
  refine thn (po_none.run pins s2 σ _ (fun o H3 => o = none ∧ H3 = _) I2 ⟨rfl, rfl⟩) fun w2 s3 ⟨o2, H3, I3, k2, z3, z4⟩ => ?_
  obtain rfl := z3
  obtain rfl := z4
  refine thn (step.run pins s3 σ _ (fun o H4 => o = some (-1) ∧ H4 = _) I3 ⟨1, rfl, -1, rfl, rfl, rfl⟩) fun w3 s4 ⟨o3, H4, I4, k3, z5, z6⟩ => ?_
  obtain rfl := z5
  obtain rfl := z6
  have J : Inv X pins σ H4 { s4 with heap := s4.heap.push { cls := .type "slice", data := .fields #[w1, w2, w3] } } := I4.kept (t' := s4.toks) fun b ob q => Heap.get?_push_of_some _ q
  have n1 : w1 = .none := by cases k1; rfl
  have n2 : w2 = .none := by cases k2; rfl
  have sl0 : ∀ {h : Heap} {b : Addr}, h.IsSliceOf b w1 w2 w3 → h.IsSliceOf b .none .none w3 := fun {_ _} z => by rw [n1, n2] at z; exact z
  rcases q1 with ⟨a, xs, rfl, hx, q⟩ | ⟨a, xs, rfl, hx, q⟩
  · cases r1
    obtain ⟨its, r, ht, hz⟩ := J.list hx
    have hl := r.length
    show wpAny _ _ (subscriptTail e _ (.ref a) (.ref s4.heap.objs.size)) _ _ _
    refine tail_any (ops := [.ref a, .ref s4.heap.objs.size]) ht.isList.typeIs PySem.slot_list_getitem.lookup (wpAny_getItem_list_slice ht.isList (Heap.IsSliceOf.new _ w1 w2 w3) k1 k2 k3 (by decide) ?_ (by rw [List.size_toArray]; omega)) (by with_unfolding_all rfl)
    rw [PySem.W.krv_pick]
    have okl : ObjOk X.prog X.w (upd H4 (s4.heap.push { cls := .type "slice", data := .fields #[w1, w2, w3] }).objs.size (.lst xs.reverse)) ((s4.heap.push { cls := .type "slice", data := .fields #[w1, w2, w3] }).push { cls := .type "list", data := .seq its.reverse.toArray }) (s4.heap.push { cls := .type "slice", data := .fields #[w1, w2, w3] }).objs.size (.lst xs.reverse) :=
      ⟨by rw [List.length_reverse]; exact hz, _, 0, r.reverse, Heap.get?_push_size _ rfl⟩
    exact ⟨.ref _, _, J.laid (t' := s4.toks) (fun b ob q => Heap.get?_push_of_some _ q) (Nat.le_refl _) okl, rfl, q _ (J.hok.fresh (Nat.le_refl _))⟩
  · cases r1
    obtain ⟨its, r, ht, hz⟩ := J.tuple hx
    have hl := r.length
    show wpAny _ _ (subscriptTail e _ (.ref a) (.ref s4.heap.objs.size)) _ _ _
    refine tail_any (ops := [.ref a, .ref s4.heap.objs.size]) ht.typeIs slot_tuple_getitem.lookup (tupBack ht (sl0 (Heap.IsSliceOf.new _ w1 w2 w3)) k3 ?_ (by rw [List.size_toArray]; omega)) (by with_unfolding_all rfl)
    exact ⟨.ref _, _, J.laid (t' := s4.toks) (o := .tup xs.reverse) (fun b ob q => Heap.get?_push_of_some _ q) (Nat.le_refl _) ⟨by rw [List.length_reverse]; exact hz, _, r.reverse, IsTup.new _ _⟩, rfl, q _ (J.hok.fresh (Nat.le_refl _))⟩
/-- a list or a tuple, turned about -/
def revX (d : D) : M D := match d with
  | .tup xs => pure (.tup xs.reverse)
  | d => revM d
section
variable {X : Cx} {T : List Addr} {W : WX} {a : Expr} {fa : EnvD → M D} {ga : Bool}
theorem v_revX {k : Nat} {p1 p2 p3 pos : Pos} (ha : PV X T W ga a fa) : PV X T W true (.Subscript a (.Slice none none (some (.UnaryOp .USub (.Constant (.int 1) k p1) p2)) p3) pos) (fun env => do let d ← fa env; revX d) :=
  PE.imp (pe_revX ha) fun σ H Q ⟨Φ, F, ρ, G, env, hR, hS, h⟩ => ⟨Φ, F, ρ, G, env, hR, hS, h.bind fun v d H1 F1 ρ1 G1 R1 s1 p1 r1 _ h1 => by
    by_cases hd : ∃ xs, d = .tup xs
    · obtain ⟨xs, rfl⟩ := hd
      cases r1 with
      | tup q1 q2 => exact .inr ⟨_, _, rfl, Same.tup R1.sub q1, fun p hp => Run.newT h1 R1 q2.reverse hp⟩
    · have e : revX d = revM d := by
        cases d <;> first | rfl | exact absurd ⟨_, rfl⟩ hd
      rw [e] at h1
      obtain ⟨a', xs, ds, rfl, q2, q3, q4⟩ := Run.getL (k := fun ds => (Pure.pure (D.lst ds.reverse) : M D)) h1 R1 r1
      exact .inl ⟨a', xs, rfl, q2, fun p hp => Run.newL q4 R1 q3.reverse hp⟩⟩
end
@[simp ↓] theorem wp_revXT {ds : List D} {G : Gh} {Q : D → Gh → Prop} : wpM (revX (.tup ds)) G Q ↔ Q (.tup ds.reverse) G := wpM_pure
@[simp ↓] theorem wp_revXL {ds : List D} {G : Gh} {Q : D → Gh → Prop} : wpM (revX (.lst ds)) G Q ↔ Q (.lst ds.reverse) G := wp_revL
end L2.GL
end

section
set_option Elab.async false
set_option linter.all false
set_option maxRecDepth 100000
set_option autoImplicit false
/-! G32: two statements whose lists are handed on as data: no name changes them any more. -/
namespace L2.GL
open PySem PySem.Spec PyProof.Rows
/-- the names told anew: what was made since there were n lists is data -/
def frzE (n : Nat) (G : Gh) (e : EnvD) : EnvD := e.map fun o => o.map fun d => D.conv n G d
def blkS (f : MS) : MS := fun env G => match f env G with
  | some (.nx e, G1) => some (.nx (frzE G.length G1 e), G1.take G.length)
  | _ => none
theorem RS.trunc {K : PySem.W.Frag} {T : Side} {H F : Hp} {ρ ν : List Addr} {G : Gh} {σ : L2.St} {env : EnvD} (h : R K T H F (ρ ++ ν) G) (s : RS K F (ρ ++ ν) σ env) : RS K (frz H F ν) ρ σ (frzE ρ.length G env) := by
  refine ⟨by unfold frzE; rw [List.length_map]; exact s.len, fun i d e => ?_⟩
  unfold frzE at e
  rw [List.getElem?_map] at e
  cases q : env[i]? with
  | none => rw [q] at e; cases e
  | some o =>
    rw [q] at e
    cases o with
    | none => cases e
    | some d0 =>
      cases e
      obtain ⟨v, h1, h2⟩ := s.at_ i d0 q
      exact ⟨v, h1, Dr.trunc h h2⟩
section
variable {X : Cx} {T : List Addr} {W : WX} {x1 x2 : Stmt} {rest : List Stmt} {f1 f2 g : MS}
theorem s_blk2 (h1 : PSV X T W x1 f1) (h2 : PSV X T W x2 f2) (h3 : PSsV X T W rest g) : PSsV X T W (x1 :: x2 :: rest) (seqS (blkS (seqS f1 f2)) g) :=
  PSs.imp (pss_cons h1 (pss_cons h2 h3)) fun Dn σ H ⟨Φ, F, ρ, G, env, hR, hS, h⟩ => by
    unfold seqS blkS at h
    cases q1 : f1 env G with
    | none => simp only [q1] at h; exact h.none
    | some r1 =>
      obtain ⟨o1, G1⟩ := r1
      simp only [q1] at h
      cases o1 with
      | nx e1 =>
        dsimp only at h
        cases q2 : f2 e1 G1 with
        | none => simp only [q2] at h; exact h.none
        | some r2 =>
          obtain ⟨o2, G2⟩ := r2
          simp only [q2] at h
          cases o2 with
          | nx e2 =>
            dsimp only at h
            refine ⟨Φ, F, ρ, G, env, hR, hS, .nx e1, G1, q1, fun σ1 H1 F1 ρ1 R1 s1 p1 S1 => ⟨Φ, F1, ρ1, G1, e1, R1, S1, .nx e2, G2, q2, fun σ2 H2 F2 ρ2 R2 s2 p2 S2 => ?_⟩⟩
            obtain ⟨ν, z⟩ := p1.trans p2
            subst z
            refine ⟨Φ, frz H2 F2 ν, ρ, G2.take G.length, frzE G.length G2 e2, by rw [← hR.len]; exact R2.trunc, by rw [← hR.len]; exact RS.trunc R2 S2, h.from ((s1.trans s2).trans (frz_same R2)) (List.prefix_refl _)⟩
          | bk _ => exact h.none
          | ct _ => exact h.none
          | ret _ _ => exact h.none
          | ex _ _ => exact h.none
      | bk _ => exact h.none
      | ct _ => exact h.none
      | ret _ _ => exact h.none
      | ex _ _ => exact h.none
end
section
variable {env : EnvD} {G : Gh} {k : K4} {f : MS}
theorem wpS_blk : wpS (blkS f) env G k ↔ wpS f env G { nx := fun e G1 => k.nx (frzE G.length G1 e) (G1.take G.length), rt := fun _ _ _ => False } := by
  unfold wpS blkS wpR
  constructor
  · rintro ⟨o, G', e, h⟩
    cases q : f env G with
    | none => rw [q] at e; cases e
    | some r =>
      obtain ⟨o1, G1⟩ := r
      rw [q] at e
      cases o1 with
      | nx e1 => cases e; exact ⟨_, _, rfl, h⟩
      | _ => cases e
  · rintro ⟨o, G', e, h⟩
    rw [e]
    cases o with
    | nx e1 => exact ⟨_, _, rfl, h⟩
    | _ => exact h.elim
end
end L2.GL
end

section
set_option Elab.async false
set_option linter.all false
set_option maxRecDepth 100000
set_option autoImplicit false
/-! G33: where an exception is handled: the name of the clause in a cell; comprehensions and calls there. -/
namespace L2.GL
open PySem PySem.Spec PyProof.Rows

/-! ### the clause's name, a cell, is taken away -/
section
variable {X : Cx} {pins : List (Addr × Obj)} {σ : L2.St} {H : Hp} {s : Shared} {i : Nat} {n : Str}
/-- a cell's content goes; the slots know nothing of it any more -/
theorem Inv.uncell (I : Inv X pins σ H s) {c : Addr} {h' : Heap} {w0 : Option Value} (hc : X.env.cells.lookup n = some c) (hfn : X.fn n = true) (hi : X.N[i]? = some n) (hN : X.N.Nodup) (hσ : σ[i]? = some none)
    (z0 : s.heap.IsCell c w0) (z1 : h'.IsCell c none) (sb : Heap.SameBut c s.heap h') : Inv X pins σ H { s with heap := h' } := by
  obtain ⟨m, hns, look⟩ := I.loc
  obtain ⟨oc, hoc, hod⟩ := id z0
  have young : ∀ {b : Addr} {o : Obj}, X.s_0.heap.get? b = some o → b ≠ c := fun {b o} e =>
    Nat.ne_of_lt (Nat.lt_of_lt_of_le (Heap.lt_size e) (I.ok.cab n c hfn hc))
  have hcn := I.freeC n c hc
  constructor
  · exact I.ok
  · exact I.os
  · exact I.bare
  · exact ⟨fun b o e q1 q2 q3 => (sb.2 b (young e)).trans (I.base.keep b o e q1 q2 q3),
      fun b o e q1 q2 q3 => let ⟨sl, e1⟩ := I.base.slot b o e q1 q2 q3; ⟨sl, (sb.2 b (young e)).trans e1⟩, I.base.free,
      fun b o e q => let ⟨o', e1⟩ := I.base.there b o e q; ⟨o', (sb.2 b (young e)).trans e1⟩, I.base.tups, I.base.frzs, I.base.tbls⟩
  · refine ⟨m, hns.sameBut sb (Ne.symm (I.cne n c hc)), fun j y v e1 e2 e3 => ?_⟩
    obtain ⟨u, ru, lk⟩ := look j y v e1 e2 e3
    refine ⟨u, ru, lk.imp (fun q => q) fun ⟨k, c', q1, q2⟩ => ⟨k, c', q1, q2.sameBut sb ?_⟩⟩
    intro ecc
    have eyn : y = n := I.ok.inj y n c (ecc ▸ q1) hc
    have eji : j = i := nodup_ix hN e1 (eyn ▸ hi)
    rw [eji, hσ] at e2
    cases e2
  · intro y c' q
    by_cases e : c' = c
    · exact ⟨none, e ▸ z1⟩
    · obtain ⟨w2, z2⟩ := I.cell y c' q
      exact ⟨w2, z2.sameBut sb e⟩
  · exact I.free
  · exact I.freeC
  · intro p hp
    obtain ⟨q1, q2, q3, q4, q5⟩ := I.pin p hp
    refine ⟨(sb.2 p.1 fun q => ?_).trans q1, q2, q3, q4, q5⟩
    rw [q, hoc] at q1
    exact q5 w0 (Option.some.inj q1 ▸ hod)
  · intro b ob e
    refine (I.hok b ob e).stay (fun c' w' hcc q => (sb.2 c' ?_).trans q) (fun _ q => q) fun _ _ q => q
    intro q
    rcases hcc with hcc | hcc
    · rw [← hcc, q, hcn] at e; cases e
    · rw [q, hcn] at hcc; cases hcc
  · exact I.len
theorem gone_cell {M : Model} {A : Around} {E : Value → Shared → Prop} {pos : Pos} {Q : Unit → Shared → Prop} (I : Inv X pins σ H s) (hN : X.N.Nodup) (hi : X.N[i]? = some n) (hk : X.env.kindOf n = some .cell) (hfn : X.fn n = true)
    (h : ∀ s', Inv X pins (σ.set i none) H s' → Q () s') : wpAny M A (do bindName X.env n .none; unbindBehindTheSuite X.env n pos) Q E s := by
  obtain ⟨c, hc⟩ := I.ok.has n (.inl hk)
  have hlt : i < σ.length := by rw [I.len]; exact (List.getElem?_eq_some_iff.mp hi).1
  refine wpAny_bind (wpAny_bindName (store_ok (v := V.non) I hN hi (.inr hk) rfl (fun s1 I1 => ?_) (.inl hfn)))
  have lk : s1.heap.IsCell c (some .none) := by
    obtain ⟨m, _, look⟩ := I1.loc
    obtain ⟨u, ru, q⟩ := look i n .non hi (List.getElem?_set_self hlt) (.inr (.inl hk))
    have ru : u = Value.none := ru
    subst ru
    rcases q with ⟨k, _⟩ | ⟨_, c', q1, q2⟩
    · rw [hk] at k; cases k
    · rw [hc] at q1
      cases q1
      exact q2
  unfold unbindBehindTheSuite
  refine wpAny_onRaise (PySem.W.ksm_unbind_cell (.inl hk) hc lk fun h2 z2 sb => h _ ?_)
  have I2 : Inv X pins (σ.set i none) H s1 := I1.weak (by simp) fun j v e => by
    by_cases ej : i = j
    · subst ej
      rw [List.getElem?_set_self hlt] at e
      cases e
    · rw [List.getElem?_set_ne ej] at e ⊢
      exact e
  exact Inv.uncell I2 hc hfn hi hN (List.getElem?_set_self hlt) lk z2 sb
end

/-! ### try: body, except x as n: suite; n in a cell; the clause takes whatever comes, the suite gives a value back -/
abbrev retE (Dn : Ends) : Ends := ⟨fun _ _ => False, Dn.rt, fun _ _ => False, fun _ _ => False⟩
def wCell (K : PySem.W.Frag) (cv : Value) (i : Nat) (ts : Addr → Value → Option Addr → TS) (Dn : Ends) : WX := fun cls d σ H =>
  PySem.W.exmOne K cls cv = some true ∧ ∀ a, H a = none → ts a cls d (retE Dn) (σ.set i (some (.ref a))) H
section
variable {X : Cx} {x n : Str} {cv : Value} {i : Nat} {body suite : List Stmt} {st0 : Stmt} {np pos pos' : Pos} {tb : WX → TS} {ts : Addr → Value → Option Addr → TS}
theorem ps_tryC (hs : X.stack = X.env :: X.outer) (hf : X.env.frame = some X.env.locals) (hN : X.N.Nodup) (hi : X.N[i]? = some n) (hk : X.env.kindOf n = some .cell) (hfn : X.fn n = true) (hc : Names X x cv)
    (hb : ∀ (W : WX) (pn : List (Addr × Obj)) (xe : Value → Shared → Prop), L2N.Takes (X.tr pn xe) W → PSs (X.tr pn xe) body (tb W))
    (hsu : ∀ (a : Addr) (oe : Obj) (cls : Value) (d : Option Addr) (pn : List (Addr × Obj)), L2N.Zn cls d oe → (∃ vs, oe.data = .fields vs) → PSs (X.suite a ((a, oe) :: pn)) (st0 :: suite) (ts a cls d)) :
    PS X (.Try body [.ExceptHandler (some (.Name x np)) (some n) (st0 :: suite) pos'] [] [] pos) (fun Dn σ H => tb (wCell X.K cv i ts Dn) Dn σ H) := by
  constructor
  intro pins s σ H Dn I h
  have okX := I.ok
  have hfr : X.A.frames = some (X.env :: X.outer) := okX.frames.trans (congrArg some hs)
  apply wpAny_Try_except
  refine wpAny_mono ((hb (wCell X.K cv i ts Dn) (X.pn ++ pins) (fun e s1 => wpAny (model X.prog X.w) X.A (noteFrame e X.env)
    (fun _ s2 => wpAny (model X.prog X.w) X.A (setFlight e none)
      (fun _ s3 => wpAny (model X.prog X.w) X.A (handleBy e X.env [.ExceptHandler (some (.Name x np)) (some n) (st0 :: suite) pos'])
        (SP X pins Dn) X.xe s3) X.xe s2) X.xe s1) ?caught).run [] s σ H Dn (I.toTry _) h) ?through (fun _ _ z => z)
  case through =>
    intro f s1 q
    match f, q with
    | .next, ⟨σ1, H1, J1, q⟩ => exact wpAny_execs_nil ⟨σ1, H1, J1.ofTry okX, q⟩
    | .brk, ⟨σ1, H1, J1, q⟩ => exact ⟨σ1, H1, J1.ofTry okX, q⟩
    | .cont, ⟨σ1, H1, J1, q⟩ => exact ⟨σ1, H1, J1.ofTry okX, q⟩
    | .ret u, ⟨v, σ1, H1, J1, rv, q⟩ => exact ⟨v, σ1, H1, J1.ofTry okX, rv, q⟩
  case caught =>
    rintro u s1 ⟨a, B, sI, pins1, σ1, H1, cls, d, rfl, JT, nb, up, sky, na, os, ag, hyes, hts⟩
    have J : Inv X pins σ1 H1 sI := JT.ofTry okX
    have sky1 : Sky B (X.env :: X.outer) a (L2N.Zn cls d) X.env.locals s1.heap := hs ▸ sky
    refine L2N.Sky.land L2N.Zn.steady hfr hf sky1 fun h3 fl3 up3 => ?_
    obtain ⟨oe3, vs3, get3, zn3, dat3⟩ := fl3.there
    have out : ∀ {hp : Heap} {o : Obj} {vs : Array Value}, hp.FunFrames B (X.env :: X.outer) → hp.get? a = some o → o.data = .fields vs → a ≠ X.env.locals ∧ a ∉ X.fs := fun {hp o vs} ff e dd => by
      have nin : a ∉ frs (X.env :: X.outer) := fun hm => by
        obtain ⟨_, o2, e2, nd⟩ := ff.mem hm
        rw [e] at e2
        exact nd vs (Option.some.inj e2 ▸ dd)
      unfold frs at nin
      rw [List.filterMap_cons, hf] at nin
      exact ⟨fun z => nin (z ▸ List.mem_cons_self), fun z => nin (List.mem_cons_of_mem _ z)⟩
    obtain ⟨nL, nF⟩ := out fl3.2.2.1 get3 dat3
    have J3 : Inv X pins σ1 H1 { s1 with heap := h3 } := J.landed nb fl3.1 (up.trans up3) os ag
    have S3 := J3.suite get3 dat3 na nL nF
    have LT : PySem.W.Looks (model X.prog X.w) h3 (typeOf (.ref a)) cls := fun _ _ _ _ kp q => wpAny_typeOf_ref (kp _ _ get3) (zn3.1.symm ▸ q)
    have LM := PySem.W.exm_one (M := model X.prog X.w) J3.kIn LT hyes
    refine wpAny_handleBy_cons (codeAny_handlers_test ?_) (fun z => nomatch z)
    have asked : ∀ {Q E : Value → Shared → Prop}, Q cv { s1 with heap := h3 } → wpAny (model X.prog X.w) (X.A.mark (some (.ref a))) (eval (.Name x np) X.env) Q E { s1 with heap := h3 } := fun {Q E} q => by
      obtain ⟨hg, hdb, hm | ⟨hm, hv, hn⟩⟩ := hc
      · exact ld_glob (X := X.suite a ((a, oe3) :: (X.pn ++ pins))) S3 hg hm q hdb
      · exact ld_blt (X := X.suite a ((a, oe3) :: (X.pn ++ pins))) S3 hg hm hv q hn hdb
    refine asked (LM.here (codeAny_handlers_suite_as (HandSPX.lands_againZ fl3 fun h4 fl4 up4 => ?_)))
    obtain ⟨oe4, vs4, get4, zn4, dat4⟩ := fl4.there
    have J4 : Inv X pins σ1 H1 { s1 with heap := h4 } := J.landed nb fl4.1 ((up.trans up3).trans up4) os ag
    have S4 := J4.suite get4 dat4 na nL nF
    refine store_ok (X := X.suite a ((a, oe4) :: (X.pn ++ pins))) (v := .ref a) S4 hN hi (.inr hk) rfl (fun s5 S5 => ?_) (.inl hfn)
    refine wpAny_mono ((hsu a oe4 cls d (X.pn ++ pins) zn4 ⟨_, dat4⟩).run [] s5 _ H1 (retE Dn) S5 (hts a na)) (fun f s6 q => ?_) (fun _ _ z => False.elim z)
    match f, q with
    | .next, ⟨_, _, _, q⟩ => exact q.elim
    | .brk, ⟨_, _, _, q⟩ => exact q.elim
    | .cont, ⟨_, _, _, q⟩ => exact q.elim
    | .ret u, ⟨v, σ6, H6, S6, rv, q⟩ => exact gone_cell (S6.unsuite okX) hN hi hk hfn fun s7 J7 => ⟨v, _, _, J7, rv, q⟩
end
end L2.GL
end

section
set_option Elab.async false
set_option linter.all false
set_option maxRecDepth 100000
set_option autoImplicit false
/-! G34: the classes that are raised; what runs while one of them is handled. -/
namespace L2.GL
open PySem PySem.Spec PyProof.Rows

def excL : List Str := ["NoSteps", "NoPair", "NoPoint", "NoNumber", "NoMoves", "NoShape", "NoKeeper", "NoText", "NoThree", "NoFour", "NoPart", "NoLine"]
abbrev veMro : List Value := [.type "ValueError", .type "Exception", .type "BaseException", .type "object"]
def refIn (K : PySem.W.Frag) (x : Str) : Option Addr := match PySem.W.nsIn K mainGlobals x with
  | some (some (.ref a)) => some a
  | _ => none
theorem refIn_ok {K : PySem.W.Frag} {h : Heap} {mg : Str → Option Value} (X : K.In h) (G : h.Ns mainGlobals mg) {x : Str} {a : Addr} (e : refIn K x = some a) : mg x = some (.ref a) := by
  unfold refIn at e
  split at e
  · rename_i b q
    cases e
    exact PySem.W.mg_of X G q
  · cases e
def clsB (K : PySem.W.Frag) (C : Addr) : Bool :=
  PySem.W.findIn K (.ref C) "__getattribute__" == some (some (.builtin "BaseException.__getattribute__")) &&
  (PySem.W.findIn K (.ref C) "__getattr__" == some none && (PySem.W.subIn K (.ref C) (.type "BaseException") == some true &&
  (PySem.W.hasDictIn K C && (PySem.W.findIn K (.ref C) "__class__" == some (some (.builtin "object.__class__")) &&
  (PySem.W.specialIn K (.builtin "object.__class__") "__get__" == some (some (.builtin "getset_descriptor.__get__")) &&
  (PySem.W.takesIn K (.builtin "object.__class__") == some true && (PySem.W.mroIn K C (.type "object") == some true &&
  (PySem.W.keepIn K (.ref C) && (PySem.W.excIn K C veMro "ValueError.__new__" && PySem.W.typeIn K (.ref C) == some (.type "type"))))))))))
def kitB' (K : PySem.W.Frag) (C N : Addr) (b : Bool) : Bool := PySem.W.kitOne K (.ref C) (.ref N) == some b
def excOne (K : PySem.W.Frag) (c : Str) (C S : Addr) : Bool :=
  clsB K C && (PySem.W.exmOne K (.ref C) (.ref S) == some true && (kitB' K C S true && (PySem.W.kitOne K (.ref C) (.type "ValueError") == some true &&
    excL.all fun n => match refIn K n with
      | some N => kitB' K C N (decide (c = n))
      | none => false)))
/-- looked at in the kernel's run -/
def excB (K : PySem.W.Frag) : Bool := match refIn K "StepError" with
  | some S => excL.all fun c => match refIn K c with
    | some C => excOne K c C S
    | none => false
  | none => false
structure ExcT (K : PySem.W.Frag) (mg : Str → Option Value) : Prop where
  ref : ∀ c ∈ excL, ∃ C : Addr, mg c = some (.ref C) ∧ ExcC K C ∧ PySem.W.keepIn K (.ref C) = true ∧ PySem.W.excIn K C veMro "ValueError.__new__" = true ∧ PySem.W.typeIn K (.ref C) = some (.type "type")
  step : ∃ S : Addr, mg "StepError" = some (.ref S) ∧ ∀ c ∈ excL, ∀ C : Addr, mg c = some (.ref C) → PySem.W.exmOne K (.ref C) (.ref S) = some true ∧ PySem.W.kitOne K (.ref C) (.ref S) = some true
  ve : ∀ c ∈ excL, ∀ C : Addr, mg c = some (.ref C) → PySem.W.kitOne K (.ref C) (.type "ValueError") = some true
  is : ∀ c ∈ excL, ∀ n ∈ excL, ∀ C N : Addr, mg c = some (.ref C) → mg n = some (.ref N) → PySem.W.kitOne K (.ref C) (.ref N) = some (decide (c = n))
theorem excT_of {K : PySem.W.Frag} {h : Heap} {mg : Str → Option Value} (X : K.In h) (G : h.Ns mainGlobals mg) (b : excB K = true) : ExcT K mg := by
  unfold excB at b
  split at b
  rotate_left
  · cases b
  rename_i S eS
  have one : ∀ c ∈ excL, ∃ C : Addr, mg c = some (.ref C) ∧ excOne K c C S = true := fun c hc => by
    have q := List.all_eq_true.mp b c hc
    split at q
    · rename_i C eC
      exact ⟨C, refIn_ok X G eC, q⟩
    · cases q
  have sam : ∀ c ∈ excL, ∀ C : Addr, mg c = some (.ref C) → excOne K c C S = true := fun c hc C m => by
    obtain ⟨C', m', q⟩ := one c hc
    rw [m] at m'
    cases m'
    exact q
  refine ⟨fun c hc => ?_, ⟨S, refIn_ok X G eS, fun c hc C m => ?_⟩, fun c hc C m => ?_, fun c hc n hn C N m m2 => ?_⟩
  · obtain ⟨C, m, q⟩ := one c hc
    unfold excOne clsB at q
    simp only [Bool.and_eq_true, beq_iff_eq] at q
    obtain ⟨⟨q1, q2, q3, q4, q5, q6, q7, q8, q9, q10, q11⟩, _⟩ := q
    exact ⟨C, m, ⟨q1, q2, q3, q4, q5, q6, q7, q8⟩, q9, q10, q11⟩
  · have q := sam c hc C m
    unfold excOne kitB' at q
    simp only [Bool.and_eq_true, beq_iff_eq] at q
    exact ⟨q.2.1, q.2.2.1⟩
  · have q := sam c hc C m
    unfold excOne kitB' at q
    simp only [Bool.and_eq_true, beq_iff_eq] at q
    exact q.2.2.2.1
  · have q := sam c hc C m
    unfold excOne at q
    rw [Bool.and_eq_true, Bool.and_eq_true, Bool.and_eq_true, Bool.and_eq_true] at q
    have q2 := List.all_eq_true.mp q.2.2.2.2 n hn
    split at q2
    · rename_i N' eN
      have := refIn_ok X G eN
      rw [m2] at this
      cases this
      exact beq_iff_eq.mp q2
    · cases q2

/-! ### raise -/
section
variable {X : Cx} {T : List Addr} {W : WX} {k' : Nat} {c m : Str} {j : Nat} {p p2 pos pos' : Pos}
theorem s_raiseT (S : Stand X k' W) (t : ExcT X.K X.mg) (hc : c ∈ excL) (hg : Gl X c) (hdb : (c == ("__debug__" : Str)) = false := by decide) :
    PSV X T W (.Raise (some (.Call (.Name c p) [.Constant (.str m) j p2] [] pos)) none pos') (raiseS c) := by
  obtain ⟨C, hm, E, hk, hx, ht⟩ := t.ref c hc
  exact s_raise S PySem.F.excBase_ValueError hx hm hk (raises_own E.hs ht) hg hdb
end

/-! ### what is handled: at xa, of the class named xc -/
def HotF (X : Cx) (xa : Addr) (xc : Str) : Prop := ∃ p : Addr × Obj, L2H.Hot1 X.A p ∧ p ∈ X.pn ∧ p.1 = xa ∧ ∃ C : Addr, X.mg xc = some (.ref C) ∧ Zc (.ref C) none p.2
structure StandH (X : Cx) (k : Nat) (xa : Addr) (xc : Str) : Prop where
  gu : X.A.guards = some []
  room : L2H.RoomH k X.A
  hot : HotF X xa xc
  ex : ExcT X.K X.mg
  mem : xc ∈ excL
theorem _root_.L2H.RoomH.units {k : Nat} {A : Around} (r : L2H.RoomH k A) : A.units + 64 < cLine := by have := r.un; omega
theorem Stand.suite {X : Cx} {k : Nat} {W : WX} (S : Stand X k W) (t : ExcT X.K X.mg) {xc : Str} (hxc : xc ∈ excL) {a C : Addr} {oe : Obj} {pn : List (Addr × Obj)} (hm : X.mg xc = some (.ref C)) (z : L2N.Zn (.ref C) none oe) (f : ∃ vs, oe.data = .fields vs) : StandH (X.suite a ((a, oe) :: pn)) k a xc := by
  obtain ⟨vs, hv⟩ := f
  exact ⟨S.gu, ⟨S.room.dp, S.room.un⟩, ⟨(a, oe), ⟨rfl, vs, hv, z.2.2 vs hv⟩, List.mem_cons_self, rfl, C, hm, z.1, z.2.1⟩, t, hxc⟩

/-! ### defs called there -/
abbrev noE : XK := fun _ _ _ => False
structure FnX (P : Program) (w : World) (K : PySem.W.Frag) (mg : Str → Option Value) (base : Heap) (k : Nat) (xa : Addr) (xc : Str) (f : Addr) (fd : FuncData) (ps : List Str) (sp : Sp) : Prop where
  run : ∀ (A : Around) (outer : List Env) (s : Shared) (H : Hp) (args : Args) (us : List Value) (vs : List V) (Q : VK) (p : Addr × Obj), A.guards = some [] → L2H.RoomH k A → L2H.Hot1 A p → p.1 = xa → (∃ C : Addr, mg xc = some (.ref C) ∧ Zc (.ref C) none p.2) →
    L2H.PinOk outer H s p → Env0 P w K mg base A outer s H → BindsTo s fd args (ps.zip us) → Vals vs us → sp vs H Q noE → codeAny (model P w) A (.call (.ref f) args) (CR (L2N.CX P w) outer P w H s Q noE) s
abbrev cxX (P : Program) (w : World) (K : PySem.W.Frag) (mg : Str → Option Value) (base : Heap) (N : List Str) (qual : Str) (scope : Scope) (fa : Addr) (cd : Value) (A : Around) (outer : List Env) (s : Shared) (H : Hp) (p : Addr × Obj) : Cx :=
  L2H.cxH (L2N.CX P w) P w K mg base N qual scope fa cd A outer s H noE p
section
variable {P : Program} {w : World} {K : PySem.W.Frag} {mg : Str → Option Value} {base : Heap} {T : List Addr} {k : Nat} {fr : Bool} {xa : Addr} {xc : Str}
theorem fn_X {fa : Addr} {name qual : Str} {params : Arguments} {body : List Stmt} {scope : Scope} {dV kV doc pm cdv ct oc : Value} {an od : Option Addr} {osl : Array (Option Value)} {N ps : List Str} {f : MS} (t : ExcT K mg) (hxc : xc ∈ excL)
    (lk : K.lookup fa = some ⟨oc, od, .func (PySem.W.fnOf name qual params body scope dV kV doc pm an cdv ct), osl⟩) (hcd : PySem.W.codeIn K cdv qual = true) (S : FnScope N ps scope)
    (hbody : ∀ (A : Around) (outer : List Env) (s : Shared) (H : Hp) (p : Addr × Obj), StandH (cxX P w K mg base N qual scope fa cdv A outer s H p) k xa xc → PSsV (cxX P w K mg base N qual scope fa cdv A outer s H p) T W0 body f) :
    FnX P w K mg base (k + 1) xa xc fa (PySem.W.fnOf name qual params body scope dV kV doc pm an cdv ct) ps (spG K T mg ps.length fr (defM ps.length N.length fr f)) := by
  constructor
  intro A outer s H args us vs Q p hg hr hot pa pc hpin e0 hb r hsp
  have inK : K.In s.heap := e0.mod.kin.keeps fun b o e => (e0.bs b o e).1
  have noL : s.heap.NoLimit := e0.mod.nolimit.keeps fun b o e => (e0.bs b o e).1
  refine codeAny_call_function hr.depth (inK _ _ lk) rfl S.co S.gen rfl (PySem.W.codeRec_of inK hcd) (hb _ _ _ _ ?_)
  refine wpAny_newFunctionEnv_cells S.kind (fun q hq => ?_) fun env he s1 x => ?_
  · rcases S.par q.1 (List.of_mem_zip hq).1 with z | z
    · exact .inl z
    · exact .inr ⟨z, PySem.W.cellsFrom_some _ _ _ (.inl z)⟩
  subst he
  refine ⟨noL.keeps x.toInCall.keep, codeAny_func ?_⟩
  have J0 : Inv (cxX P w K mg base N qual scope fa cdv A outer s H p) [] (start N vs) H s1 := L2H.inv_startH S hpin e0 hsp.1 r x
  have B := hbody A outer s H p ⟨hg, hr.deeper _, ⟨p, hot, List.mem_singleton.mpr rfl, pa, pc⟩, t, hxc⟩
  refine wpAny_mono (B.run [] s1 (start N vs) H _ J0 (body_end (E := noE) hsp)) (fun fl s2 q => ?_) fun _ _ z => z
  have ends : ∀ {σ2 : L2.St} {H2 : Hp} {v : V} {u : Value}, Inv (cxX P w K mg base N qual scope fa cdv A outer s H p) [] σ2 H2 s2 → RelV v u → Q v H2 → CE outer P w H s Q u s2 :=
    fun {_ H2 v _} J rv q => ⟨v, H2, J.os, J.bare, J.base, J.hok, rv, q⟩
  match fl, q with
  | .ret u, ⟨v, σ2, H2, J, rv, q⟩ => exact ends J rv q
  | .next, ⟨σ2, H2, J, q⟩ => exact ends (v := V.non) (u := Value.none) J rfl q
  | .brk, ⟨_, _, _, q⟩ => exact q.elim
  | .cont, ⟨_, _, _, q⟩ => exact q.elim
structure CalX (P : Program) (w : World) (K : PySem.W.Frag) (mg : Str → Option Value) (base : Heap) (T : List Addr) (k : Nat) (xa : Addr) (xc x : Str) (n : Nat) (fr : Bool) (φ : List D → M D) : Prop where
  ex : ∃ (fa : Addr) (fd : FuncData) (ps : List Str), FnX P w K mg base k xa xc fa fd ps (spG K T mg n fr φ) ∧ mg x = some (.ref fa) ∧ PySem.W.keepIn K (.ref fa) = true ∧ Binds K fd ps [] ∧ ps.length = n
  len : ∀ ds G r, φ ds G = some r → ds.length = n
theorem calX_of {x : Str} {st : Stmt} {fa : Addr} {fd : FuncData} {N ps : List Str} {f : MS} (t : ExcT K mg) (hxc : xc ∈ excL) (F : FnD K x st fa fd) (hfa : fa = He.fAd K (x, none)) (S : FnScope N ps (defScope st))
    (hbind : ∀ (kV doc pm : Value) (an : Option Addr) (cdv ct : Value) (us : List Value), us.length = ps.length → bindArgs (PySem.W.fnOf x x (defArgs st) (defBody st) (defScope st) .none kV doc pm an cdv ct) ⟨us, []⟩ = pure (ps.zip us))
    (hmg : mg x = some (.ref fa))
    (hbody : ∀ (cdv : Value) (A : Around) (outer : List Env) (s : Shared) (H : Hp) (p : Addr × Obj), StandH (cxX P w K mg base N x (defScope st) fa cdv A outer s H p) k xa xc →
      PSsV (cxX P w K mg base N x (defScope st) fa cdv A outer s H p) T W0 (defBody st) f) : CalX P w K mg base T (k + 1) xa xc x ps.length fr (defM ps.length N.length fr f) := by
  refine ⟨⟨fa, fd, ps, ?_, hmg, F.kp, F.bindsN hbind, rfl⟩, fun ds G r h => defM_len h⟩
  obtain ⟨oc, od, dV, kV, doc, pm, an, cdv, ct, osl, rfl, lk, hcd, _, _⟩ := F.ex
  exact fn_X t hxc lk hcd S fun A outer s H p St => hbody _ A outer s H p St
end
section
variable {X : Cx} {T : List Addr} {pos p : Pos} {e : Expr} {es : List Expr} {fs : EnvD → M (List D)} {x xc : Str} {xa : Addr} {k k' n : Nat} {fr : Bool} {φ : List D → M D}
theorem v_callX (cal : CalX X.prog X.w X.K X.mg X.base T k xa xc x n fr φ) (S : StandH X k' xa xc) (hk : k ≤ k') (hg : Gl X x) (ha : PVs X T W0 (e :: es) fs) (hdb : (x == ("__debug__" : Str)) = false := by decide)
    (he : starEach (e :: es) X.env = (false, eval e X.env) :: starEach es X.env := by rfl) (hpl : (backTo pos (starEach es X.env)).any (·.1) = false := by rfl) :
    PV X T W0 fr (.Call (.Name x p) (e :: es) [] pos) (fun env => do let ds ← fs env; φ ds) := by
  obtain ⟨fa, fd, ps, F, hm, hkp, hb, hn⟩ := cal.ex
  obtain ⟨px, hot, hpn, hpa, hpc⟩ := S.hot
  constructor
  intro pins s σ H Q I hw
  obtain ⟨Φ, F0, ρ, G, env, hR, hS, h⟩ := hw
  refine wpAny_Call_Name_kw (ld_glob I hg hm ?_ hdb)
  have h1 := h.bindA (Q' := fun vs H1 => ∃ F1 ρ1 G1 ds, R X.K ⟨T, Φ⟩ H1 F1 ρ1 G1 ∧ DrA X.K F1 ρ1 vs ds ∧ Run X.K ⟨T, Φ⟩ X.mg W0 σ fr F1 ρ1 (φ ds) G1 Q) fun v d H1 F1 ρ1 G1 R1 _ _ r1 h1 => ⟨F1, ρ1, G1, d, R1, r1, h1⟩
  refine PySem.W.callWith_K (h₀ := X.base) I.ok.mod.kin hkp (thn (ha.run pos pins s σ H _ I ⟨Φ, F0, ρ, G, env, hR, hS, h1⟩) fun us s1 hh => ?_) he hpl
  obtain ⟨vs, H1, I1, rv, F1, ρ1, G1, ds, R1, rd, r', G', e', h'⟩ := hh
  refine ⟨I1.kIn, ?_⟩
  have hl : vs.length = n := by rw [rd.length]; exact cal.len ds G1 _ e'
  have bd := hb s1 us I1.kIn (by rw [List.append_nil, hn, ← hl]; exact rv.length.symm)
  rw [List.append_nil] at bd
  obtain ⟨q1, q2, q3, q4, q5⟩ := I1.pin px (List.mem_append_left _ hpn)
  have pok : L2H.PinOk X.stack H1 s1 px := ⟨q1, q2, fun hm => (List.mem_cons.mp (I1.stkSub px.1 hm)).elim q3 q4, q5⟩
  refine wpAny_call (codeAny_mono (F.run X.A X.stack s1 H1 ⟨us, []⟩ us vs Q px S.gu ⟨by have := S.room.dp; omega, by have := S.room.un; omega⟩ hot hpa hpc pok I1.env0 bd rv ⟨hl, Φ, F1, ρ1, G1, ds, R1, rd, r', G', e', ?_⟩) fun q s2 hq => ?_)
  · cases r' with
    | ok d => exact h'
    | ex c => exact fun cls H' F' ρ' z1 z2 z3 z4 => (h' cls H' F' ρ' z1 z2 z3 z4)
  match q, hq with
  | .error u, ⟨_, _, _, _, _, _, _, _, _, _, _, _, z⟩ => exact z.elim
  | .ok (.ret u), hq => exact I1.after hq
end

/-! ### isinstance of what is handled -/
def isXM (xa : Addr) (xc : Str) (b : Bool) (d : D) : M D := match d with
  | .exn a c => if a = xa ∧ c = xc then pure (.bl b) else stuck
  | _ => stuck
section
variable {X : Cx} {T : List Addr} {W : WX} {pos p q : Pos} {e : Expr} {fe : EnvD → M D} {xa : Addr} {xc n : Str} {k : Nat} {ga : Bool}
theorem call_isX {C : Addr} (hot : HotF X xa xc) (hm : X.mg xc = some (.ref C)) (E : ExcC X.K C) : CallR X (.builtin "isinstance") (rIsE X.K C xa) := by
  intro pins s σ H xs us Q I r h
  obtain ⟨px, ⟨_, vs, hv, _⟩, hpn, rfl, C', hm', z1, z2⟩ := hot
  rw [hm] at hm'
  cases hm'
  obtain ⟨c, cv, b, rfl, hcv, ek, hq⟩ := h
  have hget := (I.pin px (List.mem_append_left _ hpn)).1
  match us, r with
  | [u1, u2], .cons r1 (.cons r2 .nil) =>
    have r1 : u1 = Value.ref px.1 := r1
    subst r1
    obtain rfl := hcv _ r2
    obtain ⟨pa, oc, od, oda, osl⟩ := px
    have z1 : oc = Value.ref C := z1
    have z2 : od = none := z2
    have hv : oda = .fields vs := hv
    subst z1 z2 hv
    have J : PySem.W.InstAt s.heap pa ⟨.ref C, none, .fields vs, osl⟩ C none := ⟨hget, rfl, rfl, trivial⟩
    exact PySem.W.kia_one (PySem.W.handS_kitx_exc E.hg E.hk E.hs E.hd E.ha E.hn E.ht E.hm) I.kIn J ek (fun z => nomatch z) fun tk => ⟨.bl b, H, I.kept (t' := tk) fun _ _ z => z, rfl, hq⟩
theorem isX_go {C : Addr} {v : V} {cv : Value} {b : Bool} {σ : L2.St} {H : Hp} {Q : VK} (hv : ∀ u, RelV v u → u = cv) (ek : PySem.W.kitOne X.K (.ref C) cv = some b) (h : tV X.K T X.mg W true (fun env => do let d ← fe env; isXM xa xc b d) σ H Q) :
    tCB (rIsE X.K C xa) (L2.tCons (tV X.K T X.mg W ga fe) (tCons (L2.tC v) L2.tNil)) σ H Q := by
  obtain ⟨Φ, F, ρ, G, env, hR, hS, h⟩ := h
  refine ⟨Φ, F, ρ, G, env, hR, hS, h.bind fun v d H1 F1 ρ1 G1 R1 s1 p1 r1 _ h1 => ?_⟩
  cases d with
  | exn a c =>
    unfold isXM at h1
    dsimp only at h1
    split at h1
    · rename_i hh
      obtain ⟨rfl, rfl⟩ := hh
      cases r1
      exact ⟨_, cv, b, rfl, hv, ek, h1.pure R1 (.bl b) fun _ => .of fun _ z => nomatch z⟩
    · exact h1.stuck.elim
  | _ => exact h1.stuck.elim
variable (S : StandH X k xa xc)
include S
theorem v_isX (hn : n ∈ excL) (hg : Gl X "isinstance") (hm : X.mg "isinstance" = none) (hgn : Gl X n) (ha : PV X T W ga e fe) (hdb : (n == ("__debug__" : Str)) = false := by decide)
    (he : starEach [e, .Name n q] X.env = (false, eval e X.env) :: starEach [.Name n q] X.env := by rfl) :
    PV X T W true (.Call (.Name "isinstance" p) [e, .Name n q] [] pos) (fun env => do let d ← fe env; isXM xa xc (decide (xc = n)) d) := by
  obtain ⟨C, hmC, E, _, _, _⟩ := S.ex.ref xc S.mem
  obtain ⟨N, hmN, _, _, _, _⟩ := S.ex.ref n hn
  exact PE.imp (pe_callB (call_isX S.hot hmC E) hg hm boot_isinstance (pa_cons ha (pa_cons (pe_glob (v := .ref N) hgn hmN rfl hdb) pa_nil) he) (by decide) (by decide) he (by rfl)) fun σ H Q h =>
    isX_go (v := .ref N) (cv := .ref N) (fun u r => r) (S.ex.is xc S.mem n hn C N hmC hmN) h
theorem v_isS (hg : Gl X "isinstance") (hm : X.mg "isinstance" = none) (hgn : Gl X "StepError") (ha : PV X T W ga e fe)
    (he : starEach [e, .Name "StepError" q] X.env = (false, eval e X.env) :: starEach [.Name "StepError" q] X.env := by rfl) :
    PV X T W true (.Call (.Name "isinstance" p) [e, .Name "StepError" q] [] pos) (fun env => do let d ← fe env; isXM xa xc true d) := by
  obtain ⟨C, hmC, E, _, _, _⟩ := S.ex.ref xc S.mem
  obtain ⟨N, hmN, hN⟩ := S.ex.step
  exact PE.imp (pe_callB (call_isX S.hot hmC E) hg hm boot_isinstance (pa_cons ha (pa_cons (pe_glob (v := .ref N) hgn hmN rfl (by decide)) pa_nil) he) (by decide) (by decide) he (by rfl)) fun σ H Q h =>
    isX_go (v := .ref N) (cv := .ref N) (fun u r => r) (hN xc S.mem C hmC).2 h
theorem v_isV (hg : Gl X "isinstance") (hm : X.mg "isinstance" = none) (hgn : Gl X "ValueError") (hmn : X.mg "ValueError" = none) (ha : PV X T W ga e fe)
    (he : starEach [e, .Name "ValueError" q] X.env = (false, eval e X.env) :: starEach [.Name "ValueError" q] X.env := by rfl) :
    PV X T W true (.Call (.Name "isinstance" p) [e, .Name "ValueError" q] [] pos) (fun env => do let d ← fe env; isXM xa xc true d) := by
  obtain ⟨C, hmC, E, _, _, _⟩ := S.ex.ref xc S.mem
  exact PE.imp (pe_callB (call_isX S.hot hmC E) hg hm boot_isinstance (pa_cons ha (pa_cons (pe_bltn (v := .ty "ValueError") hgn hmn boot_ValueError rfl (by decide) (by decide)) pa_nil) he) (by decide) (by decide) he (by rfl)) fun σ H Q h =>
    isX_go (v := .ty "ValueError") (cv := .type "ValueError") (fun u r => r) (S.ex.ve xc S.mem C hmC) h
end
end L2.GL
end

section
set_option Elab.async false
set_option linter.all false
set_option maxRecDepth 100000
set_option autoImplicit false
/-! G35: a comprehension while an exception is handled; try, as data. -/
namespace L2.GL
open PySem PySem.Spec PyProof.Rows

/-- a block there: the exception stays pinned -/
abbrev blkH (X : Cx) (px : Addr × Obj) (s : Shared) (H : Hp) (scope : Scope) (ce : Env) (fp : List Addr) : Cx := (X.blk s H scope ce fp).tr [px] (fun _ _ => False)
section
variable {X : Cx} {px : Addr × Obj}
/-- what walks the iterator and fills the list at D -/
theorem turnsH {s3 : Shared} {σ : L2.St} {H3 : Hp} {Q : VK} {elt tg iter : Expr} {ifs : List Expr} {scope : Scope} {own : List (Str × Nat)} {pos : Pos} {g : TG} {tt : TT} {te : TE} {Fin : Result → Shared → Prop}
    {ce : Env} {fp : List Addr} {tn : Nat → Heap → Prop} {J : It} {it D0 : Addr} {Wt : Nat → Nat → Hp → Prop} {m0 : Nat} {s4 : Shared}
    (hotB : L2H.HotC (blkH X px s3 H3 scope ce fp)) (Tn : L2H.TurnH X.prog X.w X.K tg J fp it tn) (pg : PG (blkH X px s3 H3 scope ce fp) tg g) (pt : PTs (blkH X px s3 H3 scope ce fp) ifs tt) (pe : PE (blkH X px s3 H3 scope ce fp) elt te)
    (turn : ∀ i m H, Wt i m H → (J.stop i H ∧ Q (.ref D0) H) ∨ (J.go i H ∧ ∃ Nx : Hp → Prop, (∀ H', Nx H' → ∃ m', m' < m ∧ Wt (i + 1) m' H') ∧ ∀ x H', J.yld i H x H' → g x (wipe σ (own.map (·.2))) H' fun σ2 H2 => wipe σ2 (own.map (·.2)) = wipe σ (own.map (·.2)) ∧
      tt σ2 H2 fun b H3 => if b = true then te σ2 H3 fun y H4 => ∃ acc, H4 D0 = some (.lst acc) ∧ acc.length < sizeLine ∧ Nx (upd H4 D0 (.lst (acc ++ [y]))) else Nx H3))
    (far : ∀ b ∈ fp, px.1 ≠ b) (I4 : Inv (blkH X px s3 H3 scope ce fp) [] (wipe σ (own.map (·.2))) H3 s4) (st4 : tn 0 s4.heap) (n4 : ∀ b ∈ fp, H3 b = none) (w4 : Wt 0 m0 H3)
    (hfin : ∀ s6 H5, Inv (blkH X px s3 H3 scope ce fp) [] (wipe σ (own.map (·.2))) H5 s6 → Q (.ref D0) H5 → Fin (.ok .next) s6) :
    codeAny (model X.prog X.w) X.A (.compLoop (.ListComp elt [⟨tg, iter, ifs, 0⟩] scope pos) 0 (.ref it) (.ref D0) ce) Fin s4 := by
  have okF : ∀ {σ' : L2.St} {H' : Hp} {s' : Shared}, Inv (blkH X px s3 H3 scope ce fp) [] σ' H' s' → (∀ b ∈ fp, H' b = none) → ∀ b ∈ fp, FpOk (blkH X px s3 H3 scope ce fp) [] H' b := fun {σ' H' s'} I' hn b hb =>
    ⟨hn b hb, (I'.ok.exf b hb).1, I'.ok.exfs b hb, .inl hb, fun y c e => (I'.ok.exf b hb).2 y c e, fun q hq => by
      have eq : q = px := by simpa using (show q ∈ [px] ++ ([] : List (Addr × Obj)) from hq)
      rw [eq]; exact far b hb⟩
  refine compLoop_any (fun n s' => ∃ i H', Inv (blkH X px s3 H3 scope ce fp) [] (wipe σ (own.map (·.2))) H' s' ∧ tn i s'.heap ∧ (∀ b ∈ fp, H' b = none) ∧ Wt i n H') ?_ m0 ⟨0, H3, I4, st4, n4, w4⟩
  intro n s5 ⟨i, H5, I5, st5, n5, w5⟩
  rcases turn i n H5 w5 with ⟨stop, q⟩ | ⟨go, Nx, hNx, step⟩
  · refine thnF (Tn.done (blkH X px s3 H3 scope ce fp) rfl rfl rfl hotB i [] s5 _ H5 (fun _ _ => False) I5 (okF I5 n5) st5 stop) fun r s6 hh => ?_
    rw [hh.1]
    exact hfin s6 H5 hh.2 q
  · refine thnF (Tn.item (blkH X px s3 H3 scope ce fp) rfl rfl rfl hotB i [] s5 _ H5 (fun _ _ => False) I5 (okF I5 n5) st5 go) fun r s6 hh => ?_
    obtain ⟨u, rfl, h6⟩ := hh
    refine thnF h6 fun _ s7 ⟨y, H7, I7, r7, y7, st7, n7⟩ => ?_
    have P7 := I7.pinned (okF I7 n7) (Tn.obj _ _ st7)
    refine thnF (pg.run _ s7 _ H7 y u _ P7 r7 (step y H7 y7)) fun _ s8 ⟨σ8, H8, I8, wp8, q8⟩ => ?_
    refine thnF (pt.run _ s8 σ8 H8 _ I8 q8) fun b s9 ⟨H9, I9, q9⟩ => ?_
    have lap : ∀ {s' : Shared} {H' : Hp}, Inv (blkH X px s3 H3 scope ce fp) ([] ++ pinsAt fp s7.heap) σ8 H' s' → Nx H' → ∃ m, m < n ∧ ∃ i H', Inv (blkH X px s3 H3 scope ce fp) [] (wipe σ (own.map (·.2))) H' s' ∧ tn i s'.heap ∧ (∀ b ∈ fp, H' b = none) ∧ Wt i m H' := fun {s' H'} I' nx => by
      obtain ⟨m', hm, w'⟩ := hNx H' nx
      have still : ∀ b ∈ fp, ∀ o, s7.heap.get? b = some o → s'.heap.get? b = some o ∧ H' b = none := fun b hb o e => by
        obtain ⟨z1, z2, _⟩ := I'.pin (b, o) (List.mem_append_right _ (List.mem_append_right _ (mem_pinsAt hb e)))
        exact ⟨z1, z2⟩
      refine ⟨m', hm, i + 1, H', (I'.unpinned (pins := [])).weak (by rw [← wp8, wipe_length]) (fun j v e => ?_), Tn.keep _ _ _ st7 fun b hb o e => (still b hb o e).1, fun b hb => ?_, w'⟩
      · rw [← wp8] at e
        exact (wipe_some e).1
      · obtain ⟨o, e, _⟩ := Tn.obj _ _ st7 b hb
        exact (still b hb o e).2
    match b, q9 with
    | false, q9 => exact lap I9 q9
    | true, q9 =>
      refine thnF (pe.run _ s9 σ8 H9 _ I9 q9) fun z s10 ⟨yv, H10, I10, r10, acc, hacc, hz, nx⟩ => ?_
      exact app_ok (X := blkH X px s3 H3 scope ce fp) I10 hacc hz r10 fun s11 I11 => lap I11 nx
theorem pe_lcH {elt tg iter : Expr} {ifs : List Expr} {scope : Scope} {own : List (Str × Nat)} {pos : Pos} {wi : TI} {g : TG} {tt : TT} {te : TE} (hot : L2H.Hot1 X.A px) (hpx : px ∈ X.pn) (hN : X.N.Nodup) (hi : L2H.PIH X tg iter wi) (ok : BlkOk X.N X.env.scope scope own)
    (hb : ∀ (s : Shared) (H : Hp) (C : Addr) (cl : List (Str × Addr)) (fp : List Addr), PG (blkH X px s H scope (compEnvC scope cl C X.env) fp) tg g ∧ PTs (blkH X px s H scope (compEnvC scope cl C X.env) fp) ifs tt ∧ PE (blkH X px s H scope (compEnvC scope cl C X.env) fp) elt te)
    (hs : ∀ v, foldedSetIterable iter X.env v = pure v := by intro _; rfl) :
    PE X (.ListComp elt [⟨tg, iter, ifs, 0⟩] scope pos) (tLc wi g tt te (own.map (·.2))) := by
  constructor
  intro pins s σ H Q I h
  rw [eval_ListComp]
  have cells : ∀ y ∈ scope.names, y.2 = .free → ∃ c, X.env.cells.lookup y.1 = some c := fun y hy e => (ok.free y hy e).elim (fun k => I.ok.has _ (.inl k)) fun k => I.ok.has _ (.inr k)
  refine wpAny_comprehension_free (use := none) rfl hs (closure_ok cells) ok.kind (fun y hy e => by rw [ok.uniq y hy, e]) (thn (hi.run pins s σ H _ I h) fun xv s1 hx => thn hx fun itv s2 h2 => ?_)
  obtain ⟨it, fp, tn, J, H2, rfl, I2, Tn, st2, f2, q⟩ := h2
  refine wpAny_newObj_type (newEnv_comp ?_) (by show 0 ≤ sizeLine; decide)
  generalize hD : s2.heap.objs.size = D0
  obtain ⟨Wt, ⟨m0, w0⟩, turn⟩ := q D0 (I2.hok.fresh (Nat.le_of_eq hD))
  generalize hs3 : ({ s2 with heap := s2.heap.push { cls := .type "list", data := .seq ([] : List Value).toArray } } : Shared) = s3
  have h3 : s3.heap = s2.heap.push { cls := .type "list", data := .seq ([] : List Value).toArray } := by rw [← hs3]
  have I3 : Inv X pins σ (upd H2 D0 (.lst [])) s3 := by
    rw [← hs3]
    exact I2.laid (t' := s2.toks) (fun b o e => Heap.get?_push_of_some _ e) (Nat.le_of_eq hD) ⟨Nat.zero_le _, [], 0, .nil, by rw [← hD]; exact Heap.get?_push_size _ rfl⟩
  have f3 : ∀ b ∈ fp, FpOk X pins (upd H2 D0 (.lst [])) b ∧ b < s3.heap.objs.size := fun b hb => by
    obtain ⟨o, e, _⟩ := Tn.obj _ _ st2 b hb
    have lt := Heap.lt_size e
    exact ⟨⟨(upd_ne (by rw [← hD]; exact Nat.ne_of_lt lt)).trans (f2 b hb).1, (f2 b hb).2⟩, by rw [h3, Heap.size_push]; exact Nat.lt_succ_of_lt lt⟩
  have st3 : tn 0 s3.heap := Tn.keep _ _ _ st2 fun b _ o e => by rw [h3]; exact Heap.get?_push_of_some _ e
  have B0 := block_start I3 ok hN f3
  obtain ⟨p1, p2, p3, p4, p5⟩ := I3.pin px (List.mem_append_left _ hpx)
  obtain ⟨pg, pt, pe⟩ := hb s3 (upd H2 D0 (.lst [])) s3.heap.objs.size (cellsFrom (s3.heap.objs.size + 1) scope.names (cloFrom X.env.cells scope.names [])) fp
  show codeAny _ _ (.compStart (.ListComp elt [⟨tg, iter, ifs, 0⟩] scope pos) 0 (.ref it) (.ref D0) (compEnvC scope (cellsFrom (s3.heap.objs.size + 1) scope.names (cloFrom X.env.cells scope.names [])) s3.heap.objs.size X.env)) _ { s3 with heap := pushCells (s3.heap.push { cls := .type "dict", data := .dict #[] }) scope.names }
  generalize hce : compEnvC scope (cellsFrom (s3.heap.objs.size + 1) scope.names (cloFrom X.env.cells scope.names [])) s3.heap.objs.size X.env = ce at B0 pg pt pe ⊢
  have cL : ce.locals = s3.heap.objs.size := by subst hce; rfl
  generalize hH3 : upd H2 D0 (.lst []) = H3 at I3 B0 pg pt pe w0 f3 p2
  have grown : ∀ b o, s3.heap.get? b = some o → (pushCells (s3.heap.push { cls := .type "dict", data := .dict #[] }) scope.names).get? b = some o := fun b o e => pushCells_keeps _ _ _ _ (Heap.get?_push_of_some _ e)
  have B1 : Inv (blkH X px s3 H3 scope ce fp) [] (wipe σ (own.map (·.2))) H3 { s3 with heap := pushCells (s3.heap.push { cls := .type "dict", data := .dict #[] }) scope.names } := by
    refine ⟨B0.ok.toTry _ _, B0.os, B0.bare, B0.base, B0.loc, B0.cell, B0.free, B0.freeC, fun q hq => ?_, B0.hok, B0.len⟩
    have eq : q = px := by simpa using (show q ∈ [px] ++ ([] : List (Addr × Obj)) from hq)
    rw [eq]
    refine ⟨grown _ _ p1, p2, fun z => ?_, fun hm => ?_, p5⟩
    · have z : px.1 = ce.locals := z
      exact absurd (Heap.lt_size p1) (by rw [z, cL]; exact Nat.lt_irrefl _)
    · exact (List.mem_cons.mp (I3.stkSub px.1 hm)).elim p3 p4
  have far : ∀ b ∈ fp, px.1 ≠ b := fun b hb => (f3 b hb).1.2.2.2.2.2 px (List.mem_append_left _ hpx)
  have st4 : tn 0 (pushCells (s3.heap.push { cls := .type "dict", data := .dict #[] }) scope.names) := Tn.keep _ _ _ st3 fun b _ o e => grown b o e
  refine (fun loop => codeAny_compStart_list loop (Tn.self X.A 0 _ _ _ st4 loop)) (turnsH (s3 := s3) (H3 := H3) (scope := scope) (fp := fp) (own := own) ⟨px, hot, List.mem_singleton.mpr rfl⟩ Tn pg pt pe turn far B1 st4 (fun b hb => (f3 b hb).1.1) w0 fun s6 H5 I6 qq => ?_)
  have I7 : Inv X pins σ H5 s6 := I3.call' (ch := fp) I6.os I6.base I6.hok I6.bare fun b hb => ⟨(f3 b hb).1.2.2.2.1, (f3 b hb).1.2.1, (f3 b hb).1.2.2.2.2.1, (f3 b hb).1.2.2.2.2.2⟩
  have nC : H5 s3.heap.objs.size = none := cL ▸ (show H5 ce.locals = none from I6.free)
  obtain ⟨m, hn, _⟩ := I6.loc
  have hn : s6.heap.Ns s3.heap.objs.size m := cL ▸ (show s6.heap.Ns ce.locals m from hn)
  obtain ⟨f0, f1, _, f4, f5, f6⟩ := I3.fpOk (Nat.le_refl _) nC
  exact ⟨m, hn, fun h'' sb => ⟨.ref D0, H5, I7.turned (t' := s6.toks) (fun b o hb e => (sb.2 b hb).trans e) f0 f1 f4 f5 f6, rfl, qq⟩⟩
end

/-! ### as data -/
section
variable {X : Cx} {T : List Addr} {W : WX} {pos p : Pos} {elt tg iter a : Expr} {ifs : List Expr} {scope : Scope} {own : List (Str × Nat)} {fi fs : EnvD → M (List D)} {ft : MT} {us : List Nat} {tt : EnvD → M Bool} {te : EnvD → M D} {gr : Bool} {k : Nat} {xa : Addr} {xc : Str}
abbrev PIVH (X : Cx) (T : List Addr) (tg iter : Expr) (fi : EnvD → M (List D)) : Prop := L2H.PIH X tg iter (tI X.K T X.mg W0 fi)
theorem i_range1H (hg : Gl X "range") (hm : X.mg "range" = none) (ha : PVs X T W0 [a] fs) (hs : starEach [a] X.env = [(false, eval a X.env)] := by rfl) : PIVH X T tg (.Call (.Name "range" p) [a] [] pos) (fun env => do let ds ← fs env; rng1 ds) :=
  ⟨fun pins s σ H Rr I h => (L2H.pi_range1H (tg := tg) (p := p) (pos := pos) hg hm ha hs).run pins s σ H Rr I (args_iter h fun Φ vs ds H1 F1 ρ1 G1 r G' R1 r1 e2 h => by
    unfold rng1 at e2
    split at e2
    · rename_i j
      split at e2
      · rename_i hj
        cases e2
        obtain ⟨v, rfl, rv⟩ := r1.one
        cases rv
        exact ⟨j, rfl, hj.1, hj.2, h _ H1 F1 ρ1 R1 (Same.refl _) (List.prefix_refl _) j_range⟩
      · cases e2
    · cases e2)⟩
theorem StandH.blk (S : StandH X k xa xc) {px : Addr × Obj} (h1 : L2H.Hot1 X.A px) (h2 : px.1 = xa) (h3 : ∃ C : Addr, X.mg xc = some (.ref C) ∧ Zc (.ref C) none px.2) {s : Shared} {H : Hp} {ce : Env} {fp : List Addr} : StandH (blkH X px s H scope ce fp) k xa xc :=
  ⟨S.gu, S.room, ⟨px, h1, List.mem_singleton.mpr rfl, h2, h3⟩, S.ex, S.mem⟩
abbrev InBlkH (X : Cx) (T : List Addr) (k : Nat) (xa : Addr) (xc : Str) (scope : Scope) (tg elt : Expr) (ifs : List Expr) (us : List Nat) (ft : MT) (tt : EnvD → M Bool) (te : EnvD → M D) (gr : Bool) : Prop :=
  ∀ (px : Addr × Obj) (s : Shared) (H : Hp) (C : Addr) (cl : List (Str × Addr)) (fp : List Addr), StandH (blkH X px s H scope (compEnvC scope cl C X.env) fp) k xa xc →
    PGV (blkH X px s H scope (compEnvC scope cl C X.env) fp) T us tg ft ∧ PTsV (blkH X px s H scope (compEnvC scope cl C X.env) fp) T ifs tt ∧ PV (blkH X px s H scope (compEnvC scope cl C X.env) fp) T W0 gr elt te
theorem mkLcH (S : StandH X k xa xc) (nd : X.N.Nodup) (hi : PIVH X T tg iter fi) (ok : BlkOk X.N X.env.scope scope own) (hu : ∀ i ∈ us, i ∈ own.map (·.2)) (h : InBlkH X T k xa xc scope tg elt ifs us ft tt te gr) (hs : ∀ x, foldedSetIterable iter X.env x = pure x := by intro _; rfl) :
    PV X T W0 true (.ListComp elt [⟨tg, iter, ifs, 0⟩] scope pos) (lcM fi ft tt te (own.map (·.2))) := by
  obtain ⟨px, h1, hpn, h2, h3⟩ := S.hot
  exact PE.imp (pe_lcH h1 hpn nd hi ok (fun s H C cl fp => h px s H C cl fp (S.blk h1 h2 h3)) hs) fun σ H Q h => lc_go hu h
end

/-- try: a value back, or the class's own value -/
def tryS (n0 : Nat) (hd : Str → D) (fb : MS) : MS := fun env G => match fb env G with
  | some (.ex c env', G') => if c ∈ excL ∧ env'.length = n0 then some (.ret (hd c) true, G') else none
  | r => r
section
variable {X : Cx} {T : List Addr} {W : WX} {n : Str} {i n0 k : Nat} {body suite : List Stmt} {st0 : Stmt} {np pos pos' : Pos} {fb : MS} {fh : Addr → Str → MS} {hd : Str → D}
theorem s_tryT (S : Stand X k W) (t : ExcT X.K X.mg) (hs : X.stack = X.env :: X.outer) (hf : X.env.frame = some X.env.locals) (hN : X.N.Nodup) (hi : X.N[i]? = some n) (hk : X.env.kindOf n = some .cell) (hfn : X.fn n = true) (hgS : Gl X "StepError")
    (hb : ∀ (W' : WX) (pn : List (Addr × Obj)) (xe : Value → Shared → Prop), Stand (X.tr pn xe) k W' → PSsV (X.tr pn xe) T W' body fb)
    (hsu : ∀ (a : Addr) (c : Str) (pn : List (Addr × Obj)), StandH (X.suite a pn) k a c → PSsV (X.suite a pn) T W0 (st0 :: suite) (fh a c))
    (hh : ∀ (a : Addr) (c : Str) (env : EnvD) (G : Gh), c ∈ excL → env.length = n0 → fh a c (env.set i (some (.exn a c))) G = some (.ret (hd c) true, G)) :
    PSV X T W (.Try body [.ExceptHandler (some (.Name "StepError" np)) (some n) (st0 :: suite) pos'] [] [] pos) (tryS n0 hd fb) := by
  obtain ⟨SE, hmS, hSE⟩ := t.step
  refine PS.imp (ps_tryC (cv := .ref SE) (tb := fun W' => tS X.K T X.mg W' fb) (ts := fun a cls d => fun Dn σ H => d = none ∧ ∃ c ∈ excL, X.mg c = some cls ∧ tS X.K T X.mg W0 (fh a c) Dn σ H) hs hf hN hi hk hfn ⟨hgS, by decide, .inl hmS⟩
    (fun W' pn xe tk => hb W' pn xe ⟨S.calm, S.gu, ⟨S.room.hd, S.room.dp, S.room.un⟩, tk⟩)
    (fun a oe cls d pn z f => ⟨fun pins s σ H Dn I h => ?_⟩)) fun Dn σ H h => ?_
  · obtain ⟨rfl, c, hc, hm, h⟩ := h
    obtain ⟨C, hmC, _⟩ := t.ref c hc
    rw [hm] at hmC
    cases hmC
    exact (hsu a c _ (S.suite t hc hm z f)).run pins s σ H Dn I h
  · obtain ⟨Φ, F, ρ, G, env, hR, hS, o, G', e, h⟩ := h
    unfold tryS at e
    refine ⟨Φ, F, ρ, G, env, hR, hS, ?_⟩
    cases q : fb env G with
    | none => rw [q] at e; cases e
    | some z =>
      obtain ⟨o1, G1⟩ := z
      rw [q] at e
      refine ⟨o1, G1, rfl, ?_⟩
      cases o1 with
      | nx _ => cases e; exact h
      | bk _ => cases e; exact h
      | ct _ => cases e; exact h
      | ret _ _ => cases e; exact h
      | ex c e1 =>
        dsimp only at e
        split at e
        rotate_left
        · cases e
        rename_i hc
        cases e
        intro cls σ' H' F' ρ' hm R1 s1 p1 S1
        obtain ⟨C, hmC, _⟩ := t.ref c hc.1
        have ecls : cls = .ref C := by rw [hm] at hmC; exact Option.some.inj hmC
        refine ⟨ecls ▸ (hSE c hc.1 C hmC).1, fun a na => ⟨rfl, c, hc.1, hm, Φ, F', ρ', _, e1.set i (some (.exn a c)), R1, S1.set (.exn a c), _, _, hh a c e1 _ hc.1 hc.2, ?_⟩⟩
        exact fun v H2 F2 ρ2 R2 s2 p2 r2 f2 => h v H2 F2 ρ2 R2 (s1.trans s2) (p1.trans p2) r2 fun z => (f2 z).from s1
end
end L2.GL
namespace L2.GL
open PySem
/-- what the laws' handlers give back: the class's place -/
def hdL (c : Str) : D := .lst [.int (excL.idxOf c)]
end L2.GL
end

section
set_option Elab.async false
set_option linter.all false
set_option maxRecDepth 100000
set_option autoImplicit false
/-! G36: runs that end with an exception. -/
namespace L2.GL
open PySem PySem.Spec PyProof.Rows

def exM {α : Type} (m : M α) (G : Gh) (c : Str) (q : Gh → Prop) : Prop := ∃ G', m G = some (.ex c, G') ∧ q G'
def exS (f : MS) (env : EnvD) (G : Gh) (c : Str) (q : EnvD → Gh → Prop) : Prop := ∃ e G', f env G = some (.ex c e, G') ∧ q e G'
section
variable {α β : Type} {G : Gh} {c : Str} {q q' : Gh → Prop} {env : EnvD} {f g : MS} {r r' : EnvD → Gh → Prop} {fe : EnvD → M D} {i : Nat} {b : Bool}
theorem exM.mono {m : M α} (h : exM m G c q) (k : ∀ G', q G' → q' G') : exM m G c q' := by
  obtain ⟨G', e, z⟩ := h
  exact ⟨G', e, k _ z⟩
theorem exM_b1 {m : M β} {k : β → M α} (h : exM m G c q) : exM (m >>= k) G c q := by
  obtain ⟨G', e, z⟩ := h
  exact ⟨G', bind_ex e, z⟩
theorem exM_b2 {m : M β} {k : β → M α} (h : wpM m G fun a G1 => exM (k a) G1 c q) : exM (m >>= k) G c q := by
  obtain ⟨a, G1, e, G', e2, z⟩ := h
  exact ⟨G', (bind_ok e).trans e2, z⟩
theorem exM_run {m : M α} {k : α → Gh → RO} (h : exM m G c fun G' => r env G') : exS (fun env G => runE m env k G) env G c r := by
  obtain ⟨G', e, z⟩ := h
  exact ⟨env, G', by dsimp only; unfold runE; rw [e], z⟩
theorem exS_raise : exS (raiseS c) env G c r ↔ r env G := ⟨fun ⟨_, _, e, h⟩ => by cases e; exact h, fun h => ⟨env, G, rfl, h⟩⟩
theorem exS_seq1 (h : exS f env G c r) : exS (seqS f g) env G c r := by
  obtain ⟨e, G', q, z⟩ := h
  exact ⟨e, G', by unfold seqS; rw [q], z⟩
theorem exS_seq2 (h : wpS f env G { nx := fun e G1 => exS g e G1 c r, rt := fun _ _ _ => False }) : exS (seqS f g) env G c r := by
  obtain ⟨o, G1, q, z⟩ := h
  cases o with
  | nx e1 =>
    obtain ⟨e, G', q2, z⟩ := z
    exact ⟨e, G', by unfold seqS; rw [q]; exact q2, z⟩
  | ret _ _ => exact z.elim
  | bk _ => exact z.elim
  | ct _ => exact z.elim
  | ex _ _ => exact z.elim
theorem exS_drop (h : exM (fe env) G c (r env)) : exS (dropS fe) env G c r := by
  obtain ⟨G', e, z⟩ := h
  exact ⟨env, G', by unfold dropS runE; rw [e], z⟩
theorem exS_ret (h : exM (fe env) G c (r env)) : exS (retS fe b) env G c r := by
  obtain ⟨G', e, z⟩ := h
  exact ⟨env, G', by unfold retS runE; rw [e], z⟩
theorem exS_set (h : exM (fe env) G c (r env)) : exS (setS i fe) env G c r := by
  obtain ⟨G', e, z⟩ := h
  exact ⟨env, G', by unfold setS runE; rw [e], z⟩
theorem exS_ifc {t : EnvD → M Bool} (h : exM (t env) G c (r env)) : exS (ifS t f g) env G c r := by
  obtain ⟨G', e, z⟩ := h
  exact ⟨env, G', by unfold ifS runE; rw [e], z⟩
theorem exS_if {t : EnvD → M Bool} (h : wpM (t env) G fun b G1 => if b = true then exS f env G1 c r else exS g env G1 c r) : exS (ifS t f g) env G c r := by
  obtain ⟨a, G1, e, z⟩ := h
  by_cases ha : a = true
  · rw [if_pos ha] at z
    obtain ⟨e2, G', q2, z⟩ := z
    exact ⟨e2, G', by unfold ifS runE; rw [e]; dsimp only; rw [if_pos ha]; exact q2, z⟩
  · rw [if_neg ha] at z
    obtain ⟨e2, G', q2, z⟩ := z
    exact ⟨e2, G', by unfold ifS runE; rw [e]; dsimp only; rw [if_neg ha]; exact q2, z⟩
theorem exM_def {m n : Nat} {ds : List D} (hl : ds.length = m) (h : exS f (ds.map some ++ List.replicate (n - ds.length) none) G c fun _ G' => q (G'.take G.length)) : exM (defM m n b f ds) G c q := by
  obtain ⟨e, G', z, hq⟩ := h
  exact ⟨_, by unfold defM; rw [if_pos hl, z], hq⟩
@[simp ↓] theorem wpS_raise {k : K4} : wpS (raiseS c) env G k ↔ False := ⟨fun ⟨_, _, e, h⟩ => by cases e; exact h, False.elim⟩
theorem wpS_try_ok {n0 : Nat} {hd : Str → D} {k : K4} (h : wpS f env G k) : wpS (tryS n0 hd f) env G k := by
  obtain ⟨o, G', e, z⟩ := h
  refine ⟨o, G', ?_, z⟩
  unfold tryS
  rw [e]
  cases o with
  | ex _ _ => exact z.elim
  | _ => rfl
theorem wpS_try_ex {n0 : Nat} {hd : Str → D} {k : K4} (hc : c ∈ excL) (h : exS f env G c fun e G' => e.length = n0 ∧ k.rt (hd c) true G') : wpS (tryS n0 hd f) env G k := by
  obtain ⟨e, G', q, hl, z⟩ := h
  refine ⟨.ret (hd c) true, G', ?_, z⟩
  unfold tryS
  rw [q]
  dsimp only
  rw [if_pos ⟨hc, hl⟩]
/-- in both its outcomes a call's run is told -/
theorem exM.det {m : M α} (h : exM m G c fun G' => G' = G) : m G = some (.ex c, G) := by
  obtain ⟨_, e, rfl⟩ := h
  exact e
@[simp ↓] theorem wp_isX {xa : Addr} {xc : Str} {v : Bool} {Q : D → Gh → Prop} : wpM (isXM xa xc v (.exn xa xc)) G Q ↔ Q (.bl v) G := by
  unfold isXM
  simp
end
end L2.GL
end

section
set_option Elab.async false
set_option linter.all false
set_option maxRecDepth 100000
set_option autoImplicit false
set_option maxHeartbeats 1000000
/-! G37: == with a tuple of one text, and of a dict with a tuple: any thing beside them. -/
namespace PySem.SeqAt
open AutoSeq1 (wpAny_loadPart')
open MeetsSeq PySem.Spec
section
variable {A : Around} {s : Shared}
def DictAt (s : Shared) (a : Addr) : Prop := ∃ (dd : Option Addr) (es : Array DictEntry) (n : Nat) (sl : Array (Option Value)), s.heap.get? a = some { cls := .type "dict", dict := dd, data := .dict es n, slots := sl }
theorem DictAt.ty {a : Addr} (h : DictAt s a) : s.TypeIs (.ref a) "dict" := by
  obtain ⟨_, _, _, _, e⟩ := h
  exact ⟨_, e, rfl⟩
theorem dict_declines {a : Addr} {b : Value} {T : String} {prog : Program} {w : World} {E : Value → Shared → Prop} {Q : Value → Shared → Prop} (h : DictAt s a) (hb : s.TypeIs b T) (hs : isSubtype (.type T) (.type "dict") = pure false)
    (ha : argsOk "dict.__eq__" ⟨[.ref a, b], []⟩) (q : Q .notImplemented s) : wpAny (model prog w) A (call (.builtin "dict.__eq__") [.ref a, b]) Q E s := by
  refine wpAny_call_entry PySem.F.slot_dict_eq h.ty PySem.F.entry_dict_eq ?_ ha
  show wpAny _ _ (Builtin.Dict.dictSlotArgs "__eq__" ⟨[.ref a, b], []⟩ >>= _) _ _ s
  refine wpAny_bind ?_
  unfold Builtin.Dict.dictSlotArgs
  refine wpAny_bind (wpAny_notOrdered_dict h.ty ?_)
  show wpAny _ _ (pure (Value.ref a, b)) _ _ s
  refine wpAny_pure ?_
  refine wpAny_bind (wpAny_isInstance hb hs ?_)
  simp only [Bool.not_false, if_true]
  first
  | exact wpAny_bind (wpAny_rule (wpAny_pure ⟨_, rfl, q⟩))
  | exact wpAny_pure ⟨_, rfl, q⟩
theorem str_declines_dict (b : Str) (u : Tok) (l : Addr) (es : Array DictEntry) (n : Nat) (dd : Option Addr) (sl : Array (Option Value)) :
    Meets (Builtin.«str.__eq__» ⟨[.str b u, .ref l], []⟩) (fun _ R s => s.heap.get? l = some { cls := .type "dict", dict := dd, data := .dict es n, slots := sl } ∧ R (.ok (.ret .notImplemented)) s) :=
  .of_wp fun prog w A R s h => by obtain ⟨hp, g, d, tk, os⟩ := s; obtain ⟨hl, h⟩ := h; have f1 := F.sub_dict_str; wp_walk using wpAny_loadPart' hl, wpAny_load hl; exact ⟨_, rfl, h⟩
theorem tuple_declines_dict (l b : Addr) (items : Array Value) (n : Nat) (es : Array DictEntry) (n2 : Nat) (dd dd2 : Option Addr) (sl sl2 : Array (Option Value)) :
    Meets (Builtin.«tuple.__eq__» ⟨[.ref l, .ref b], []⟩) (fun _ R s => s.heap.get? l = some { cls := .type "tuple", dict := dd, data := .seq items n, slots := sl } ∧ s.heap.get? b = some { cls := .type "dict", dict := dd2, data := .dict es n2, slots := sl2 } ∧ R (.ok (.ret .notImplemented)) s) :=
  .of_wp fun prog w A R s h => by obtain ⟨hp, g, d, tk, os⟩ := s; obtain ⟨hl, hb, h⟩ := h; have f1 := F.sub_dict_tuple; wp_walk using wpAny_loadPart' hl, wpAny_loadPart' hb; exact ⟨_, rfl, h⟩
theorem RcAt.dict_str {l : Addr} (b : Str) (u : Tok) (h : DictAt s l) (hu : A.units < cLine) : RcAt A s (.ref l) (.str b u) false := fun prog w E Q q => by
  obtain ⟨dd, es, n, sl, ho⟩ := id h
  exact rc_eq_decline_or (k := false) h.ty (typeIs_str s b u) (by decide) F.sub_str_dict F.slot_dict_eq F.slot_str_eq_refl
    (fun _ hq => dict_declines h (typeIs_str s b u) F.sub_str_dict (F.args_dict_eq_2 _ _) hq)
    (fun _ hq => call_meets F.slot_str_eq_refl (typeIs_str s b u) F.entry_str_eq (F.args_str_eq_2 _ _) (str_declines_dict b u l es n dd sl) ⟨ho, hq⟩)
    (fun _ hq => wpAny_of_eq (rfl : isSame (.ref l) (.str b u) = pure false) hq) (.inr hu) q
theorem RcAt.str_dict {l : Addr} (b : Str) (u : Tok) (h : DictAt s l) (hu : A.units < cLine) : RcAt A s (.str b u) (.ref l) false := fun prog w E Q q => by
  obtain ⟨dd, es, n, sl, ho⟩ := id h
  exact rc_eq_decline_or (k := false) (typeIs_str s b u) h.ty (by decide) F.sub_dict_str F.slot_str_eq F.slot_dict_eq_refl
    (fun _ hq => call_meets F.slot_str_eq (typeIs_str s b u) F.entry_str_eq (F.args_str_eq_2 _ _) (str_declines_dict b u l es n dd sl) ⟨ho, hq⟩)
    (fun _ hq => dict_declines h (typeIs_str s b u) F.sub_str_dict (F.args_dict_eq_2 _ _) hq)
    (fun _ hq => wpAny_of_eq (rfl : isSame (.str b u) (.ref l) = pure false) hq) (.inr hu) q
theorem RcAt.dict_tuple {l b : Addr} {items : Array Value} (h : DictAt s l) (hb : s.heap.IsTuple b items) (hu : A.units < cLine) : RcAt A s (.ref l) (.ref b) false := fun prog w E Q q => by
  obtain ⟨dd, es, n, sl, ho⟩ := id h
  obtain ⟨⟨cls2, dd2, data2, sl2⟩, ho2, hc2, n2, hd2⟩ := id hb
  simp only at hc2 hd2
  subst hc2 hd2
  have hne : l ≠ b := fun e => by
    subst e
    have z := congrArg Obj.data (Option.some.inj (ho.symm.trans ho2))
    cases z
  exact (rc_eq_decline_or (k := false) h.ty ⟨_, ho2, rfl⟩ (by decide) F.sub_tuple_dict F.slot_dict_eq F.slot_tuple_eq_refl
    (fun _ hq => dict_declines h ⟨_, ho2, rfl⟩ F.sub_tuple_dict (F.args_dict_eq_2 _ _) hq)
    (fun _ hq => call_meets F.slot_tuple_eq_refl ⟨_, ho2, rfl⟩ F.entry_tuple_eq (F.args_tuple_eq_2 _ _) (tuple_declines_dict b l items n2 es n dd2 dd sl2 sl) ⟨ho2, ho, hq⟩)
    (fun _ hq => wpAny_isSame_ref_other hne ho ho2 (by simp) hq) (.inr hu) q)
theorem RcAt.tuple_dict {l b : Addr} {items : Array Value} (hb : s.heap.IsTuple b items) (h : DictAt s l) (hu : A.units < cLine) : RcAt A s (.ref b) (.ref l) false := fun prog w E Q q => by
  obtain ⟨dd, es, n, sl, ho⟩ := id h
  obtain ⟨⟨cls2, dd2, data2, sl2⟩, ho2, hc2, n2, hd2⟩ := id hb
  simp only at hc2 hd2
  subst hc2 hd2
  have hne : b ≠ l := fun e => by
    subst e
    have z := congrArg Obj.data (Option.some.inj (ho.symm.trans ho2))
    cases z
  exact (rc_eq_decline_or (k := false) ⟨_, ho2, rfl⟩ h.ty (by decide) F.sub_dict_tuple F.slot_tuple_eq F.slot_dict_eq_refl
    (fun _ hq => call_meets F.slot_tuple_eq ⟨_, ho2, rfl⟩ F.entry_tuple_eq (F.args_tuple_eq_2 _ _) (tuple_declines_dict b l items n2 es n dd2 dd sl2 sl) ⟨ho2, ho, hq⟩)
    (fun _ hq => dict_declines h ⟨_, ho2, rfl⟩ F.sub_tuple_dict (F.args_dict_eq_2 _ _) hq)
    (fun _ hq => wpAny_isSame_ref_other' hne ho2 ho (by simp) hq) (.inr hu) q)
theorem EqAt.dict_str {l : Addr} (b : Str) (u : Tok) (hl : DictAt s l) (hu : A.units < cLine) : EqAt A s (.ref l) (.str b u) false := fun prog w E Q h => by
  unfold eqBool
  exact wpAny_holding (wpAny_ite_split (fun e => absurd (eq_of_beq e) nofun) fun _ => wpAny_bind (RcAt.dict_str b u hl hu prog w E _ (wpAny_truthy_bool h)))
theorem EqAt.str_dict {l : Addr} (b : Str) (u : Tok) (hl : DictAt s l) (hu : A.units < cLine) : EqAt A s (.str b u) (.ref l) false := fun prog w E Q h => by
  unfold eqBool
  exact wpAny_holding (wpAny_ite_split (fun e => absurd (eq_of_beq e) nofun) fun _ => wpAny_bind (RcAt.str_dict b u hl hu prog w E _ (wpAny_truthy_bool h)))
end
end PySem.SeqAt

namespace L2.GL
open PySem PySem.Spec PyProof.Rows
/-- a first item beside a text -/
inductive HdV (K : PySem.W.Frag) (H : Hp) (t : Str) : V → Bool → Prop
  | str (x : Str) : HdV K H t (.str x) (decide (x = t))
  | int (i : Int) : HdV K H t (.int i) false
  | bl (b : Bool) : HdV K H t (.bl b) false
  | non : HdV K H t .non false
  | lst {a : Addr} {xs : List V} : SqL K H a xs → HdV K H t (.ref a) false
  | tup {a : Addr} {xs : List V} : SqT K H a xs → HdV K H t (.ref a) false
  | dct {a : Addr} {ks : List (Key × V)} : H a = some (.dK ks) → HdV K H t (.ref a) false
/-- a tuple beside a tuple of one text -/
def E1 (K : PySem.W.Frag) (H : Hp) (t : Str) (x : V) (b : Bool) : Prop := ∃ a xs, x = .ref a ∧ SqT K H a xs ∧ ((xs = [] ∧ b = false) ∨ ∃ x0 r b0, xs = x0 :: r ∧ HdV K H t x0 b0 ∧ b = (b0 && r.isEmpty))
def rEq1 (K : PySem.W.Frag) : R2 := fun x y H Q => ∃ c t b, y = .ref c ∧ SqT K H c [.str t] ∧ E1 K H t x b ∧ Q (.bl b) H
def rNe1 (K : PySem.W.Frag) : R2 := fun x y H Q => False
def rIn1 (K : PySem.W.Frag) : R2 := fun x y H Q => ∃ (c : Addr) (zs : List V) (ts : List (Str × Bool)), y = .ref c ∧ SqT K H c zs ∧ Paired (fun (z : V) (p : Str × Bool) => ∃ a, z = .ref a ∧ SqT K H a [.str p.1] ∧ E1 K H p.1 x p.2) zs ts ∧ Q (.bl (ts.any (·.2))) H
section
variable {X : Cx} {pins : List (Addr × Obj)} {σ : L2.St} {H : Hp} {s : Shared}
theorem hd_eq (I : Inv X pins σ H s) {t : Str} {x : V} {b : Bool} (h : HdV X.K H t x b) {v : Value} (r : RelV x v) (u : Tok) {A : Around} (hu : A.units < cLine) : SeqAt.EqAt A s v (.str t u) b ∧ SeqAt.EqAt A s (.str t u) v b := by
  cases h with
  | str x =>
    obtain ⟨k, rfl⟩ := r
    have e1 : (x == t) = decide (x = t) := by rw [Bool.eq_iff_iff, beq_iff_eq, decide_eq_true_iff]
    have e2 : (t == x) = decide (x = t) := by rw [Bool.eq_iff_iff, beq_iff_eq, decide_eq_true_iff]; exact eq_comm
    have h1 := SeqAt.EqAt.str_str (A := A) (s := s) x k t u
    have h2 := SeqAt.EqAt.str_str (A := A) (s := s) t u x k
    rw [e1] at h1
    rw [e2] at h2
    exact ⟨h1, h2⟩
  | int i =>
    obtain ⟨k, rfl⟩ := r
    exact ⟨SeqAt.EqAt.int_str i k t u, SeqAt.EqAt.str_int t u i k⟩
  | bl b =>
    obtain rfl : v = Value.bool b := r
    exact ⟨SeqAt.EqAt.bool_str b t u, SeqAt.EqAt.str_bool t u b⟩
  | non =>
    obtain rfl : v = Value.none := r
    exact ⟨SeqAt.EqAt.none_str t u, SeqAt.EqAt.str_none t u⟩
  | @lst a xs q =>
    obtain rfl : v = Value.ref a := r
    obtain ⟨us, _, p, _⟩ := I.list q
    exact ⟨SeqAt.EqAt.list_str t u p.isList hu, SeqAt.EqAt.str_list t u p.isList hu⟩
  | @tup a xs q =>
    obtain rfl : v = Value.ref a := r
    obtain ⟨us, _, p, _⟩ := I.tuple q
    exact ⟨SeqAt.EqAt.tuple_str t u p hu, SeqAt.EqAt.str_tuple t u p hu⟩
  | @dct a ks q =>
    obtain rfl : v = Value.ref a := r
    obtain ⟨_, ya, va, ra, da⟩ := (show ObjOk X.prog X.w H s.heap a (.dK ks) from I.hok a _ q)
    obtain ⟨oa, es, ep, hoa, hc, hda, _⟩ := da
    obtain ⟨oc, od, oda, osl⟩ := oa
    have hc : oc = Value.type "dict" := hc.1
    have hda : oda = .dict es ep := hda
    subst hc hda
    exact ⟨SeqAt.EqAt.dict_str t u ⟨_, _, _, _, hoa⟩ hu, SeqAt.EqAt.str_dict t u ⟨_, _, _, _, hoa⟩ hu⟩
theorem rc_nil {A : Around} {a c : Addr} {w : Value} (pu : s.heap.IsTuple a ([] : List Value).toArray) (pw : s.heap.IsTuple c [w].toArray) (hu : A.units < cLine) : SeqAt.RcAt A s (.ref a) (.ref c) false ∧ SeqAt.RcAt A s (.ref c) (.ref a) false :=
  ⟨SeqAt.RcAt.tuples (e := fun _ => true) pu pw hu (fun j h1 h2 => absurd h1 (Nat.not_lt_zero j)), SeqAt.RcAt.tuples (e := fun _ => true) pw pu hu (fun j h1 h2 => absurd h2 (Nat.not_lt_zero j))⟩
theorem rc_cons {A : Around} {a c : Addr} {w u0 : Value} {us : List Value} {b0 : Bool} (pu : s.heap.IsTuple a (u0 :: us).toArray) (pw : s.heap.IsTuple c [w].toArray) (hu : A.units < cLine) (q1 : SeqAt.EqAt A.in1 s u0 w b0) (q2 : SeqAt.EqAt A.in1 s w u0 b0) :
    SeqAt.RcAt A s (.ref a) (.ref c) (b0 && us.isEmpty) ∧ SeqAt.RcAt A s (.ref c) (.ref a) (b0 && us.isEmpty) := by
  have h1 := SeqAt.RcAt.tuples (A := A) (s := s) (e := fun _ => b0) pu pw hu (fun j h1 h2 => by
    have z : j = 0 := Nat.lt_one_iff.mp h2
    subst z
    exact q1)
  have h2 := SeqAt.RcAt.tuples (A := A) (s := s) (e := fun _ => b0) pw pu hu (fun j h1 h2 => by
    have z : j = 0 := Nat.lt_one_iff.mp h1
    subst z
    exact q2)
  have e1 : ((List.range (min (u0 :: us).toArray.size [w].toArray.size)).all (fun _ => b0) && (u0 :: us).toArray.size == [w].toArray.size) = (b0 && us.isEmpty) := by
    cases us <;> cases b0 <;> simp [List.size_toArray, Nat.min_def]
  have e2 : ((List.range (min [w].toArray.size (u0 :: us).toArray.size)).all (fun _ => b0) && [w].toArray.size == (u0 :: us).toArray.size) = (b0 && us.isEmpty) := by
    cases us <;> cases b0 <;> simp [List.size_toArray, Nat.min_def]
  exact ⟨e1 ▸ h1, e2 ▸ h2⟩
/-- the comparison, both ways -/
theorem e1_rc (I : Inv X pins σ H s) {t : Str} {x : V} {b : Bool} (h : E1 X.K H t x b) {c : Addr} (hc : SqT X.K H c [.str t]) {v : Value} (r : RelV x v) {A : Around} (hu : A.units + 1 < cLine) : ∃ a, v = .ref a ∧ SeqAt.RcAt A s (.ref a) (.ref c) b ∧ SeqAt.RcAt A s (.ref c) (.ref a) b := by
  obtain ⟨a, xs, rfl, ha, hx⟩ := h
  obtain rfl : v = Value.ref a := r
  obtain ⟨us, ru, pu, _⟩ := I.tuple ha
  obtain ⟨ws, rw', pw, _⟩ := I.tuple hc
  have hA : A.units < cLine := Nat.lt_of_succ_lt hu
  refine ⟨a, rfl, ?_⟩
  cases rw' with
  | cons r1 r2 =>
    cases r2
    obtain ⟨k, rfl⟩ := r1
    rcases hx with ⟨rfl, rfl⟩ | ⟨x0, rest, b0, rfl, hd, rfl⟩
    · cases ru
      exact rc_nil pu pw hA
    · cases ru with
      | cons r0 rr =>
        rename_i u0 us
        obtain ⟨q1, q2⟩ := hd_eq I hd r0 k (A := A.in1) hu
        have e : rest.isEmpty = us.isEmpty := by
          cases rr <;> rfl
        rw [e]
        exact rc_cons pu pw hA q1 q2
theorem op_eq1 (hu : X.A.units + 64 < cLine) : OpR X (compareOp .Eq) (rEq1 X.K) := by
  intro pins s σ H x y v u Q I rx ry h
  obtain ⟨c, t, b, rfl, hc, h1, q⟩ := h
  obtain rfl : u = Value.ref c := ry
  obtain ⟨a, rfl, k1, _⟩ := e1_rc I h1 hc rx (A := X.A) (by omega)
  exact k1 X.prog X.w _ _ ⟨.bl b, H, I, rfl, q⟩
theorem e1_same (I : Inv X pins σ H s) {t : Str} {b : Bool} {a : Addr} (h : E1 X.K H t (.ref a) b) (ha : SqT X.K H a [.str t]) : b = true := by
  obtain ⟨a', xs, e, ha', hx⟩ := h
  cases e
  have := I.tuple_inj ha' ha
  subst this
  rcases hx with ⟨e, _⟩ | ⟨x0, r, b0, e, hd, rfl⟩
  · cases e
  · cases e
    cases hd
    simp
theorem hd_fun (I : Inv X pins σ H s) {t : Str} {x : V} {b b' : Bool} (h : HdV X.K H t x b) (h' : HdV X.K H t x b') : b = b' := by
  cases h <;> cases h' <;> rfl
theorem e1_fun (I : Inv X pins σ H s) {t : Str} {x : V} {b b' : Bool} (h : E1 X.K H t x b) (h' : E1 X.K H t x b') : b = b' := by
  obtain ⟨a, xs, rfl, ha, hx⟩ := h
  obtain ⟨a', xs', e, ha', hx'⟩ := h'
  cases e
  have := I.tuple_inj ha ha'
  subst this
  rcases hx with ⟨rfl, rfl⟩ | ⟨x0, r, b0, rfl, hd, rfl⟩
  · rcases hx' with ⟨_, rfl⟩ | ⟨x0, r, b0, e, hd, rfl⟩
    · rfl
    · cases e
  · rcases hx' with ⟨e, _⟩ | ⟨x0', r', b0', e, hd', rfl⟩
    · cases e
    · cases e
      rw [hd_fun I hd hd']
open Classical in
theorem op_in1 (hu : X.A.units + 65 < cLine) : OpR X (compareOp .In) (rIn1 X.K) := by
  intro pins s σ H x y v u Q I rx ry h
  obtain ⟨c, zs, ts, rfl, hc, hp, q⟩ := h
  obtain rfl : u = Value.ref c := ry
  obtain ⟨us, ru, pu, _⟩ := I.tuple hc
  let e : Value → Bool := fun y => decide (∃ a t, y = .ref a ∧ SqT X.K H a [.str t] ∧ E1 X.K H t x true)
  have one : ∀ {a : Addr} {t : Str} {b : Bool}, SqT X.K H a [.str t] → E1 X.K H t x b → e (.ref a) = b := fun {a t b} ha hb => by
    cases b with
    | true => exact decide_eq_true ⟨a, t, rfl, ha, hb⟩
    | false =>
      refine decide_eq_false fun ⟨a', t', e1, ha', hb'⟩ => ?_
      cases e1
      have := I.tuple_inj ha ha'
      cases this
      cases e1_fun I hb hb'
  have all : ∀ {zs : List V} {us : List Value} {ts : List (Str × Bool)}, Vals zs us → Paired (fun (z : V) (p : Str × Bool) => ∃ a, z = .ref a ∧ SqT X.K H a [.str p.1] ∧ E1 X.K H p.1 x p.2) zs ts →
      (∀ y ∈ us, ∃ a t b, y = .ref a ∧ SqT X.K H a [.str t] ∧ E1 X.K H t x b) ∧ us.any e = ts.any (·.2) := by
    intro zs us ts r
    induction r generalizing ts with
    | nil =>
      intro hp
      cases hp
      exact ⟨fun y hy => (List.not_mem_nil hy).elim, rfl⟩
    | cons r1 rr ih =>
      intro hp
      cases hp with
      | cons h1 hr =>
        obtain ⟨a, rfl, ha, hb⟩ := h1
        rename_i z u us' z' p ts'
        obtain rfl : u = Value.ref a := r1
        obtain ⟨i1, i2⟩ := ih hr
        refine ⟨fun y hy => ?_, ?_⟩
        · rcases List.mem_cons.mp hy with rfl | hy
          · exact ⟨a, _, _, rfl, ha, hb⟩
          · exact i1 y hy
        · rw [List.any_cons, List.any_cons, i2, one ha hb]
  obtain ⟨k1, k2⟩ := all ru hp
  refine SeqAt.in_tupleAt e pu (fun y hy => ?_) ⟨.bl _, H, I, rfl, ?_⟩
  · obtain ⟨a, t, b, rfl, ha, hb⟩ := k1 y (by simpa using hy)
    rw [one ha hb]
    obtain ⟨a', rfl, _, r2⟩ := e1_rc I hb ha rx (A := X.A.in1) (by show X.A.units + 1 + 1 < _; omega)
    by_cases ea : a = a'
    · subst ea
      obtain ⟨a2, xs, e2, _⟩ := id hb
      subst e2
      cases (show Value.ref a = Value.ref a2 from rx)
      rw [e1_same I hb ha]
      exact SeqAt.EqAt.same _
    · exact SeqAt.EqAt.of_refs ea r2
  · rw [List.any_toArray, k2]
    exact q
end
end L2.GL
end

section
set_option Elab.async false
set_option linter.all false
set_option maxRecDepth 100000
set_option autoImplicit false
/-! G38: as data. -/
namespace L2.GL
open PySem PySem.Spec PyProof.Rows
def rEqH (K : PySem.W.Frag) : R2 := fun x y H Q => ∃ t b, y = .str t ∧ HdV K H t x b ∧ Q (.bl b) H
section
variable {X : Cx}
theorem op_eqH (hu : X.A.units + 64 < cLine) : OpR X (compareOp .Eq) (rEqH X.K) := by
  intro pins s σ H x y v u Q I rx ry h
  obtain ⟨t, b, rfl, h, q⟩ := h
  obtain ⟨k, rfl⟩ := ry
  have hu' : X.A.units < cLine := by omega
  have go : SeqAt.RcAt X.A s v (.str t k) b → wpAny (model X.prog X.w) X.A (compareOp .Eq v (.str t k)) (EP X pins σ Q) X.xe s := fun r => r X.prog X.w _ _ ⟨.bl b, H, I, rfl, q⟩
  cases h with
  | str x =>
    obtain ⟨j, rfl⟩ := rx
    have e1 : (x == t) = decide (x = t) := by rw [Bool.eq_iff_iff, beq_iff_eq, decide_eq_true_iff]
    have h1 := SeqAt.RcAt.str_str (A := X.A) (s := s) x j t k
    rw [e1] at h1
    exact go h1
  | int i =>
    obtain ⟨j, rfl⟩ := rx
    exact go (SeqAt.RcAt.int_str i j t k)
  | bl c =>
    obtain rfl : v = Value.bool c := rx
    exact go (SeqAt.RcAt.bool_str c t k)
  | non =>
    obtain rfl : v = Value.none := rx
    exact go (SeqAt.RcAt.none_str t k)
  | @lst a xs z =>
    obtain rfl : v = Value.ref a := rx
    obtain ⟨us, _, p, _⟩ := I.list z
    exact go (SeqAt.RcAt.list_str t k p.isList hu')
  | @tup a xs z =>
    obtain rfl : v = Value.ref a := rx
    obtain ⟨us, _, p, _⟩ := I.tuple z
    exact go (SeqAt.RcAt.tuple_str t k p hu')
  | @dct a ks z =>
    obtain rfl : v = Value.ref a := rx
    obtain ⟨_, ya, va, ra, da⟩ := (show ObjOk X.prog X.w H s.heap a (.dK ks) from I.hok a _ z)
    obtain ⟨oa, es, ep, hoa, hc, hda, _⟩ := da
    obtain ⟨oc, od, oda, osl⟩ := oa
    have hc : oc = Value.type "dict" := hc.1
    have hda : oda = .dict es ep := hda
    subst hc hda
    exact go (SeqAt.RcAt.dict_str t k ⟨_, _, _, _, hoa⟩ hu')
end
def hd1 (x : D) (t : Str) : Option Bool := match x with
  | .str s => some (decide (s = t))
  | .int _ => some false
  | .bl _ => some false
  | .non => some false
  | .lst _ => some false
  | .tup _ => some false
  | .dct _ => some false
  | _ => none
def eq1 (d : D) (t : Str) : Option Bool := match d with
  | .tup [] => some false
  | .tup (x :: r) => (hd1 x t).map fun b => b && r.isEmpty
  | _ => none
def eqH (d e : D) : M Bool := match e with
  | .str t => liftO (hd1 d t)
  | _ => stuck
def eqY (d e : D) : M Bool := match e with
  | .tup [.str t] => liftO (eq1 d t)
  | _ => stuck
def inL (d : D) : List D → Option Bool
  | [] => some false
  | e :: es => match e with
    | .tup [.str t] => (match eq1 d t, inL d es with
      | some a, some b => some (a || b)
      | _, _ => none)
    | _ => none
def inY (d e : D) : M Bool := match e with
  | .tup es => liftO (inL d es)
  | _ => stuck
section
variable {K : PySem.W.Frag} {T : Side} {mg : Str → Option Value} {W : WX} {H F : Hp} {ρ : List Addr} {G : Gh} {fr : Bool}
theorem hd1_V (hR : R K T H F ρ G) {x : V} {d : D} {t : Str} {b : Bool} (r : Dr K F ρ x d) (e : hd1 d t = some b) : HdV K H t x b := by
  cases r with
  | str x => cases e; exact .str x
  | int i => cases e; exact .int i
  | bl k => cases e; exact .bl k
  | non => cases e; exact .non
  | ty n => cases e
  | exn a c => cases e
  | dct h => cases e; exact .dct (hR.sub _ _ h)
  | tup h _ => cases e; exact .tup (Same.tup hR.sub h)
  | lst h _ => cases e; exact .lst (hR.sub.seq h)
  | cell h => cases e
theorem eq1_V (hR : R K T H F ρ G) {x : V} {d : D} {t : Str} {b : Bool} (r : Dr K F ρ x d) (e : eq1 d t = some b) : E1 K H t x b := by
  unfold eq1 at e
  cases r with
  | @tup a xs ds h rs =>
    cases rs with
    | nil => cases e; exact ⟨a, [], rfl, Same.tup hR.sub h, .inl ⟨rfl, rfl⟩⟩
    | @cons v vs d ds r1 rr =>
      dsimp only at e
      cases q : hd1 d t with
      | none => rw [q] at e; cases e
      | some b0 =>
        rw [q] at e
        cases e
        refine ⟨a, v :: vs, rfl, Same.tup hR.sub h, .inr ⟨v, vs, b0, rfl, hd1_V hR r1 q, ?_⟩⟩
        cases rr <;> rfl
  | _ => cases e
theorem one_V {v : V} {t : Str} (hR : R K T H F ρ G) (r : Dr K F ρ v (.tup [.str t])) : ∃ c, v = .ref c ∧ SqT K H c [.str t] := by
  cases r with
  | @tup a xs ds h rs =>
    cases rs with
    | cons r1 r2 =>
      cases r2
      cases r1
      exact ⟨a, rfl, Same.tup hR.sub h⟩
theorem o_eqY : OpV K mg fr (rEq1 K) fun d e => vB (eqY d e) := by
  intro T W σ x y d e H F ρ G Q hR rx ry h
  replace h : Run K T mg W σ fr F ρ (eqY d e >>= fun b => (Pure.pure (D.bl b) : M D)) G Q := h
  unfold eqY at h
  split at h
  · rename_i t
    obtain ⟨c, rfl, hc⟩ := one_V hR ry
    cases q : eq1 d t with
    | none =>
      rw [q] at h
      obtain ⟨r, G', e, _⟩ := h
      cases e
    | some b =>
      rw [q] at h
      exact ⟨c, t, b, rfl, hc, eq1_V hR rx q, Run.pure (d := .bl b) h hR (.bl b) fun _ => .of fun _ z => nomatch z⟩
  · obtain ⟨r, G', e, _⟩ := h
    cases e
theorem o_eqH : OpV K mg fr (rEqH K) fun d e => vB (eqH d e) := by
  intro T W σ x y d e H F ρ G Q hR rx ry h
  replace h : Run K T mg W σ fr F ρ (eqH d e >>= fun b => (Pure.pure (D.bl b) : M D)) G Q := h
  unfold eqH at h
  split at h
  · rename_i t
    cases ry
    cases q : hd1 d t with
    | none =>
      rw [q] at h
      obtain ⟨r, G', e, _⟩ := h
      cases e
    | some b =>
      rw [q] at h
      exact ⟨t, b, rfl, hd1_V hR rx q, Run.pure (d := .bl b) h hR (.bl b) fun _ => .of fun _ z => nomatch z⟩
  · obtain ⟨r, G', e, _⟩ := h
    cases e
theorem inL_V (hR : R K T H F ρ G) {x : V} {d : D} (rx : Dr K F ρ x d) : ∀ {zs : List V} {es : List D} {b : Bool}, DrA K F ρ zs es → inL d es = some b →
    ∃ ts : List (Str × Bool), Paired (fun (z : V) (p : Str × Bool) => ∃ a, z = .ref a ∧ SqT K H a [.str p.1] ∧ E1 K H p.1 x p.2) zs ts ∧ ts.any (·.2) = b
  | _, _, _, .nil, e => by cases e; exact ⟨[], .nil, rfl⟩
  | _, _, b, @DrA.cons _ _ _ z zs e es r1 rr, h => by
    unfold inL at h
    split at h
    · rename_i t
      cases q1 : eq1 d t with
      | none => rw [q1] at h; cases h
      | some a =>
        cases q2 : inL d es with
        | none => rw [q1, q2] at h; cases h
        | some b' =>
          rw [q1, q2] at h
          cases h
          obtain ⟨ts, h1, h2⟩ := inL_V hR rx rr q2
          obtain ⟨c, rfl, hc⟩ := one_V hR r1
          exact ⟨(t, a) :: ts, .cons ⟨c, rfl, hc, eq1_V hR rx q1⟩ h1, by rw [List.any_cons, h2]⟩
    · cases h
theorem o_inY : OpV K mg fr (rIn1 K) fun d e => vB (inY d e) := by
  intro T W σ x y d e H F ρ G Q hR rx ry h
  replace h : Run K T mg W σ fr F ρ (inY d e >>= fun b => (Pure.pure (D.bl b) : M D)) G Q := h
  unfold inY at h
  split at h
  · rename_i es
    cases ry with
    | @tup c zs _ hc rs =>
      cases q : inL d es with
      | none =>
        rw [q] at h
        obtain ⟨r, G', e, _⟩ := h
        cases e
      | some b =>
        rw [q] at h
        obtain ⟨ts, h1, h2⟩ := inL_V hR rx rs q
        refine ⟨c, zs, ts, rfl, Same.tup hR.sub hc, h1, ?_⟩
        rw [h2]
        exact Run.pure (d := .bl b) h hR (.bl b) fun _ => .of fun _ z => nomatch z
  · obtain ⟨r, G', e, _⟩ := h
    cases e
end
section
variable {G : Gh} {QB : Bool → Gh → Prop} {d : D} {t : Str}
@[simp ↓] theorem wp_eqY : wpM (eqY d (.tup [.str t])) G QB ↔ wpM (liftO (eq1 d t)) G QB := Iff.rfl
@[simp ↓] theorem wp_eqHs {a : Str} : wpM (eqH (.str a) (.str t)) G QB ↔ QB (decide (a = t)) G := wpM_pure
theorem wp_eqH : wpM (eqH d (.str t)) G QB ↔ wpM (liftO (hd1 d t)) G QB := Iff.rfl
@[simp ↓] theorem wp_inY {es : List D} : wpM (inY d (.tup es)) G QB ↔ wpM (liftO (inL d es)) G QB := Iff.rfl
end
end L2.GL
end

section
set_option Elab.async false
set_option linter.all false
set_option maxRecDepth 100000
set_option autoImplicit false
/-! G39: a dict != a tuple; three statements whose lists are handed on as data. -/
namespace PySem.SeqAt
open AutoSeq1 (wpAny_loadPart')
open MeetsSeq PySem.Spec
theorem tuple_ne_declines_dict (l b : Addr) (items : Array Value) (n : Nat) (es : Array DictEntry) (n2 : Nat) (dd dd2 : Option Addr) (sl sl2 : Array (Option Value)) :
    Meets (Builtin.«tuple.__ne__» ⟨[.ref l, .ref b], []⟩) (fun _ R s => s.heap.get? l = some { cls := .type "tuple", dict := dd, data := .seq items n, slots := sl } ∧ s.heap.get? b = some { cls := .type "dict", dict := dd2, data := .dict es n2, slots := sl2 } ∧ R (.ok (.ret .notImplemented)) s) :=
  .of_wp fun prog w A R s h => by obtain ⟨hp, g, d, tk, os⟩ := s; obtain ⟨hl, hb, h⟩ := h; have f1 := F.sub_dict_tuple; wp_walk using wpAny_loadPart' hl, wpAny_loadPart' hb; exact ⟨_, rfl, h⟩
section
variable {A : Around} {s : Shared}
theorem dict_declines_ne {a : Addr} {b : Value} {T : String} {prog : Program} {w : World} {E : Value → Shared → Prop} {Q : Value → Shared → Prop} (h : DictAt s a) (hb : s.TypeIs b T) (hs : isSubtype (.type T) (.type "dict") = pure false)
    (ha : argsOk "dict.__ne__" ⟨[.ref a, b], []⟩) (q : Q .notImplemented s) : wpAny (model prog w) A (call (.builtin "dict.__ne__") [.ref a, b]) Q E s := by
  refine wpAny_call_entry PySem.F.slot_dict_ne h.ty PySem.F.entry_dict_ne ?_ ha
  show wpAny _ _ (Builtin.Dict.dictSlotArgs "__ne__" ⟨[.ref a, b], []⟩ >>= _) _ _ s
  refine wpAny_bind ?_
  unfold Builtin.Dict.dictSlotArgs
  refine wpAny_bind (wpAny_notOrdered_dict h.ty ?_)
  show wpAny _ _ (pure (Value.ref a, b)) _ _ s
  refine wpAny_pure ?_
  refine wpAny_bind (wpAny_isInstance hb hs ?_)
  simp only [Bool.not_false, if_true]
  first
  | exact wpAny_bind (wpAny_rule (wpAny_pure ⟨_, rfl, q⟩))
  | exact wpAny_pure ⟨_, rfl, q⟩
theorem RcNeAt.dict_tuple {l b : Addr} {items : Array Value} (h : DictAt s l) (hb : s.heap.IsTuple b items) (hu : A.units < cLine) : RcNeAt A s (.ref l) (.ref b) true := fun prog w E Q q => by
  obtain ⟨dd, es, n, sl, ho⟩ := id h
  obtain ⟨⟨cls2, dd2, data2, sl2⟩, ho2, hc2, n2, hd2⟩ := id hb
  simp only at hc2 hd2
  subst hc2 hd2
  have hne : l ≠ b := fun e => by
    subst e
    have z := congrArg Obj.data (Option.some.inj (ho.symm.trans ho2))
    cases z
  exact (rc_ne_decline_or (k := false) h.ty ⟨_, ho2, rfl⟩ (by decide) F.sub_tuple_dict F.slot_dict_ne F.slot_tuple_ne_refl
    (fun _ hq => dict_declines_ne h ⟨_, ho2, rfl⟩ F.sub_tuple_dict (F.args_dict_ne_2 _ _) hq)
    (fun _ hq => call_meets F.slot_tuple_ne_refl ⟨_, ho2, rfl⟩ F.entry_tuple_ne (F.args_tuple_ne_2 _ _) (tuple_ne_declines_dict b l items n2 es n dd2 dd sl2 sl) ⟨ho2, ho, hq⟩)
    (fun _ hq => wpAny_isSame_ref_other hne ho ho2 (by simp) hq) (.inr hu) q)
end
end PySem.SeqAt
namespace L2.GL
open PySem PySem.Spec PyProof.Rows
/-- != of a dict with a tuple -/
def rNeQ (K : PySem.W.Frag) : R2 := fun x y H Q => ∃ a ks c ys, x = .ref a ∧ H a = some (.dK ks) ∧ y = .ref c ∧ SqT K H c ys ∧ Q (.bl true) H
theorem op_neQ {X : Cx} (hu : X.A.units + 64 < cLine) : OpR X (compareOp .NotEq) (rNeQ X.K) := by
  intro pins s σ H x y v u Q I rx ry h
  obtain ⟨a, ks, c, ys, rfl, z, rfl, hc, q⟩ := h
  obtain rfl : v = Value.ref a := rx
  obtain rfl : u = Value.ref c := ry
  obtain ⟨us, _, p, _⟩ := I.tuple hc
  obtain ⟨_, ya, va, ra, da⟩ := (show ObjOk X.prog X.w H s.heap a (.dK ks) from I.hok a _ z)
  obtain ⟨oa, es, ep, hoa, hcl, hda, _⟩ := da
  obtain ⟨oc, od, oda, osl⟩ := oa
  have hcl : oc = Value.type "dict" := hcl.1
  have hda : oda = .dict es ep := hda
  subst hcl hda
  exact SeqAt.RcNeAt.dict_tuple (A := X.A) ⟨_, _, _, _, hoa⟩ p (by omega) X.prog X.w _ _ ⟨.bl true, H, I, rfl, q⟩
def neQ (d e : D) : M Bool := match d, e with
  | .dct _, .tup _ => pure true
  | d, e => neX d e
def rNeXQ (K : PySem.W.Frag) : R2 := fun x y H Q => rNeQ K x y H Q ∨ rNeX K x y H Q
theorem op_neXQ {X : Cx} (hu : X.A.units + 64 < cLine) : OpR X (compareOp .NotEq) (rNeXQ X.K) := (op_neQ hu).or (op_neX hu)
theorem o_neXQ {K : PySem.W.Frag} {mg : Str → Option Value} {fr : Bool} : OpV K mg fr (rNeXQ K) fun d e => vB (neQ d e) := by
  intro T W σ x y d e H F ρ G Q hR rx ry h
  by_cases hs : (∃ ks, d = .dct ks) ∧ ∃ ys, e = .tup ys
  · obtain ⟨⟨ks, rfl⟩, ys, rfl⟩ := hs
    cases rx with
    | dct hx =>
      cases ry with
      | tup hy _ =>
        exact .inl ⟨_, _, _, _, rfl, hR.sub _ _ hx, rfl, Same.tup hR.sub hy, Run.pure (d := .bl true) h hR (.bl true) fun _ => .of fun _ z => nomatch z⟩
  · have q : neQ d e = neX d e := by
      cases d <;> first | rfl | (cases e <;> first | rfl | exact absurd ⟨⟨_, rfl⟩, _, rfl⟩ hs)
    refine .inr (o_neX (mg := mg) (fr := fr) T W σ x y d e H F ρ G Q hR rx ry ?_)
    replace h : Run K T mg W σ fr F ρ (vB (neQ d e)) G Q := h
    rw [q] at h
    exact h
section
variable {G : Gh} {QB : Bool → Gh → Prop} {ks : List (Str × Int)} {ys : List D}
@[simp ↓] theorem wp_neQd : wpM (neQ (.dct ks) (.tup ys)) G QB ↔ QB true G := wpM_pure
end
section
variable {X : Cx} {T : List Addr} {W : WX} {x1 x2 x3 : Stmt} {rest : List Stmt} {f1 f2 f3 g : MS}
theorem s_blk3 (h1 : PSV X T W x1 f1) (h2 : PSV X T W x2 f2) (h3 : PSV X T W x3 f3) (h4 : PSsV X T W rest g) : PSsV X T W (x1 :: x2 :: x3 :: rest) (seqS (blkS (seqS f1 (seqS f2 f3))) g) :=
  PSs.imp (pss_cons h1 (pss_cons h2 (pss_cons h3 h4))) fun Dn σ H ⟨Φ, F, ρ, G, env, hR, hS, h⟩ => by
    unfold seqS blkS at h
    cases q1 : f1 env G with
    | none => simp only [q1] at h; exact h.none
    | some r1 =>
      obtain ⟨o1, G1⟩ := r1
      simp only [q1] at h
      cases o1 with
      | nx e1 =>
        dsimp only at h
        cases q2 : f2 e1 G1 with
        | none => simp only [q2] at h; exact h.none
        | some r2 =>
          obtain ⟨o2, G2⟩ := r2
          simp only [q2] at h
          cases o2 with
          | nx e2 =>
            dsimp only at h
            cases q3 : f3 e2 G2 with
            | none => simp only [q3] at h; exact h.none
            | some r3 =>
              obtain ⟨o3, G3⟩ := r3
              simp only [q3] at h
              cases o3 with
              | nx e3 =>
                dsimp only at h
                refine ⟨Φ, F, ρ, G, env, hR, hS, .nx e1, G1, q1, fun σ1 H1 F1 ρ1 R1 s1 p1 S1 => ⟨Φ, F1, ρ1, G1, e1, R1, S1, .nx e2, G2, q2, fun σ2 H2 F2 ρ2 R2 s2 p2 S2 => ⟨Φ, F2, ρ2, G2, e2, R2, S2, .nx e3, G3, q3, fun σ3 H3 F3 ρ3 R3 s3 p3 S3 => ?_⟩⟩⟩
                obtain ⟨ν, z⟩ := (p1.trans p2).trans p3
                subst z
                refine ⟨Φ, frz H3 F3 ν, ρ, G3.take G.length, frzE G.length G3 e3, by rw [← hR.len]; exact R3.trunc, by rw [← hR.len]; exact RS.trunc R3 S3, h.from (((s1.trans s2).trans s3).trans (frz_same R3)) (List.prefix_refl _)⟩
              | bk _ => exact h.none
              | ct _ => exact h.none
              | ret _ _ => exact h.none
              | ex _ _ => exact h.none
          | bk _ => exact h.none
          | ct _ => exact h.none
          | ret _ _ => exact h.none
          | ex _ _ => exact h.none
      | bk _ => exact h.none
      | ct _ => exact h.none
      | ret _ _ => exact h.none
      | ex _ _ => exact h.none
end
end L2.GL
end

section
set_option Elab.async false
set_option linter.all false
set_option maxRecDepth 100000
set_option autoImplicit false
/-! G40: sorted(range(..), key=lambda x: ..), the lambda of one name. -/
namespace L2.GL
open PySem PySem.Spec PyProof.Rows PySem.W

section
variable {prog : Program} {w : World} {A : Around} {E : Value → Shared → Prop} {s : Shared} {R : Result → Shared → Prop}
/-- a lambda is called, whatever name its code object bears -/
theorem lam_callE {a : Addr} {args : Args} {o : Obj} {fd : FuncData} {body : Expr} {q : Str} (hroom : A.depth < recursionLimit)
    (ho : s.heap.get? a = some o)
    (hd' : o.data = .func fd) (hco : fd.scope.isCoroutine = false) (hgen : fd.scope.isGenerator = false) (hbody : fd.body = .expr body) (hcd : s.heap.CodeRec fd.code q)
    (h : wpAny (model prog w) A.in1 (bindArgs fd args) (fun binds s₁ =>
      wpAny (model prog w) A.in1 (newFunctionEnv fd.scope fd.globals fd.closure binds (q ++ ".<locals>.") (some a) fd.code none fd.builtins)
        (fun env s₂ => s₂.heap.NoLimit ∧ codeAny (model prog w) A (.expr body env) R s₂) (fun e s' => R (.error e) s') s₁) (fun e s' => R (.error e) s') s) :
    codeAny (model prog w) A (.call (.ref a) args) R s := by
  refine codeAny_of_tree ?_
  show wpAny _ A.in1 (callAny (.ref a) args) _ _ s
  simp only [callAny]
  refine wpAny_bind (wpAny_load ho ?_)
  obtain ⟨c, oc, vs, tq, hc, hoc, hdc, hq⟩ := hcd
  simp only [hd', callFunction, hco, hgen, hbody, hc]
  rw [hc] at h
  refine wpAny_bind (m := field (.ref c) 1) (wpAny_field hoc hdc hq (wpAny_bind (wpAny_pure ?_)))
  exact wpAny_bind (wpAny_mono h (fun binds s₁ h₁ => wpAny_bind (wpAny_mono h₁ (fun env s₂ h₂ => wpAny_bind (wpAny_enterFrame h₂.1 hroom
    (wpAny_pure (And.intro rfl h₂.2)))) fun _ _ h' => h')) fun _ _ h' => h')
end

/-- the scope of a lambda of the one name a, at slot i -/
structure LScp (N : List Str) (sc scope : Scope) (a : Str) (i : Nat) : Prop where
  blk : BlkOk N sc scope [(a, i)]
  co : scope.isCoroutine = false
  gen : scope.isGenerator = false
  cell : ∀ y ∈ scope.names, y.2 ≠ .cell
  par : scope.names.lookup a = some NameKind.local
theorem lscp_by {N : List Str} {sc scope : Scope} {a : Str} {i : Nat} (h : blkC N sc scope [(a, i)] = true) (h2 : (!scope.isCoroutine && !scope.isGenerator && scope.names.all (fun y => !(y.2 == NameKind.cell)) && (scope.names.lookup a == some NameKind.local)) = true) : LScp N sc scope a i := by
  simp only [Bool.and_eq_true, Bool.not_eq_true', List.all_eq_true, beq_iff_eq] at h2
  obtain ⟨⟨⟨h3, h6⟩, h4⟩, h5⟩ := h2
  refine ⟨blkOk_by h, h3, h6, fun y hy e => ?_, h5⟩
  have := h4 y hy
  rw [e] at this
  exact absurd this (by decide)

/-- within a lambda's frame -/
abbrev lmEnv (X : Cx) (q : Str) (scope : Scope) (L f c' : Addr) : Env := envX q scope L f (.ref c') (cloFrom X.env.cells scope.names [])

section
variable {X : Cx} {pins : List (Addr × Obj)} {σ : L2.St} {H : Hp} {s : Shared}
theorem lm_start {A' : Around} {scope : Scope} {f c' : Addr} {q a : Str} {i : Nat} {v : V} {u : Value} {h5 : Heap} {t5 : Nat} (I : Inv X pins σ H s) (G : LScp X.N X.env.scope scope a i) (hN : X.N.Nodup)
    (hA : A'.handled = none) (hfr : A'.frames = some (lmEnv X q scope s.heap.objs.size f c' :: X.stack)) (r : L2.RelV v u)
    (kp : ∀ b o, s.heap.get? b = some o → h5.get? b = some o) (ns : h5.Ns s.heap.objs.size (fun y => [(a, u)].reverse.lookup y)) :
    Inv (gnC X A' s H scope (lmEnv X q scope s.heap.objs.size f c') [] []) [] ((L2.wipe σ [i]).set i (some v)) H { s with heap := h5, toks := t5 } := by
  generalize hce : lmEnv X q scope s.heap.objs.size f c' = ce at hfr ⊢
  have cL : ce.locals = s.heap.objs.size := by rw [← hce]
  have cS : ce.scope = scope := by rw [← hce]
  have cC : ce.cells = cloFrom X.env.cells scope.names [] := by rw [← hce]
  have had : ∀ y ∈ scope.names, y.2 = .free → ∃ c, X.env.cells.lookup y.1 = some c := fun y hy e => by
    rcases G.blk.free y hy e with k | k
    · exact I.ok.has _ (.inl k)
    · exact I.ok.has _ (.inr k)
  have cell_old : ∀ {y c}, ce.cells.lookup y = some c → X.env.cells.lookup y = some c ∧ c < s.heap.objs.size ∧ ∃ v, s.heap.IsCell c v := fun {y c} e => by
    rw [cC] at e
    rcases cloFrom_mem (PySem.mem_of_lookup e) with z | ⟨z, rfl⟩
    · cases z
    · obtain ⟨c, hc⟩ := had _ z rfl
      rw [hc]
      obtain ⟨w, q⟩ := I.cell _ _ hc
      exact ⟨rfl, q.lt, w, q⟩
  have cell_new : ∀ {y}, scope.names.lookup y = some .free → ∃ c, ce.cells.lookup y = some c ∧ X.env.cells.lookup y = some c := fun {y} hl => by
    have hm := PySem.mem_of_lookup hl
    obtain ⟨c', e'⟩ := mem_lookup (cloFrom_has (cells := X.env.cells) (acc := []) hm)
    rw [← cC] at e'
    exact ⟨c', e', (cell_old e').1⟩
  have okG : (gnC X A' s H scope ce [] []).Ok := by
    refine ⟨I.ok.mod, by show ce.scope.kind = _; rw [cS]; exact G.blk.kind, by show ce.globals = _; rw [← hce], by show ce.builtins = _; rw [← hce], by show s.heap.objs.size ≤ ce.locals; rw [cL]; exact Nat.le_refl _,
      fun y z c e1 e2 => I.ok.inj y z c (cell_old e1).1 (cell_old e2).1, fun y hy => ?_, fun y c z e => ?_, fun _ => hA, hfr, .inr ⟨rfl, by show ce.frame = some ce.locals; rw [← hce]⟩, fun b hb => absurd (show b ∈ ([] : List Addr) from hb) (by simp), I.bs, Nat.le_trans I.ok.bsz I.sz, fun b o e hb => absurd (show b ∈ ([] : List Addr) from hb) (by simp), fun b hb z => absurd (show b ∈ ([] : List Addr) from hb) (by simp), I.stack, I.stkFree⟩
    · have hy : scope.names.lookup y = some .cell ∨ scope.names.lookup y = some .free := by
        have hy : ce.kindOf y = some .cell ∨ ce.kindOf y = some .free := hy
        unfold Env.kindOf at hy
        rw [cS] at hy
        exact hy
      rcases hy with hy | hy
      · exact absurd rfl (G.cell _ (PySem.mem_of_lookup hy))
      · obtain ⟨c, h1, _⟩ := cell_new hy
        exact ⟨c, h1⟩
    · have z : (scope.names.lookup y == some NameKind.cell) = true := z
      exact absurd rfl (G.cell _ (PySem.mem_of_lookup (by simpa using z)))
  have hiN : X.N[i]? = some a := G.blk.ix (a, i) List.mem_cons_self
  refine ⟨okG, rfl, I.bare, Un.kept kp, ⟨_, by show h5.Ns ce.locals _; rw [cL]; exact ns, fun j y av e1 e2 e3 => ?_⟩, fun y c e => ?_, by show H ce.locals = none; rw [cL]; exact I.hok.fresh (Nat.le_refl _), fun y c e => I.freeC y c (cell_old e).1, fun p hp => absurd (show p ∈ ([] : List (Addr × Obj)) ++ [] from hp) (by simp), I.hok.kept kp, by rw [List.length_set, wipe_length]; exact I.len⟩
  · have e3 : Vis ce.scope y := e3
    rw [cS] at e3
    by_cases hj : i = j
    · subst hj
      have ey : a = y := Option.some.inj (hiN.symm.trans e1)
      subst ey
      have hl : i < (L2.wipe σ [i]).length := by
        rcases Nat.lt_or_ge i (L2.wipe σ [i]).length with q | q
        · exact q
        · rw [List.getElem?_eq_none (by simpa using q)] at e2; cases e2
      rw [List.getElem?_set_self hl] at e2
      cases e2
      refine ⟨u, r, .inl ⟨by show ce.scope.names.lookup a = _; rw [cS]; exact G.par, ?_⟩⟩
      simp
    · rw [List.getElem?_set_ne hj] at e2
      obtain ⟨e2, hne⟩ := wipe_some e2
      have own_no : ∀ k, scope.names.lookup y = some k → k = .local ∨ k = .cell → False := fun k e hk => by
        rcases G.blk.own _ (PySem.mem_of_lookup e) hk with q | q
        · obtain ⟨p, hp, hpy⟩ := List.mem_map.mp q
          have hx := G.blk.ix p hp
          have hpy : p.1 = y := hpy
          rw [hpy] at hx
          exact hne (by rw [← nodup_ix hN hx e1, List.mem_singleton.mp hp]; simp)
        · exact q (List.mem_of_getElem? e1)
      have hf : scope.names.lookup y = some .free := by
        rcases e3 with e3 | e3 | e3
        · exact (own_no _ e3 (.inl rfl)).elim
        · exact (own_no _ e3 (.inr rfl)).elim
        · exact e3
      obtain ⟨m, hn, hl⟩ := I.loc
      have kd := G.blk.free _ (PySem.mem_of_lookup hf) rfl
      obtain ⟨u, r, q⟩ := hl j y av e1 e2 (kd.elim (fun k => .inr (.inl k)) fun k => .inr (.inr k))
      obtain ⟨c, h1, h2⟩ := cell_new hf
      refine ⟨u, r, .inr ⟨.inr (by show ce.scope.names.lookup y = _; rw [cS]; exact hf), c, h1, ?_⟩⟩
      rcases q with ⟨k, _⟩ | ⟨_, c', e', z⟩
      · have k : X.env.scope.names.lookup y = some .local := k
        rcases kd with k' | k' <;> rw [show X.env.scope.names.lookup y = _ from k'] at k <;> cases k
      · rw [h2] at e'; cases e'
        exact z.keeps kp
  · obtain ⟨_, _, v, q⟩ := cell_old (show ce.cells.lookup y = some c from e)
    exact ⟨v, q.keeps kp⟩

/-- the lambda is made -/
theorem lam_mk {T : List Addr} {Φ : List (Addr × List V)} {F : Hp} {ρ : List Addr} {G : Gh} {c P : Addr} {params : Arguments} {body : Expr} {scope : Scope} {pos : Pos} {E : Value → Shared → Prop} {Q : Value → Shared → Prop} (I : Inv X pins σ H s) (TB : LamX.TabB X.base X.mg c P) (hcode : X.env.code = .ref c)
    (hR : R X.K ⟨T, Φ⟩ H F ρ G) (hP : P ∈ T) (hdef : defaultsOf params X.env = ([], [])) (hfree : ∀ y ∈ scope.names, y.2 = .free → ∃ c, X.env.cells.lookup y.1 = some c)
    (h : ∀ (f c' : Addr) (q : Str) (pm ctv : Value) (H1 F1 : Hp) (s' : Shared), Inv X pins σ H1 s' → R X.K ⟨T, Φ⟩ H1 F1 ρ G → Same F F1 →
      s'.heap.get? f = some (kla_obj "<lambda>" (X.env.qual ++ "<lambda>") params body scope (cloFrom X.env.cells scope.names []) pm c' ctv) → H1 f = none → f ∉ frs X.stack → F1 c' = some (LamX.CodeO c' q) → s.heap.objs.size ≤ f →
      (∀ b o, s.heap.get? b = some o → o.cls ≠ .none → s'.heap.get? b = some o) → Q (.ref f) s') :
    wpAny (model X.prog X.w) X.A (eval (.Lambda params body scope pos) X.env) Q E s := by
  obtain ⟨hFP, ps, hHP, htr⟩ := hR.tab P hP
  refine kla_eval hdef ?_
  have bP : s.heap.BuiltinsAt X.mg P := TB.bm.keeps I.bk
  have hP' : s.heap.get? P = some { cls := .none, data := .fields ps } := I.hok P _ hHP
  have cd : CodeHd s.heap c P := TB.code.keeps I.bk
  have nofr : ∀ f, s.heap.objs.size ≤ f → f ∉ frs X.stack := fun f hf z => by
    rcases List.mem_cons.mp (I.stkSub _ z) with e | e
    · have h1 := I.lt
      rw [← e] at h1
      exact Nat.lt_irrefl _ (Nat.lt_of_lt_of_le h1 hf)
    · exact I.nofs hf e
  cases hc : codeAmong pos ps.toList with
  | none =>
    refine kla_makeFunction (mg := X.mg) (c := c) (P := P) (ps := ps) (closure_ok hfree) I.ok.glob (I.mod.glob.keeps I.bk) hcode cd hP' htr.1 hc TB.gP bP fun c' ctv h' tk hx hge hlt hrec htb => ?_
    have hsz : s.heap.objs.size ≤ h'.objs.size := Nat.le_trans hge (Nat.le_of_lt hlt)
    obtain ⟨I1, R1, s1, n1⟩ := R.code_made (tk := tk) (pos := pos) (h' := h'.push (kla_obj "<lambda>" (X.env.qual ++ "<lambda>") params body scope (cloFrom X.env.cells scope.names []) ((X.mg "__name__").getD .none) c' ctv)) I hR hP hHP htr
      (fun b o hb e => Heap.get?_push_of_some _ (hx b o hb e)) hge (hrec.push _) (Heap.get?_push_of_some _ htb) (by
        have eL : (ps ++ #[rawInt pos.line, rawInt pos.col, .ref c']).toList = ps.toList ++ [rawInt pos.line, rawInt pos.col, .ref c'] := by simp
        rw [eL]; exact PySem.TriplesOk_snoc _ _ _ _ htr.1)
    have nf : H h'.objs.size = none := I.hok.fresh hsz
    refine h h'.objs.size c' _ ((X.mg "__name__").getD .none) ctv _ _ _ I1 R1 s1 (Heap.get?_push_size _ rfl) ?_ (nofr _ hsz) upd_same hsz (fun b o e n => Heap.get?_push_of_some _ (hx b o (fun z => by rw [z, hP'] at e; cases e; exact n rfl) e))
    rw [upd_ne (Nat.ne_of_gt hlt), upd_ne (Nat.ne_of_gt (Nat.lt_of_lt_of_le (Heap.lt_size hP') hsz))]
    exact nf
  | some cv =>
    obtain ⟨c', q, e, hco⟩ := htr.2 pos cv hc
    subst e
    refine kla_makeFunctionHit (mg := X.mg) (c := c) (P := P) (ps := ps) (closure_ok hfree) I.ok.glob (I.mod.glob.keeps I.bk) hcode cd hP' htr.1 hc bP fun ctv h' tk hx hsz => ?_
    have I1 : Inv X pins σ H { s with heap := h'.push (kla_obj "<lambda>" (X.env.qual ++ "<lambda>") params body scope (cloFrom X.env.cells scope.names []) ((X.mg "__name__").getD .none) c' ctv), toks := tk } := I.kept fun b o e => Heap.get?_push_of_some _ (hx b o e)
    exact h h'.objs.size c' q ((X.mg "__name__").getD .none) ctv H F _ I1 hR (Same.refl _) (Heap.get?_push_size _ rfl) (I.hok.fresh hsz) (nofr _ hsz) hco hsz (fun b o e n => Heap.get?_push_of_some _ (hx b o e))
end
end L2.GL
end

section
set_option Elab.async false
set_option linter.all false
set_option maxRecDepth 100000
set_option autoImplicit false
/-! G41: the keys, one call after the other; the sort by them. -/
namespace L2.GL
open PySem PySem.Spec PyProof.Rows PySem.W

/-- the keys of whole numbers -/
def keysL (te : EnvD → M D) (env : EnvD) (i : Nat) : List Int → Gh → Option (List Int × Gh)
  | [], G => some ([], G)
  | x :: xs, G => match te (env.set i (some (.int x))) G with
    | some (.ok (.int k), G1) => match keysL te env i xs G1 with
      | some (ks, G2) => some (k :: ks, G2)
      | none => none
    | _ => none
theorem keysL_length {te : EnvD → M D} {env : EnvD} {i : Nat} : ∀ {xs : List Int} {G G' : Gh} {ks : List Int}, keysL te env i xs G = some (ks, G') → ks.length = xs.length
  | [], G, G', ks, h => by
    simp only [keysL, Option.some.injEq, Prod.mk.injEq] at h
    rw [← h.1]
  | x :: xs, G, G', ks, h => by
    unfold keysL at h
    split at h
    rotate_left
    · cases h
    split at h
    rotate_left
    · cases h
    rename_i e
    cases h
    simp [keysL_length e]
theorem keysL_cons {te : EnvD → M D} {env : EnvD} {i : Nat} {x : Int} {xs : List Int} {G G' : Gh} {ks : List Int} (h : keysL te env i (x :: xs) G = some (ks, G')) :
    ∃ k G1 ks', te (env.set i (some (.int x))) G = some (.ok (.int k), G1) ∧ keysL te env i xs G1 = some (ks', G') ∧ ks = k :: ks' := by
  unfold keysL at h
  split at h
  rotate_left
  · cases h
  rename_i e1
  split at h
  rotate_left
  · cases h
  rename_i e2
  cases h
  exact ⟨_, _, _, e1, e2, rfl⟩
/-- the items, each beside its key, sorted -/
noncomputable def sortK (bs : List (Int × Int)) : List (Int × Int) := bs.mergeSort (dataLe false fun x => PyData.int x.2)
theorem sortK_perm (bs : List (Int × Int)) : (sortK bs).Perm bs := List.mergeSort_perm _ _

section
variable {X : Cx} {pins : List (Addr × Obj)} {σ : L2.St} {H : Hp} {s : Shared} {T : List Addr} {Φ : List (Addr × List V)} {F : Hp} {ρ : List Addr} {G : Gh} {scope : Scope} {body : Expr} {params : Arguments} {a : Str} {i : Nat} {f c' : Addr} {q : Str} {pm ctv : Value} {te : EnvD → M D} {gr : Bool} {env : EnvD} {A2 : Around}
/-- the lambda is called -/
theorem lam_turn {v : V} {u : Value} {d kd : D} {G' : Gh} {E : Value → Shared → Prop} {Q : Value → Shared → Prop} (I : Inv X pins σ H s) (L : LScp X.N X.env.scope scope a i) (hN : X.N.Nodup)
    (hA2h : A2.handled = none) (hA2d : A2.depth < recursionLimit) (hfr : A2.frames = some X.stack)
    (hf : s.heap.get? f = some (kla_obj "<lambda>" (X.env.qual ++ "<lambda>") params body scope (cloFrom X.env.cells scope.names []) pm c' ctv))
    (hR : R X.K ⟨T, Φ⟩ H F ρ G) (hS : RS X.K F ρ σ env) (hco : F c' = some (LamX.CodeO c' q))
    (hbind : ∀ u, bindArgs (kla_fn "<lambda>" (X.env.qual ++ "<lambda>") params body scope (cloFrom X.env.cells scope.names []) pm (.ref c') ctv) ⟨[u], []⟩ = pure [(a, u)])
    (hr : L2.RelV v u) (hd : Dr X.K F ρ v d)
    (hb : PV (gnC X (A2.deeper (lmEnv X q scope s.heap.objs.size f c')) s H scope (lmEnv X q scope s.heap.objs.size f c') [] []) T W0 gr body te)
    (e : te ((wipeE env [i]).set i (some d)) G = some (.ok kd, G'))
    (h : ∀ kv ku H' F' ρ' s', Inv X pins σ H' s' → R X.K ⟨T, Φ⟩ H' F' ρ' G' → Same F F' → ρ <+: ρ' → Dr X.K F' ρ' kv kd → L2.RelV kv ku → Un (frs X.stack) [] H H' s.heap s'.heap → Q ku s') :
    wpAny (model X.prog X.w) A2 (call (.ref f) [u]) Q E s := by
  have hok := I.hok c' _ (hR.sub _ _ hco)
  obtain ⟨⟨oc, vs, t, hoc, hdc, hvc⟩, _, _⟩ := hok
  refine wpAny_call (lam_callE hA2d hf rfl L.co L.gen rfl ⟨c', oc, vs, t, rfl, hoc, hdc, hvc⟩ ?_)
  rw [hbind]
  refine wpAny_pure (wpAny_newFunctionEnv (fun y hy => L.cell y hy) (fun y hy => by rw [List.mem_singleton.mp hy]; exact L.par) (fun h₁ hns hsb => ⟨I.nolimit.fresh _ hsb, ?_⟩) L.blk.kind)
  have kp : ∀ b o, s.heap.get? b = some o → h₁.get? b = some o := fun b o e => hsb.extBut b o (Nat.ne_of_lt (Heap.lt_size e)) (Heap.get?_push_of_some _ e)
  show codeAny _ _ (.expr body (lmEnv X q scope s.heap.objs.size f c')) _ _
  have J := lm_start (A' := A2.deeper (lmEnv X q scope s.heap.objs.size f c')) (f := f) (c' := c') (q := q) (t5 := s.toks + [(a, u)].length) I L hN hA2h (Around.frames_deeper hfr) hr kp hns
  refine kla_codeExpr (wpAny_mono (hb.run [] _ _ H (fun kv H' => ∃ F' ρ', R X.K ⟨T, Φ⟩ H' F' ρ' G' ∧ Same F F' ∧ ρ <+: ρ' ∧ Dr X.K F' ρ' kv kd) J
    ⟨Φ, F, ρ, G, _, hR, (hS.wipe [i]).set hd, .ok kd, G', e, fun kv H' F' ρ' R1 s1 p1 r1 _ => ⟨F', ρ', R1, s1, p1, r1⟩⟩) (fun ku s' hq => ?_) fun e' s' hq => hq.elim)
  obtain ⟨kv, H', J', rv, F', ρ', R1, s1, p1, r1⟩ := hq
  have un : Un (frs X.stack) [] H H' s.heap s'.heap := J'.base
  exact h kv ku H' F' ρ' s' (I.call' (ch := []) J'.os un J'.hok J'.bare fun b hb => absurd hb (by simp)) R1 s1 p1 r1 rv un

theorem ints_reads {h : Heap} : ∀ {vs : List Value} {ns : List Int}, IntsAre vs ns → EachIs (fun v k => ∃ as, Reads h v k as) vs (ns.map PyData.int)
  | _, _, .nil => .nil
  | _, _, .cons n t r => .cons ⟨[], Reads.int n t⟩ (ints_reads r)
theorem alike_ints (ns : List Int) : AllAlike (ns.map PyData.int) := fun d hd d' hd' => by
  obtain ⟨n, _, rfl⟩ := List.mem_map.mp hd
  obtain ⟨m, _, rfl⟩ := List.mem_map.mp hd'
  rfl
theorem sortable_ints (ns : List Int) : PySem.W.Sortable (ns.map PyData.int) := .inr fun d hd => by
  obtain ⟨n, _, rfl⟩ := List.mem_map.mp hd
  refine ⟨fun z => ?_, fun xs z => ?_⟩ <;> cases z
-- => (nomatch z : False), fun xs z => (nomatch z : False)⟩
theorem ints_len : ∀ {vs : List Value} {ns : List Int}, IntsAre vs ns → vs.length = ns.length
  | _, _, .nil => rfl
  | _, _, .cons n t r => by simp [ints_len r]

theorem each_zip : ∀ {vs : List Value} {xs ks : List Int}, IntsAre vs xs → ks.length = xs.length → EachIs (fun (v : Value) (x : Int × Int) => L2.RelV (V.int x.1) v) vs (xs.zip ks)
  | _, _, _, .nil, _ => .nil
  | _, _, [], .cons n t r, h => by simp at h
  | _, _, k :: ks, .cons n t r, h => .cons ⟨t, rfl⟩ (each_zip r (by simpa using h))
theorem each_vals : ∀ {vs : List Value} {bs : List (Int × Int)}, EachIs (fun (v : Value) (x : Int × Int) => L2.RelV (V.int x.1) v) vs bs → Vals (bs.map fun x => V.int x.1) vs
  | _, _, .nil => .nil
  | _, _, .cons h t => .cons h (each_vals t)
/-- list.sort by the lambda: l holds vs -/
theorem sort_run {E : Value → Shared → Prop} {P : PySem.Fin → Shared → Prop} {l n : Nat} {vs : List Value} {xs ks : List Int} {G' : Gh} (I : Inv X pins σ H s) (L : LScp X.N X.env.scope scope a i) (hN : X.N.Nodup)
    (hA2h : A2.handled = none) (hA2d : A2.depth < recursionLimit) (hA2u : A2.units + 200 < cLine) (hfr : A2.frames = some X.stack)
    (hf : s.heap.get? f = some (kla_obj "<lambda>" (X.env.qual ++ "<lambda>") params body scope (cloFrom X.env.cells scope.names []) pm c' ctv)) (hfn : H f = none) (hff : f ∉ frs X.stack) (hfl : f ≠ l)
    (hR : R X.K ⟨T, Φ⟩ H F ρ G) (hS : RS X.K F ρ σ env) (hco : F c' = some (LamX.CodeO c' q))
    (hbind : ∀ u, bindArgs (kla_fn "<lambda>" (X.env.qual ++ "<lambda>") params body scope (cloFrom X.env.cells scope.names []) pm (.ref c') ctv) ⟨[u], []⟩ = pure [(a, u)])
    (hb : ∀ (s : Shared) (H : Hp), PV (gnC X (A2.deeper (lmEnv X q scope s.heap.objs.size f c')) s H scope (lmEnv X q scope s.heap.objs.size f c') [] []) T W0 gr body te)
    (ho : s.heap.get? l = some (seqObj "list" vs.toArray n)) (hl : FpOk X pins H l) (hlf : l ∉ frs X.stack) (iv : IntsAre vs xs) (hz : xs.length ≤ sizeLine) (e : keysL te (wipeE env [i]) i xs G = some (ks, G'))
    (h : ∀ H' F' ρ' s' (out : List Value), Inv X pins σ (upd H' l (.lst ((sortK (xs.zip ks)).map fun x => V.int x.1))) s' → R X.K ⟨T, Φ⟩ H' F' ρ' G' → Same F F' → ρ <+: ρ' → H' l = none → P (.done (.ret .none)) s') :
    wpAny (model X.prog X.w) A2 (PyProof.Rows.ksk_tree l (.ref f) false) P E s := by
  have hkl := keysL_length e
  have hvl := ints_len iv
  have hnl : l < s.heap.objs.size := Heap.lt_size ho
  obtain ⟨e1, ho1⟩ : ∃ e1, (s.heap.update l (Obj.mapSeq fun _ => (#[] : Array Value))).get? l = some (seqObj "list" #[] e1) := ⟨_, get?_update_seq ho fun _ => #[]⟩
  have hkS : ((s.heap.update l (Obj.mapSeq fun _ => (#[] : Array Value))).push (seqObj "tuple" vs.toArray 0)).objs.size = s.heap.objs.size + 1 := by rw [PyProof.Rows.size_push', Heap.size_update]
  unfold PyProof.Rows.ksk_tree
  refine wpAny_bind (listItems_at ho rfl ?_)
  refine wpAny_bind (listUpdate_at ho rfl ?_ (by rw [List.size_toArray, hvl]; exact hz) (Nat.zero_le _))
  refine wpAny_bind (seqEpoch_at ho1 rfl ?_)
  refine wpAny_bind (wpAny_newTuple ?_ (by show vs.length ≤ _; rw [hvl]; exact hz))
  refine wpAny_bind (wpAny_newList ?_ (Nat.zero_le _))
  refine wpAny_holding ?_
  generalize hk : ((s.heap.update l (Obj.mapSeq fun _ => (#[] : Array Value))).push (seqObj "tuple" vs.toArray 0)).objs.size = kS at hkS
  have old : ∀ b o, b ≠ l → s.heap.get? b = some o → (sortingHeap s.heap l vs).get? b = some o := fun b o hb q => sortingHeap_old hb q
  have I1 : Inv X pins σ H { s with heap := sortingHeap s.heap l vs } := I.turned (t' := s.toks) (it := l) old hl.1 hl.2.1 hl.2.2.2.1 hl.2.2.2.2.1 hl.2.2.2.2.2
  have kSf : FpOk X pins H kS := I.fpOk (by rw [hkS]; exact Nat.le_succ _) (I.hok.fresh (by rw [hkS]; exact Nat.le_succ _))
  have kSs : kS ∉ frs X.stack := fun z => by
    rcases List.mem_cons.mp (I.stkSub _ z) with z | z
    · exact kSf.2.1 z
    · exact kSf.2.2.1 z
  have kl : kS ≠ l := by rw [hkS]; exact Nat.ne_of_gt (Nat.lt_succ_of_lt hnl)
  have kf : kS ≠ f := by rw [hkS]; exact Nat.ne_of_gt (Nat.lt_succ_of_lt (Heap.lt_size hf))
  have nk0 : (sortingHeap s.heap l vs).get? kS = some (seqObj "list" #[] 0) := by
    rw [← hk]; exact Heap.get?_push_size _ rfl
  have nl0 : (sortingHeap s.heap l vs).get? l = some (seqObj "list" #[] e1) := Heap.get?_push_of_some _ (Heap.get?_push_of_some _ ho1)
  have nf0 := old f _ hfl hf
  unfold PyProof.Rows.ksk_rest
  refine wpAny_bind (wpAny_rule ?_)
  first
    | rw [List.forIn_toArray]
    | (rw [← Array.forIn_toList]; simp only [List.toList_toArray])
    | rw [← Array.forIn_toList]
  refine wpAny_bind (ksk_fold (fun j s' => ∃ H' F' ρ' Gj kA ep, Inv X pins σ H' s' ∧ R X.K ⟨T, Φ⟩ H' F' ρ' Gj ∧ Same F F' ∧ ρ <+: ρ' ∧ keysL te (wipeE env [i]) i (xs.drop j) Gj = some (ks.drop j, G') ∧ IntsAre kA.toList (ks.take j) ∧
      s'.heap.get? kS = some (seqObj "list" kA ep) ∧ s'.heap.get? l = some (seqObj "list" #[] e1) ∧ s'.heap.get? f = some (kla_obj "<lambda>" (X.env.qual ++ "<lambda>") params body scope (cloFrom X.env.cells scope.names []) pm c' ctv) ∧ H' kS = none ∧ H' l = none ∧ H' f = none) vs 0 _
    ⟨H, F, ρ, G, #[], 0, I1, hR, Same.refl _, List.prefix_refl _, e, by rw [List.take_zero]; exact .nil, nk0, nl0, nf0, kSf.1, hl.1, hfn⟩ ?step ?done)
  case step =>
    rintro j x s' hx ⟨H', F', ρ', Gj, kA, ep, I', R', s', p', ej, ik, nk, nl, nf, hkn, hln, hfn'⟩
    simp only [Nat.zero_add] at ej ik ⊢
    have hj : j < vs.length := (List.getElem?_eq_some_iff.mp hx).1
    have hjx : j < xs.length := by omega
    obtain ⟨t, rfl⟩ : ∃ t, x = .int xs[j] t := by
      obtain ⟨t, q⟩ := iv.get j xs[j] (List.getElem?_eq_getElem hjx)
      rw [hx] at q
      exact ⟨t, Option.some.inj q⟩
    rw [List.drop_eq_getElem_cons hjx, List.drop_eq_getElem_cons (show j < ks.length by omega)] at ej
    obtain ⟨k, G1, ks', q1, q2, q3⟩ := keysL_cons ej
    obtain ⟨rfl, rfl⟩ := List.cons.inj q3
    have sz : kA.size ≤ xs.length := by
      have := ints_len ik
      rw [Array.length_toList, List.length_take] at this
      omega
    refine wpAny_bind (wpAny_attempt (lam_turn (A2 := A2) I' L hN hA2h hA2d hfr nf R' (hS.mono s' p') (s' _ _ hco) hbind (v := .int xs[j]) ⟨t, rfl⟩ (.int xs[j]) (hb _ _) q1 fun kv ku H2 F2 ρ2 s2 I2 R2 sa pa rk rku un => ?_))
    cases rk
    obtain ⟨tk, rfl⟩ := rku
    have nk2 := un.keep _ _ nk hkn kSs (by simp)
    have nl2 := un.keep _ _ nl hln hlf (by simp)
    have nf2 := un.keep _ _ nf hfn' hff (by simp)
    have zk := un.free _ _ nk hkn (by simp)
    have zl := un.free _ _ nl hln (by simp)
    have zf := un.free _ _ nf hfn' (by simp)
    have sm := Heap.SameBut.update s2.heap kS (Obj.mapSeq (·.push (Value.int ks[j] tk)))
    obtain ⟨c2, hc2⟩ : ∃ c2, (s2.heap.update kS (Obj.mapSeq (·.push (Value.int ks[j] tk)))).get? kS = some (seqObj "list" (kA.push (Value.int ks[j] tk)) c2) := ⟨_, get?_update_seq nk2 (·.push (Value.int ks[j] tk))⟩
    refine wpAny_bind (listUpdate_at nk2 rfl ?_ (Nat.le_trans sz hz) (Nat.le_trans (Nat.le_of_eq (Array.size_push ..)) (Nat.succ_le_succ (Nat.le_trans sz hz))))
    refine wpAny_pure ⟨rfl, H2, F2, ρ2, G1, kA.push (Value.int ks[j] tk), c2, I2.turned (t' := s2.toks) (it := kS) (fun b o hb e => (sm.2 b hb).trans e) zk kSf.2.1 kSf.2.2.2.1 kSf.2.2.2.2.1 kSf.2.2.2.2.2, R2, s'.trans sa, p'.trans pa, q2, ?_, hc2, (sm.2 l kl.symm).trans nl2, (sm.2 f kf.symm).trans nf2, zk, zl, zf⟩
    rw [Array.toList_push, List.take_succ, List.getElem?_eq_getElem (show j < ks.length by omega)]
    exact ksk_snoc ik
  case done =>
    rintro s' ⟨H', F', ρ', Gj, kA, ep, I', R', s1, p1, ej, ik, nk, nl, nf, hkn, hln, hfn'⟩
    simp only [Nat.zero_add, hvl] at ej ik
    rw [List.take_of_length_le (by omega)] at ik
    rw [List.drop_of_length_le (Nat.le_refl _), List.drop_of_length_le (by omega)] at ej
    cases ej
    refine wpAny_bind (listItems_at nk rfl ?_)
    have hsz : kA.size = vs.length := by
      have := ints_len ik
      rw [Array.length_toList] at this
      omega
    have hk' := ints_reads (h := s'.heap) ik
    have hbs : ks.map PyData.int = (xs.zip ks).map fun x => PyData.int x.2 := by
      rw [show (fun x : Int × Int => PyData.int x.2) = PyData.int ∘ Prod.snd from rfl, ← List.map_map, List.map_snd_zip (by omega)]
    let hh : Heap := hidT s'.heap (fun b => if b = kS then some (.lst []) else none)
    have hh1 : ∀ b o, hh.get? b = some o → s'.heap.get? b = some o ∧ b ≠ kS := fun b o e => by
      obtain ⟨z1, z2⟩ := of_hidT e
      refine ⟨z1, fun z => ?_⟩
      rw [if_pos z] at z2; cases z2
    have hh2 : ∀ b o, b ≠ kS → s'.heap.get? b = some o → hh.get? b = some o := fun b o hb e => hidT_get e (if_neg hb)
    refine keyH_end (κ := dataKind s'.heap (ks.map PyData.int)) (h₁ := hh) (fun b o _ e => (hh1 b o e).1) (by
      cases z : hh.get? kS with
      | none => rfl
      | some o => exact absurd rfl (hh1 _ _ z).2) nk nl kl (SortsAt.data (s := s') hk' (alike_ints ks) (sortable_ints ks) fun d hd => ?_) hsz (by rw [hvl]; exact hz) fun h3 tk3 c k3 n3 => ?_
    · obtain ⟨n, _, rfl⟩ := List.mem_map.mp hd
      show A2.units + 0 < cLine
      omega
    · have ko : KeyedOut false ((xs.zip ks).map fun x => PyData.int x.2) vs (sortVals (dataKind s'.heap (ks.map PyData.int)) false kA.toList vs) := ⟨s'.heap, kA.toList, by rw [← hbs]; exact alike_ints ks, by rw [hbs], by rw [← hbs]; exact hk'⟩
      generalize sortVals (dataKind s'.heap (ks.map PyData.int)) false kA.toList vs = out at n3 ko
      have hE : EachIs (fun (v : Value) (x : Int × Int) => L2.RelV (V.int x.1) v) vs (xs.zip ks) := each_zip iv (by omega)
      have hO := keyedOut_each (fun x : Int × Int => PyData.int x.2) ko hE
      have hV : Vals ((sortK (xs.zip ks)).map fun x => V.int x.1) out := each_vals hO
      have nlt : ∀ b u, H' b = some u → b ≠ l := fun b u e z => by rw [z, hln] at e; cases e
      have nkt : ∀ b u, H' b = some u → b ≠ kS := fun b u e z => by rw [z, hkn] at e; cases e
      have keep : ∀ b o, b ≠ l → b ≠ kS → s'.heap.get? b = some o → h3.get? b = some o := fun b o h1 h2 e => k3 b o h1 (hh2 b o h2 e)
      have un : Un (frs X.stack) [l, kS] H' (upd H' l (.lst ((sortK (xs.zip ks)).map fun x => V.int x.1))) s'.heap h3 := by
        refine ⟨fun b o e _ _ hx => keep b o (fun z => hx (by simp [z])) (fun z => hx (by simp [z])) e, fun b o e _ _ hx => ⟨o.slots, keep b o (fun z => hx (by simp [z])) (fun z => hx (by simp [z])) e⟩,
          fun b o e n hx => by rw [upd_ne (fun z => hx (by simp [z]))]; exact n, fun b o e hx => ⟨o, keep b o (fun z => hx (by simp [z])) (fun z => hx (by simp [z])) e⟩,
          fun b xs e => by rw [upd_ne (nlt _ _ e)]; exact e, fun b o u e => by rw [upd_ne (nlt _ _ e)]; exact e, fun b ps e => ⟨#[], by rw [upd_ne (nlt _ _ e), e]; simp⟩⟩
      refine h H' F' ρ' _ out (I'.call' (s' := { s' with heap := h3, toks := tk3 }) (ch := [l, kS]) rfl un (fun b u e => ?_) I'.bare fun b hb => ?_) R' s1 p1 hln
      · by_cases hb : b = l
        · subst hb
          rw [upd_same] at e
          cases e
          refine ⟨?_, out, c, hV, n3⟩
          rw [List.length_map, (sortK_perm _).length_eq, List.length_zip]
          omega
        · rw [upd_ne hb] at e
          refine (I'.hok b u e).stay (fun d v hd q => keep d v ?_ ?_ q) (fun d q => by rw [upd_ne (nlt _ _ q)]; exact q) fun d xs q => by rw [upd_ne (nlt _ _ q)]; exact q
          · rcases hd with z | z
            · rw [z]; exact hb
            · exact nlt _ _ z
          · rcases hd with z | z
            · rw [z]; exact nkt _ _ e
            · exact nkt _ _ z
      · have hb : b = l ∨ b = kS := by simpa using hb
        rcases hb with rfl | rfl
        · exact ⟨hl.2.2.2.1, hl.2.1, hl.2.2.2.2.1, hl.2.2.2.2.2⟩
        · exact ⟨kSf.2.2.2.1, kSf.2.1, kSf.2.2.2.2.1, kSf.2.2.2.2.2⟩
end
end L2.GL
end

section
set_option Elab.async false
set_option linter.all false
set_option maxRecDepth 100000
set_option autoImplicit false
/-! G42: sorted(range(e), key=lambda x: ..) as an expression. -/
namespace L2.GL
open PySem PySem.Spec PyProof.Rows PySem.W

/-- 0, 1, .. -/
def intsTo (n : Int) : List Int := (List.range n.toNat).map fun (i : Nat) => (i : Int)
open Classical in
noncomputable def sortRgM (fa : EnvD → M D) (te : EnvD → M D) (i : Nat) : EnvD → M D := fun env => do
  let d ← fa env
  fun G => match d with
    | .int n => if RgOk 0 n then (match keysL te (wipeE env [i]) i (intsTo n) G with
        | some (ks, G') => some (.ok (.lst ((sortK ((intsTo n).zip ks)).map fun x => D.int x.1)), G')
        | none => none) else none
    | _ => none

theorem dra_ints' {K : PySem.W.Frag} {F : Hp} {ρ : List Addr} : ∀ bs : List (Int × Int), DrA K F ρ (bs.map fun x => V.int x.1) (bs.map fun x => D.int x.1)
  | [] => .nil
  | b :: bs => .cons (.int b.1) (dra_ints' bs)
theorem intsAre_of {acc : Array Value} {n : Nat} (h : ItemsOf (fun i v => ∃ t, v = Value.int (0 + (i : Int) * 1) t) acc n) : IntsAre acc.toList ((List.range n).map fun (i : Nat) => (i : Int)) := by
  have key : ∀ (l : List Value) (k : Nat), (∀ j v, l[j]? = some v → ∃ t, v = Value.int (0 + ((k + j : Nat) : Int) * 1) t) → IntsAre l ((List.range l.length).map fun (i : Nat) => ((k + i : Nat) : Int)) := by
    intro l
    induction l with
    | nil => intro k _; exact .nil
    | cons v l ih =>
      intro k h
      obtain ⟨t, rfl⟩ := h 0 v rfl
      rw [List.length_cons, List.range_succ_eq_map, List.map_cons, List.map_map]
      have e : (0 + ((k + 0 : Nat) : Int) * 1) = ((k + 0 : Nat) : Int) := by omega
      rw [e]
      refine .cons _ t ?_
      have := ih (k + 1) fun j v hv => by
        obtain ⟨t, e⟩ := h (j + 1) v (by simpa using hv)
        exact ⟨t, by rw [e, show k + 1 + j = k + (j + 1) by omega]⟩
      have e2 : (List.range l.length).map (fun (i : Nat) => ((k + 1 + i : Nat) : Int)) = (List.range l.length).map ((fun (i : Nat) => ((k + i : Nat) : Int)) ∘ Nat.succ) := by
        apply List.map_congr_left
        intro i _
        show ((k + 1 + i : Nat) : Int) = ((k + (i + 1) : Nat) : Int)
        omega
      rw [← e2]
      exact this
  have hl : acc.toList.length = n := by rw [Array.length_toList]; exact h.1
  have := key acc.toList 0 fun j v hv => by
    obtain ⟨t, e⟩ := h.2 j v (by rw [← Array.getElem?_toList]; exact hv)
    exact ⟨t, by rw [e, show 0 + j = j by omega]⟩
  rw [hl] at this
  simpa using this

section
variable {X : Cx} {T : List Addr} {W : WX} {pos p q lpos kpos rpos : Pos} {e body : Expr} {params : Arguments} {scope : Scope} {a : Str} {i : Nat} {fa te : EnvD → M D} {ga gr : Bool} {k : Nat}
theorem v_sortK {c P : Addr} (S : Stand X (k + 1) W) (hg : Gl X "sorted") (hm : X.mg "sorted" = none) (hg2 : Gl X "range") (hm2 : X.mg "range" = none) (TB : LamX.TabB X.base X.mg c P) (hP : P ∈ T) (hcode : X.env.code = .ref c) (hN : X.N.Nodup) (L : LScp X.N X.env.scope scope a i)
    (ha : PV X T W ga e fa) (hdef : defaultsOf params X.env = ([], []))
    (hbind : ∀ (q : Str) (cl : List (Str × Addr)) (pm cv ctv u : Value), bindArgs (kla_fn "<lambda>" q params body scope cl pm cv ctv) ⟨[u], []⟩ = pure [(a, u)])
    (hb : ∀ (A' : Around) (s : Shared) (H : Hp) (q : Str) (D0 f : Addr) (cd : Value) (cl : List (Str × Addr)), Stand (gnC X A' s H scope (envX q scope D0 f cd cl) [] []) k W0 → PV (gnC X A' s H scope (envX q scope D0 f cd cl) [] []) T W0 gr body te)
    (na : starEach [e] X.env = (false, eval e X.env) :: starEach [] X.env := by rfl)
    (nb : starEach [Expr.Call (.Name "range" q) [e] [] rpos] X.env = (false, eval (Expr.Call (.Name "range" q) [e] [] rpos) X.env) :: starEach [] X.env := by rfl)
    (nk : backToKw pos (keywordEach [⟨some "key", .Lambda params body scope lpos, kpos⟩] X.env) = [(some ("key" : Str), do let v ← eval (.Lambda params body scope lpos) X.env; standAt pos; pure v)] := by rfl) :
    PV X T W true (.Call (.Name "sorted" p) [.Call (.Name "range" q) [e] [] rpos] [⟨some "key", .Lambda params body scope lpos, kpos⟩] pos) (sortRgM fa te i) := by
  refine ⟨fun pins s σ H Q I ⟨Φ, F, ρ, G, env, hR, hS, h⟩ => ?_⟩
  refine wpAny_Call_Name_kw (ld_blt I hg hm boot_sorted ?_)
  refine callWith_kw ?_
  rw [nk]
  have hq : tRg1 (tV X.K T X.mg W ga fa) σ H (fun a0 b0 H1 => a0 = 0 ∧ RgOk 0 b0 ∧ ∃ F1 ρ1 G1 ks G', R X.K ⟨T, Φ⟩ H1 F1 ρ1 G1 ∧ RS X.K F1 ρ1 σ env ∧ keysL te (wipeE env [i]) i (intsTo b0) G1 = some (ks, G') ∧
      PostV X.K ⟨T, Φ⟩ F1 ρ1 true (.lst ((sortK ((intsTo b0).zip ks)).map fun x => D.int x.1)) G' Q) := by
    refine ⟨Φ, F, ρ, G, env, hR, hS, Run.bind (fr1 := ga) h fun v d H1 F1 ρ1 G1 R1 s1 p1 r1 _ h1 => ?_⟩
    obtain ⟨rr, G', e1, hp⟩ := h1
    cases r1 with
    | int n =>
      dsimp only at e1
      split at e1
      rotate_left
      · cases e1
      rename_i hok
      split at e1
      rotate_left
      · cases e1
      rename_i e2
      cases e1
      exact ⟨n, rfl, rfl, hok, F1, ρ1, G1, _, _, R1, hS.mono s1 p1, e2, hp⟩
    | _ => cases e1
  refine args_cons (thn (prg_1 hg2 hm2 ha na pins s σ H _ I hq) fun x s1 ⟨r, a0, b0, t, u, v, H1, ex, hr, I1, ea, ok, F1, ρ1, G1, ks, G', R1, S1, ek, hpost⟩ => args_nil ?_) nb
  subst ex
  subst ea
  refine evalAll_cons (wpAny_bind (lam_mk I1 TB hcode R1 hP hdef (fun y hy e => ?_) fun f c' q2 pm ctv H2 F2 s2 I2 R2 s12 hf hfn hff hco hsz kept => wpAny_bind (wpAny_standAt (wpAny_pure (wpAny_pure ?_)))))
  · rcases L.blk.free y hy e with k | k
    · exact I1.ok.has _ (.inl k)
    · exact I1.ok.has _ (.inr k)
  show wpAny (model X.prog X.w) X.A (call (.builtin "sorted") [.ref r] [(Str.ofString "key", .ref f)]) _ _ s2
  obtain ⟨b1, b2, b3, b4, b5⟩ := ok
  have hr2 : IsRange s2.heap r 0 b0 1 t u v := kept _ _ hr (fun z => nomatch z)
  refine call_function_entry_kw kind_sorted plain_sorted entry_sorted (ksk_s1 _ _) ?_
  unfold Builtin.«sorted»
  refine wpAny_bind (m := checkCount "sorted" 1 1 _) (wpAny_pure ?_)
  refine wpAny_bind (collect_range (A := X.A.in1) (n := (b0 - 0).toNat) S.room.hd hr2 (small_one b1 b2 b3 b4) (rangeSize_nat 0 b0) b5 fun h' tk acc kp hi => ?_)
  have iv := intsAre_of hi
  rw [show (b0 - 0).toNat = b0.toNat by rw [Int.sub_zero]] at iv b5
  have iv : IntsAre acc.toList (intsTo b0) := iv
  have hlen : (intsTo b0).length = b0.toNat := by unfold intsTo; rw [List.length_map, List.length_range]
  have hvl := ints_len iv
  have hz : (intsTo b0).length ≤ sizeLine := by rw [hlen, sizeLine_eq]; omega
  refine wpAny_bind (wpAny_newList ?_ (by rw [hvl]; exact hz))
  have old : ∀ b o, s2.heap.get? b = some o → (h'.push (seqObj "list" acc.toList.toArray 0)).get? b = some o := fun b o e => Heap.get?_push_of_some _ (kp b o e)
  have I2' : Inv X pins σ H2 { s2 with heap := h', toks := tk } := I2.kept kp
  have I3 : Inv X pins σ H2 { s2 with heap := h'.push (seqObj "list" acc.toList.toArray 0), toks := tk } := I2.kept old
  have hl : FpOk X pins H2 h'.objs.size := I2'.fpOk (Nat.le_refl _) (I2'.hok.fresh (Nat.le_refl _))
  have hlf : h'.objs.size ∉ frs X.stack := fun z => by
    rcases List.mem_cons.mp (I2'.stkSub _ z) with z | z
    · exact hl.2.1 z
    · exact hl.2.2.1 z
  have ho : (h'.push (seqObj "list" acc.toList.toArray 0)).get? h'.objs.size = some (seqObj "list" acc.toList.toArray 0) := Heap.get?_push_size _ rfl
  refine wpAny_bind (wpAny_holding (wpAny_call_entry_kw slot_list_sort ⟨_, ho, rfl⟩ entry_list_sort ?_ (ksk_l1 _ _)))
  rw [ksk_t1]
  refine sort_run (A2 := X.A.in1.in1) I3 L hN S.room.hd S.room.depth (by have := S.room.un; show X.A.units + 1 + 1 + 200 < _; omega) I3.ok.frames (old _ _ hf) hfn hff (Nat.ne_of_lt (Heap.lt_size (kp _ _ hf))) R2 (S1.mono s12 (List.prefix_refl _)) hco (hbind _ _ _ _ _)
    (fun s H => hb _ _ _ _ _ _ _ _ ⟨rfl, S.gu, ⟨S.room.hd, by have := S.room.dp; show X.A.depth + 1 + 3 * k + 5 < _; omega, by have := S.room.un; show X.A.units + 1 + 1 + 3 + 16 * k + 200 < _; omega⟩, takesN⟩)
    ho hl hlf iv hz ek fun H' F' ρ' s' out I' R' sa pa hln => ⟨_, rfl, wpAny_pure ⟨_, rfl, ?_⟩⟩
  refine ⟨.ref h'.objs.size, _, I', rfl, ?_⟩
  have hF1 : F1 h'.objs.size = none := s12.free (sa.free (R'.sub.free hln))
  have hF' := R'.sub.free hln
  refine hpost (.ref h'.objs.size) _ (upd F' h'.objs.size (.lst ((sortK ((intsTo b0).zip ks)).map fun x => V.int x.1))) ρ' (R'.alloc hln) ((s12.trans sa).trans (same_updN hF')) pa (.lst (.of upd_same) (dra_ints' _)) fun _ es e => ?_
  cases e
  refine ⟨h'.objs.size, _, rfl, hF1, upd_same, fun m => ?_, ?_, ?_⟩
  · obtain ⟨ys, q⟩ := R'.some_of m
    rw [hln] at q; cases q
  · rw [del_upd hF']; exact R'.grow hln
  · rw [del_upd hF']; exact dra_ints' _
end
end L2.GL
end

section
set_option Elab.async false
set_option linter.all false
set_option maxRecDepth 100000
set_option autoImplicit false
/-! G43: what is never come to: any expression, read as one that has no answer. -/
namespace L2.GL
open PySem PySem.Spec PyProof.Rows
section
variable {X : Cx} {T : List Addr} {W : WX} {fr : Bool} {e : Expr}
theorem v_never : PV X T W fr e (fun _ => stuck) := ⟨fun pins s σ H Q I ⟨Φ, F, ρ, G, env, hR, hS, r, G', z, h⟩ => by
  have z : (stuck : M D) G = some (r, G') := z
  cases z⟩
theorem b_never : PB X T W e (fun _ => stuck) := ⟨fun pins s σ H Q I ⟨Φ, F, ρ, G, env, hR, hS, r, G', z, h⟩ => by
  have z : (stuck : M Bool) G = some (r, G') := z
  cases z⟩
end
end L2.GL
end

section
set_option Elab.async false
set_option linter.all false
set_option maxRecDepth 100000
set_option autoImplicit false
/-! G44: [..].index(True) of truths. -/
namespace L2.GL
open PySem PySem.Spec PyProof.Rows
def rIdxB (K : PySem.W.Frag) : V → List V → Hp → VK → Prop := fun x xs H Q => ∃ (p : Addr) (bs : List Bool) (k : Bool), x = .ref p ∧ xs = [.bl k] ∧ SqL K H p (bs.map V.bl) ∧ k ∈ bs ∧ Q (.int (bs.idxOf k : Nat)) H
section
variable {X : Cx}
theorem mt_idxB : MtR X "list.index" (rIdxB X.K) := by
  intro pins s σ H x xs v us Q I rx rxs h
  obtain ⟨p, bs, k, rfl, rfl, hs, hk, q⟩ := h
  cases rx
  obtain ⟨u, rfl, ru⟩ := rxs.one
  obtain rfl : u = .bool k := ru
  obtain ⟨its, rv, hl, hz⟩ := I.list hs
  have hb : its = bs.map Value.bool := rv.bls
  subst hb
  refine SeqAt.call_list_index (ks := bs) (k := k) hl.isList ⟨by rw [List.length_map], fun j h1 h2 => ?_⟩ (by rw [List.length_map] at hz; exact hz) hk ?_
  · have e := SeqAt.EqAt.bool_bool (A := X.A.in1) (s := s) bs[j] k
    rw [List.getElem_map]
    have e2 : (bs[j] == k) = decide (bs[j] = k) := by cases bs[j] <;> cases k <;> rfl
    rw [← e2]
    exact e
  · exact ⟨.int (bs.idxOf k : Nat), H, I.tok _, ⟨s.toks, rfl⟩, q⟩
end
def idxB (k : Bool) (l : D) : M D := match l with
  | .lst ds => do let bs ← liftO (blsOf ds); if k ∈ bs then pure (.int (bs.idxOf k : Nat)) else stuck
  | _ => stuck
section
variable {X : Cx} {T : List Addr} {W : WX} {e : Expr} {fe : EnvD → M D} {ge : Bool} {apos cpos pos : Pos} {j : Nat} {k : Bool}
theorem v_indexB (he : PV X T W ge e fe) (hbase : attributeBase e "index" X.env (eval e X.env) = eval e X.env := by rfl)
    (hfew : ((backTo cpos (starEach [Expr.Constant (.bool k) j pos] X.env)).all (fun x => !x.1) && (backToKw cpos (keywordEach [] X.env)).all (fun x => x.1.isSome) && decide (([Expr.Constant (.bool k) j pos] : List Expr).length + ([] : List Keyword).length + (if ([] : List Keyword).isEmpty then 0 else 1) < 30)) = true := by rfl)
    (hline : (apos.endLine == cpos.line) = true := by rfl) (hs : starEach [Expr.Constant (.bool k) j pos] X.env = (false, eval (Expr.Constant (.bool k) j pos) X.env) :: starEach [] X.env := by rfl) :
    PV X T W true (.Call (.Attribute e "index" apos) [.Constant (.bool k) j pos] [] cpos) (fun env => do let l ← fe env; idxB k l) := by
  have h1 : PVs X T W [Expr.Constant (.bool k) j pos] (fun env => do let d ← (fun _ => pure (.bl k) : EnvD → M D) env; pure [d]) := PA.imp (pa_cons v_bl pa_nil hs) fun σ H Q ⟨Φ, F, ρ, G, env, hR, hS, h⟩ => ⟨Φ, F, ρ, G, env, hR, hS, RunA.bind (fr1 := true) h fun v d H1 F1 ρ1 G1 R1 s1 p1 r1 h1 => h1.pure R1 (.cons r1 .nil)⟩
  refine PE.imp (pe_bm PySem.F.plainAttrs_list PySem.F.slot_list_index PySem.F.type_list_index (mt_idxB) he h1 hbase hfew hline hs) fun σ H Q ⟨Φ, F, ρ, G, env, hR, hS, h⟩ => ?_
  refine ⟨Φ, F, ρ, G, env, hR, hS, Run.bind (fr := true) h fun xv l H1 F1 ρ1 G1 R1 s1 p1 r1 _ h2 => ?_⟩
  cases r1 with
  | @lst a xs ds hx tx =>
    cases hi : blsOf ds with
    | none =>
      have e : idxB k (.lst ds) = (liftO (blsOf ds) >>= fun bs => if k ∈ bs then pure (.int (bs.idxOf k : Nat)) else stuck) := rfl
      rw [e, hi] at h2
      obtain ⟨r', G', z, _⟩ := h2
      cases z
    | some bs =>
      have e : idxB k (.lst ds) = (liftO (blsOf ds) >>= fun bs => if k ∈ bs then pure (.int (bs.idxOf k : Nat)) else stuck) := rfl
      rw [e, hi] at h2
      by_cases hk : k ∈ bs
      · have h2 : Run X.K ⟨T, Φ⟩ X.mg W σ true F1 ρ1 (if k ∈ bs then pure (.int (bs.idxOf k : Nat)) else stuck : M D) G1 Q := h2
        rw [if_pos hk] at h2
        have hq : SqL X.K H1 a (bs.map V.bl) := by rw [← blsOf_V hi tx]; exact R1.sub.seq hx
        refine ⟨.inl ⟨rfl, _, hq⟩, Φ, F1, ρ1, G1, env, R1, hS.mono s1 p1, ?_⟩
        refine ⟨.ok [.bl k], G1, rfl, fun vs H2 F2 ρ2 R2 s2 p2 r2 => ?_⟩
        obtain ⟨v, rfl, rv⟩ := r2.one
        cases rv
        refine ⟨a, bs, k, rfl, rfl, by rw [← blsOf_V hi tx]; exact R2.sub.seq (s2.seq hx), hk, ?_⟩
        have h3 : Run X.K ⟨T, Φ⟩ X.mg W σ true F2 ρ2 (pure (.int (bs.idxOf k : Nat)) : M D) G1 Q := Run.from h2 s2 p2
        exact Run.pure (d := .int (bs.idxOf k : Nat)) h3 R2 (.int _) fun _ => .of fun _ z => nomatch z
      · have h2 : Run X.K ⟨T, Φ⟩ X.mg W σ true F1 ρ1 (if k ∈ bs then pure (.int (bs.idxOf k : Nat)) else stuck : M D) G1 Q := h2
        rw [if_neg hk] at h2
        obtain ⟨r', G', z, _⟩ := h2
        cases z
  | _ => obtain ⟨r', G', z, _⟩ := h2; cases z
end
end L2.GL
end

section
set_option Elab.async false
set_option linter.all false
set_option maxRecDepth 100000
set_option autoImplicit false
/-! G45: except X as n, n a name of the def's own (no cell). -/
namespace L2.GL
open PySem PySem.Spec PyProof.Rows
section
variable {X : Cx} {x n : Str} {cv : Value} {i : Nat} {body suite : List Stmt} {st0 : Stmt} {np pos pos' : Pos} {tb : WX → TS} {ts : Addr → Value → Option Addr → TS}
theorem ps_tryL (hs : X.stack = X.env :: X.outer) (hf : X.env.frame = some X.env.locals) (hN : X.N.Nodup) (hi : X.N[i]? = some n) (hk : X.env.kindOf n = some .local) (hc : Names X x cv)
    (hb : ∀ (W : WX) (pn : List (Addr × Obj)) (xe : Value → Shared → Prop), L2N.Takes (X.tr pn xe) W → PSs (X.tr pn xe) body (tb W))
    (hsu : ∀ (a : Addr) (oe : Obj) (cls : Value) (d : Option Addr) (pn : List (Addr × Obj)), L2N.Zn cls d oe → (∃ vs, oe.data = .fields vs) → PSs (X.suite a ((a, oe) :: pn)) (st0 :: suite) (ts a cls d)) :
    PS X (.Try body [.ExceptHandler (some (.Name x np)) (some n) (st0 :: suite) pos'] [] [] pos) (fun Dn σ H => tb (wCell X.K cv i ts Dn) Dn σ H) := by
  constructor
  intro pins s σ H Dn I h
  have okX := I.ok
  have hfr : X.A.frames = some (X.env :: X.outer) := okX.frames.trans (congrArg some hs)
  apply wpAny_Try_except
  refine wpAny_mono ((hb (wCell X.K cv i ts Dn) (X.pn ++ pins) (fun e s1 => wpAny (model X.prog X.w) X.A (noteFrame e X.env)
    (fun _ s2 => wpAny (model X.prog X.w) X.A (setFlight e none)
      (fun _ s3 => wpAny (model X.prog X.w) X.A (handleBy e X.env [.ExceptHandler (some (.Name x np)) (some n) (st0 :: suite) pos'])
        (SP X pins Dn) X.xe s3) X.xe s2) X.xe s1) ?caught).run [] s σ H Dn (I.toTry _) h) ?through (fun _ _ z => z)
  case through =>
    intro f s1 q
    match f, q with
    | .next, ⟨σ1, H1, J1, q⟩ => exact wpAny_execs_nil ⟨σ1, H1, J1.ofTry okX, q⟩
    | .brk, ⟨σ1, H1, J1, q⟩ => exact ⟨σ1, H1, J1.ofTry okX, q⟩
    | .cont, ⟨σ1, H1, J1, q⟩ => exact ⟨σ1, H1, J1.ofTry okX, q⟩
    | .ret u, ⟨v, σ1, H1, J1, rv, q⟩ => exact ⟨v, σ1, H1, J1.ofTry okX, rv, q⟩
  case caught =>
    rintro u s1 ⟨a, B, sI, pins1, σ1, H1, cls, d, rfl, JT, nb, up, sky, na, os, ag, hyes, hts⟩
    have J : Inv X pins σ1 H1 sI := JT.ofTry okX
    have sky1 : Sky B (X.env :: X.outer) a (L2N.Zn cls d) X.env.locals s1.heap := hs ▸ sky
    refine L2N.Sky.land L2N.Zn.steady hfr hf sky1 fun h3 fl3 up3 => ?_
    obtain ⟨oe3, vs3, get3, zn3, dat3⟩ := fl3.there
    have out : ∀ {hp : Heap} {o : Obj} {vs : Array Value}, hp.FunFrames B (X.env :: X.outer) → hp.get? a = some o → o.data = .fields vs → a ≠ X.env.locals ∧ a ∉ X.fs := fun {hp o vs} ff e dd => by
      have nin : a ∉ frs (X.env :: X.outer) := fun hm => by
        obtain ⟨_, o2, e2, nd⟩ := ff.mem hm
        rw [e] at e2
        exact nd vs (Option.some.inj e2 ▸ dd)
      unfold frs at nin
      rw [List.filterMap_cons, hf] at nin
      exact ⟨fun z => nin (z ▸ List.mem_cons_self), fun z => nin (List.mem_cons_of_mem _ z)⟩
    obtain ⟨nL, nF⟩ := out fl3.2.2.1 get3 dat3
    have J3 : Inv X pins σ1 H1 { s1 with heap := h3 } := J.landed nb fl3.1 (up.trans up3) os ag
    have S3 := J3.suite get3 dat3 na nL nF
    have LT : PySem.W.Looks (model X.prog X.w) h3 (typeOf (.ref a)) cls := fun _ _ _ _ kp q => wpAny_typeOf_ref (kp _ _ get3) (zn3.1.symm ▸ q)
    have LM := PySem.W.exm_one (M := model X.prog X.w) J3.kIn LT hyes
    refine wpAny_handleBy_cons (codeAny_handlers_test ?_) (fun z => nomatch z)
    have asked : ∀ {Q E : Value → Shared → Prop}, Q cv { s1 with heap := h3 } → wpAny (model X.prog X.w) (X.A.mark (some (.ref a))) (eval (.Name x np) X.env) Q E { s1 with heap := h3 } := fun {Q E} q => by
      obtain ⟨hg, hdb, hm | ⟨hm, hv, hn⟩⟩ := hc
      · exact ld_glob (X := X.suite a ((a, oe3) :: (X.pn ++ pins))) S3 hg hm q hdb
      · exact ld_blt (X := X.suite a ((a, oe3) :: (X.pn ++ pins))) S3 hg hm hv q hn hdb
    refine asked (LM.here (codeAny_handlers_suite_as (HandSPX.lands_againZ fl3 fun h4 fl4 up4 => ?_)))
    obtain ⟨oe4, vs4, get4, zn4, dat4⟩ := fl4.there
    have J4 : Inv X pins σ1 H1 { s1 with heap := h4 } := J.landed nb fl4.1 ((up.trans up3).trans up4) os ag
    have S4 := J4.suite get4 dat4 na nL nF
    refine store_ok (X := X.suite a ((a, oe4) :: (X.pn ++ pins))) (v := .ref a) S4 hN hi (.inl hk) rfl (fun s5 S5 => ?_) (.inr hk)
    refine wpAny_mono ((hsu a oe4 cls d (X.pn ++ pins) zn4 ⟨_, dat4⟩).run [] s5 _ H1 (retE Dn) S5 (hts a na)) (fun f s6 q => ?_) (fun _ _ z => False.elim z)
    match f, q with
    | .next, ⟨_, _, _, q⟩ => exact q.elim
    | .brk, ⟨_, _, _, q⟩ => exact q.elim
    | .cont, ⟨_, _, _, q⟩ => exact q.elim
    | .ret u, ⟨v, σ6, H6, S6, rv, q⟩ => exact gone_ok (S6.unsuite okX) hN hi hk fun s7 J7 => ⟨v, _, _, J7, rv, q⟩
end
/-- try: a value back, or the class's own value -/
def trySB (n0 : Nat) (b : Bool) (hd : Str → D) (fb : MS) : MS := fun env G => match fb env G with
  | some (.ex c env', G') => if c ∈ excL ∧ env'.length = n0 then some (.ret (hd c) b, G') else none
  | r => r
section
variable {X : Cx} {T : List Addr} {W : WX} {n : Str} {i n0 k : Nat} {b : Bool} {body suite : List Stmt} {st0 : Stmt} {np pos pos' : Pos} {fb : MS} {fh : Addr → Str → MS} {hd : Str → D}
theorem s_tryTL (S : Stand X k W) (t : ExcT X.K X.mg) (hs : X.stack = X.env :: X.outer) (hf : X.env.frame = some X.env.locals) (hN : X.N.Nodup) (hi : X.N[i]? = some n) (hk : X.env.kindOf n = some .local) (hgS : Gl X "StepError")
    (hb : ∀ (W' : WX) (pn : List (Addr × Obj)) (xe : Value → Shared → Prop), Stand (X.tr pn xe) k W' → PSsV (X.tr pn xe) T W' body fb)
    (hsu : ∀ (a : Addr) (c : Str) (pn : List (Addr × Obj)), StandH (X.suite a pn) k a c → PSsV (X.suite a pn) T W0 (st0 :: suite) (fh a c))
    (hh : ∀ (a : Addr) (c : Str) (env : EnvD) (G : Gh), c ∈ excL → env.length = n0 → fh a c (env.set i (some (.exn a c))) G = some (.ret (hd c) b, G)) :
    PSV X T W (.Try body [.ExceptHandler (some (.Name "StepError" np)) (some n) (st0 :: suite) pos'] [] [] pos) (trySB n0 b hd fb) := by
  obtain ⟨SE, hmS, hSE⟩ := t.step
  refine PS.imp (ps_tryL (cv := .ref SE) (tb := fun W' => tS X.K T X.mg W' fb) (ts := fun a cls d => fun Dn σ H => d = none ∧ ∃ c ∈ excL, X.mg c = some cls ∧ tS X.K T X.mg W0 (fh a c) Dn σ H) hs hf hN hi hk ⟨hgS, by decide, .inl hmS⟩
    (fun W' pn xe tk => hb W' pn xe ⟨S.calm, S.gu, ⟨S.room.hd, S.room.dp, S.room.un⟩, tk⟩)
    (fun a oe cls d pn z f => ⟨fun pins s σ H Dn I h => ?_⟩)) fun Dn σ H h => ?_
  · obtain ⟨rfl, c, hc, hm, h⟩ := h
    obtain ⟨C, hmC, _⟩ := t.ref c hc
    rw [hm] at hmC
    cases hmC
    exact (hsu a c _ (S.suite t hc hm z f)).run pins s σ H Dn I h
  · obtain ⟨Φ, F, ρ, G, env, hR, hS, o, G', e, h⟩ := h
    unfold trySB at e
    refine ⟨Φ, F, ρ, G, env, hR, hS, ?_⟩
    cases q : fb env G with
    | none => rw [q] at e; cases e
    | some z =>
      obtain ⟨o1, G1⟩ := z
      rw [q] at e
      refine ⟨o1, G1, rfl, ?_⟩
      cases o1 with
      | nx _ => cases e; exact h
      | bk _ => cases e; exact h
      | ct _ => cases e; exact h
      | ret _ _ => cases e; exact h
      | ex c e1 =>
        dsimp only at e
        split at e
        rotate_left
        · cases e
        rename_i hc
        cases e
        intro cls σ' H' F' ρ' hm R1 s1 p1 S1
        obtain ⟨C, hmC, _⟩ := t.ref c hc.1
        have ecls : cls = .ref C := by rw [hm] at hmC; exact Option.some.inj hmC
        refine ⟨ecls ▸ (hSE c hc.1 C hmC).1, fun a na => ⟨rfl, c, hc.1, hm, Φ, F', ρ', _, e1.set i (some (.exn a c)), R1, S1.set (.exn a c), _, _, hh a c e1 _ hc.1 hc.2, ?_⟩⟩
        exact fun v H2 F2 ρ2 R2 s2 p2 r2 f2 => h v H2 F2 ρ2 R2 (s1.trans s2) (p1.trans p2) r2 fun z => (f2 z).from s1
end
section
variable {G : Gh} {c : Str} {env : EnvD} {f : MS}
theorem wpS_tryB_ok {n0 : Nat} {b : Bool} {hd : Str → D} {k : K4} (h : wpS f env G k) : wpS (trySB n0 b hd f) env G k := by
  obtain ⟨o, G', e, z⟩ := h
  refine ⟨o, G', ?_, z⟩
  unfold trySB
  rw [e]
  cases o with
  | ex _ _ => exact z.elim
  | _ => rfl
theorem wpS_tryB_ex {n0 : Nat} {b : Bool} {hd : Str → D} {k : K4} (hc : c ∈ excL) (h : exS f env G c fun e G' => e.length = n0 ∧ k.rt (hd c) b G') : wpS (trySB n0 b hd f) env G k := by
  obtain ⟨e, G', q, hl, z⟩ := h
  refine ⟨.ret (hd c) b, G', ?_, z⟩
  unfold trySB
  rw [q]
  dsimp only
  rw [if_pos ⟨hc, hl⟩]
end
/-- the words that k05 has for the classes -/
def wordsL : List Str := ["steps", "pair", "point", "number", "moves", "shape", "keeper", "text", "three", "four", "part", "line"]
def hdW (c : Str) : D := .str (wordsL.getD (excL.idxOf c) "")
end L2.GL
end

section
set_option Elab.async false
set_option linter.all false
set_option maxRecDepth 100000
set_option autoImplicit false
/-! G46: a tuple, once. -/
namespace L2.GL
open PySem PySem.Spec PyProof.Rows
theorem tuple_mul1W (l : Addr) (items : Array Value) (n : Nat) (dd : Option Addr) (sl : Array (Option Value)) (u : Tok) :
    Meets (Builtin.«tuple.__mul__» ⟨[.ref l, .int 1 u], []⟩) (fun _ R s => s.heap.get? l = some { cls := .type "tuple", dict := dd, data := .seq items n, slots := sl } ∧ R (.ok (.ret (Value.ref l))) s) :=
  .of_wp fun prog w A R s h => by
    obtain ⟨hp, g, d, tk, os⟩ := s
    obtain ⟨hl, h⟩ := h
    have f1 := AutoSeq1.idx_int
    have c1 : (items.isEmpty || (1 : Int) == 1) = true := by rw [Bool.or_eq_true]; exact .inr rfl
    wp_walk using wpAny_loadPart' hl
    repeat (first
      | (refine wpAny_ite_false (decide_eq_false (by decide)) ?_; wp_walk using wpAny_loadPart' hl)
      | (refine wpAny_ite_true (decide_eq_true c1) ?_; wp_walk using wpAny_loadPart' hl))
    exact ⟨_, rfl, h⟩
def rRep1 (K : PySem.W.Frag) : R2 := fun x y H Q => ∃ l xs, x = .ref l ∧ y = .int 1 ∧ SqT K H l xs ∧ Q (.ref l) H
theorem op_rep1 {X : Cx} : OpR X (binaryOp .Mult) (rRep1 X.K) := by
  intro pins s σ H x y v u Q I rx ry h
  obtain ⟨l, xs, rfl, rfl, hT, q⟩ := h
  cases rx
  obtain ⟨t, rfl⟩ := ry
  obtain ⟨its, r, ⟨⟨cls, dd, data, sl⟩, ho, hc, n, hd⟩, hs⟩ := I.tuple hT
  simp only at hc hd
  subst hc hd
  exact wpAny_binaryOp_repeat_ref (T := "tuple") (U := "int") (by decide) ⟨_, ho, rfl⟩ (fun s' => typeIs_int s' 1 t) noFill_tuple_mul F.fills_int_mul F.slot_int_rmul repeat_tuple F.slot_int_index.lookup
    (call_meets F.slot_int_rmul (typeIs_int s 1 t) F.entry_int_rmul (F.args_int_rmul_2 _ _) (int_rmul_tuple 1 t l its.toArray n dd sl)
      ⟨ho, rfl, ⟨_, ho, rfl⟩, call_meets F.slot_tuple_mul ⟨_, ho, rfl⟩ F.entry_tuple_mul (F.args_tuple_mul_2 _ _) (tuple_mul1W l its.toArray n dd sl t) ⟨ho, ⟨.ref l, H, I, rfl, q⟩⟩⟩)
def D.is1 : D → Bool
  | .int i => i == 1
  | _ => false
def opMul1 (d e : D) : M D := if (d.isT && e.is1) = true then pure d else opMulL d e
section
variable {K : PySem.W.Frag} {F : Hp} {ρ : List Addr} {mg : Str → Option Value} {fr : Bool} {G : Gh} {Q : D → Gh → Prop} {xs : List D} {k : Int}
def rMul1 (K : PySem.W.Frag) : R2 := fun x y H Q => rRep1 K x y H Q ∨ rMulL K x y H Q
theorem op_mul1 {X : Cx} : OpR X (binaryOp .Mult) (rMul1 X.K) := op_rep1.or op_mulL
theorem o_mul1 : OpV K mg fr (rMul1 K) opMul1 := by
  intro T W σ x y d e H F ρ G Q hR rx ry h
  unfold opMul1 at h
  split at h
  · rename_i hz
    refine .inl ?_
    cases rx with
    | @tup a xs ds q1 q2 =>
      cases ry with
      | int k =>
        have hk : k = 1 := by simpa [D.isT, D.is1] using hz
        subst hk
        exact ⟨a, xs, rfl, rfl, Same.tup hR.sub q1, Run.pure h hR (.tup q1 q2) fun _ => .of fun _ z => nomatch z⟩
      | _ => simp [D.is1] at hz
    | _ => simp [D.isT] at hz
  · exact .inr (o_mulL T W σ x y d e H F ρ G Q hR rx ry h)
@[simp ↓] theorem wp_mul1 : wpM (opMul1 (.tup xs) (.int 1)) G Q ↔ Q (.tup xs) G := wpM_pure
theorem wp_mul1' (h : k ≠ 1) : wpM (opMul1 (.tup xs) (.int k)) G Q ↔ wpM (opMulL (.tup xs) (.int k)) G Q := by
  unfold opMul1
  rw [if_neg (by simp [D.is1, h])]
end
end L2.GL
end

section
set_option Elab.async false
set_option linter.all false
set_option maxRecDepth 100000
set_option autoImplicit false
/-! G47: sys.modules stands by itself, so no list of ours lies there: repr of any data; a list == []. -/
namespace L2.GL
open PySem PySem.Spec PyProof.Rows
/-- a dict stands at sys.modules' address -/
def SMod (h : Heap) : Prop := ∃ (o : Obj) (es : Array DictEntry) (n : Nat), h.get? sysModules = some o ∧ o.data = .dict es n
theorem smod_of {h : Heap} (x : h.NoSeer) : SMod h := by
  obtain ⟨_, ⟨o, es, n, e, d, _⟩, _⟩ := x.mods
  exact ⟨o, es, n, e, d⟩
section
variable {X : Cx} {pins : List (Addr × Obj)} {σ : L2.St} {H : Hp} {s : Shared}
theorem hsys (I : Inv X pins σ H s) (sm : SMod X.base) : H sysModules = none := by
  obtain ⟨o, es, n, e, d⟩ := sm
  obtain ⟨e1, e2⟩ := I.ok.bs _ _ e
  exact I.base.free _ _ e1 e2 (I.ok.noex _ _ e)
theorem seq_apart (I : Inv X pins σ H s) (sm : SMod X.base) {a : Addr} {xs : List V} (q : SqL X.K H a xs) : a ≠ sysModules := by
  intro z
  subst z
  have hn := hsys I sm
  rcases q with (q | ⟨o, q⟩) | ⟨o, its, n, lk, hc, hd0, hd, _⟩
  · rw [hn] at q; cases q
  · rw [hn] at q; cases q
  · obtain ⟨o', es, m, e, d⟩ := sm
    have := I.ok.mod.kin _ _ lk
    rw [e] at this
    cases this
    rw [hd] at d
    cases d
mutual
theorem Dq.readsS (I : Inv X pins σ H s) (sm : SMod X.base) : ∀ {d : PyData} {v : V} {u : Value}, Dq X.K H v d → RelV v u → ∃ as, Reads s.heap u d as ∧ sysModules ∉ as
  | _, _, _, .non, r => by cases r; exact ⟨_, .none, fun z => nomatch z⟩
  | _, _, _, .bl b, r => by cases r; exact ⟨_, .bool b, fun z => nomatch z⟩
  | _, _, _, .int i, r => by obtain ⟨t, rfl⟩ := r; exact ⟨_, .int i t, fun z => nomatch z⟩
  | _, _, _, .str x, r => by obtain ⟨t, rfl⟩ := r; exact ⟨_, .str x t, fun z => nomatch z⟩
  | _, _, _, .lst q t, r => by
    cases r
    have ap := seq_apart I sm q
    obtain ⟨its, rv, ⟨o, n, ho, hc, _, hd⟩, _⟩ := I.list q
    obtain ⟨as, hr, hn⟩ := DqA.readsS I sm t rv
    refine ⟨_, .list ho hc hd hr, fun z => ?_⟩
    rcases List.mem_cons.mp z with z | z
    · exact ap z.symm
    · exact hn z
  | _, _, _, .tup q t, r => by
    cases r
    obtain ⟨its, rv, ⟨o, ho, hc, n, hd⟩, _⟩ := I.tuple q
    obtain ⟨as, hr, hn⟩ := DqA.readsS I sm t rv
    exact ⟨_, .tuple ho hc hd hr, hn⟩
  | _, _, _, .dct q, r => by
    cases r
    obtain ⟨_, sm, vs, rel, o, es, ep, ho, hx, hd, _, hp, _⟩ := I.hok _ _ q
    obtain ⟨q1, q2⟩ := pairs_reads (h := s.heap) rel hp
    refine ⟨_, .dict ho hx.1 hd q1 q2, fun z => ?_⟩
    simp only [List.append_nil, List.mem_singleton] at z
    rw [← z] at sm
    simp at sm
theorem DqA.readsS (I : Inv X pins σ H s) (sm : SMod X.base) : ∀ {ds : List PyData} {vs : List V} {us : List Value}, DqA X.K H vs ds → Vals vs us → ∃ as, ReadsAll s.heap us ds as ∧ sysModules ∉ as
  | _, _, _, .nil, r => by cases r; exact ⟨_, .nil, fun z => nomatch z⟩
  | _, _, _, .cons h t, r => by
    cases r with
    | cons r1 r2 =>
      obtain ⟨as, q1, n1⟩ := Dq.readsS I sm h r1
      obtain ⟨bs, q2, n2⟩ := DqA.readsS I sm t r2
      refine ⟨_, .cons q1 q2, ?_⟩
      simp only [List.mem_append, not_or]
      exact ⟨n1, n2⟩
end
end
def reprSk (p : PyData) : Bool := p.showable && (decide (p.depth ≤ 60) && decide (p.shown.length ≤ sizeLine))
/-- repr of any data -/
def fReprS (ds : List D) : M D := match ds with
  | [d] => match d.toQ with
    | some p => if reprSk p = true then pure (.str p.shown) else stuck
    | none => stuck
  | _ => stuck
def rReprS (K : PySem.W.Frag) : List V → Hp → VK → Prop := fun xs H Q => ∃ x p, xs = [x] ∧ Dq K H x p ∧ reprSk p = true ∧ Q (.str p.shown) H
theorem call_reprS {X : Cx} (sm : SMod X.base) (hg : X.A.guards = some []) (hu : X.A.units + 64 < cLine) : CallR X (.builtin "repr") (rReprS X.K) := by
  intro pins s σ H xs us Q I r h
  obtain ⟨x, p, rfl, hd, ho, q⟩ := h
  obtain ⟨u, rfl, rx⟩ := vals1 r
  obtain ⟨as, rd, hs⟩ := Dq.readsS I sm hd rx
  unfold reprSk at ho
  simp only [Bool.and_eq_true, decide_eq_true_eq] at ho
  obtain ⟨h1, h2, h4⟩ := ho
  have byRef : ∀ {a : Addr}, Reads s.heap (.ref a) p as → wpAny (model X.prog X.w) X.A (call (.builtin "repr") [.ref a]) (EP X pins σ Q) X.xe s := fun rd =>
    repr_of_reads' rd h1 (fun _ => hs) hg (by omega) (fun _ _ e => e) (fun hp v tk kk => ⟨.str p.shown, H, I.kept (t' := tk) kk, ⟨v, rfl⟩, q⟩) h4
  cases hd with
  | non => cases rx; exact PySem.P.repr_of_none ⟨.str _, H, I.tok _, ⟨_, rfl⟩, q⟩
  | bl b => cases rx; exact PySem.P.repr_of_bool ⟨.str _, H, I.tok _, ⟨_, rfl⟩, q⟩
  | int i => obtain ⟨t, rfl⟩ := rx; exact PySem.P.repr_of_int (by simpa [PyData.showable] using h1) ⟨.str _, H, I.tok _, ⟨_, rfl⟩, q⟩
  | str y => obtain ⟨t, rfl⟩ := rx; exact PySem.P.repr_of_str ⟨.str _, H, I.tok _, ⟨_, rfl⟩, q⟩ (by simpa only [PyData.shown] using h4)
  | lst a b => cases rx; exact byRef rd
  | tup a b => cases rx; exact byRef rd
  | dct a => cases rx; exact byRef rd
section
variable {K : PySem.W.Frag} {mg : Str → Option Value} {fr : Bool} {G : Gh} {Q : D → Gh → Prop} {QB : Bool → Gh → Prop} {d : D} {p : PyData}
theorem s_reprS : CallV K mg fr (rReprS K) fReprS := by
  intro T W σ vs ds H F ρ G Q hR rs h
  unfold fReprS at h
  split at h
  · obtain ⟨v, rfl, r⟩ := rs.one
    split at h
    · rename_i p e
      split at h
      · rename_i ho
        exact ⟨v, p, rfl, Dr.dq hR.sub r e, ho, h.pure hR (.str _) fun _ => .of fun _ z => nomatch z⟩
      · exact h.stuck.elim
    · exact h.stuck.elim
  · exact h.stuck.elim
theorem wp_reprS (h : d.toQ = some p) (h2 : reprSk p = true) : wpM (fReprS [d]) G Q ↔ Q (.str p.shown) G := by
  unfold fReprS
  simp only [h, h2, if_true]
  exact wpM_pure
/-- any data that is not too great -/
def Anyd (d : D) : Prop := okD 50 d = true ∧ wz d ≤ 300000
theorem Anyd.repr (h : Anyd d) : wpM (fReprS [d]) G Q ↔ Q (.str (txQ d)) G := by
  obtain ⟨h1, h2⟩ := h
  obtain ⟨p, e, q⟩ := ok_toQ 50 d h1
  have l := PyData.shown_le 41 (by decide) p q.lv
  have w := q.wt
  have dp := q.dp
  have ok : reprSk p = true := by
    unfold reprSk
    simp only [q.sh, Bool.true_and, Bool.and_eq_true, decide_eq_true_eq]
    exact ⟨by omega, by rw [szl]; omega⟩
  rw [wp_reprS e ok]
  unfold txQ
  rw [e]
end

/-! ### a list == [] -/
def rEqE (K : PySem.W.Frag) : R2 := fun x y H Q => ∃ a b xs, x = .ref a ∧ y = .ref b ∧ SqL K H a xs ∧ SqL K H b [] ∧ xs ≠ [] ∧ Q (.bl false) H
theorem op_eqE1 {X : Cx} (hu : X.A.units + 64 < cLine) : OpR X (compareOp .Eq) (rEqE X.K) := by
  intro pins s σ H x y v u Q I rx ry h
  obtain ⟨a, b, xs, rfl, rfl, hx, hy, ne, q⟩ := h
  cases rx
  cases ry
  obtain ⟨us, r1, p1, _⟩ := I.list hx
  obtain ⟨ws, r2, p2, _⟩ := I.list hy
  have e1 := r1.length
  have e2 := r2.length
  refine (SeqAt.RcAt.lists_lengths p1.isList p2.isList ?_ (by omega)) X.prog X.w _ _ ⟨.bl false, H, I, rfl, q⟩
  rw [List.size_toArray, List.size_toArray, ← e1, ← e2]
  cases xs with
  | nil => exact absurd rfl ne
  | cons _ _ => rfl
def isE : D → Bool
  | .lst [] => true
  | _ => false
def isC : D → Bool
  | .lst (_ :: _) => true
  | _ => false
def eqE (d e : D) : M Bool := if (isC d && isE e) = true then pure false else eqX d e
section
variable {K : PySem.W.Frag} {F : Hp} {ρ : List Addr} {mg : Str → Option Value} {fr : Bool} {G : Gh} {QB : Bool → Gh → Prop} {d : D} {ds : List D}
def rEqXE (K : PySem.W.Frag) : R2 := fun x y H Q => rEqE K x y H Q ∨ rEqX K x y H Q
theorem op_eqE {X : Cx} (hu : X.A.units + 64 < cLine) : OpR X (compareOp .Eq) (rEqXE X.K) := (op_eqE1 hu).or (op_eqX hu)
theorem o_eqE : OpV K mg fr (rEqXE K) fun d e => vB (eqE d e) := by
  intro T W σ x y d e H F ρ G Q hR rx ry h
  have h : Run K T mg W σ fr F ρ (vB (eqE d e)) G Q := h
  by_cases hz : (isC d && isE e) = true
  · have e1 : eqE d e = pure false := if_pos hz
    rw [e1] at h
    cases rx with
    | @lst a xs ds hx tx =>
      cases ry with
      | @lst b ys es hy ty =>
        cases tx with
        | nil => simp [isC] at hz
        | cons t1 t2 =>
          cases ty with
          | cons _ _ => simp [isE] at hz
          | nil => exact .inl ⟨a, b, _, rfl, rfl, hR.sub.seq hx, hR.sub.seq hy, by simp, Run.pure (d := .bl false) h hR (.bl false) fun _ => .of fun _ z => nomatch z⟩
      | _ => simp [isE] at hz
    | _ => simp [isC] at hz
  · have e1 : eqE d e = eqX d e := if_neg hz
    rw [e1] at h
    exact .inr (o_eqX T W σ x y d e H F ρ G Q hR rx ry h)
@[simp ↓] theorem wp_eqEc : wpM (eqE (.lst (d :: ds)) (.lst [])) G QB ↔ QB false G := wpM_pure
@[simp ↓] theorem wp_eqEn : wpM (eqE (.lst []) (.lst [])) G QB ↔ QB true G := by
  have e : eqE (.lst []) (.lst []) = eqX (.lst []) (.lst []) := rfl
  rw [e]
  simp
end

theorem law_endS {P : Program} {w : World} {K : PySem.W.Frag} {mg mb : Str → Option Value} {k : Nat} {fa a : Addr} {cs : List (Addr × Addr)} {fd : FuncData} {x : Str} {φ : List D → M D} {fr : Bool} {s₁ : Shared} {vs : List Value} {ns : List Int} {Ge : Gh}
    (inK : K.In s₁.heap) (nsG : s₁.heap.Ns mainGlobals mg) (nsB : s₁.heap.Ns builtinsNs mb) (boot : ∀ x : Str, x ≠ "__name__" → mb x = bootBuiltins x) (noL : s₁.heap.NoLimit) (noG : s₁.gens = #[])
    (tE : ∀ p ∈ cs, s₁.heap.get? p.2 = some { cls := .none, data := .fields #[] }) (tK : ∀ p ∈ cs, K.lookup p.2 = none) (tC : ∀ p ∈ cs, PySem.W.CodeHd s₁.heap p.1 p.2)
    (bmm : ∃ (bm : Addr) (ob : Obj), mg "__builtins__" = some (.ref bm) ∧ bm ≠ builtinsNs ∧ s₁.heap.get? bm = some ob ∧ ob.cls = .type "module" ∧ ob.dict = some builtinsNs ∧ ob.data = .plain)
    (scr : s₁.heap.get? a = some { cls := .type "list", data := .seq vs.toArray }) (iv : IntsAre vs ns) (few : ns.length ≤ sizeLine) (rm : Room k callerA) (sm0 : SMod s₁.heap)
    (F : ∀ base : Heap, K.In base → base.Ns mainGlobals mg → (∀ p ∈ cs, LamX.TabB base mg p.1 p.2) → SMod base → FnG P w K mg base k fa fd [x] (spG K (cs.map (·.2)) mg 1 fr φ))
    (bind : ∀ (s : Shared) (u : Value), BindsTo s fd ⟨[u], []⟩ [(x, u)]) (hφ : φ [.lst (ns.map D.int)] [] = some (.ok (.bl true), Ge)) :
    codeAny (model P w) callerA (.call (.ref fa) ⟨[.ref a], []⟩) (fun r s' => r = .ok (.ret (.bool true)) ∧ OldK s₁.heap s'.heap ∧ s'.os = s₁.os ∧ AllBare s'.gens) s₁ := by
  have rel := ints_vals iv
  have lenV := iv.length
  generalize hts : cs.map (·.2) = ts at F
  have tabs : ∀ b ∈ ts, s₁.heap.get? b = some { cls := .none, data := .fields #[] } ∧ ∃ p ∈ cs, p.2 = b := fun b hb => by
    rw [← hts] at hb
    obtain ⟨p, hp, rfl⟩ := List.mem_map.mp hb
    exact ⟨tE p hp, p, hp, rfl⟩
  have inT : ∀ p ∈ cs, p.2 ∈ ts := fun p hp => by rw [← hts]; exact List.mem_map.mpr ⟨p, hp, rfl⟩
  have aT : a ∉ ts := fun z => by
    have q := (tabs a z).1
    rw [scr] at q
    have := congrArg Obj.data (Option.some.inj q)
    cases this
  generalize hob : ({ cls := .type "list", data := .seq vs.toArray } : Obj) = ob at scr
  have obd : ob.data = .seq vs.toArray := by rw [← hob]
  obtain ⟨own, hown⟩ : ∃ b : Bool, b = (K.lookup a).isNone := ⟨_, rfl⟩
  generalize hHp : hp0 ts a own ob ns = H
  have cases_ : ∀ {b : Addr} {u : HO}, H b = some u → (b ∈ ts ∧ u = .tbl #[]) ∨ (b = a ∧ b ∉ ts ∧ own = true ∧ u = .frz ob (.lst (ns.map V.int))) := fun {b u} h => hp0_cases (by rw [hHp]; exact h)
  have Htab : ∀ b ∈ ts, H b = some (.tbl #[]) := fun b hb => by rw [← hHp]; exact if_pos hb
  have Hscr : own = true → H a = some (.frz ob (.lst (ns.map V.int))) := fun h => by
    rw [← hHp]
    exact (if_neg aT).trans (if_pos ⟨rfl, h⟩)
  have hok : HOk P w H s₁.heap := fun b u e => by
    rcases cases_ e with ⟨h, rfl⟩ | ⟨rfl, _, _, rfl⟩
    · exact (tabs b h).1
    · exact ⟨scr, by rw [List.length_map]; exact few, vs, _, rel, by rw [scr, ← hob]⟩
  -- what is neither a list nor a table is not held
  have loose : ∀ {b : Addr} {o : Obj}, s₁.heap.get? b = some o → (∀ ys n, o.data ≠ .seq ys n) → o.data ≠ .fields #[] → H b = none := fun {b o} e n1 n2 => by
    cases q : H b with
    | none => rfl
    | some u =>
      rcases cases_ q with ⟨h, _⟩ | ⟨rfl, _⟩
      · rw [(tabs b h).1] at e; cases e
        exact absurd rfl n2
      · rw [scr] at e; cases e
        exact absurd obd (n1 _ _)
  have looseD : ∀ {b : Addr} {o : Obj} {es : Array DictEntry} {n : Nat}, s₁.heap.get? b = some o → o.data = .dict es n → H b = none := fun e d =>
    loose e (fun ys n z => by rw [d] at z; cases z) fun z => by rw [d] at z; cases z
  have keepNs : ∀ {b : Addr} {m : Str → Option Value}, s₁.heap.Ns b m → (hidT s₁.heap H).Ns b m := fun ⟨o, es, n, e, d, r⟩ => ⟨o, es, n, hidT_get e (looseD e d), d, r⟩
  have inB : K.In (hidT s₁.heap H) := fun b o e => by
    refine hidT_get (inK b o e) ?_
    cases q : H b with
    | none => rfl
    | some u =>
      rcases cases_ q with ⟨h, _⟩ | ⟨rfl, _, ho, _⟩
      · obtain ⟨_, p, hp, rfl⟩ := tabs b h
        rw [tK p hp] at e; cases e
      · rw [hown, e] at ho; cases ho
  have md : L2.Mod K mg (hidT s₁.heap H) := ⟨inB, keepNs nsG, ⟨mb, keepNs nsB, boot⟩, by obtain ⟨mc, h1, h2⟩ := noL; exact ⟨mc, keepNs h1, h2⟩⟩
  have TB : ∀ p ∈ cs, LamX.TabB (hidT s₁.heap H) mg p.1 p.2 := fun p hp => by
    refine ⟨?_, ?_, fun z => ?_⟩
    · obtain ⟨o, us, fl, tf, flags, tg, inF, tx, tt, e1, r1, r2, r3, rest⟩ := tC p hp
      exact ⟨o, us, fl, tf, flags, tg, inF, tx, tt, hidT_get e1 (loose e1 (fun ys n z => by rw [r2] at z; cases z) fun z => by rw [r2] at z; cases z; simp at r3), r1, r2, r3, rest⟩
    · obtain ⟨bm, o, b1, b2, b3, b4, b5, b6⟩ := bmm
      refine ⟨bm, o, b1, b2, fun z => ?_, fun z => ?_, hidT_get b3 (loose b3 (fun ys n z => by rw [b6] at z; cases z) fun z => by rw [b6] at z; cases z), b4, b5, b6⟩
      · obtain ⟨o', es, n, e, d, _⟩ := nsG
        rw [z, e] at b3; cases b3
        rw [d] at b6; cases b6
      · rw [z, tE p hp] at b3; cases b3
        cases b6
    · obtain ⟨o', es, n, e, d, _⟩ := nsG
      rw [z, tE p hp] at e; cases e
      cases d
  have e0 : Env0 P w K mg (hidT s₁.heap H) callerA [] s₁ H := ⟨rfl, md, fun b o e => of_hidT e, Nat.le_of_eq (hidT_size _ _), trivial, fun b hb => (List.not_mem_nil hb).elim, hok, .of_eq noG⟩
  -- the data
  generalize hFF : (fun b => if b = a then H b else none : Hp) = FF
  have FFa : ∀ {b : Addr} {u : HO}, FF b = some u → b = a ∧ H b = some u := fun {b u} h => by
    rw [← hFF] at h
    dsimp only at h
    split at h
    · exact ⟨by assumption, h⟩
    · cases h
  have rr : R K ⟨ts, []⟩ H FF [] [] := by
    refine ⟨fun b o e => (FFa e).2, rfl, .nil, fun b m => (List.not_mem_nil m).elim, fun n b ds e => by simp at e, fun b hb => ⟨?_, #[], Htab b hb, by simp [TriplesOk], codesIn_nil⟩, fun q m => (List.not_mem_nil m).elim, .nil⟩
    cases q : FF b with
    | none => rfl
    | some u => exact absurd ((FFa q).1 ▸ hb) aT
  have sq : SqL K FF a (ns.map V.int) := by
    cases hk : K.lookup a with
    | some o =>
      have e := inK a o hk
      rw [scr] at e; cases e
      refine .inr ⟨_, vs.toArray, _, hk, by rw [← hob], by rw [← hob], obd, by rw [List.size_toArray, lenV]; exact few, by simpa using rel⟩
    | none =>
      refine .inl (.inr ⟨ob, ?_⟩)
      rw [← hFF]
      exact (if_pos rfl).trans (Hscr (by rw [hown, hk]; rfl))
  have sp : spG K ts mg 1 fr φ [.ref a] H (fun v _ => v = .bl true) (fun _ _ _ => False) :=
    ⟨rfl, [], FF, [], [], [.lst (ns.map D.int)], rr, .cons (.lst sq (dra_ints ns)) .nil, _, Ge, hφ, fun v H' F' ρ' _ _ _ r _ => by cases r; rfl⟩
  refine codeAny_mono ((F _ inB (keepNs nsG) TB (let ⟨o, es, n, e, d⟩ := sm0; ⟨o, es, n, hidT_get e (looseD e d), d⟩)).run callerA [] s₁ H ⟨[.ref a], []⟩ [.ref a] [.ref a] _ _ rfl rm e0 (bind s₁ (.ref a)) (.cons rfl .nil) sp) fun r s' h => ?_
  match r, h with
  | .error e, h =>
    obtain ⟨_, _, _, _, _, _, _, _, _, _, _, _, z⟩ := h
    exact z.elim
  | .ok (.ret u), ⟨v, H', os, bare, un, hok', r', q⟩ =>
    have q : v = .bl true := q
    subst q
    obtain rfl : u = Value.bool true := r'
    have same_ : ∀ b o, b ∉ ts → s₁.heap.get? b = some o → s'.heap.get? b = some o := fun b o nb e => by
      cases q : H b with
      | none => exact un.keep b o e q (fun z => (List.not_mem_nil z).elim) (fun z => (List.not_mem_nil z).elim)
      | some u =>
        rcases cases_ q with ⟨h, _⟩ | ⟨rfl, _, _, rfl⟩
        · exact absurd h nb
        · have e1 := (hok' b _ (un.frzs b _ _ q)).1
          rw [scr] at e; cases e
          exact e1
    have more_ : ∀ b ∈ ts, ∃ more : Array Value, s'.heap.get? b = some { cls := .none, data := .fields more } := fun b hb => by
      obtain ⟨more, z⟩ := un.tbls b #[] (Htab b hb)
      exact ⟨_, hok' b _ z⟩
    refine ⟨rfl, ⟨fun b o e => ?_, fun b o e => ?_⟩, os, bare⟩
    · by_cases hb : b ∈ ts
      · obtain ⟨_, p, hp, rfl⟩ := tabs b hb
        obtain ⟨more, hm⟩ := more_ _ hb
        rw [tE p hp] at e; cases e
        refine .inr (.inl ⟨((tC p hp).tab (tE p hp)).isCodeTable, rfl, #[], more, rfl, ?_⟩)
        rw [Array.empty_append]; exact hm
      · exact .inl (same_ b o hb e)
    · by_cases hb : b ∈ ts
      · obtain ⟨more, hm⟩ := more_ b hb
        exact ⟨_, hm⟩
      · exact ⟨o, same_ b o hb e⟩
theorem law_walkS {l : PySem.W.OpenLaw} {q : Program} {loose : List Str} {XP : (Str → Option Value) → Heap → Prop} {YP : World → Heap → Prop} {d : DefRec} {x : Str} {k : Nat} {φ : List D → M D} {fr : Bool} (hn : l.most = some 63) (hdf : d.params.defaults = []) (rm : Room k callerA) (hin : importsNone q = true)
    (F : ∀ (w : World) (mg : Str → Option Value) (fa : Addr) (h : Heap), YP w h → h.Ns mainGlobals mg → mg d.name = some (.ref fa) → ∃ (K : PySem.W.Frag) (cs : List (Addr × Addr)) (fd : FuncData), K.In h ∧ (∀ p ∈ cs, h.get? p.2 = some { cls := .none, data := .fields #[] }) ∧ (∀ p ∈ cs, K.lookup p.2 = none) ∧ (∀ p ∈ cs, PySem.W.CodeHd h p.1 p.2) ∧
      (∀ (s : Shared) (u : Value), BindsTo s fd ⟨[u], []⟩ [(x, u)]) ∧ ∀ base : Heap, K.In base → base.Ns mainGlobals mg → (∀ p ∈ cs, LamX.TabB base mg p.1 p.2) → SMod base → FnG l.prog w K mg base k fa fd [x] (spG K (cs.map (·.2)) mg 1 fr φ))
    (hφ : ∀ ns : List Int, ns.length ≤ 63 → (∀ z ∈ ns, Builtin.Int.intBits z ≤ 1048576) → ∃ Ge, φ [.lst (ns.map D.int)] [] = some (.ok (.bl true), Ge)) :
    PySem.W.WalkO q loose XP YP l.row.toRowW d [] (fun f vs => PySem.call f vs) := by
  refine Att.attach_callB hn hdf fun w s₀ s₁ mg mb fa o pm cd doc a vs ns G Y ho hd hcd hmg hobj hints hlen hbits hg => ?_
  obtain ⟨K, cs, fd, inK, tE, tK, tC, bind, hF⟩ := F w mg fa _ Y G.T.g hmg
  obtain ⟨Ge, e⟩ := hφ ns hlen hbits
  exact law_endS inK G.T.g G.T.b G.T.builtins G.T.nolimit hg tE tK tC G.T.bmain hobj hints (Nat.le_trans hlen (by decide)) rm (smod_of (G.T.seer hin)) hF bind e
end L2.GL
end

section
set_option Elab.async false
set_option linter.all false
set_option maxRecDepth 100000
set_option autoImplicit false
/-! G48: the hook with a cheaper closure: what has been seen is a whole number's bits. -/
namespace L2.GL
open PySem PySem.Spec PyProof.Rows
def namesAt (g : Addr → Option Obj) (a : Addr) : List Addr := (g a).elim [] He.refsD
def seenAdd : List Addr → List Addr → Nat → List Addr × Nat
  | [], acc, S => (acc, S)
  | a :: as, acc, S => match Nat.testBit S a with
    | true => seenAdd as acc S
    | false => seenAdd as (a :: acc) (S ||| 1 <<< a)
def levels (g : Addr → Option Obj) : Nat → List Addr → List Addr → Nat → List Addr
  | 0, _, all, _ => all
  | n + 1, fr, all, S => match seenAdd (fr.flatMap (namesAt g)) [] S with
    | (new, S2) => levels g n new (all ++ new) S2
def reach (g : Addr → Option Obj) (n : Nat) : List Addr := levels g n [mainGlobals] [mainGlobals] (1 <<< mainGlobals)
def obsB (n : Nat) (fa : List He.Fa) (fn : List He.DefD) (tf : List He.Defn) (ex : PySem.W.Frag → Bool) (g : Addr → Option Obj) : He.AlX :=
  (fun K => (He.obsT fa fn [] K, ex K && He.tabsB g tf K)) (He.frT g (reach g n))
theorem saysB {fa : List He.Fa} {fn : List He.DefD} {tf : List He.Defn} {ex : PySem.W.Frag → Bool} {n : Nat} {w : World} {h : Heap} (e : obsB n fa fn tf ex h.get? = He.valX fn [] w) :
    ∃ K : PySem.W.Frag, K.In h ∧ He.SaysX fa fn [] tf ex w h K := by
  refine ⟨He.frT h.get? (reach h.get? n), He.frT_in, ?_⟩
  unfold obsB He.valX at e
  dsimp only at e
  injection e with q1 q2
  obtain ⟨q3, q4⟩ := Bool.and_eq_true_iff.mp q2
  have each : ∀ p ∈ tf, PySem.W.codeHdIn (He.frT h.get? (reach h.get? n)) (He.cT (He.frT h.get? (reach h.get? n)) p).1 (He.cT (He.frT h.get? (reach h.get? n)) p).2 = true ∧ ∃ o : Obj, h.get? (He.cT (He.frT h.get? (reach h.get? n)) p).2 = some o ∧ He.emptyTab o = true := by
    intro p hp
    obtain ⟨z1, z2⟩ := Bool.and_eq_true_iff.mp (List.all_eq_true.mp q4 p hp)
    refine ⟨z1, ?_⟩
    split at z2
    · rename_i o ho
      exact ⟨o, ho, z2⟩
    · cases z2
  constructor
  · exact q1
  · exact q3
  · exact fun p hp => (each p hp).1
  · intro p hp
    obtain ⟨o, ho, em⟩ := (each p hp).2
    exact He.frT_none ho em
  · intro p hp
    obtain ⟨o, ho, em⟩ := (each p hp).2
    rw [ho, He.emptyTab_eq em]
def hookB (n : Nat) (fa : List He.Fa) (fn : List He.DefD) (tf : List He.Defn) (ex : PySem.W.Frag → Bool) : PySem.W.Hook :=
  { α := He.AlX, obs := fun s => obsB n fa fn tf ex s.heap.get?, val := fun w => He.valX fn [] w, says := fun w h => ∃ K : PySem.W.Frag, K.In h ∧ He.SaysX fa fn [] tf ex w h K,
    of := fun _ _ e => saysB e,
    keeps := fun w h h' x k => by
      obtain ⟨K, hK, c⟩ := x
      exact ⟨K, hK.keeps k, c.t, c.more, c.hd, c.out, fun p hp => k _ _ (c.empty p hp)⟩ }
theorem obsB_eq {n : Nat} {fa : List He.Fa} {fn : List He.DefD} {tf : List He.Defn} {ex : PySem.W.Frag → Bool} {g : Addr → Option Obj} {s : Shared} (h : ∀ a, g a = s.heap.get? a) : obsB n fa fn tf ex g = (hookB n fa fn tf ex).obs s := by
  rw [show g = s.heap.get? from funext h]
  rfl
/-- a run looked at twice -/
theorem run_two {X A S B : Type} {o : Option X} {f1 : X → A} {f2 : X → S} {f3 : X → B} {a : A} {s : S} {b : B} (h1 : o.map (fun x => (f1 x, f2 x)) = some (a, s)) (h2 : o.map f3 = some b) : o.map (fun x => (f1 x, f2 x, f3 x)) = some (a, s, b) := by
  cases o with
  | none => cases h2
  | some x =>
    simp only [Option.map_some, Option.some.injEq, Prod.mk.injEq] at h1 h2 ⊢
    exact ⟨h1.1, h1.2, h2⟩
end L2.GL
end

section
set_option Elab.async false
set_option linter.all false
set_option maxRecDepth 100000
set_option autoImplicit false
/-! G49: methods of texts: join, split, startswith, isdigit. -/
namespace L2.GL
open PySem PySem.Spec PyProof.Rows
def onStr (d : D) (k : Str → M D) : M D := match d with
  | .str a => k a
  | _ => stuck
section
variable {X : Cx} {T : List Addr} {W : WX} {o e : Expr} {fo fe : EnvD → M D} {go ge fr : Bool} {name : Str} {id : String} {apos cpos : Pos} {r : V → List V → Hp → VK → Prop}
/-- x.name(y) of a text x -/
theorem v_m1 {g : Str → D → M D} (slot : Slot "str" name id) (hty : typeOf (.builtin id) = pure (.type "method_descriptor")) (mt : MtR X id r)
    (hg : ∀ (S : Side) (σ : L2.St) (a : Str) (y : V) (d : D) (H F : Hp) (ρ : List Addr) (G : Gh) (Q : VK), R X.K S H F ρ G → Dr X.K F ρ y d → Run X.K S X.mg W σ fr F ρ (g a d) G Q → r (.str a) [y] H Q)
    (ho : PV X T W go o fo) (he : PV X T W ge e fe) (hbase : attributeBase o name X.env (eval o X.env) = eval o X.env := by rfl)
    (hfew : ((backTo cpos (starEach [e] X.env)).all (fun x => !x.1) && (backToKw cpos (keywordEach [] X.env)).all (fun x => x.1.isSome) && decide (([e] : List Expr).length + ([] : List Keyword).length + (if ([] : List Keyword).isEmpty then 0 else 1) < 30)) = true := by rfl)
    (hline : (apos.endLine == cpos.line) = true := by rfl) (hs : starEach [e] X.env = (false, eval e X.env) :: starEach [] X.env := by rfl) :
    PV X T W fr (.Call (.Attribute o name apos) [e] [] cpos) (fun env => do let x ← fo env; onStr x fun a => do let y ← fe env; g a y) := by
  have h1 : PVs X T W [e] (fun env => do let d ← fe env; pure [d]) := PA.imp (pa_cons he pa_nil hs) fun σ H Q ⟨Φ, F, ρ, G, env, hR, hS, h⟩ => ⟨Φ, F, ρ, G, env, hR, hS, RunA.bind (fr1 := ge) h fun v d H1 F1 ρ1 G1 R1 s1 p1 r1 h1 => h1.pure R1 (.cons r1 .nil)⟩
  refine PE.imp (pe_bm PySem.F.plainAttrs_str slot hty mt ho h1 hbase hfew hline hs) fun σ H Q ⟨Φ, F, ρ, G, env, hR, hS, h⟩ => ?_
  refine ⟨Φ, F, ρ, G, env, hR, hS, Run.bind (fr := fr) h fun xv l H1 F1 ρ1 G1 R1 s1 p1 r1 _ h2 => ?_⟩
  cases r1 with
  | str a =>
    have h3 : Run X.K ⟨T, Φ⟩ X.mg W σ fr F1 ρ1 (fe env >>= fun y => g a y) G1 Q := h2
    have h4 : RunA X.K ⟨T, Φ⟩ X.mg W σ F1 ρ1 (fe env >>= fun d => (pure [d] : M (List D))) G1 fun vs H2 => r (.str a) vs H2 Q := by
      obtain ⟨rr, G', e, h3⟩ := h3
      rcases bind_parts e with ⟨d, G2, e1, e2⟩ | ⟨c, e1, rfl⟩
      · refine ⟨.ok [d], G2, bind_ok e1, fun vs H2 F2 ρ2 R2 s2 p2 r2 => ?_⟩
        obtain ⟨v, rfl, rv⟩ := r2.one
        have h5 : Run X.K ⟨T, Φ⟩ X.mg W σ fr F1 ρ1 (g a d) G2 Q := ⟨rr, G', e2, h3⟩
        exact hg _ σ a v d H2 F2 ρ2 G2 Q R2 rv (h5.from s2 p2)
      · exact ⟨.ex c, G', bind_ex e1, h3⟩
    exact ⟨rfl, Φ, F1, ρ1, G1, env, R1, hS.mono s1 p1, h4⟩
  | _ => obtain ⟨r', G', z, _⟩ := h2; cases z
/-- x.name() of a text x -/
theorem v_m0 {g : Str → M D} (slot : Slot "str" name id) (hty : typeOf (.builtin id) = pure (.type "method_descriptor")) (mt : MtR X id r)
    (hg : ∀ (S : Side) (σ : L2.St) (a : Str) (H F : Hp) (ρ : List Addr) (G : Gh) (Q : VK), R X.K S H F ρ G → Run X.K S X.mg W σ fr F ρ (g a) G Q → r (.str a) [] H Q)
    (ho : PV X T W go o fo) (hbase : attributeBase o name X.env (eval o X.env) = eval o X.env := by rfl) (hline : (apos.endLine == cpos.line) = true := by rfl) :
    PV X T W fr (.Call (.Attribute o name apos) [] [] cpos) (fun env => do let x ← fo env; onStr x g) := by
  refine PE.imp (pe_bm0 PySem.F.plainAttrs_str slot hty mt ho hbase hline) fun σ H Q ⟨Φ, F, ρ, G, env, hR, hS, h⟩ => ?_
  refine ⟨Φ, F, ρ, G, env, hR, hS, Run.bind (fr := fr) h fun xv l H1 F1 ρ1 G1 R1 s1 p1 r1 _ h2 => ?_⟩
  cases r1 with
  | str a => exact ⟨rfl, hg _ σ a H1 F1 ρ1 G1 Q R1 h2⟩
  | _ => obtain ⟨r', G', z, _⟩ := h2; cases z
end

/-! ### as data -/
def strsOf : List D → Option (List Str)
  | [] => some []
  | .str a :: ds => (strsOf ds).map (a :: ·)
  | _ => none
theorem strsOf_V {K : PySem.W.Frag} {F : Hp} {ρ : List Addr} : ∀ {ds : List D} {xs : List V} {ys : List Str}, strsOf ds = some ys → DrA K F ρ xs ds → xs = ys.map V.str
  | [], _, _, e, r => by
    cases r
    cases e
    rfl
  | d :: ds, _, ys, e, r => by
    cases r with
    | @cons v _ vs _ r1 r2 =>
      cases d with
      | str a =>
        simp only [strsOf] at e
        cases q : strsOf ds with
        | none => rw [q] at e; cases e
        | some zs =>
          rw [q] at e
          cases e
          cases r1
          rw [strsOf_V q r2]
          rfl
      | _ => simp [strsOf] at e
theorem dra_strs {K : PySem.W.Frag} {F : Hp} {ρ : List Addr} : ∀ ys : List Str, DrA K F ρ (ys.map V.str) (ys.map D.str)
  | [] => .nil
  | y :: ys => .cons (.str y) (dra_strs ys)
/-- a.join(d), d a list of texts -/
def joinG (a : Str) (d : D) : M D := match d with
  | .lst ds => do
    let ys ← liftO (strsOf ds)
    if (ys.map (·.length)).sum + ys.length * a.length ≤ 16777216 then pure (.str (Txt.join a ys)) else stuck
  | _ => stuck
/-- a.split(d) -/
def splitG (a : Str) (d : D) : M D := match d with
  | .str b => if (b.length == 0) = false ∧ a.length + 2 ≤ sizeLine then pure (.lst ((Txt.split a b).map D.str)) else stuck
  | _ => stuck
def startsG (a : Str) (d : D) : M D := match d with
  | .str b => pure (.bl (Txt.startswith a b))
  | _ => stuck
def isdigitG (a : Str) : M D := pure (.bl (Txt.isdigit a))
section
variable {X : Cx} {T : List Addr} {W : WX} {o e : Expr} {fo fe : EnvD → M D} {go ge fr : Bool} {apos cpos : Pos}
theorem v_join (ho : PV X T W go o fo) (he : PV X T W ge e fe) (hbase : attributeBase o "join" X.env (eval o X.env) = eval o X.env := by rfl)
    (hfew : ((backTo cpos (starEach [e] X.env)).all (fun x => !x.1) && (backToKw cpos (keywordEach [] X.env)).all (fun x => x.1.isSome) && decide (([e] : List Expr).length + ([] : List Keyword).length + (if ([] : List Keyword).isEmpty then 0 else 1) < 30)) = true := by rfl)
    (hline : (apos.endLine == cpos.line) = true := by rfl) (hs : starEach [e] X.env = (false, eval e X.env) :: starEach [] X.env := by rfl) :
    PV X T W true (.Call (.Attribute o "join" apos) [e] [] cpos) (fun env => do let x ← fo env; onStr x fun a => do let y ← fe env; joinG a y) :=
  v_m1 PySem.F.slot_str_join PySem.F.type_str_join mt_join (fun S σ a y d H F ρ G Q hR r h => by
    cases r with
    | @lst p xs ds hx tx =>
      have e : joinG a (.lst ds) = (liftO (strsOf ds) >>= fun ys => if (ys.map (·.length)).sum + ys.length * a.length ≤ 16777216 then pure (.str (Txt.join a ys)) else stuck) := rfl
      rw [e] at h
      cases q : strsOf ds with
      | none =>
        rw [q] at h
        obtain ⟨r', G', z, _⟩ := h
        cases z
      | some ys =>
        rw [q] at h
        have h : Run X.K S X.mg W σ true F ρ (if (ys.map (·.length)).sum + ys.length * a.length ≤ 16777216 then pure (.str (Txt.join a ys)) else stuck : M D) G Q := h
        split at h
        · rename_i hz
          have hq : SqL X.K H p (ys.map V.str) := by rw [← strsOf_V q tx]; exact hR.sub.seq hx
          exact ⟨a, p, ys, rfl, rfl, .inl hq, hz, h.pure hR (.str _) fun _ => .of fun _ z => nomatch z⟩
        · exact h.stuck.elim
    | _ => exact h.stuck.elim) ho he hbase hfew hline hs
theorem v_split (ho : PV X T W go o fo) (he : PV X T W ge e fe) (hbase : attributeBase o "split" X.env (eval o X.env) = eval o X.env := by rfl)
    (hfew : ((backTo cpos (starEach [e] X.env)).all (fun x => !x.1) && (backToKw cpos (keywordEach [] X.env)).all (fun x => x.1.isSome) && decide (([e] : List Expr).length + ([] : List Keyword).length + (if ([] : List Keyword).isEmpty then 0 else 1) < 30)) = true := by rfl)
    (hline : (apos.endLine == cpos.line) = true := by rfl) (hs : starEach [e] X.env = (false, eval e X.env) :: starEach [] X.env := by rfl) :
    PV X T W true (.Call (.Attribute o "split" apos) [e] [] cpos) (fun env => do let x ← fo env; onStr x fun a => do let y ← fe env; splitG a y) :=
  v_m1 PySem.F.slot_str_split PySem.F.type_str_split mt_split (fun S σ a y d H F ρ G Q hR r h => by
    cases r with
    | str b =>
      have e : splitG a (.str b) = if (b.length == 0) = false ∧ a.length + 2 ≤ sizeLine then pure (.lst ((Txt.split a b).map D.str)) else stuck := rfl
      rw [e] at h
      split at h
      · rename_i hz
        exact ⟨a, b, rfl, rfl, hz.1, hz.2, fun p hp => h.newL hR (dra_strs _) hp⟩
      · exact h.stuck.elim
    | _ => exact h.stuck.elim) ho he hbase hfew hline hs
theorem v_starts (ho : PV X T W go o fo) (he : PV X T W ge e fe) (hbase : attributeBase o "startswith" X.env (eval o X.env) = eval o X.env := by rfl)
    (hfew : ((backTo cpos (starEach [e] X.env)).all (fun x => !x.1) && (backToKw cpos (keywordEach [] X.env)).all (fun x => x.1.isSome) && decide (([e] : List Expr).length + ([] : List Keyword).length + (if ([] : List Keyword).isEmpty then 0 else 1) < 30)) = true := by rfl)
    (hline : (apos.endLine == cpos.line) = true := by rfl) (hs : starEach [e] X.env = (false, eval e X.env) :: starEach [] X.env := by rfl) :
    PV X T W true (.Call (.Attribute o "startswith" apos) [e] [] cpos) (fun env => do let x ← fo env; onStr x fun a => do let y ← fe env; startsG a y) :=
  v_m1 PySem.F.slot_str_startswith PySem.F.type_str_startswith mt_startswith (fun S σ a y d H F ρ G Q hR r h => by
    cases r with
    | str b => exact ⟨a, b, rfl, rfl, Run.pure (d := .bl (Txt.startswith a b)) h hR (.bl _) fun _ => .of fun _ z => nomatch z⟩
    | _ => exact h.stuck.elim) ho he hbase hfew hline hs
theorem v_isdigit (ho : PV X T W go o fo) (hbase : attributeBase o "isdigit" X.env (eval o X.env) = eval o X.env := by rfl) (hline : (apos.endLine == cpos.line) = true := by rfl) :
    PV X T W true (.Call (.Attribute o "isdigit" apos) [] [] cpos) (fun env => do let x ← fo env; onStr x isdigitG) :=
  v_m0 PySem.F.slot_str_isdigit PySem.F.type_str_isdigit mt_isdigit (fun S σ a H F ρ G Q hR h => ⟨a, rfl, rfl, trivial, Run.pure (d := .bl (Txt.isdigit a)) h hR (.bl _) fun _ => .of fun _ z => nomatch z⟩) ho hbase hline
end
section
variable {G : Gh} {Q : D → Gh → Prop} {a b : Str} {ys : List Str} {k : Str → M D}
@[simp ↓] theorem wp_onStr : wpM (onStr (.str a) k) G Q ↔ wpM (k a) G Q := Iff.rfl
theorem strsOf_map : ∀ ys : List Str, strsOf (ys.map D.str) = some ys
  | [] => rfl
  | y :: ys => by simp [strsOf, strsOf_map ys]
theorem wp_join (h : (ys.map (·.length)).sum + ys.length * a.length ≤ 16777216) : wpM (joinG a (.lst (ys.map D.str))) G Q ↔ Q (.str (Txt.join a ys)) G := by
  have e : joinG a (.lst (ys.map D.str)) = (liftO (strsOf (ys.map D.str)) >>= fun ys => if (ys.map (·.length)).sum + ys.length * a.length ≤ 16777216 then pure (.str (Txt.join a ys)) else stuck) := rfl
  rw [e, strsOf_map, wpM_bind]
  show wpM (pure ys) G _ ↔ _
  rw [wpM_pure, if_pos h, wpM_pure]
theorem wp_split (h : (b.length == 0) = false) (h2 : a.length + 2 ≤ sizeLine) : wpM (splitG a (.str b)) G Q ↔ Q (.lst ((Txt.split a b).map D.str)) G := by
  have e : splitG a (.str b) = if (b.length == 0) = false ∧ a.length + 2 ≤ sizeLine then pure (.lst ((Txt.split a b).map D.str)) else stuck := rfl
  rw [e, if_pos ⟨h, h2⟩, wpM_pure]
@[simp ↓] theorem wp_starts : wpM (startsG a (.str b)) G Q ↔ Q (.bl (Txt.startswith a b)) G := wpM_pure
@[simp ↓] theorem wp_isdigit : wpM (isdigitG a) G Q ↔ Q (.bl (Txt.isdigit a)) G := wpM_pure
end
end L2.GL
end

section
set_option Elab.async false
set_option linter.all false
set_option maxRecDepth 100000
set_option autoImplicit false
/-! G50: a sign in a text; int of a text. -/
namespace L2.GL
open PySem PySem.Spec PyProof.Rows
/-- the one sign of a text -/
def signOf (x : Str) : Option Nat := match x.cps.toList with
  | [c] => some c
  | _ => none
theorem signOf_eq {x : Str} {c : Nat} (h : signOf x = some c) : x = ⟨#[c]⟩ := by
  unfold signOf at h
  split at h
  · rename_i z q
    cases h
    obtain ⟨cs⟩ := x
    have : cs = #[c] := by
      apply Array.toList_inj.mp
      exact q
    rw [this]
  · cases h
def inS (d e : D) : M Bool := match d, e with
  | .str x, .str z => do let c ← liftO (signOf x); pure (decide (c ∈ z.cps.toList))
  | _, _ => stuck
section
variable {K : PySem.W.Frag} {mg : Str → Option Value} {fr : Bool} {G : Gh} {QB : Bool → Gh → Prop} {Q : D → Gh → Prop}
def rInS : R2 := fun x y H Q => ∃ (c : Nat) (z : Str), x = .str ⟨#[c]⟩ ∧ y = .str z ∧ Q (.bl (decide (c ∈ z.cps.toList))) H
theorem op_inS {X : Cx} : OpR X (compareOp .In) rInS := op_in_sign
theorem o_inS : OpV K mg fr rInS fun d e => vB (inS d e) := by
  intro T W σ x y d e H F ρ G Q hR rx ry h
  have h : Run K T mg W σ fr F ρ (inS d e >>= fun b => (Pure.pure (D.bl b) : M D)) G Q := h
  cases rx with
  | str a =>
    cases ry with
    | str z =>
      cases q : signOf a with
      | none =>
        have e1 : inS (.str a) (.str z) = (liftO (signOf a) >>= fun c => pure (decide (c ∈ z.cps.toList))) := rfl
        rw [e1, q] at h
        obtain ⟨r', G', zz, _⟩ := h
        cases zz
      | some c =>
        have e1 : inS (.str a) (.str z) = (liftO (signOf a) >>= fun c => pure (decide (c ∈ z.cps.toList))) := rfl
        rw [e1, q] at h
        have h : Run K T mg W σ fr F ρ (Pure.pure (D.bl (decide (c ∈ z.cps.toList)))) G Q := h
        exact ⟨c, z, by rw [signOf_eq q], rfl, h.pure hR (.bl _) fun _ => .of fun _ zz => nomatch zz⟩
    | _ => obtain ⟨r', G', zz, _⟩ := h; cases zz
  | _ => obtain ⟨r', G', zz, _⟩ := h; cases zz
/-- int(..), of a text too -/
def fIntX : List D → M D
  | [.str a] => do let n ← liftO (PySem.intText? a); if a.length ≤ 640 then pure (.int n) else stuck
  | ds => fInt ds
def rIntX : List V → Hp → VK → Prop := fun xs H Q => ((∃ i, xs = [.int i] ∧ Q (.int i) H) ∨ ∃ k, xs = [.bl k] ∧ Q (.int (if k then 1 else 0)) H) ∨ ∃ a n, xs = [.str a] ∧ PySem.intText? a = some n ∧ a.length ≤ 640 ∧ Q (.int n) H
theorem call_intX {X : Cx} : CallR X (.type "int") rIntX := call_int1.or call_int_str
theorem s_intX : CallV K mg fr rIntX fIntX := by
  intro T W σ vs ds H F ρ G Q hR rs h
  unfold fIntX at h
  split at h
  · rename_i a
    obtain ⟨v, rfl, r⟩ := rs.one
    cases r
    cases q : PySem.intText? a with
    | none =>
      rw [q] at h
      obtain ⟨r', G', zz, _⟩ := h
      cases zz
    | some n =>
      rw [q] at h
      have h : Run K T mg W σ fr F ρ (if a.length ≤ 640 then pure (.int n) else stuck : M D) G Q := h
      split at h
      · rename_i hz
        exact .inr ⟨a, n, rfl, q, hz, h.pure hR (.int _) fun _ => .of fun _ zz => nomatch zz⟩
      · exact h.stuck.elim
  · exact .inl (s_int T W σ vs ds H F ρ G Q hR rs h)
theorem wp_intS {a : Str} {n : Int} (h : PySem.intText? a = some n) (hl : a.length ≤ 640) : wpM (fIntX [.str a]) G Q ↔ Q (.int n) G := by
  have e : fIntX [.str a] = (do let n ← liftO (PySem.intText? a); if a.length ≤ 640 then pure (.int n) else stuck : M D) := rfl
  rw [e, h, wpM_bind]
  show wpM (pure n) G _ ↔ _
  rw [wpM_pure, if_pos hl, wpM_pure]
@[simp ↓] theorem wp_intXI {i : Int} : wpM (fIntX [.int i]) G Q ↔ Q (.int i) G := wpM_pure
@[simp ↓] theorem wp_inS {c : Nat} {z : Str} : wpM (inS (.str ⟨#[c]⟩) (.str z)) G QB ↔ QB (decide (c ∈ z.cps.toList)) G := wpM_pure
end
end L2.GL
end

section
set_option Elab.async false
set_option linter.all false
set_option maxRecDepth 100000
set_option autoImplicit false
set_option maxHeartbeats 1000000
/-! G51: all(.. for .. in .. for .. in ..). -/
namespace L2.GL
open PySem PySem.Spec PyProof.Rows GenW
theorem turn_gen2 (elt tg iter tg1 iter1 : Expr) (ifs ifs1 : List Expr) (scope : Scope) (pos : Pos) (it acc : Value) (env : Env) :
    compTurn (.GeneratorExp elt [⟨tg, iter, ifs, 0⟩, ⟨tg1, iter1, ifs1, 0⟩] scope pos) 0 it acc env = (do
      standAt iter.pos
      match ← pyNext it with
      | none => pure (.done .next)
      | some v =>
        letOwnedTupleGo tg it v
        assign tg env v
        let mut ok := true
        for c in ifs do
          if ok then ok ← isTrue c env (eval c env)
        if ok then
          let x ← eval iter1 env
          standAt iter1.pos
          let x ← foldedSetIterable iter1 env x
          let _ ← runOwn (.compStart (.GeneratorExp elt [⟨tg, iter, ifs, 0⟩, ⟨tg1, iter1, ifs1, 0⟩] scope pos) 1 (← holding [x] (pyIter x)) acc env) env
        again (.compLoop (.GeneratorExp elt [⟨tg, iter, ifs, 0⟩, ⟨tg1, iter1, ifs1, 0⟩] scope pos) 0 it acc env)) := by rfl
theorem turn_gen2i (elt tg iter tg1 iter1 : Expr) (ifs ifs1 : List Expr) (scope : Scope) (pos : Pos) (it acc : Value) (env : Env) :
    compTurn (.GeneratorExp elt [⟨tg, iter, ifs, 0⟩, ⟨tg1, iter1, ifs1, 0⟩] scope pos) 1 it acc env = (do
      standAt iter1.pos
      match ← pyNext it with
      | none => pure (.done .next)
      | some v =>
        letOwnedTupleGo tg1 it v
        assign tg1 env v
        let mut ok := true
        for c in ifs1 do
          if ok then ok ← isTrue c env (eval c env)
        if ok then
          (do let v ← eval elt env; standAt elt.pos; let _ ← yieldOut env v)
        again (.compLoop (.GeneratorExp elt [⟨tg, iter, ifs, 0⟩, ⟨tg1, iter1, ifs1, 0⟩] scope pos) 1 it acc env)) := by rfl
section
variable {A : Around} {elt tg iter tg1 iter1 : Expr} {ifs ifs1 : List Expr} {scope : Scope} {pos : Pos} {it it1 acc : Value} {ce : Env}
abbrev ge2 (elt tg iter tg1 iter1 : Expr) (ifs ifs1 : List Expr) (scope : Scope) (pos : Pos) : Expr := .GeneratorExp elt [⟨tg, iter, ifs, 0⟩, ⟨tg1, iter1, ifs1, 0⟩] scope pos
theorem over2_l {e : Expr} (he : e = ge2 elt tg iter tg1 iter1 ifs ifs1 scope pos) : A.over (.compLoop e 0 it acc ce) [] = A.deeper ce := by
  subst he
  obtain ⟨hd, d, fr, gs, u⟩ := A
  simp [Around.over, Around.deeper, marksOver, frameCount, unitsOf, envsOf, guardsOf, pushEnvs, pushGuards, Code.envs, Code.env?, Code.isFrame, Code.guards, Code.isGuard, Code.weight, Code.frames, Code.isCreation, Code.isCaller, Code.cUnits]
theorem over2_s {e : Expr} (he : e = ge2 elt tg iter tg1 iter1 ifs ifs1 scope pos) : A.over (.compStart e 0 it acc ce) [] = A.deeper ce := by
  subst he
  obtain ⟨hd, d, fr, gs, u⟩ := A
  simp [Around.over, Around.deeper, marksOver, frameCount, unitsOf, envsOf, guardsOf, pushEnvs, pushGuards, Code.envs, Code.env?, Code.isFrame, Code.guards, Code.isGuard, Code.weight, Code.frames, Code.isCreation, Code.isCaller, Code.cUnits]
theorem over2_i {e : Expr} {k : Result → Sem PySem.Fin} {l : List Value} {p : Pos} (he : e = ge2 elt tg iter tg1 iter1 ifs ifs1 scope pos) : A.over (.compLoop e 1 it1 acc ce) [.ret k none false l (.compLoop e 0 it acc ce) p []] = A.deeper ce := by
  subst he
  obtain ⟨hd, d, fr, gs, u⟩ := A
  simp [Around.over, Around.deeper, marksOver, frameCount, unitsOf, envsOf, guardsOf, pushEnvs, pushGuards, Code.envs, Code.env?, Code.isFrame, Code.guards, Code.isGuard, Code.weight, Code.frames, Code.isCreation, Code.isCaller, Code.cUnits, Frame.where_, Frame.marks, markOver]
theorem over2_j {e : Expr} {k : Result → Sem PySem.Fin} {l : List Value} {p : Pos} (he : e = ge2 elt tg iter tg1 iter1 ifs ifs1 scope pos) : A.over (.compStart e 1 it1 acc ce) [.ret k none false l (.compLoop e 0 it acc ce) p []] = A.deeper ce := by
  subst he
  obtain ⟨hd, d, fr, gs, u⟩ := A
  simp [Around.over, Around.deeper, marksOver, frameCount, unitsOf, envsOf, guardsOf, pushEnvs, pushGuards, Code.envs, Code.env?, Code.isFrame, Code.guards, Code.isGuard, Code.weight, Code.frames, Code.isCreation, Code.isCaller, Code.cUnits, Frame.where_, Frame.marks, markOver]
end
section
variable {GX : Cx} {T : List Addr} {Φ : List (Addr × List V)} {F0 F1 : Hp} {ρ0 ρ1 : List Addr} {vs vs1 : List Nat} {σ σ1 : L2.St} {stop : Bool} {ft1 : MT} {tt1 : EnvD → M Bool} {te : EnvD → M D} {env1 : EnvD} {ds1 : List D} {br y : Bool} {Gr G4 : Gh} {pins : List (Addr × Obj)} {m : Nat}
/-- the inner walk -/
theorem seg_in {A : Around} {e elt tg iter tg1 iter1 : Expr} {ifs ifs1 : List Expr} {scope : Scope} {pos : Pos} {itO : Value} {k : Result → Sem PySem.Fin} {l : List Value} {p : Pos} {it1 : Addr} {fp1 : List Addr} {tn1 : Nat → Heap → Prop} {J1 : It} {us1 : List Nat} {gr : Bool}
    (he : e = ge2 elt tg iter tg1 iter1 ifs ifs1 scope pos) (hA : GX.A = A.deeper GX.env) (hcalm : GX.calm = true) (hxe : GX.xe = fun _ _ => False) (hsc : GX.env.scope.isCoroutine = false)
    (Tn : Turn GX.prog GX.w GX.K tg1 J1 fp1 it1 tn1) (hfp : ∀ b ∈ fp1, ∀ H' : Hp, H' b = none → FpOk GX pins H' b) (j1 : JOk GX.K T J1 F1 ρ1 ds1) (hS : RS GX.K F1 ρ1 (L2.wipe σ1 vs1) env1) (hu : ∀ i ∈ us1, i ∈ vs1)
    (pg : PGV GX T us1 tg1 ft1) (pt : PTsV GX T ifs1 tt1) (pe : PV GX T W0 gr elt te)
    (back0 : ∀ {H' : Hp} {s' : Shared}, Inv GX pins (L2.wipe σ1 vs1) H' s' → Inv GX [] (L2.wipe σ vs) H' s') (hF : Same F0 F1) (hρ : ρ0 <+: ρ1) (hstop : y = stop → br = stop ∧ Gr = G4)
    (hcont : y = (!stop) → ∀ (n' : Nat) (s₀' s' : Shared) (H' F' : Hp) (ρ' : List Addr), m ≤ n' → Inv GX pins (L2.wipe σ1 vs1) H' s' → R GX.K ⟨T, Φ⟩ H' F' ρ' G4 → Same F1 F' → ρ1 <+: ρ' →
      Seg (model GX.prog GX.w) A (gR GX T Φ F0 ρ0 vs σ stop br Gr) (gY GX T Φ F0 ρ0 vs σ stop br Gr) n' s₀' (.compLoop e 0 itO .none GX.env) (k (.ok .next)) [] s') :
    ∀ (q i n : Nat) (s₀ s : Shared) (H F : Hp) (ρ : List Addr) (G : Gh), ds1.length - i = q → i ≤ ds1.length → q + m ≤ n → Inv GX pins (L2.wipe σ1 vs1) H s → R GX.K ⟨T, Φ⟩ H F ρ G → Same F1 F → ρ1 <+: ρ → tn1 i s.heap → (∀ b ∈ fp1, H b = none) →
      allL stop ft1 tt1 te env1 (ds1.drop i) G = some (y, G4) →
      Seg (model GX.prog GX.w) A (gR GX T Φ F0 ρ0 vs σ stop br Gr) (gY GX T Φ F0 ρ0 vs σ stop br Gr) n s₀ (.compLoop e 1 (.ref it1) .none GX.env)
        ((model GX.prog GX.w).den (.compLoop e 1 (.ref it1) .none GX.env)) [.ret k none false l (.compLoop e 0 itO .none GX.env) p []] s := by
  have ov := over2_i (A := A) (it1 := .ref it1) (acc := .none) (ce := GX.env) (it := itO) (k := k) (l := l) (p := p) he
  subst he
  have wk : ∀ {α : Type} {t : Sem α} {Q Q' : α → Shared → Prop} {E' : Value → Shared → Prop} {s : Shared}, wpAny (model GX.prog GX.w) GX.A t Q GX.xe s → (∀ a s, Q a s → Q' a s) → wpAny (model GX.prog GX.w) GX.A t Q' E' s := fun h hq =>
    wpAny_mono h hq fun _ _ z => by rw [hxe] at z; exact z.elim
  intro q
  induction q with
  | zero =>
    intro i n s₀ s H F ρ G hk hi hn I0 R0 sF pρ st nf ea
    have hin : i = ds1.length := by omega
    subst hin
    rw [List.drop_length] at ea
    cases ea
    show Seg _ A _ _ _ s₀ _ ((compTurn (ge2 elt tg iter tg1 iter1 ifs ifs1 scope pos) 1 (.ref it1) .none GX.env).onRaise (fun x => do noteFrame x GX.env; theTreesLotGoes x)) _ s
    rw [turn_gen2i, Sem.onRaise_eq_wrap]
    refine seg_bind_wrap (wpAny_standAt ?_)
    refine seg_bind_wrap ?_
    rw [ov, ← hA]
    refine thnF (Tn.done GX rfl rfl rfl hcalm _ pins s _ H (fun _ _ => False) I0 (fun b hb => hfp b hb H (nf b hb)) st (j1.stop Φ H F ρ _ sF pρ R0)) fun r s6 ⟨hr, I6⟩ => ?_
    subst hr
    exact seg_leaf (.ok .next) (hcont rfl n s₀ s6 H F ρ (by omega) I6 R0 sF pρ)
  | succ q ih =>
    intro i n s₀ s H F ρ G hk hi hn I0 R0 sF pρ st nf ea
    have hlt : i < ds1.length := by omega
    obtain ⟨n, rfl⟩ : ∃ m, n = m + 1 := ⟨n - 1, by omega⟩
    rw [List.drop_eq_getElem_cons hlt] at ea
    unfold allL at ea
    split at ea
    · cases ea
    rename_i e5 G5 q5
    split at ea
    rotate_left
    · cases ea
    rename_i b6 G6 q6
    show Seg _ A _ _ _ s₀ _ ((compTurn (ge2 elt tg iter tg1 iter1 ifs ifs1 scope pos) 1 (.ref it1) .none GX.env).onRaise (fun x => do noteFrame x GX.env; theTreesLotGoes x)) _ s
    rw [turn_gen2i, Sem.onRaise_eq_wrap]
    refine seg_bind_wrap (wpAny_standAt ?_)
    refine seg_bind_wrap ?_
    rw [ov, ← hA]
    refine thnF (Tn.item GX rfl rfl rfl hcalm i pins s _ H (fun _ _ => False) I0 (fun b hb => hfp b hb H (nf b hb)) st (j1.go Φ i H F ρ G sF pρ R0 hlt)) fun r s6 ⟨u, hr, h6⟩ => ?_
    subst hr
    refine seg_bind_wrap ?_
    rw [ov, ← hA]
    refine thnF h6 fun _ s7 ⟨x, H7, I7, r7, y7, st7, n7⟩ => ?_
    have hd : ds1[i]? = some ds1[i] := List.getElem?_eq_getElem hlt
    obtain ⟨F3, R3, s3, _, r3⟩ := j1.yld Φ i H F ρ G x H7 _ sF pρ R0 hd y7
    have S3 : RS GX.K F3 ρ (L2.wipe σ1 vs1) env1 := hS.mono (sF.trans s3) pρ
    have I7' := I7.pinned (fun b hb => hfp b hb H7 (n7 b hb)) (Tn.obj _ _ st7)
    have back : ∀ {σ' : L2.St} {H' : Hp} {s' : Shared}, Inv GX (pins ++ pinsAt fp1 s7.heap) σ' H' s' → Touch us1 (L2.wipe σ1 vs1) σ' → Inv GX pins (L2.wipe σ1 vs1) H' s' ∧ tn1 (i + 1) s'.heap ∧ ∀ b ∈ fp1, H' b = none := fun {σ' H' s'} I' t => by
      have pin' : ∀ b ∈ fp1, ∀ o, s7.heap.get? b = some o → s'.heap.get? b = some o ∧ H' b = none := fun b hb o e =>
        let z := I'.pin (b, o) (List.mem_append_right _ (List.mem_append_right _ (mem_pinsAt hb e)))
        ⟨z.1, z.2.1⟩
      have hw := wipe_touch t hu
      refine ⟨(I'.unpinned (pins := pins)).weak (by rw [t.1]) (fun j v e => ?_), Tn.keep _ _ _ st7 fun b hb o e => (pin' b hb o e).1, fun b hb => ?_⟩
      · rw [← hw] at e
        exact (wipe_some e).1
      · obtain ⟨o, e, _⟩ := Tn.obj _ _ st7 b hb
        exact (pin' b hb o e).2
    refine seg_bind_wrap ?_
    rw [ov, ← hA]
    refine wk (pg.run _ s7 _ H7 x u _ I7' r7 ⟨Φ, F3, ρ, G, _, _, e5, G5, R3, S3, r3, q5, fun σ5 H5 F5 ρ5 R5 s5 p5 S5 t5 => (⟨t5, F5, ρ5, R5, s5, p5, S5⟩ : Touch us1 (L2.wipe σ1 vs1) σ5 ∧ ∃ F5 ρ5, R GX.K ⟨T, Φ⟩ H5 F5 ρ5 G5 ∧ Same F3 F5 ∧ ρ <+: ρ5 ∧ RS GX.K F5 ρ5 σ5 e5)⟩) fun _ s8 ⟨σ8, H8, I8, t8, F8, ρ8, R8, s8', p8, S8⟩ => ?_
    refine seg_bind_wrap ?_
    rw [ov, ← hA]
    refine wk (pt.run _ s8 σ8 H8 (fun b H9 => b = b6 ∧ ∃ F9 ρ9, R GX.K ⟨T, Φ⟩ H9 F9 ρ9 G6 ∧ Same F8 F9 ∧ ρ8 <+: ρ9) I8 ⟨Φ, F8, ρ8, G5, e5, R8, S8, .ok b6, G6, q6, fun H9 F9 ρ9 R9 s9 p9 => ⟨rfl, F9, ρ9, R9, s9, p9⟩⟩) fun b s9 ⟨H9, I9, hb, F9, ρ9, R9, s9', p9⟩ => ?_
    subst hb
    have sF9 : Same F1 F9 := ((sF.trans s3).trans s8').trans s9'
    have pρ9 : ρ1 <+: ρ9 := (pρ.trans p8).trans p9
    cases b with
    | false =>
      rw [if_neg Bool.false_ne_true] at ea
      simp only [Bool.false_eq_true, if_false]
      obtain ⟨I9', st9, n9⟩ := back I9 t8
      exact seg_again rfl (ih (i + 1) (n + 1) s₀ s9 H9 F9 ρ9 G6 (by omega) hlt (by omega) I9' R9 sF9 pρ9 st9 n9 ea)
    | true =>
      rw [if_pos rfl] at ea
      simp only [if_true]
      split at ea
      rotate_left
      · cases ea
      rename_i y10 G10 q10
      have hy : ∀ v, yieldOut GX.env v = yieldValue v := fun v => by simp only [yieldOut, hsc, Bool.false_eq_true, if_false]
      simp only [hy]
      rw [Sem.bind_eq_wrap', Sem.bind_eq_wrap', Sem.wrap_wrap, Sem.wrap_wrap]
      refine seg_wrap ?_
      rw [ov, ← hA]
      refine wk (pe.run _ s9 σ8 H9 (fun v H10 => v = .bl y10 ∧ ∃ F10 ρ10, R GX.K ⟨T, Φ⟩ H10 F10 ρ10 G10 ∧ Same F9 F10 ∧ ρ9 <+: ρ10) I9 ⟨Φ, F9, ρ9, G6, e5, R9, S8.mono s9' p9, .ok (.bl y10), G10, q10, fun v H10 F10 ρ10 R10 s10 p10 r10 _ => by
        cases r10
        exact ⟨rfl, F10, ρ10, R10, s10, p10⟩⟩) fun z s10 ⟨yv, H10, I10, r10, hv, F10, ρ10, R10, s10', p10⟩ => ?_
      subst hv
      obtain rfl : z = Value.bool y10 := r10
      obtain ⟨I10', st10, n10⟩ := back I10 t8
      have V10 : GV GX T Φ F0 ρ0 vs σ H10 s10 F10 ρ10 G10 := ⟨back0 I10', R10, hF.trans (sF9.trans s10'), hρ.trans (pρ9.trans p10)⟩
      refine seg_at (seg_yield rfl rfl rfl ⟨y10, H10, F10, ρ10, G10, rfl, V10, ?_⟩)
      by_cases hs : y10 = stop
      · rw [if_pos hs] at ea
        cases ea
        obtain ⟨h1, h2⟩ := hstop rfl
        exact .inl ⟨hs, h1, h2⟩
      · rw [if_neg hs] at ea
        refine .inr ⟨hs, fun g hg => ?_⟩
        exact seg_again rfl (ih (i + 1) n _ _ H10 F10 ρ10 G10 (by omega) hlt (by omega) (Inv.regen I10' hg) R10 (sF9.trans s10') (pρ9.trans p10) st10 n10 ea)
end
/-- the outer walk: its truth, the heap behind it, how many were asked at most -/
def all2N (stop : Bool) (ft : MT) (tt : EnvD → M Bool) (fi1 : EnvD → M (List D)) (ft1 : MT) (tt1 : EnvD → M Bool) (te : EnvD → M D) (env : EnvD) (vs1 : List Nat) : List D → Gh → Option (Bool × Gh × Nat)
  | [], G => some (!stop, G, 0)
  | d :: ds, G => match ft d env G with
    | none => none
    | some (e1, G1) => match tt e1 G1 with
      | some (.ok b, G2) => if b = true then (match fi1 e1 G2 with
          | some (.ok ds1, G3) => (match allL stop ft1 tt1 te (wipeE e1 vs1) ds1 G3 with
            | some (y, G4) => if y = stop then some (stop, G4, ds1.length) else (match all2N stop ft tt fi1 ft1 tt1 te env vs1 ds G4 with
                | some (b5, G5, m) => some (b5, G5, ds1.length + m)
                | none => none)
            | none => none)
          | _ => none) else all2N stop ft tt fi1 ft1 tt1 te env vs1 ds G2
      | _ => none
section
variable {GX : Cx} {T : List Addr} {Φ : List (Addr × List V)} {F1 : Hp} {ρ1 : List Addr} {vs vs1 : List Nat} {σ : L2.St} {stop : Bool} {ft ft1 : MT} {tt tt1 : EnvD → M Bool} {fi1 : EnvD → M (List D)} {te : EnvD → M D} {env0 : EnvD} {ds : List D} {br : Bool} {Gr : Gh}
theorem seg_out {A : Around} {elt tg iter tg1 iter1 : Expr} {ifs ifs1 : List Expr} {scope : Scope} {pos : Pos} {it : Addr} {fp : List Addr} {tn : Nat → Heap → Prop} {J : It} {us us1 : List Nat} {gr : Bool}
    (hA : GX.A = A.deeper GX.env) (hcalm : GX.calm = true) (hxe : GX.xe = fun _ _ => False) (hsc : GX.env.scope.isCoroutine = false) (hex : ∀ b ∈ fp, b ∈ GX.ex) (hpn : ∀ b ∈ fp, ∀ p ∈ GX.pn, p.1 ≠ b)
    (Tn : Turn GX.prog GX.w GX.K tg J fp it tn) (j1 : JOk GX.K T J F1 ρ1 ds) (hS : RS GX.K F1 ρ1 (L2.wipe σ vs) env0) (hu : ∀ i ∈ us, i ∈ vs) (hu1 : ∀ i ∈ us1, i ∈ vs1) (hv1 : ∀ i ∈ vs1, i ∈ vs)
    (pg : PGV GX T us tg ft) (pt : PTsV GX T ifs tt) (hi1 : PIV GX T W0 tg1 iter1 fi1) (hs1 : ∀ v, foldedSetIterable iter1 GX.env v = pure v) (pg1 : PGV GX T us1 tg1 ft1) (pt1 : PTsV GX T ifs1 tt1) (pe : PV GX T W0 gr elt te) :
    ∀ (k i n m : Nat) (s₀ s : Shared) (H F : Hp) (ρ : List Addr) (G : Gh), ds.length - i = k → i ≤ ds.length → m ≤ n → GV GX T Φ F1 ρ1 vs σ H s F ρ G → tn i s.heap → (∀ b ∈ fp, H b = none) →
      all2N stop ft tt fi1 ft1 tt1 te env0 vs1 (ds.drop i) G = some (br, Gr, m) →
      Seg (model GX.prog GX.w) A (gR GX T Φ F1 ρ1 vs σ stop br Gr) (gY GX T Φ F1 ρ1 vs σ stop br Gr) n s₀ (.compLoop (ge2 elt tg iter tg1 iter1 ifs ifs1 scope pos) 0 (.ref it) .none GX.env)
        ((model GX.prog GX.w).den (.compLoop (ge2 elt tg iter tg1 iter1 ifs ifs1 scope pos) 0 (.ref it) .none GX.env)) [] s := by
  have stat : ∀ {σ' : L2.St} {H' : Hp} {s' : Shared}, Inv GX [] σ' H' s' → (∀ b ∈ fp, H' b = none) → ∀ b ∈ fp, FpOk GX [] H' b := fun {σ' H' s'} I' hn b hb =>
    ⟨hn b hb, (I'.ok.exf b (hex b hb)).1, I'.ok.exfs b (hex b hb), .inl (hex b hb), fun x c e => (I'.ok.exf b (hex b hb)).2 x c e, fun p hp => hpn b hb p (by simpa using hp)⟩
  have wk : ∀ {α : Type} {t : Sem α} {Q Q' : α → Shared → Prop} {E' : Value → Shared → Prop} {s : Shared}, wpAny (model GX.prog GX.w) GX.A t Q GX.xe s → (∀ a s, Q a s → Q' a s) → wpAny (model GX.prog GX.w) GX.A t Q' E' s := fun h hq =>
    wpAny_mono h hq fun _ _ z => by rw [hxe] at z; exact z.elim
  have ov := over2_l (A := A) (it := .ref it) (acc := .none) (ce := GX.env) (rfl : ge2 elt tg iter tg1 iter1 ifs ifs1 scope pos = _)
  intro k
  induction k with
  | zero =>
    intro i n m s₀ s H F ρ G hk hi hn V st nf e
    have hin : i = ds.length := by omega
    subst hin
    rw [List.drop_length] at e
    cases e
    show Seg _ A _ _ _ s₀ _ ((compTurn (ge2 elt tg iter tg1 iter1 ifs ifs1 scope pos) 0 (.ref it) .none GX.env).onRaise (leaving GX.env)) [] s
    rw [turn_gen2, Sem.onRaise_eq_wrap]
    refine seg_bind_wrap (wpAny_standAt ?_)
    refine seg_bind_wrap ?_
    rw [ov, ← hA]
    refine thnF (Tn.done GX rfl rfl rfl hcalm _ [] s _ H (fun _ _ => False) V.inv (stat V.inv nf) st (j1.stop Φ H F ρ _ V.sF V.pρ V.r)) fun r s6 ⟨hr, I6⟩ => ?_
    subst hr
    exact seg_end (.ok .next) ⟨rfl, rfl, H, F, ρ, I6, V.r, V.sF, V.pρ⟩
  | succ k ih =>
    intro i n m s₀ s H F ρ G hk hi hn V st nf e
    have hlt : i < ds.length := by omega
    rw [List.drop_eq_getElem_cons hlt] at e
    unfold all2N at e
    split at e
    · cases e
    rename_i e5 G5 q5
    split at e
    rotate_left
    · cases e
    rename_i b6 G6 q6
    show Seg _ A _ _ _ s₀ _ ((compTurn (ge2 elt tg iter tg1 iter1 ifs ifs1 scope pos) 0 (.ref it) .none GX.env).onRaise (leaving GX.env)) [] s
    rw [turn_gen2, Sem.onRaise_eq_wrap]
    refine seg_bind_wrap (wpAny_standAt ?_)
    refine seg_bind_wrap ?_
    rw [ov, ← hA]
    refine thnF (Tn.item GX rfl rfl rfl hcalm i [] s _ H (fun _ _ => False) V.inv (stat V.inv nf) st (j1.go Φ i H F ρ G V.sF V.pρ V.r hlt)) fun r s6 ⟨u, hr, h6⟩ => ?_
    subst hr
    refine seg_bind_wrap ?_
    rw [ov, ← hA]
    refine thnF h6 fun _ s7 ⟨x, H7, I7, r7, y7, st7, n7⟩ => ?_
    have hd : ds[i]? = some ds[i] := List.getElem?_eq_getElem hlt
    obtain ⟨F3, R3, s3, _, r3⟩ := j1.yld Φ i H F ρ G x H7 _ V.sF V.pρ V.r hd y7
    have S3 : RS GX.K F3 ρ (L2.wipe σ vs) env0 := hS.mono (V.sF.trans s3) V.pρ
    have I7' := I7.pinned (stat I7 n7) (Tn.obj _ _ st7)
    have pin' : ∀ {σ' : L2.St} {H' : Hp} {s' : Shared}, Inv GX ([] ++ pinsAt fp s7.heap) σ' H' s' → ∀ b ∈ fp, ∀ o, s7.heap.get? b = some o → s'.heap.get? b = some o ∧ H' b = none := fun {σ' H' s'} I' b hb o e =>
      let z := I'.pin (b, o) (List.mem_append_right _ (List.mem_append_right _ (mem_pinsAt hb e)))
      ⟨z.1, z.2.1⟩
    -- what stands behind the store
    have back : ∀ {σ' : L2.St} {H' : Hp} {s' : Shared}, Inv GX ([] ++ pinsAt fp s7.heap) σ' H' s' → Touch us (L2.wipe σ vs) σ' → Inv GX [] (L2.wipe σ vs) H' s' ∧ tn (i + 1) s'.heap ∧ ∀ b ∈ fp, H' b = none := fun {σ' H' s'} I' t => by
      have hw := wipe_touch t hu
      refine ⟨(I'.unpinned (pins := [])).weak (by rw [t.1]) (fun j v e => ?_), Tn.keep _ _ _ st7 fun b hb o e => (pin' I' b hb o e).1, fun b hb => ?_⟩
      · rw [← hw] at e
        exact (wipe_some e).1
      · obtain ⟨o, e, _⟩ := Tn.obj _ _ st7 b hb
        exact (pin' I' b hb o e).2
    refine seg_bind_wrap ?_
    rw [ov, ← hA]
    refine wk (pg.run _ s7 _ H7 x u _ I7' r7 ⟨Φ, F3, ρ, G, _, _, e5, G5, R3, S3, r3, q5, fun σ5 H5 F5 ρ5 R5 s5 p5 S5 t5 => (⟨t5, F5, ρ5, R5, s5, p5, S5⟩ : Touch us (L2.wipe σ vs) σ5 ∧ ∃ F5 ρ5, R GX.K ⟨T, Φ⟩ H5 F5 ρ5 G5 ∧ Same F3 F5 ∧ ρ <+: ρ5 ∧ RS GX.K F5 ρ5 σ5 e5)⟩) fun _ s8 ⟨σ8, H8, I8, t8, F8, ρ8, R8, s8', p8, S8⟩ => ?_
    refine seg_bind_wrap ?_
    rw [ov, ← hA]
    refine wk (pt.run _ s8 σ8 H8 (fun b H9 => b = b6 ∧ ∃ F9 ρ9, R GX.K ⟨T, Φ⟩ H9 F9 ρ9 G6 ∧ Same F8 F9 ∧ ρ8 <+: ρ9) I8 ⟨Φ, F8, ρ8, G5, e5, R8, S8, .ok b6, G6, q6, fun H9 F9 ρ9 R9 s9 p9 => ⟨rfl, F9, ρ9, R9, s9, p9⟩⟩) fun b s9 ⟨H9, I9, hb, F9, ρ9, R9, s9', p9⟩ => ?_
    subst hb
    have sF9 : Same F1 F9 := ((V.sF.trans s3).trans s8').trans s9'
    have pρ9 : ρ1 <+: ρ9 := (V.pρ.trans p8).trans p9
    cases b with
    | false =>
      rw [if_neg Bool.false_ne_true] at e
      simp only [Bool.false_eq_true, if_false]
      obtain ⟨I9', st9, n9⟩ := back I9 t8
      exact seg_again rfl (ih (i + 1) n m s₀ s9 H9 F9 ρ9 G6 (by omega) hlt (by omega) ⟨I9', R9, sF9, pρ9⟩ st9 n9 e)
    | true =>
      rw [if_pos rfl] at e
      simp only [if_true]
      split at e
      rotate_left
      · cases e
      rename_i ds1 G7 q7
      split at e
      rotate_left
      · cases e
      rename_i y G8 q8
      have S9 := S8.mono s9' p9
      refine seg_bind_wrap ?_
      rw [ov, ← hA]
      have hrun := hi1.run ([] ++ pinsAt fp s7.heap) s9 σ8 H9 (fun J1 H10 => ∃ F10 ρ10, R GX.K ⟨T, Φ⟩ H10 F10 ρ10 G7 ∧ Same F9 F10 ∧ ρ9 <+: ρ10 ∧ JOk GX.K T J1 F10 ρ10 ds1) I9 ⟨Φ, F9, ρ9, G6, e5, R9, S9, .ok ds1, G7, q7, fun J1 H10 F10 ρ10 R10 s10 p10 jj => ⟨F10, ρ10, R10, s10, p10, jj⟩⟩
      refine wk hrun fun xv s10 hx => ?_
      refine seg_bind_wrap (wpAny_standAt ?_)
      rw [hs1]
      refine seg_bind_wrap (wpAny_pure ?_)
      refine seg_bind_wrap ?_
      rw [ov, ← hA]
      refine wpAny_holding (wk hx fun itv s11 hp11 => ?_)
      obtain ⟨it1, fp1, tn1, J1, H11, rfl, I11, Tn1, st1, f1, F10, ρ10, R10, s10', p10, jj⟩ := hp11
      have hw := wipe_touch t8 hu
      have I12 : Inv GX ([] ++ pinsAt fp s7.heap) (L2.wipe σ8 vs1) H11 s11 := I11.weak (L2.wipe_length _ _) fun j v z => (wipe_some z).1
      have S12 : RS GX.K F10 ρ10 (L2.wipe σ8 vs1) (wipeE e5 vs1) := (S9.mono s10' p10).wipe _
      have back0 : ∀ {H' : Hp} {s' : Shared}, Inv GX ([] ++ pinsAt fp s7.heap) (L2.wipe σ8 vs1) H' s' → Inv GX [] (L2.wipe σ vs) H' s' ∧ tn (i + 1) s'.heap ∧ ∀ b ∈ fp, H' b = none := fun {H' s'} I' => by
        refine ⟨(I'.unpinned (pins := [])).weak (by rw [L2.wipe_length σ8 vs1, t8.1]) (fun j v z => ?_), Tn.keep _ _ _ st7 fun b hb o e => (pin' I' b hb o e).1, fun b hb => ?_⟩
        · rw [← hw] at z
          obtain ⟨z1, z2⟩ := wipe_some z
          exact (L2.wipe_out fun q => z2 (hv1 j q)).trans z1
        · obtain ⟨o, e, _⟩ := Tn.obj _ _ st7 b hb
          exact (pin' I' b hb o e).2
      have sF10 : Same F1 F10 := sF9.trans s10'
      have pρ10 : ρ1 <+: ρ10 := pρ9.trans p10
      -- the inner walk, whatever comes behind it
      have inner : ∀ (m' : Nat) (K : Result → Sem PySem.Fin) (l : List Value) (p : Pos), ds1.length + m' ≤ n → (y = stop → br = stop ∧ Gr = G8) →
          (y = (!stop) → ∀ (n' : Nat) (s₀' s' : Shared) (H' F' : Hp) (ρ' : List Addr), m' ≤ n' → Inv GX ([] ++ pinsAt fp s7.heap) (L2.wipe σ8 vs1) H' s' → R GX.K ⟨T, Φ⟩ H' F' ρ' G8 → Same F10 F' → ρ10 <+: ρ' →
            Seg (model GX.prog GX.w) A (gR GX T Φ F1 ρ1 vs σ stop br Gr) (gY GX T Φ F1 ρ1 vs σ stop br Gr) n' s₀' (.compLoop (ge2 elt tg iter tg1 iter1 ifs ifs1 scope pos) 0 (.ref it) .none GX.env) (K (.ok .next)) [] s') →
          Seg (model GX.prog GX.w) A (gR GX T Φ F1 ρ1 vs σ stop br Gr) (gY GX T Φ F1 ρ1 vs σ stop br Gr) n s₀ (.compStart (ge2 elt tg iter tg1 iter1 ifs ifs1 scope pos) 1 (.ref it1) .none GX.env)
            ((model GX.prog GX.w).den (.compStart (ge2 elt tg iter tg1 iter1 ifs ifs1 scope pos) 1 (.ref it1) .none GX.env)) [.ret K none false l (.compLoop (ge2 elt tg iter tg1 iter1 ifs ifs1 scope pos) 0 (.ref it) .none GX.env) p []] s11 := by
        intro m' K l p hm hst hct
        have L := fun s₀ => seg_in (k := K) (l := l) (p := p) (itO := .ref it) (m := m') (elt := elt) (tg := tg) (iter := iter) (tg1 := tg1) (iter1 := iter1) (ifs := ifs) (ifs1 := ifs1) (scope := scope) (pos := pos) rfl hA hcalm hxe hsc Tn1 (fun b hb H' h => ⟨h, (f1 b hb).2⟩) jj S12 hu1 pg1 pt1 pe
          (fun I' => (back0 I').1) sF10 pρ10 hst hct ds1.length 0 n s₀ s11 H11 F10 ρ10 G7 (Nat.sub_zero _) (Nat.zero_le _) hm I12 R10 (Same.refl _) (List.prefix_refl _) st1 (fun b hb => (f1 b hb).1) (by rw [List.drop_zero]; exact q8)
        show Seg _ A _ _ _ s₀ _ ((compStart (ge2 elt tg iter tg1 iter1 ifs ifs1 scope pos) 1 (.ref it1) .none GX.env).onRaise (fun x => do noteFrame x GX.env; standAt theWindowsPlace)) _ s11
        unfold compStart
        rw [Sem.onRaise_eq_wrap]
        show Seg _ A _ _ _ s₀ _ ((ask >>= _).wrap _ _ _ _) _ s11
        refine seg_bind_wrap (wpAny_askSetting ?_)
        split
        · exact seg_again rfl (L s₀)
        · refine seg_bind_wrap (wpAny_rule ?_)
          show Seg _ A _ _ _ s₀ _ ((standAt iter1.pos >>= _).wrap _ _ _ _) _ s11
          exact seg_bind_wrap (wpAny_standAt (seg_bind_wrap (Tn1.self _ 0 s11 _ _ st1 (seg_again rfl (L s₀)))))
      refine seg_call (h := none) (g := false) (l := []) fun p => ?_
      by_cases hy : y = stop
      · rw [if_pos hy] at e
        cases e
        refine inner 0 _ _ p (by omega) (fun _ => ⟨rfl, rfl⟩) fun z => ?_
        rw [hy] at z
        cases stop <;> cases z
      · rw [if_neg hy] at e
        split at e
        rotate_left
        · cases e
        rename_i b5 G9 m5 q9
        cases e
        refine inner m5 _ _ p (by omega) (fun z => absurd z hy) fun _ n' s₀' s' H' F' ρ' hn' I' R' sF' pρ' => ?_
        obtain ⟨I13, st13, n13⟩ := back0 I'
        exact seg_again rfl (ih (i + 1) n' m5 s₀' s' H' F' ρ' G8 (by omega) hlt hn' ⟨I13, R', sF10.trans sF', pρ10.trans pρ'⟩ st13 n13 q9)
theorem seg_out0 {A : Around} {elt tg iter tg1 iter1 : Expr} {ifs ifs1 : List Expr} {scope : Scope} {pos : Pos} {it : Addr} {fp : List Addr} {tn : Nat → Heap → Prop} {J : It} {us us1 : List Nat} {gr : Bool}
    (hA : GX.A = A.deeper GX.env) (hcalm : GX.calm = true) (hxe : GX.xe = fun _ _ => False) (hsc : GX.env.scope.isCoroutine = false) (hex : ∀ b ∈ fp, b ∈ GX.ex) (hpn : ∀ b ∈ fp, ∀ p ∈ GX.pn, p.1 ≠ b)
    (Tn : Turn GX.prog GX.w GX.K tg J fp it tn) (j1 : JOk GX.K T J F1 ρ1 ds) (hS : RS GX.K F1 ρ1 (L2.wipe σ vs) env0) (hu : ∀ i ∈ us, i ∈ vs) (hu1 : ∀ i ∈ us1, i ∈ vs1) (hv1 : ∀ i ∈ vs1, i ∈ vs)
    (pg : PGV GX T us tg ft) (pt : PTsV GX T ifs tt) (hi1 : PIV GX T W0 tg1 iter1 fi1) (hs1 : ∀ v, foldedSetIterable iter1 GX.env v = pure v) (pg1 : PGV GX T us1 tg1 ft1) (pt1 : PTsV GX T ifs1 tt1) (pe : PV GX T W0 gr elt te)
    {n m : Nat} {s₀ s : Shared} {H F : Hp} {ρ : List Addr} {G : Gh} (hn : m ≤ n) (V : GV GX T Φ F1 ρ1 vs σ H s F ρ G) (st : tn 0 s.heap) (nf : ∀ b ∈ fp, H b = none)
    (e : all2N stop ft tt fi1 ft1 tt1 te env0 vs1 ds G = some (br, Gr, m)) :
    Seg (model GX.prog GX.w) A (gR GX T Φ F1 ρ1 vs σ stop br Gr) (gY GX T Φ F1 ρ1 vs σ stop br Gr) n s₀ (.compStart (ge2 elt tg iter tg1 iter1 ifs ifs1 scope pos) 0 (.ref it) .none GX.env)
      ((model GX.prog GX.w).den (.compStart (ge2 elt tg iter tg1 iter1 ifs ifs1 scope pos) 0 (.ref it) .none GX.env)) [] s := by
  have L := fun s₀ => seg_out (iter := iter) (pos := pos) (scope := scope) (stop := stop) hA hcalm hxe hsc hex hpn Tn j1 hS hu hu1 hv1 pg pt hi1 hs1 pg1 pt1 pe ds.length 0 n m s₀ s H F ρ G (Nat.sub_zero _) (Nat.zero_le _) hn V st nf (by rw [List.drop_zero]; exact e)
  show Seg _ A _ _ _ s₀ _ ((compStart (ge2 elt tg iter tg1 iter1 ifs ifs1 scope pos) 0 (.ref it) .none GX.env).onRaise (leaving GX.env)) [] s
  unfold compStart
  rw [Sem.onRaise_eq_wrap]
  show Seg _ A _ _ _ s₀ _ ((ask >>= _).wrap _ _ _ _) [] s
  refine seg_bind_wrap (wpAny_askSetting ?_)
  split
  · exact seg_again rfl (L s₀)
  · refine seg_bind_wrap (wpAny_rule ?_)
    show Seg _ A _ _ _ s₀ _ ((standAt iter.pos >>= _).wrap _ _ _ _) [] s
    exact seg_bind_wrap (wpAny_standAt (seg_bind_wrap (Tn.self _ 0 s _ _ st (seg_again rfl (L s₀)))))
end
/-! ### such a generator made -/
section
variable {M : Model} {A : Around} {E : Value → Shared → Prop} {s : Shared} {env : Env} {elt tg iter tg1 iter1 : Expr} {ifs ifs1 : List Expr} {scope : Scope} {cl : List (Str × Addr)} {pos : Pos} {Q : Value → Shared → Prop}
theorem eval_ge2 (nc : scope.isCoroutine = false) : eval (ge2 elt tg iter tg1 iter1 ifs ifs1 scope pos) env = (do let x0 ← eval iter env; standAt iter.pos; let x1 ← genFold iter env x0; let i0 ← holding [x1] (pyIter x1); enterFrame; let c0 ← closureFor scope env; let cd ← genexprCode env pos (env.qual ++ "<genexpr>") scope; let b0 ← builtinsFor env.globals env.builtins; let e0 ← newFunctionEnv scope env.globals c0 [(".0", i0)] (env.qual ++ "<genexpr>.") none cd none b0; newGenerator (.compStart (ge2 elt tg iter tg1 iter1 ifs ifs1 scope pos) 0 i0 .none e0) "<genexpr>" (env.qual ++ "<genexpr>")) := by
  show eval (.GeneratorExp elt [⟨tg, iter, ifs, 0⟩, ⟨tg1, iter1, ifs1, 0⟩] scope pos) env = _
  rw [arm_eval_GeneratorExp]
  simp only [nc, Bool.false_eq_true, if_false]
  cases iter <;> rfl
theorem make_ge2 (nc : scope.isCoroutine = false) (hcl : closureFor scope env = pure cl) (nocell : ∀ y ∈ scope.names, y.2 ≠ .cell) (dot : scope.names.lookup (".0" : Str) = some NameKind.local) (fn : scope.kind = .function) (room : A.depth < recursionLimit) (fold : ∀ x, genFold iter env x = pure x)
    (h : wpAny M A (eval iter env) (fun xv s1 => wpAny M A (pyIter xv) (fun i0 s2 => s2.heap.NoLimit ∧ wpAny M A (genexprCode env pos (env.qual ++ "<genexpr>") scope) (fun cd s3 => wpAny M A (builtinsFor env.globals env.builtins) (fun b0 s4 => ∀ h', h'.Ns s4.heap.objs.size (fun y => if y = ".0" then some i0 else none) → Heap.SameBut s4.heap.objs.size (s4.heap.push { cls := .type "frame", data := .dict #[] }) h' →
      Q (.ref h'.objs.size) { s4 with gens := s4.gens.push (.fresh (.compStart (ge2 elt tg iter tg1 iter1 ifs ifs1 scope pos) 0 i0 .none (genEnv scope cl s4.heap.objs.size cd b0 env))), toks := s4.toks + 1 + 1 + 1, heap := h'.push { cls := .type "generator", data := .fields #[.int s4.gens.size 0, .str "<genexpr>" (s4.toks + 1), .str (env.qual ++ "<genexpr>") (s4.toks + 1 + 1)] } }) E s3) E s2) E s1) E s) :
    wpAny M A (eval (ge2 elt tg iter tg1 iter1 ifs ifs1 scope pos) env) Q E s := by
  rw [eval_ge2 nc, hcl]
  apply wpAny_bind
  refine wpAny_mono h (fun xv s1 a1 => ?_) fun _ _ z => z
  apply wpAny_bind
  refine wpAny_standAt (wpAny_bind (wpAny_of_eq (fold xv) ?_))
  apply wpAny_bind
  refine wpAny_holding (wpAny_mono a1 (fun i0 s2 a2 => ?_) fun _ _ z => z)
  refine wpAny_bind (wpAny_enterFrame a2.1 room (wpAny_bind (wpAny_pure ?_)))
  refine wpAny_bind (wpAny_mono a2.2 (fun cd s3 a3 => wpAny_bind (wpAny_mono a3 (fun b0 s4 a4 => ?_) fun _ _ z => z)) fun _ _ z => z)
  have one : ∀ y ∈ ([((".0" : Str), i0)] : List (Str × Value)), scope.names.lookup y.1 = some NameKind.local := fun y hy => by
    rw [List.mem_singleton.mp hy]
    exact dot
  refine wpAny_bind (wpAny_newFunctionEnv nocell one (fun h' n' sb => ?_) fn)
  have look : (fun y : Str => ([((".0" : Str), i0)] : List (Str × Value)).reverse.lookup y) = fun y : Str => if y = (".0" : Str) then some i0 else none := by
    funext y
    by_cases q : y = (".0" : Str)
    · rw [q]; simp
    · have q2 : (y == (".0" : Str)) = false := by simpa using q
      simp [List.lookup, q, q2]
  rw [look] at n'
  simp only [newFields, newGenerator]
  apply wpAny_bind
  refine wpAny_newGen ?_
  apply wpAny_bind
  refine wpAny_mkText (wpAny_bind ?_)
  refine wpAny_mkText (wpAny_newObj_type (a4 h' n' sb) ?_)
  size_fits
end
/-- all(.. for .. in .. for .. in ..) -/
def all2M (stop : Bool) (fi : EnvD → M (List D)) (ft : MT) (tt : EnvD → M Bool) (fi1 : EnvD → M (List D)) (ft1 : MT) (tt1 : EnvD → M Bool) (te : EnvD → M D) (vs vs1 : List Nat) : EnvD → M D := fun env => do
  let ds ← fi env
  fun G => match all2N stop ft tt fi1 ft1 tt1 te (wipeE env vs) vs1 ds G with
    | some (b, G', _) => some (.ok (.bl b), G')
    | none => none
section
variable {X : Cx} {T : List Addr} {W : WX} {pos p gpos : Pos} {elt tg iter tg1 iter1 : Expr} {ifs ifs1 : List Expr} {scope : Scope} {own : List (Str × Nat)} {fi fi1 : EnvD → M (List D)} {ft ft1 : MT} {us us1 vs1 : List Nat} {tt tt1 : EnvD → M Bool} {te : EnvD → M D} {gr : Bool} {k : Nat}
theorem v_all2 {c P : Addr} (S : Stand X (k + 1) W) (hg : Gl X "all") (hm : X.mg "all" = none) (TB : LamX.TabB X.base X.mg c P) (hP : P ∈ T) (hcode : X.env.code = .ref c) (hN : X.N.Nodup) (G : GScp X.N X.env.scope scope own)
    (hu : ∀ i ∈ us, i ∈ own.map (·.2)) (hu1 : ∀ i ∈ us1, i ∈ vs1) (hv1 : ∀ i ∈ vs1, i ∈ own.map (·.2)) (hi : PIV X T W tg iter fi)
    (hpg : ∀ (A' : Around) (s : Shared) (H : Hp) (C : Addr) (cl : List (Str × Addr)) (cv : Value) (fp : List Addr) (pn : List (Addr × Obj)), Stand (gnC X A' s H scope (genEnv scope cl C cv builtinsNs X.env) fp pn) k W0 →
      PGV (gnC X A' s H scope (genEnv scope cl C cv builtinsNs X.env) fp pn) T us tg ft ∧ PTsV (gnC X A' s H scope (genEnv scope cl C cv builtinsNs X.env) fp pn) T ifs tt ∧ PIV (gnC X A' s H scope (genEnv scope cl C cv builtinsNs X.env) fp pn) T W0 tg1 iter1 fi1 ∧ PGV (gnC X A' s H scope (genEnv scope cl C cv builtinsNs X.env) fp pn) T us1 tg1 ft1 ∧ PTsV (gnC X A' s H scope (genEnv scope cl C cv builtinsNs X.env) fp pn) T ifs1 tt1 ∧ PV (gnC X A' s H scope (genEnv scope cl C cv builtinsNs X.env) fp pn) T W0 gr elt te)
    (hs : ∀ v, genFold iter X.env v = pure v) (hs1 : ∀ (C : Addr) (cl : List (Str × Addr)) (cv : Value) (v : Value), foldedSetIterable iter1 (genEnv scope cl C cv builtinsNs X.env) v = pure v)
    (he : starEach [.GeneratorExp elt [⟨tg, iter, ifs, 0⟩, ⟨tg1, iter1, ifs1, 0⟩] scope gpos] X.env = (false, eval (.GeneratorExp elt [⟨tg, iter, ifs, 0⟩, ⟨tg1, iter1, ifs1, 0⟩] scope gpos) X.env) :: starEach [] X.env := by rfl) :
    PV X T W true (.Call (.Name "all" p) [.GeneratorExp elt [⟨tg, iter, ifs, 0⟩, ⟨tg1, iter1, ifs1, 0⟩] scope gpos] [] pos) (all2M false fi ft tt fi1 ft1 tt1 te (own.map (·.2)) vs1) := by
  refine ⟨fun pins s σ H Q I ⟨Φ, F, ρ, Gh0, env, hR, hS, r, G', e, h⟩ => ?_⟩
  refine wpAny_Call_Name_kw (ld_blt I hg hm (by first | rfl | decide) ?_)
  refine PyProof.Rows.callWith_builtin1 ?_ he (by rfl)
  rw [he]
  show wpAny _ _ (spliced ((false, eval (.GeneratorExp elt [⟨tg, iter, ifs, 0⟩, ⟨tg1, iter1, ifs1, 0⟩] scope gpos) X.env) :: backTo pos (starEach [] X.env))) _ _ s
  have fr0 : ∀ y ∈ scope.names, y.2 = .free → ∃ c, X.env.cells.lookup y.1 = some c := fun y hy e => by
    rcases G.blk.free y hy e with k | k
    · exact I.ok.has _ (.inl k)
    · exact I.ok.has _ (.inr k)
  refine Calls.spliced_cons (make_ge2 G.co (closure_ok fr0) G.cell G.dot G.blk.kind S.room.depth hs ?_)
  -- the iterable
  have hit : tI X.K T X.mg W fi σ H (fun J H1 => ∃ F1 ρ1 G1 ds br m, R X.K ⟨T, Φ⟩ H1 F1 ρ1 G1 ∧ Same F F1 ∧ ρ <+: ρ1 ∧ JOk X.K T J F1 ρ1 ds ∧ all2N false ft tt fi1 ft1 tt1 te (wipeE env (own.map (·.2))) vs1 ds G1 = some (br, G', m) ∧ PostV X.K ⟨T, Φ⟩ F ρ true (.bl br) G' Q) := by
    refine ⟨Φ, F, ρ, Gh0, env, hR, hS, ?_⟩
    rcases bind_parts e with ⟨ds, G1, e1, e2⟩ | ⟨cc, e1, rfl⟩
    rotate_left
    · exact ⟨.ex cc, G', e1, h⟩
    split at e2
    rotate_left
    · cases e2
    rename_i br G2 m e3
    cases e2
    exact ⟨.ok ds, G1, e1, fun J H1 F1 ρ1 R1 s1 p1 j1 => ⟨F1, ρ1, G1, ds, br, m, R1, s1, p1, j1, e3, h⟩⟩
  refine wpAny_mono (hi.run pins s σ H _ I hit) (fun xv s1 hx => wpAny_mono hx (fun itv s2 h2 => ?_) fun _ _ z => z) fun _ _ z => z
  obtain ⟨it, fp, tn, J, H2, eit, I2, Tn, st2, f2, F1, ρ1, G1, ds, br, m, R2, s1', p1', j1, eL, hQ⟩ := h2
  subst eit
  refine ⟨I2.nolimit, ?_⟩
  obtain ⟨hFP, ps, hHP, htr⟩ := R2.tab P hP
  have hPs : s2.heap.get? P = some { cls := .none, data := .fields ps } := I2.hok P _ hHP
  have cd : PySem.W.CodeHd s2.heap c P := TB.code.keeps fun b u e => I2.bk b u e
  -- behind the code object
  have go : ∀ (code : Value) (h3 : Heap) (tk : Nat) (H3 F3 : Hp), Heap.ExtBut P s2.heap h3 → Inv X pins σ H3 { s2 with heap := h3, toks := tk } → R X.K ⟨T, Φ⟩ H3 F3 ρ1 G1 → Same F1 F3 → (∀ b ∈ fp, H3 b = none) →
      wpAny (model X.prog X.w) X.A (builtinsFor X.env.globals X.env.builtins) (fun bi s₄ => ∀ h', h'.Ns s₄.heap.objs.size (fun y => if y = ".0" then some (.ref it) else none) → Heap.SameBut s₄.heap.objs.size (s₄.heap.push { cls := .type "frame", data := .dict #[] }) h' →
        wpAny (model X.prog X.w) X.A (spliced (backTo pos (starEach [] X.env))) (fun us s => wpAny (model X.prog X.w) X.A (call (.builtin "all") (.ref h'.objs.size :: us)) (EP X pins σ Q) X.xe s) X.xe { s₄ with
            gens := s₄.gens.push (.fresh (.compStart (.GeneratorExp elt [⟨tg, iter, ifs, 0⟩, ⟨tg1, iter1, ifs1, 0⟩] scope gpos) 0 (.ref it) .none (genEnv scope (cloFrom X.env.cells scope.names []) s₄.heap.objs.size code bi X.env))),
            toks := s₄.toks + 1 + 1 + 1,
            heap := h'.push { cls := .type "generator", data := .fields #[.int s₄.gens.size 0, .str "<genexpr>" (s₄.toks + 1), .str (X.env.qual ++ "<genexpr>") (s₄.toks + 1 + 1)] } }) X.xe { s2 with heap := h3, toks := tk } := by
    intro code h3 tk H3 F3 hx I3 R3 s3 n3
    obtain ⟨bm, ob, e1, e2, e3, e4, e5, e6, e7, e8⟩ := TB.bm
    have keep3 : ∀ b u, b ≠ P → s2.heap.get? b = some u → h3.get? b = some u := fun b u hb e => hx b u hb e
    have nfP : ∀ b ∈ fp, b ≠ P := fun b hb z => by
      have := (f2 b hb).1
      rw [z, hHP] at this; cases this
    have f3 : ∀ b ∈ fp, FpOk X pins H3 b ∧ b < h3.objs.size := fun b hb => by
      obtain ⟨o, eo, _⟩ := Tn.obj _ _ st2 b hb
      exact ⟨⟨n3 b hb, (f2 b hb).2⟩, Heap.lt_size (keep3 b o (nfP b hb) eo)⟩
    have st3 : tn 0 h3 := Tn.keep _ _ _ st2 fun b hb o e => keep3 b o (nfP b hb) e
    refine wpAny_builtinsFor (m := X.mg) (by rw [I2.ok.glob]; exact (I2.mod.glob.keeps I2.bk).extBut hx TB.gP) e1 e2 (keep3 _ _ e4 (I2.bk _ _ e5)) e6 e7 e8 ?_
    intro h' ns sb
    have hsz : h'.objs.size = h3.objs.size + 1 := by rw [sb.1, Heap.size_push]
    have kp' : ∀ b o, h3.get? b = some o → h'.get? b = some o := fun b o e => sb.extBut b o (Nat.ne_of_lt (Heap.lt_size e)) (Heap.get?_push_of_some _ e)
    generalize hog : ({ cls := .type "generator", data := .fields #[.int s2.gens.size 0, .str "<genexpr>" (tk + 1), .str (X.env.qual ++ "<genexpr>") (tk + 1 + 1)] } : Obj) = og
    have isg : ∀ hh : Heap, hh.get? h'.objs.size = some og → hh.IsGen h'.objs.size s2.gens.size := fun hh e => by
      rw [← hog] at e
      exact ⟨_, _, _, e, rfl, rfl, rfl⟩
    have hnf : og.isFreed = false := by rw [← hog]; rfl
    refine Calls.spliced_nil ?_
    -- the call of all
    have hpg' := fun A' s H fp pn => hpg A' s H h3.objs.size (cloFrom X.env.cells scope.names []) code fp pn
    have hs1' := hs1 h3.objs.size (cloFrom X.env.cells scope.names []) code
    generalize hce : genEnv scope (cloFrom X.env.cells scope.names []) h3.objs.size code builtinsNs X.env = ce at hpg' hs1'
    have ceS : ce.scope = scope := by rw [← hce]; rfl
    have AS : (X.A.in1.in1.deeper ce).handled = none := S.room.hd
    have hfr : (X.A.in1.in1.deeper ce).frames = some (ce :: X.stack) := by
      show X.A.frames.map (ce :: ·) = _
      rw [I2.ok.frames]; rfl
    have St : ∀ (s : Shared) (H : Hp) (fp : List Addr) (pn : List (Addr × Obj)), Stand (gnC X (X.A.in1.in1.deeper ce) s H scope ce fp pn) k W0 := fun s H fp pn =>
      ⟨rfl, S.gu, ⟨S.room.hd, by have := S.room.dp; show X.A.depth + 1 + 3 * k + 5 < _; omega, by have := S.room.un; show X.A.units + 1 + 1 + 3 + 16 * k + 200 < _; omega⟩, takesN⟩
    obtain ⟨pg, pt, hi1, pg1, pt1, pe⟩ := hpg' (X.A.in1.in1.deeper ce) { s2 with heap := h3, toks := tk } H3 fp [(h'.objs.size, og)] (St _ _ _ _)
    have k5 : ∀ b o, h3.get? b = some o → (h'.push og).get? b = some o := fun b o e => Heap.get?_push_of_some _ (kp' b o e)
    have bare5 : ∀ x : GenState, x.bare = true → AllBare (s2.gens.push x) := fun x hx => I2.bare.push hx
    have inv5 : ∀ {g5 : Array GenState} {t5 : Nat}, AllBare g5 → Inv (gnC X (X.A.in1.in1.deeper ce) { s2 with heap := h3, toks := tk } H3 scope ce fp [(h'.objs.size, og)]) [] (L2.wipe σ (own.map (·.2))) H3 { s2 with heap := h'.push og, gens := g5, toks := t5 } := fun {g5 t5} hg5 => by
      subst hce
      exact gn_start (t5 := t5) I3 G hN f3 AS hfr k5 (Heap.Ns.push ns _) (by show h3.objs.size < h'.objs.size; omega) (Heap.get?_push_size _ hnf) (fun v z => by rw [← hog] at z; cases z) hg5
    have S1 : RS X.K F3 ρ1 (L2.wipe σ (own.map (·.2))) (wipeE env (own.map (·.2))) := (hS.mono (s1'.trans s3) p1').wipe _
    have j1 := j1.mono s3 (List.prefix_refl _)
    refine call_function_tree PySem.F.kind_all PySem.F.plain_all PySem.F.entry_all (PySem.F.args_all1 _) ?_
    unfold Builtin.«all»
    refine wpAny_bind (m := oneArg "all" _) (wpAny_pure ?_)
    refine wpAny_bind (wpAny_pyIter_gen (isg _ (Heap.get?_push_size _ hnf)) ?_)
    refine wpAny_pure ⟨plainId_quiet PySem.F.plain_all_loop _, ?_⟩
    refine all_loop (GX := gnC X (X.A.in1.in1.deeper ce) { s2 with heap := h3, toks := tk } H3 scope ce fp [(h'.objs.size, og)]) (T := T) (Φ := Φ) (F1 := F3) (ρ1 := ρ1) (vs := own.map (·.2)) (σ := σ) (br := br) (Gr := G') (g := s2.gens.size) S.room.hd S.room.depth List.mem_cons_self isg (fun s' H' F' ρ' V => ?_) m _
      (isg _ (Heap.get?_push_size _ hnf)) ?_ (bare5 _ rfl) ⟨_, Array.getElem?_push_size .., rfl, ?_⟩
    · -- the end
      have I7 : Inv X pins σ H' s' := I3.call' (ch := fp) V.inv.os V.inv.base V.inv.hok V.inv.bare fun b hb => ⟨(f3 b hb).1.2.2.2.1, (f3 b hb).1.2.1, (f3 b hb).1.2.2.2.2.1, (f3 b hb).1.2.2.2.2.2⟩
      exact ⟨.bl br, H', I7, rfl, hQ (.bl br) H' F' ρ' V.r ((s1'.trans s3).trans V.sF) (p1'.trans V.pρ) (.bl br) fun _ => .of fun _ z => nomatch z⟩
    · exact (inv5 (g5 := s2.gens) (t5 := 0) I2.bare).nolimit
    · have gb : AllBare (({ s2 with gens := s2.gens.push (.fresh (.compStart (.GeneratorExp elt [⟨tg, iter, ifs, 0⟩, ⟨tg1, iter1, ifs1, 0⟩] scope gpos) 0 (.ref it) .none ce)), toks := tk + 1 + 1 + 1, heap := h'.push og } : Shared).setGen s2.gens.size .running).gens := allBare_setGen (bare5 _ rfl) rfl
      refine seg_out0 (GX := gnC X (X.A.in1.in1.deeper ce) { s2 with heap := h3, toks := tk } H3 scope ce fp [(h'.objs.size, og)]) (stop := false) rfl rfl rfl (by show ce.scope.isCoroutine = false; rw [ceS]; exact G.co) (fun b hb => hb) (fun b hb p hp => ?_) Tn j1 S1 hu hu1 hv1 pg pt hi1 hs1' pg1 pt1 pe (Nat.le_refl _) ⟨inv5 gb, R3, Same.refl _, List.prefix_refl _⟩ ?_ (fun b hb => (f3 b hb).1.1) eL
      · have hp : p ∈ [(h'.objs.size, og)] := hp
        rw [List.mem_singleton.mp hp]
        have q := (f3 b hb).2
        show h'.objs.size ≠ b
        rw [hsz]
        exact Nat.ne_of_gt (Nat.lt_succ_of_lt q)
      · exact Tn.keep _ _ _ st3 fun b hb o e => k5 b o e
  cases hf : codeAmong gpos ps.toList with
  | none =>
    refine wpAny_genexprCodeX hcode (cd.code hPs htr.1) (cd.tab hPs) hf fun c' h' tk hx hge hlt hco' hrec htab' _ => ?_
    obtain ⟨o1, vs, f1, tf, fl, tg', inF, tx, tt', op, _, _, _, _, _, _, _, _, _, htr', _⟩ := hco'
    obtain ⟨I3, R3, s3, n3⟩ := R.code_made I2 R2 hP hHP htr (fun b o hb e => hx b o hb e) hge hrec htab'.2 htr'
    refine go _ h' tk _ _ hx I3 R3 s3 fun b hb => ?_
    obtain ⟨o, eo, _⟩ := Tn.obj _ _ st2 b hb
    exact n3 b (f2 b hb).1 (Heap.lt_size eo)
  | some cv =>
    refine wpAny_genexprCode_hit hcode (cd.code hPs htr.1) hf ?_
    exact go cv s2.heap s2.toks H2 F1 (Heap.ExtBut.refl _ _) I2 R2 (Same.refl _) fun b hb => (f2 b hb).1
end
/-! ### its truth -/
section
variable {ft ft1 : MT} {tt tt1 : EnvD → M Bool} {fi fi1 : EnvD → M (List D)} {te : EnvD → M D} {env : EnvD} {vs vs1 : List Nat} {G : Gh} {Q : D → Gh → Prop} {f : D → Bool} {g : D → List D}
def AllOk (ft : MT) (tt : EnvD → M Bool) (te : EnvD → M D) (env : EnvD) (G : Gh) (f : D → Bool) (ds : List D) : Prop :=
  ∀ p ∈ ds, wpT ft p env G fun e2 G1 => G1 = G ∧ wpM (tt e2) G fun b G2 => b = true ∧ G2 = G ∧ wpM (te e2) G fun y G3 => y = .bl (f p) ∧ G3 = G
theorem allL_ok : ∀ {ds : List D}, AllOk ft tt te env G f ds → allL false ft tt te env ds G = some (ds.all f, G)
  | [], _ => rfl
  | p :: ds, h => by
    have ih := allL_ok (ds := ds) fun z hz => h z (List.mem_cons_of_mem _ hz)
    obtain ⟨e2, G1, q1, rfl, b, G2, q2, rfl, rfl, y, G3, q3, rfl, rfl⟩ := h p (by simp)
    unfold allL
    rw [q1]
    dsimp only
    rw [q2]
    dsimp only
    rw [if_pos rfl, q3]
    dsimp only
    cases hf : f p with
    | false => simp [hf]
    | true => simp [hf, ih]
def All2Ok (ft : MT) (tt : EnvD → M Bool) (fi1 : EnvD → M (List D)) (ft1 : MT) (tt1 : EnvD → M Bool) (te : EnvD → M D) (env : EnvD) (vs1 : List Nat) (G : Gh) (g : D → List D) (f : D → Bool) (ds : List D) : Prop :=
  ∀ d ∈ ds, wpT ft d env G fun e1 G1 => G1 = G ∧ wpM (tt e1) G fun b G2 => b = true ∧ G2 = G ∧ wpM (fi1 e1) G fun ds1 G3 => ds1 = g d ∧ G3 = G ∧ AllOk ft1 tt1 te (wipeE e1 vs1) G f (g d)
theorem all2N_ok : ∀ {ds : List D}, All2Ok ft tt fi1 ft1 tt1 te env vs1 G g f ds → ∃ m, all2N false ft tt fi1 ft1 tt1 te env vs1 ds G = some (ds.all (fun d => (g d).all f), G, m)
  | [], _ => ⟨0, rfl⟩
  | d :: ds, h => by
    obtain ⟨m, ih⟩ := all2N_ok (ds := ds) fun z hz => h z (List.mem_cons_of_mem _ hz)
    obtain ⟨e1, G1, q1, rfl, b, G2, q2, rfl, rfl, ds1, G3, q3, rfl, rfl, h4⟩ := h d (by simp)
    have q4 := allL_ok h4
    unfold all2N
    rw [q1]
    dsimp only
    rw [q2]
    dsimp only
    rw [if_pos rfl, q3]
    dsimp only
    rw [q4]
    dsimp only
    cases hf : (g d).all f with
    | false => exact ⟨_, by rw [if_pos rfl]; simp only [List.all_cons, hf, Bool.false_and]; rfl⟩
    | true =>
      rw [if_neg (by decide), ih]
      exact ⟨_, by simp only [List.all_cons, hf, Bool.true_and]; rfl⟩
theorem wp_allM2 {ds : List D} (hi : ∀ QL : List D → Gh → Prop, wpM (fi env) G QL ↔ QL ds G) (h : All2Ok ft tt fi1 ft1 tt1 te (wipeE env vs) vs1 G g f ds) : wpM (all2M false fi ft tt fi1 ft1 tt1 te vs vs1 env) G Q ↔ Q (.bl (ds.all fun d => (g d).all f)) G := by
  obtain ⟨m, q⟩ := all2N_ok h
  unfold all2M
  rw [wpM_bind, hi]
  constructor
  · rintro ⟨y, G1, e, z⟩
    dsimp only at e
    rw [q] at e
    cases e
    exact z
  · intro z
    exact ⟨_, _, by dsimp only; rw [q], z⟩
end
end L2.GL
end

section
set_option Elab.async false
set_option linter.all false
set_option maxRecDepth 100000
set_option maxHeartbeats 0
set_option autoImplicit false
namespace L2.GL.LW
open PySem PySem.Spec PyProof.Rows L2.GL
def topS (i : Nat) : Stmt := PySem.Challenge.pw_shortsteps_k06_whole_grids.main.body.getD i (.Pass ⟨0, 0, 0, 0⟩)
abbrev s_is_whole : Stmt := topS 7
abbrev s_is_point : Stmt := topS 8
abbrev s_determinant : Stmt := topS 12
abbrev s_is_steps : Stmt := topS 9
abbrev s_need_steps : Stmt := topS 10
abbrev s_need_point : Stmt := topS 11
abbrev s_product : Stmt := topS 13
abbrev s_room : Stmt := topS 14
abbrev s_is_numbers : Stmt := topS 16
abbrev s_made_at : Stmt := topS 17
abbrev s_reached : Stmt := topS 15
abbrev s_numbers_of : Stmt := topS 18
abbrev s_is_same : Stmt := topS 19
abbrev s_show_number : Stmt := topS 26
abbrev s_show_point : Stmt := topS 25
abbrev s_show : Stmt := topS 24
abbrev s_is_number_text : Stmt := topS 28
abbrev s_number_of : Stmt := topS 29
abbrev s_read : Stmt := topS 27
abbrev s__law_cell : Stmt := topS 31
abbrev s__law_mix : Stmt := topS 32
abbrev s__law_box : Stmt := topS 33
abbrev s__law_take : Stmt := topS 34
abbrev s__law_drawn_number : Stmt := topS 35
abbrev s__law_drawn_point : Stmt := topS 36
abbrev s__law_det : Stmt := topS 37
abbrev s__law_drawn_pair : Stmt := topS 38
abbrev s__law_drawn_three : Stmt := topS 39
abbrev s__law_drawn_steps : Stmt := topS 40
abbrev s_law : Stmt := topS 41
def D_is_whole : He.DefD := ⟨("is_whole", none), "is_whole", "is_whole", defArgs s_is_whole, defBody s_is_whole, defScope s_is_whole, [], []⟩
def D_is_point : He.DefD := ⟨("is_point", none), "is_point", "is_point", defArgs s_is_point, defBody s_is_point, defScope s_is_point, [], []⟩
def D_determinant : He.DefD := ⟨("determinant", none), "determinant", "determinant", defArgs s_determinant, defBody s_determinant, defScope s_determinant, [], []⟩
def D_is_steps : He.DefD := ⟨("is_steps", none), "is_steps", "is_steps", defArgs s_is_steps, defBody s_is_steps, defScope s_is_steps, [], []⟩
def D_need_steps : He.DefD := ⟨("need_steps", none), "need_steps", "need_steps", defArgs s_need_steps, defBody s_need_steps, defScope s_need_steps, [], []⟩
def D_need_point : He.DefD := ⟨("need_point", none), "need_point", "need_point", defArgs s_need_point, defBody s_need_point, defScope s_need_point, [], []⟩
def D_product : He.DefD := ⟨("product", none), "product", "product", defArgs s_product, defBody s_product, defScope s_product, [], []⟩
def D_room : He.DefD := ⟨("room", none), "room", "room", defArgs s_room, defBody s_room, defScope s_room, [], []⟩
def D_is_numbers : He.DefD := ⟨("is_numbers", none), "is_numbers", "is_numbers", defArgs s_is_numbers, defBody s_is_numbers, defScope s_is_numbers, [], []⟩
def D_made_at : He.DefD := ⟨("made_at", none), "made_at", "made_at", defArgs s_made_at, defBody s_made_at, defScope s_made_at, [], []⟩
def D_reached : He.DefD := ⟨("reached", none), "reached", "reached", defArgs s_reached, defBody s_reached, defScope s_reached, [], []⟩
def D_numbers_of : He.DefD := ⟨("numbers_of", none), "numbers_of", "numbers_of", defArgs s_numbers_of, defBody s_numbers_of, defScope s_numbers_of, [], []⟩
def D_is_same : He.DefD := ⟨("is_same", none), "is_same", "is_same", defArgs s_is_same, defBody s_is_same, defScope s_is_same, [], []⟩
def D_show_number : He.DefD := ⟨("show_number", none), "show_number", "show_number", defArgs s_show_number, defBody s_show_number, defScope s_show_number, [], []⟩
def D_show_point : He.DefD := ⟨("show_point", none), "show_point", "show_point", defArgs s_show_point, defBody s_show_point, defScope s_show_point, [], []⟩
def D_show : He.DefD := ⟨("show", none), "show", "show", defArgs s_show, defBody s_show, defScope s_show, [], []⟩
def D_is_number_text : He.DefD := ⟨("is_number_text", none), "is_number_text", "is_number_text", defArgs s_is_number_text, defBody s_is_number_text, defScope s_is_number_text, [], []⟩
def D_number_of : He.DefD := ⟨("number_of", none), "number_of", "number_of", defArgs s_number_of, defBody s_number_of, defScope s_number_of, [], []⟩
def D_read : He.DefD := ⟨("read", none), "read", "read", defArgs s_read, defBody s_read, defScope s_read, [], []⟩
def D__law_cell : He.DefD := ⟨("_law_cell", none), "_law_cell", "_law_cell", defArgs s__law_cell, defBody s__law_cell, defScope s__law_cell, [], []⟩
def D__law_mix : He.DefD := ⟨("_law_mix", none), "_law_mix", "_law_mix", defArgs s__law_mix, defBody s__law_mix, defScope s__law_mix, [], []⟩
def D__law_box : He.DefD := ⟨("_law_box", none), "_law_box", "_law_box", defArgs s__law_box, defBody s__law_box, defScope s__law_box, [], []⟩
def D__law_take : He.DefD := ⟨("_law_take", none), "_law_take", "_law_take", defArgs s__law_take, defBody s__law_take, defScope s__law_take, [], []⟩
def D__law_drawn_number : He.DefD := ⟨("_law_drawn_number", none), "_law_drawn_number", "_law_drawn_number", defArgs s__law_drawn_number, defBody s__law_drawn_number, defScope s__law_drawn_number, [], []⟩
def D__law_drawn_point : He.DefD := ⟨("_law_drawn_point", none), "_law_drawn_point", "_law_drawn_point", defArgs s__law_drawn_point, defBody s__law_drawn_point, defScope s__law_drawn_point, [], []⟩
def D__law_det : He.DefD := ⟨("_law_det", none), "_law_det", "_law_det", defArgs s__law_det, defBody s__law_det, defScope s__law_det, [], []⟩
def D__law_drawn_pair : He.DefD := ⟨("_law_drawn_pair", none), "_law_drawn_pair", "_law_drawn_pair", defArgs s__law_drawn_pair, defBody s__law_drawn_pair, defScope s__law_drawn_pair, [], []⟩
def D__law_drawn_three : He.DefD := ⟨("_law_drawn_three", none), "_law_drawn_three", "_law_drawn_three", defArgs s__law_drawn_three, defBody s__law_drawn_three, defScope s__law_drawn_three, [], []⟩
def D__law_drawn_steps : He.DefD := ⟨("_law_drawn_steps", none), "_law_drawn_steps", "_law_drawn_steps", defArgs s__law_drawn_steps, defBody s__law_drawn_steps, defScope s__law_drawn_steps, [], []⟩
def D_law : He.DefD := ⟨("law", none), "law", "law", defArgs s_law, defBody s_law, defScope s_law, [], []⟩
def fns : List He.DefD := [D_is_whole, D_is_point, D_determinant, D_is_steps, D_need_steps, D_need_point, D_product, D_room, D_is_numbers, D_made_at, D_reached, D_numbers_of, D_is_same, D_show_number, D_show_point, D_show, D_is_number_text, D_number_of, D_read, D__law_cell, D__law_mix, D__law_box, D__law_take, D__law_drawn_number, D__law_drawn_point, D__law_det, D__law_drawn_pair, D__law_drawn_three, D__law_drawn_steps, D_law]
def exK (K : PySem.W.Frag) : Bool := true
def fas : List He.Fa := [.glo "is_whole", .glo "is_point", .glo "determinant", .glo "is_steps", .glo "need_steps", .glo "need_point", .glo "product", .glo "room", .glo "is_numbers", .glo "made_at", .glo "reached", .glo "numbers_of", .glo "is_same", .glo "show_number", .glo "show_point", .glo "show", .glo "is_number_text", .glo "number_of", .glo "read", .glo "_law_cell", .glo "_law_mix", .glo "_law_box", .glo "_law_take", .glo "_law_drawn_number", .glo "_law_drawn_point", .glo "_law_det", .glo "_law_drawn_pair", .glo "_law_drawn_three", .glo "_law_drawn_steps", .glo "law", .free "abs", .free "all", .free "bool", .free "divmod", .free "int", .free "isinstance", .free "len", .free "max", .free "min", .free "range", .free "str", .free "sum", .free "tuple", .free "zip", .str "FIGURES" "0123456789", .int "BLOCK_FIGURES" 60, .int "BLOCK" 1000000000000000000000000000000000000000000000000000000000000]
def tfs : List He.Defn := [("is_point", none), ("is_steps", none), ("is_numbers", none), ("is_same", none), ("is_number_text", none), ("read", none)]
abbrev RR : PySem.W.OpenRow := PySem.W.OpenLaw.row PySem.Challenge.rw_shortsteps_k06_whole_grids
def loose : List PySem.Str := (["StepError", "NoSteps", "NoPoint", "NoNumber", "NoText", "is_whole", "is_point", "is_steps", "need_steps", "need_point", "determinant", "product"] : List PySem.Str) ++ (["room", "reached", "is_numbers", "made_at", "numbers_of", "is_same", "FIGURES", "BLOCK_FIGURES", "BLOCK", "show", "show_point", "show_number"] : List PySem.Str) ++ (["read", "is_number_text", "number_of", "_law_cell", "_law_mix", "_law_box", "_law_take", "_law_drawn_number", "_law_drawn_point", "_law_det", "_law_drawn_pair", "_law_drawn_three"] : List PySem.Str) ++ (["_law_drawn_steps"] : List PySem.Str)
abbrev hk : PySem.W.Hook := hookB 4 fas fns tfs exK
def ob (s : PySem.W.SharedT) : He.AlX := obsB 4 fas fns tfs exK (HandSHeadRun.getT s)
theorem ob_eq (s : PySem.W.SharedT) : ob s = hk.obs s.abs := obsB_eq (HandSHeadRun.getT_eq s)
open HandSHeadRun PySem.W in
theorem run_a (w : World) (os : OsState) : (endF (stepQ (denQ tabQ) RR.prog w) 20000 RR.prog w os).map (fun s => (looksF RR.prog (boot_heap w.params) s.abs, seenQ (PySem.W.view RR.prog [41]) loose (importedModules RR.prog.main.body) (fun z => xlAt (PySem.W.view RR.prog [41]) [] z && recOk RR.toRowW.records z) s.abs)) = some (true, openGood (PySem.W.view RR.prog [41]) loose) := by
  kernel_rfl
open HandSHeadRun PySem.W in
theorem run_b (w : World) (os : OsState) : (endF (stepQ (denQ tabQ) RR.prog w) 20000 RR.prog w os).map (fun s => ob s) = some (hk.val w) := by
  kernel_rfl
theorem run (w : World) : HandSHeadRun.RunEq RR (PySem.W.view RR.prog [41]) hk ob 20000 loose w := fun os => run_two (run_a w os) (run_b w os)
end L2.GL.LW
end

section
set_option Elab.async false
set_option linter.all false
set_option maxRecDepth 100000
set_option maxHeartbeats 4000000
set_option autoImplicit false
namespace L2.GL.LW
open PySem PySem.Spec PyProof.Rows L2.GL
def FREE : List Str := ["abs", "all", "bool", "divmod", "int", "isinstance", "len", "max", "min", "range", "str", "sum", "tuple", "zip"]

/-! ### is_whole -/
abbrev N_is_whole : List Str := ["thing"]
theorem sc_is_whole : FnScope N_is_whole ["thing"] (defScope s_is_whole) := ⟨rfl, rfl, rfl, by decide +kernel, rfl, by decide +kernel, by decide +kernel⟩
noncomputable def b_is_whole : MS := (retS (fun env => andV ((fun env => do let ds ← (fun env => do let d ← (getV 0) env; let ds ← (fun env => do let d ← (fun _ => pure (.ty "int")) env; let ds ← (fun _ => pure []) env; pure (d :: ds)) env; pure (d :: ds)) env; fIsi ds) env) ((fun env => notV ((fun env => do let ds ← (fun env => do let d ← (getV 0) env; let ds ← (fun env => do let d ← (fun _ => pure (.ty "bool")) env; let ds ← (fun _ => pure []) env; pure (d :: ds)) env; pure (d :: ds)) env; fIsi ds) env)) env)) true)
noncomputable def phi_is_whole : List D → M D := defM 1 1 true b_is_whole
theorem d_is_whole {P : Program} {w : World} {K : PySem.W.Frag} {mg : Str → Option Value} {base : Heap} {T : List Addr} (free : ∀ x : Str, x ∈ FREE → mg x = none) {fa : Addr} {cdv : Value} {A : Around} {outer : List Env} {s : Shared} {H : Hp} {E : XK} (hcd : cdv = .ref (He.codeOf K ("is_whole", none))) (S : Stand (cxG P w K mg base N_is_whole "is_whole" (defScope s_is_whole) fa cdv A outer s H E) 0 (wG E)) :
    PSsV (cxG P w K mg base N_is_whole "is_whole" (defScope s_is_whole) fa cdv A outer s H E) T (wG E) (defBody s_is_whole) (b_is_whole) :=
  (s_one (s_ret (v_and (v_callB (fr := true) call_isi s_isi (by rfl) (free "isinstance" (by decide)) boot_isinstance (a_cons (vn 0) (a_cons (v_ty (by rfl) (free "int" (by decide)) boot_int) a_nil))) (v_one (v_not (v_callB (fr := true) call_isi s_isi (by rfl) (free "isinstance" (by decide)) boot_isinstance (a_cons (vn 0) (a_cons (v_ty (by rfl) (free "bool" (by decide)) boot_bool) a_nil))))))))

/-! ### is_point -/
abbrev N_is_point : List Str := ["thing", "number"]
theorem sc_is_point : FnScope N_is_point ["thing"] (defScope s_is_point) := ⟨rfl, rfl, rfl, by decide +kernel, rfl, by decide +kernel, by decide +kernel⟩
noncomputable def b_is_point : MS := (seqS (ifS (fun env => orM ((fun env => notM ((fun env => do let d ← (fun env => do let ds ← (fun env => do let d ← (getV 0) env; let ds ← (fun env => do let d ← (fun _ => pure (.ty "tuple")) env; let ds ← (fun _ => pure []) env; pure (d :: ds)) env; pure (d :: ds)) env; fIsi ds) env; truth d) env)) env) ((fun env => do let d ← (fun env => do let ds ← (fun env => do let d ← (getV 0) env; let ds ← (fun _ => pure []) env; pure (d :: ds)) env; fLen ds) env; let e ← (fun env => do let ds ← (fun env => do let d ← (fun _ => pure (.int 2)) env; let ds ← (fun env => do let d ← (fun _ => pure (.int 3)) env; let ds ← (fun _ => pure []) env; pure (d :: ds)) env; pure (d :: ds)) env; pure (.tup ds)) env; notInM d e) env)) (retS (fun _ => pure (.bl false)) true) skipS)
    (retS (allM false (fun env => do let d ← (getV 0) env; walkM d) (gN 1) (fun _ => pure true) (fun env => do let ds ← (fun env => do let d ← (getV 1) env; let ds ← (fun _ => pure []) env; pure (d :: ds)) env; phi_is_whole ds) [1]) true))
noncomputable def phi_is_point : List D → M D := defM 1 2 true b_is_point
theorem d_is_point {P : Program} {w : World} {K : PySem.W.Frag} {mg : Str → Option Value} {base : Heap} {T : List Addr} (free : ∀ x : Str, x ∈ FREE → mg x = none) (c_is_whole : Cal P w K mg base T 1 "is_whole" 1 true phi_is_whole) (TB : LamX.TabB base mg (He.codeOf K ("is_point", none)) (He.cT K ("is_point", none)).2) (hP : (He.cT K ("is_point", none)).2 ∈ T) {fa : Addr} {cdv : Value} {A : Around} {outer : List Env} {s : Shared} {H : Hp} {E : XK} (hcd : cdv = .ref (He.codeOf K ("is_point", none))) (S : Stand (cxG P w K mg base N_is_point "is_point" (defScope s_is_point) fa cdv A outer s H E) 2 (wG E)) :
    PSsV (cxG P w K mg base N_is_point "is_point" (defScope s_is_point) fa cdv A outer s H E) T (wG E) (defBody s_is_point) (b_is_point) :=
  (s_cons (s_if (PW.pt (bw_or (b_not (b_truth (v_callB (fr := true) call_isi s_isi (by rfl) (free "isinstance" (by decide)) boot_isinstance (a_cons (vn 0) (a_cons (v_ty (by rfl) (free "tuple" (by decide)) boot_tuple) a_nil))))) (bw_or1 (b_cmp op_notIn_seq o_notIn (by with_unfolding_all rfl) (v_callB (fr := true) (call_len_seq.or call_len) s_len (by rfl) (free "len" (by decide)) boot_len (a_cons (vn 0) a_nil)) (mkT (a_cons v_int (a_cons v_int a_nil)) (lc (lc ln))))))) (s_one (s_ret v_bl)) s_nil) (s_one (s_ret (v_all S (by rfl) (free "all" (by decide)) TB hP hcd sc_is_point.nd (gscp_by (N := N_is_point) (sc := defScope s_is_point) (own := [("number", 1)]) (by decide +kernel) (by decide +kernel)) (by decide) (i_any (vn 0)) (fun A0 s0 H0 C0 cl0 cv0 fp0 pn0 S => ⟨(gn 1 sc_is_point.nd), ts_nil, (v_call c_is_whole S (by decide) (by rfl) (a_cons (vn 1) a_nil))⟩) (by intro _; rfl)))))

/-! ### determinant -/
abbrev N_determinant : List Str := ["steps", "a", "b", "c", "d", "second", "third", "without_first", "without_second", "without_third"]
theorem sc_determinant : FnScope N_determinant ["steps"] (defScope s_determinant) := ⟨rfl, rfl, rfl, by decide +kernel, rfl, by decide +kernel, by decide +kernel⟩
noncomputable def b_determinant (φrec : List D → M D) : MS := (seqS (ifS (fun env => do let d ← (fun env => do let ds ← (fun env => do let d ← (getV 0) env; let ds ← (fun _ => pure []) env; pure (d :: ds)) env; fLen ds) env; let e ← (fun _ => pure (.int 2)) env; eqX d e) (seqS (asgS (getV 0) (gT 2 (gs1 (gT 2 (gs1 (gN 1) (gs1 (gN 2) gs0))) (gs1 (gT 2 (gs1 (gN 3) (gs1 (gN 4) gs0))) gs0))))
    (retS (fun env => do let d ← (fun env => do let d ← (getV 1) env; let e ← (getV 4) env; opMulL d e) env; let e ← (fun env => do let d ← (getV 2) env; let e ← (getV 3) env; opMulL d e) env; opSub d e) true)) skipS)
    (seqS (asgS (getV 0) (gT 3 (gs1 (gT 3 (gs1 (gN 1) (gs1 (gN 2) (gs1 (gN 3) gs0)))) (gs1 (gN 5) (gs1 (gN 6) gs0)))))
    (seqS (setS 7 (fun env => do let ds ← (fun env => do let d ← (fun env => do let ds ← (fun env => do let d ← (fun env => do let d ← (getV 5) env; let l ← (fun env => do let d ← (fun _ => pure (.int 1)) env; asI d) env; let u ← (fun _ => pure none) env; slM d l u) env; let ds ← (fun env => do let d ← (fun env => do let d ← (getV 6) env; let l ← (fun env => do let d ← (fun _ => pure (.int 1)) env; asI d) env; let u ← (fun _ => pure none) env; slM d l u) env; let ds ← (fun _ => pure []) env; pure (d :: ds)) env; pure (d :: ds)) env; pure (.tup ds)) env; let ds ← (fun _ => pure []) env; pure (d :: ds)) env; φrec ds))
    (seqS (setS 8 (fun env => do let ds ← (fun env => do let d ← (fun env => do let ds ← (fun env => do let d ← (fun env => do let ds ← (fun env => do let d ← (fun env => do let d ← (getV 5) env; let e ← (fun _ => pure (.int 0)) env; ixM d e) env; let ds ← (fun env => do let d ← (fun env => do let d ← (getV 5) env; let e ← (fun _ => pure (.int 2)) env; ixM d e) env; let ds ← (fun _ => pure []) env; pure (d :: ds)) env; pure (d :: ds)) env; pure (.tup ds)) env; let ds ← (fun env => do let d ← (fun env => do let ds ← (fun env => do let d ← (fun env => do let d ← (getV 6) env; let e ← (fun _ => pure (.int 0)) env; ixM d e) env; let ds ← (fun env => do let d ← (fun env => do let d ← (getV 6) env; let e ← (fun _ => pure (.int 2)) env; ixM d e) env; let ds ← (fun _ => pure []) env; pure (d :: ds)) env; pure (d :: ds)) env; pure (.tup ds)) env; let ds ← (fun _ => pure []) env; pure (d :: ds)) env; pure (d :: ds)) env; pure (.tup ds)) env; let ds ← (fun _ => pure []) env; pure (d :: ds)) env; φrec ds))
    (seqS (setS 9 (fun env => do let ds ← (fun env => do let d ← (fun env => do let ds ← (fun env => do let d ← (fun env => do let d ← (getV 5) env; let l ← (fun _ => pure none) env; let u ← (fun env => do let d ← (fun _ => pure (.int 2)) env; asI d) env; slM d l u) env; let ds ← (fun env => do let d ← (fun env => do let d ← (getV 6) env; let l ← (fun _ => pure none) env; let u ← (fun env => do let d ← (fun _ => pure (.int 2)) env; asI d) env; slM d l u) env; let ds ← (fun _ => pure []) env; pure (d :: ds)) env; pure (d :: ds)) env; pure (.tup ds)) env; let ds ← (fun _ => pure []) env; pure (d :: ds)) env; φrec ds))
    (retS (fun env => do let d ← (fun env => do let d ← (fun env => do let d ← (getV 1) env; let e ← (getV 7) env; opMulL d e) env; let e ← (fun env => do let d ← (getV 2) env; let e ← (getV 8) env; opMulL d e) env; opSub d e) env; let e ← (fun env => do let d ← (getV 3) env; let e ← (getV 9) env; opMulL d e) env; opAddL d e) true))))))
noncomputable def phi_determinant_0 : List D → M D := fun _ => stuck
noncomputable def phi_determinant_1 : List D → M D := defM 1 10 true (b_determinant phi_determinant_0)
noncomputable def phi_determinant_2 : List D → M D := defM 1 10 true (b_determinant phi_determinant_1)
noncomputable abbrev phi_determinant : List D → M D := phi_determinant_2
theorem d_determinant {P : Program} {w : World} {K : PySem.W.Frag} {mg : Str → Option Value} {base : Heap} {T : List Addr} (free : ∀ x : Str, x ∈ FREE → mg x = none) {φrec : List D → M D} {kr : Nat} (c_determinant : Cal P w K mg base T kr "determinant" 1 true φrec) {fa : Addr} {cdv : Value} {A : Around} {outer : List Env} {s : Shared} {H : Hp} {E : XK} (hcd : cdv = .ref (He.codeOf K ("determinant", none))) (S : Stand (cxG P w K mg base N_determinant "determinant" (defScope s_determinant) fa cdv A outer s H E) kr (wG E)) :
    PSsV (cxG P w K mg base N_determinant "determinant" (defScope s_determinant) fa cdv A outer s H E) T (wG E) (defBody s_determinant) (b_determinant φrec) :=
  (s_cons (s_if (b_cmp (op_eqX S.room.units) o_eqX (nomark _) (v_callB (fr := true) (call_len_seq.or call_len) s_len (by rfl) (free "len" (by decide)) boot_len (a_cons (vn 0) a_nil)) v_int) (s_cons (s_asg (vn 0) (g_tup S.calm (g_cons (g_tup S.calm (g_cons (gn 1 sc_determinant.nd) (g_cons (gn 2 sc_determinant.nd) g_nil))) (g_cons (g_tup S.calm (g_cons (gn 3 sc_determinant.nd) (g_cons (gn 4 sc_determinant.nd) g_nil))) g_nil)))) (s_one (s_ret (v_bin (fr := true) op_sub o_sub (v_bin (fr := true) op_mulL o_mulL (vn 1) (vn 4)) (v_bin (fr := true) op_mulL o_mulL (vn 2) (vn 3)))))) s_nil) (s_cons (s_asg (vn 0) (g_tup S.calm (g_cons (g_tup S.calm (g_cons (gn 1 sc_determinant.nd) (g_cons (gn 2 sc_determinant.nd) (g_cons (gn 3 sc_determinant.nd) g_nil)))) (g_cons (gn 5 sc_determinant.nd) (g_cons (gn 6 sc_determinant.nd) g_nil))))) (s_cons (s_set (i := 7) sc_determinant.nd (by rfl) (by first | exact Or.inl rfl | exact Or.inr rfl) (v_call c_determinant S (by omega) (by rfl) (a_cons (mkT (a_cons (v_slice (vn 5) (so_some v_int) so_none) (a_cons (v_slice (vn 6) (so_some v_int) so_none) a_nil)) (lc (lc ln))) a_nil))) (s_cons (s_set (i := 8) sc_determinant.nd (by rfl) (by first | exact Or.inl rfl | exact Or.inr rfl) (v_call c_determinant S (by omega) (by rfl) (a_cons (mkT (a_cons (mkT (a_cons (v_ix (vn 5) v_int) (a_cons (v_ix (vn 5) v_int) a_nil)) (lc (lc ln))) (a_cons (mkT (a_cons (v_ix (vn 6) v_int) (a_cons (v_ix (vn 6) v_int) a_nil)) (lc (lc ln))) a_nil)) (lc (lc ln))) a_nil))) (s_cons (s_set (i := 9) sc_determinant.nd (by rfl) (by first | exact Or.inl rfl | exact Or.inr rfl) (v_call c_determinant S (by omega) (by rfl) (a_cons (mkT (a_cons (v_slice (vn 5) so_none (so_some v_int)) (a_cons (v_slice (vn 6) so_none (so_some v_int)) a_nil)) (lc (lc ln))) a_nil))) (s_one (s_ret (v_bin (fr := true) op_addL o_addL (v_bin (fr := true) op_sub o_sub (v_bin (fr := true) op_mulL o_mulL (vn 1) (vn 7)) (v_bin (fr := true) op_mulL o_mulL (vn 2) (vn 8))) (v_bin (fr := true) op_mulL o_mulL (vn 3) (vn 9))))))))))

/-! ### is_steps -/
abbrev N_is_steps : List Str := ["thing", "point"]
theorem sc_is_steps : FnScope N_is_steps ["thing"] (defScope s_is_steps) := ⟨rfl, rfl, rfl, by decide +kernel, rfl, by decide +kernel, by decide +kernel⟩
noncomputable def b_is_steps : MS := (seqS (ifS (fun env => orM ((fun env => notM ((fun env => do let d ← (fun env => do let ds ← (fun env => do let d ← (getV 0) env; let ds ← (fun env => do let d ← (fun _ => pure (.ty "tuple")) env; let ds ← (fun _ => pure []) env; pure (d :: ds)) env; pure (d :: ds)) env; fIsi ds) env; truth d) env)) env) ((fun env => do let d ← (fun env => do let ds ← (fun env => do let d ← (getV 0) env; let ds ← (fun _ => pure []) env; pure (d :: ds)) env; fLen ds) env; let e ← (fun env => do let ds ← (fun env => do let d ← (fun _ => pure (.int 2)) env; let ds ← (fun env => do let d ← (fun _ => pure (.int 3)) env; let ds ← (fun _ => pure []) env; pure (d :: ds)) env; pure (d :: ds)) env; pure (.tup ds)) env; notInM d e) env)) (retS (fun _ => pure (.bl false)) true) skipS)
    (seqS (ifS (fun env => notM ((fun env => do let d ← (allM false (fun env => do let d ← (getV 0) env; walkM d) (gN 1) (fun _ => pure true) (fun env => andV ((fun env => do let ds ← (fun env => do let d ← (getV 1) env; let ds ← (fun _ => pure []) env; pure (d :: ds)) env; phi_is_point ds) env) ((fun env => do let d ← (fun env => do let ds ← (fun env => do let d ← (getV 1) env; let ds ← (fun _ => pure []) env; pure (d :: ds)) env; fLen ds) env; let e ← (fun env => do let ds ← (fun env => do let d ← (getV 0) env; let ds ← (fun _ => pure []) env; pure (d :: ds)) env; fLen ds) env; vB (eqX d e)) env)) [1]) env; truth d) env)) (retS (fun _ => pure (.bl false)) true) skipS)
    (retS (fun env => do let d ← (fun env => do let ds ← (fun env => do let d ← (getV 0) env; let ds ← (fun _ => pure []) env; pure (d :: ds)) env; phi_determinant ds) env; let e ← (fun _ => pure (.int 0)) env; vB (neX d e)) true)))
noncomputable def phi_is_steps : List D → M D := defM 1 2 true b_is_steps
theorem d_is_steps {P : Program} {w : World} {K : PySem.W.Frag} {mg : Str → Option Value} {base : Heap} {T : List Addr} (free : ∀ x : Str, x ∈ FREE → mg x = none) (c_determinant : Cal P w K mg base T 2 "determinant" 1 true phi_determinant) (c_is_point : Cal P w K mg base T 3 "is_point" 1 true phi_is_point) (TB : LamX.TabB base mg (He.codeOf K ("is_steps", none)) (He.cT K ("is_steps", none)).2) (hP : (He.cT K ("is_steps", none)).2 ∈ T) {fa : Addr} {cdv : Value} {A : Around} {outer : List Env} {s : Shared} {H : Hp} {E : XK} (hcd : cdv = .ref (He.codeOf K ("is_steps", none))) (S : Stand (cxG P w K mg base N_is_steps "is_steps" (defScope s_is_steps) fa cdv A outer s H E) 4 (wG E)) :
    PSsV (cxG P w K mg base N_is_steps "is_steps" (defScope s_is_steps) fa cdv A outer s H E) T (wG E) (defBody s_is_steps) (b_is_steps) :=
  (s_cons (s_if (PW.pt (bw_or (b_not (b_truth (v_callB (fr := true) call_isi s_isi (by rfl) (free "isinstance" (by decide)) boot_isinstance (a_cons (vn 0) (a_cons (v_ty (by rfl) (free "tuple" (by decide)) boot_tuple) a_nil))))) (bw_or1 (b_cmp op_notIn_seq o_notIn (by with_unfolding_all rfl) (v_callB (fr := true) (call_len_seq.or call_len) s_len (by rfl) (free "len" (by decide)) boot_len (a_cons (vn 0) a_nil)) (mkT (a_cons v_int (a_cons v_int a_nil)) (lc (lc ln))))))) (s_one (s_ret v_bl)) s_nil) (s_cons (s_if (b_not (b_truth (v_all S (by rfl) (free "all" (by decide)) TB hP hcd sc_is_steps.nd (gscp_by (N := N_is_steps) (sc := defScope s_is_steps) (own := [("point", 1)]) (by decide +kernel) (by decide +kernel)) (by decide) (i_any (vn 0)) (fun A0 s0 H0 C0 cl0 cv0 fp0 pn0 S => ⟨(gn 1 sc_is_steps.nd), ts_nil, (v_and (v_call c_is_point S (by decide) (by rfl) (a_cons (vn 1) a_nil)) (v_one (v_cmp (fr := true) (op_eqX S.room.units) o_eqX (nomark _) (v_callB (fr := true) (call_len_seq.or call_len) s_len (by rfl) (free "len" (by decide)) boot_len (a_cons (vn 1) a_nil)) (v_callB (fr := true) (call_len_seq.or call_len) s_len (by rfl) (free "len" (by decide)) boot_len (a_cons (vn 0) a_nil)))))⟩) (by intro _; rfl)))) (s_one (s_ret v_bl)) s_nil) (s_one (s_ret (v_cmp (fr := true) (op_neX S.room.units) o_neX (nomark _) (v_call c_determinant S (by decide) (by rfl) (a_cons (vn 0) a_nil)) v_int)))))

/-! ### need_steps -/
abbrev N_need_steps : List Str := ["thing"]
theorem sc_need_steps : FnScope N_need_steps ["thing"] (defScope s_need_steps) := ⟨rfl, rfl, rfl, by decide +kernel, rfl, by decide +kernel, by decide +kernel⟩
noncomputable def b_need_steps : MS := (ifS (fun env => notM ((fun env => do let d ← (fun env => do let ds ← (fun env => do let d ← (getV 0) env; let ds ← (fun _ => pure []) env; pure (d :: ds)) env; phi_is_steps ds) env; truth d) env)) (fun _ _ => none) skipS)
noncomputable def phi_need_steps : List D → M D := defM 1 1 true b_need_steps
theorem d_need_steps {P : Program} {w : World} {K : PySem.W.Frag} {mg : Str → Option Value} {base : Heap} {T : List Addr} (free : ∀ x : Str, x ∈ FREE → mg x = none) (c_is_steps : Cal P w K mg base T 5 "is_steps" 1 true phi_is_steps) {fa : Addr} {cdv : Value} {A : Around} {outer : List Env} {s : Shared} {H : Hp} {E : XK} (hcd : cdv = .ref (He.codeOf K ("need_steps", none))) (S : Stand (cxG P w K mg base N_need_steps "need_steps" (defScope s_need_steps) fa cdv A outer s H E) 5 (wG E)) :
    PSsV (cxG P w K mg base N_need_steps "need_steps" (defScope s_need_steps) fa cdv A outer s H E) T (wG E) (defBody s_need_steps) (b_need_steps) :=
  (s_one (s_if (b_not (b_truth (v_call c_is_steps S (by decide) (by rfl) (a_cons (vn 0) a_nil)))) (s_one s_never) s_nil))

/-! ### need_point -/
abbrev N_need_point : List Str := ["thing", "width"]
theorem sc_need_point : FnScope N_need_point ["thing", "width"] (defScope s_need_point) := ⟨rfl, rfl, rfl, by decide +kernel, rfl, by decide +kernel, by decide +kernel⟩
noncomputable def b_need_point : MS := (ifS (fun env => orM ((fun env => notM ((fun env => do let d ← (fun env => do let ds ← (fun env => do let d ← (getV 0) env; let ds ← (fun _ => pure []) env; pure (d :: ds)) env; phi_is_point ds) env; truth d) env)) env) ((fun env => do let d ← (fun env => do let ds ← (fun env => do let d ← (getV 0) env; let ds ← (fun _ => pure []) env; pure (d :: ds)) env; fLen ds) env; let e ← (getV 1) env; neX d e) env)) (fun _ _ => none) skipS)
noncomputable def phi_need_point : List D → M D := defM 2 2 true b_need_point
theorem d_need_point {P : Program} {w : World} {K : PySem.W.Frag} {mg : Str → Option Value} {base : Heap} {T : List Addr} (free : ∀ x : Str, x ∈ FREE → mg x = none) (c_is_point : Cal P w K mg base T 3 "is_point" 1 true phi_is_point) {fa : Addr} {cdv : Value} {A : Around} {outer : List Env} {s : Shared} {H : Hp} {E : XK} (hcd : cdv = .ref (He.codeOf K ("need_point", none))) (S : Stand (cxG P w K mg base N_need_point "need_point" (defScope s_need_point) fa cdv A outer s H E) 3 (wG E)) :
    PSsV (cxG P w K mg base N_need_point "need_point" (defScope s_need_point) fa cdv A outer s H E) T (wG E) (defBody s_need_point) (b_need_point) :=
  (s_one (s_if (PW.pt (bw_or (b_not (b_truth (v_call c_is_point S (by decide) (by rfl) (a_cons (vn 0) a_nil)))) (bw_or1 (b_cmp (op_neX S.room.units) o_neX (nomark _) (v_callB (fr := true) (call_len_seq.or call_len) s_len (by rfl) (free "len" (by decide)) boot_len (a_cons (vn 0) a_nil)) (vn 1))))) (s_one s_never) s_nil))

/-! ### product -/
abbrev N_product : List Str := ["one", "other", "a", "b"]
theorem sc_product : FnScope N_product ["one", "other"] (defScope s_product) := ⟨rfl, rfl, rfl, by decide +kernel, rfl, by decide +kernel, by decide +kernel⟩
noncomputable def b_product : MS := (seqS (ifS (fun env => notM ((fun env => do let d ← (fun env => do let ds ← (fun env => do let d ← (getV 0) env; let ds ← (fun _ => pure []) env; pure (d :: ds)) env; phi_is_point ds) env; truth d) env)) (fun _ _ => none) skipS)
    (seqS (dropS (fun env => do let ds ← (fun env => do let d ← (getV 1) env; let ds ← (fun env => do let d ← (fun env => do let ds ← (fun env => do let d ← (getV 0) env; let ds ← (fun _ => pure []) env; pure (d :: ds)) env; fLen ds) env; let ds ← (fun _ => pure []) env; pure (d :: ds)) env; pure (d :: ds)) env; phi_need_point ds))
    (retS (fun env => do let ds ← (fun env => do let d ← (lcM (fun env => do let ds ← (fun env => do let d ← (getV 0) env; let ds ← (fun env => do let d ← (getV 1) env; let ds ← (fun _ => pure []) env; pure (d :: ds)) env; pure (d :: ds)) env; zipGM ds) (gT 2 (gs1 (gN 2) (gs1 (gN 3) gs0))) (fun _ => pure true) (fun env => do let d ← (getV 2) env; let e ← (getV 3) env; opMulL d e) [2, 3]) env; let ds ← (fun _ => pure []) env; pure (d :: ds)) env; fSum ds) true)))
noncomputable def phi_product : List D → M D := defM 2 4 true b_product
theorem d_product {P : Program} {w : World} {K : PySem.W.Frag} {mg : Str → Option Value} {base : Heap} {T : List Addr} (free : ∀ x : Str, x ∈ FREE → mg x = none) (c_need_point : Cal P w K mg base T 4 "need_point" 2 true phi_need_point) (c_is_point : Cal P w K mg base T 3 "is_point" 1 true phi_is_point) {fa : Addr} {cdv : Value} {A : Around} {outer : List Env} {s : Shared} {H : Hp} {E : XK} (hcd : cdv = .ref (He.codeOf K ("product", none))) (S : Stand (cxG P w K mg base N_product "product" (defScope s_product) fa cdv A outer s H E) 4 (wG E)) :
    PSsV (cxG P w K mg base N_product "product" (defScope s_product) fa cdv A outer s H E) T (wG E) (defBody s_product) (b_product) :=
  (s_cons (s_if (b_not (b_truth (v_call c_is_point S (by decide) (by rfl) (a_cons (vn 0) a_nil)))) (s_one s_never) s_nil) (s_cons (s_expr (v_call c_need_point S (by decide) (by rfl) (a_cons (vn 1) (a_cons (v_callB (fr := true) (call_len_seq.or call_len) s_len (by rfl) (free "len" (by decide)) boot_len (a_cons (vn 0) a_nil)) a_nil)))) (s_one (s_ret (v_callB (fr := true) (call_sumX S.calm) s_sum (by rfl) (free "sum" (by decide)) boot_sum (a_cons (mkLc S sc_product.nd (i_zipG (by rfl) (free "zip" (by decide)) (a_cons (vn 0) (a_cons (vn 1) a_nil))) (blkOk_by (N := N_product) (sc := (defScope s_product)) (own := [("a", 2), ("b", 3)]) (by decide +kernel)) (by decide) (fun s0 H0 C0 cl0 fp0 S => ⟨(g_tup S.calm (g_cons (gn 2 sc_product.nd) (g_cons (gn 3 sc_product.nd) g_nil))), ts_nil, (v_bin (fr := true) op_mulL o_mulL (vn 2) (vn 3))⟩)) a_nil))))))

/-! ### room -/
abbrev N_room : List Str := ["steps"]
theorem sc_room : FnScope N_room ["steps"] (defScope s_room) := ⟨rfl, rfl, rfl, by decide +kernel, rfl, by decide +kernel, by decide +kernel⟩
noncomputable def b_room : MS := (seqS (dropS (fun env => do let ds ← (fun env => do let d ← (getV 0) env; let ds ← (fun _ => pure []) env; pure (d :: ds)) env; phi_need_steps ds))
    (retS (fun env => do let ds ← (fun env => do let d ← (fun env => do let ds ← (fun env => do let d ← (getV 0) env; let ds ← (fun _ => pure []) env; pure (d :: ds)) env; phi_determinant ds) env; let ds ← (fun _ => pure []) env; pure (d :: ds)) env; fAbs ds) true))
noncomputable def phi_room : List D → M D := defM 1 1 true b_room
theorem d_room {P : Program} {w : World} {K : PySem.W.Frag} {mg : Str → Option Value} {base : Heap} {T : List Addr} (free : ∀ x : Str, x ∈ FREE → mg x = none) (c_determinant : Cal P w K mg base T 2 "determinant" 1 true phi_determinant) (c_need_steps : Cal P w K mg base T 6 "need_steps" 1 true phi_need_steps) {fa : Addr} {cdv : Value} {A : Around} {outer : List Env} {s : Shared} {H : Hp} {E : XK} (hcd : cdv = .ref (He.codeOf K ("room", none))) (S : Stand (cxG P w K mg base N_room "room" (defScope s_room) fa cdv A outer s H E) 6 (wG E)) :
    PSsV (cxG P w K mg base N_room "room" (defScope s_room) fa cdv A outer s H E) T (wG E) (defBody s_room) (b_room) :=
  (s_cons (s_expr (v_call c_need_steps S (by decide) (by rfl) (a_cons (vn 0) a_nil))) (s_one (s_ret (v_callB (fr := true) call_abs s_abs (by rfl) (free "abs" (by decide)) boot_abs (a_cons (v_call c_determinant S (by decide) (by rfl) (a_cons (vn 0) a_nil)) a_nil)))))

/-! ### is_numbers -/
abbrev N_is_numbers : List Str := ["thing", "many", "number"]
theorem sc_is_numbers : FnScope N_is_numbers ["thing", "many"] (defScope s_is_numbers) := ⟨rfl, rfl, rfl, by decide +kernel, rfl, by decide +kernel, by decide +kernel⟩
noncomputable def b_is_numbers : MS := (seqS (ifS (fun env => orM ((fun env => notM ((fun env => do let d ← (fun env => do let ds ← (fun env => do let d ← (getV 0) env; let ds ← (fun env => do let d ← (fun _ => pure (.ty "tuple")) env; let ds ← (fun _ => pure []) env; pure (d :: ds)) env; pure (d :: ds)) env; fIsi ds) env; truth d) env)) env) ((fun env => do let d ← (fun env => do let ds ← (fun env => do let d ← (getV 0) env; let ds ← (fun _ => pure []) env; pure (d :: ds)) env; fLen ds) env; let e ← (getV 1) env; neX d e) env)) (retS (fun _ => pure (.bl false)) true) skipS)
    (retS (allM false (fun env => do let d ← (getV 0) env; walkM d) (gN 2) (fun _ => pure true) (fun env => do let ds ← (fun env => do let d ← (getV 2) env; let ds ← (fun _ => pure []) env; pure (d :: ds)) env; phi_is_whole ds) [2]) true))
noncomputable def phi_is_numbers : List D → M D := defM 2 3 true b_is_numbers
theorem d_is_numbers {P : Program} {w : World} {K : PySem.W.Frag} {mg : Str → Option Value} {base : Heap} {T : List Addr} (free : ∀ x : Str, x ∈ FREE → mg x = none) (c_is_whole : Cal P w K mg base T 1 "is_whole" 1 true phi_is_whole) (TB : LamX.TabB base mg (He.codeOf K ("is_numbers", none)) (He.cT K ("is_numbers", none)).2) (hP : (He.cT K ("is_numbers", none)).2 ∈ T) {fa : Addr} {cdv : Value} {A : Around} {outer : List Env} {s : Shared} {H : Hp} {E : XK} (hcd : cdv = .ref (He.codeOf K ("is_numbers", none))) (S : Stand (cxG P w K mg base N_is_numbers "is_numbers" (defScope s_is_numbers) fa cdv A outer s H E) 2 (wG E)) :
    PSsV (cxG P w K mg base N_is_numbers "is_numbers" (defScope s_is_numbers) fa cdv A outer s H E) T (wG E) (defBody s_is_numbers) (b_is_numbers) :=
  (s_cons (s_if (PW.pt (bw_or (b_not (b_truth (v_callB (fr := true) call_isi s_isi (by rfl) (free "isinstance" (by decide)) boot_isinstance (a_cons (vn 0) (a_cons (v_ty (by rfl) (free "tuple" (by decide)) boot_tuple) a_nil))))) (bw_or1 (b_cmp (op_neX S.room.units) o_neX (nomark _) (v_callB (fr := true) (call_len_seq.or call_len) s_len (by rfl) (free "len" (by decide)) boot_len (a_cons (vn 0) a_nil)) (vn 1))))) (s_one (s_ret v_bl)) s_nil) (s_one (s_ret (v_all S (by rfl) (free "all" (by decide)) TB hP hcd sc_is_numbers.nd (gscp_by (N := N_is_numbers) (sc := defScope s_is_numbers) (own := [("number", 2)]) (by decide +kernel) (by decide +kernel)) (by decide) (i_any (vn 0)) (fun A0 s0 H0 C0 cl0 cv0 fp0 pn0 S => ⟨(gn 2 sc_is_numbers.nd), ts_nil, (v_call c_is_whole S (by decide) (by rfl) (a_cons (vn 2) a_nil))⟩) (by intro _; rfl)))))

/-! ### made_at -/
abbrev N_made_at : List Str := ["steps", "numbers", "at", "number", "step"]
theorem sc_made_at : FnScope N_made_at ["steps", "numbers", "at"] (defScope s_made_at) := ⟨rfl, rfl, rfl, by decide +kernel, rfl, by decide +kernel, by decide +kernel⟩
noncomputable def b_made_at : MS := (retS (fun env => do let ds ← (fun env => do let d ← (lcM (fun env => do let ds ← (fun env => do let d ← (getV 1) env; let ds ← (fun env => do let d ← (getV 0) env; let ds ← (fun _ => pure []) env; pure (d :: ds)) env; pure (d :: ds)) env; zipGM ds) (gT 2 (gs1 (gN 3) (gs1 (gN 4) gs0))) (fun _ => pure true) (fun env => do let d ← (getV 3) env; let e ← (fun env => do let d ← (getV 4) env; let e ← (getV 2) env; ixM d e) env; opMulL d e) [3, 4]) env; let ds ← (fun _ => pure []) env; pure (d :: ds)) env; fSum ds) true)
noncomputable def phi_made_at : List D → M D := defM 3 5 true b_made_at
theorem d_made_at {P : Program} {w : World} {K : PySem.W.Frag} {mg : Str → Option Value} {base : Heap} {T : List Addr} (free : ∀ x : Str, x ∈ FREE → mg x = none) {fa : Addr} {cdv : Value} {A : Around} {outer : List Env} {s : Shared} {H : Hp} {E : XK} (hcd : cdv = .ref (He.codeOf K ("made_at", none))) (S : Stand (cxG P w K mg base N_made_at "made_at" (defScope s_made_at) fa cdv A outer s H E) 0 (wG E)) :
    PSsV (cxG P w K mg base N_made_at "made_at" (defScope s_made_at) fa cdv A outer s H E) T (wG E) (defBody s_made_at) (b_made_at) :=
  (s_one (s_ret (v_callB (fr := true) (call_sumX S.calm) s_sum (by rfl) (free "sum" (by decide)) boot_sum (a_cons (mkLc S sc_made_at.nd (i_zipG (by rfl) (free "zip" (by decide)) (a_cons (vn 1) (a_cons (vn 0) a_nil))) (blkOk_by (N := N_made_at) (sc := (defScope s_made_at)) (own := [("number", 3), ("step", 4)]) (by decide +kernel)) (by decide) (fun s0 H0 C0 cl0 fp0 S => ⟨(g_tup S.calm (g_cons (gn 3 sc_made_at.nd) (g_cons (gn 4 sc_made_at.nd) g_nil))), ts_nil, (v_bin (fr := true) op_mulL o_mulL (vn 3) (v_ix (vn 4) (vn 2)))⟩)) a_nil))))

/-! ### reached -/
abbrev N_reached : List Str := ["steps", "numbers", "at"]
theorem sc_reached : FnScope N_reached ["steps", "numbers"] (defScope s_reached) := ⟨rfl, rfl, rfl, by decide +kernel, rfl, by decide +kernel, by decide +kernel⟩
noncomputable def b_reached : MS := (seqS (dropS (fun env => do let ds ← (fun env => do let d ← (getV 0) env; let ds ← (fun _ => pure []) env; pure (d :: ds)) env; phi_need_steps ds))
    (seqS (ifS (fun env => notM ((fun env => do let d ← (fun env => do let ds ← (fun env => do let d ← (getV 1) env; let ds ← (fun env => do let d ← (fun env => do let ds ← (fun env => do let d ← (getV 0) env; let ds ← (fun _ => pure []) env; pure (d :: ds)) env; fLen ds) env; let ds ← (fun _ => pure []) env; pure (d :: ds)) env; pure (d :: ds)) env; phi_is_numbers ds) env; truth d) env)) (fun _ _ => none) skipS)
    (retS (fun env => do let ds ← (fun env => do let d ← (lcM (fun env => do let ds ← (fun env => do let d ← (fun env => do let ds ← (fun env => do let d ← (getV 0) env; let ds ← (fun _ => pure []) env; pure (d :: ds)) env; fLen ds) env; let ds ← (fun _ => pure []) env; pure (d :: ds)) env; rng1 ds) (gN 2) (fun _ => pure true) (fun env => do let ds ← (fun env => do let d ← (getV 0) env; let ds ← (fun env => do let d ← (getV 1) env; let ds ← (fun env => do let d ← (getV 2) env; let ds ← (fun _ => pure []) env; pure (d :: ds)) env; pure (d :: ds)) env; pure (d :: ds)) env; phi_made_at ds) [2]) env; let ds ← (fun _ => pure []) env; pure (d :: ds)) env; fTuple ds) true)))
noncomputable def phi_reached : List D → M D := defM 2 3 true b_reached
theorem d_reached {P : Program} {w : World} {K : PySem.W.Frag} {mg : Str → Option Value} {base : Heap} {T : List Addr} (free : ∀ x : Str, x ∈ FREE → mg x = none) (c_made_at : Cal P w K mg base T 1 "made_at" 3 true phi_made_at) (c_is_numbers : Cal P w K mg base T 3 "is_numbers" 2 true phi_is_numbers) (c_need_steps : Cal P w K mg base T 6 "need_steps" 1 true phi_need_steps) {fa : Addr} {cdv : Value} {A : Around} {outer : List Env} {s : Shared} {H : Hp} {E : XK} (hcd : cdv = .ref (He.codeOf K ("reached", none))) (S : Stand (cxG P w K mg base N_reached "reached" (defScope s_reached) fa cdv A outer s H E) 6 (wG E)) :
    PSsV (cxG P w K mg base N_reached "reached" (defScope s_reached) fa cdv A outer s H E) T (wG E) (defBody s_reached) (b_reached) :=
  (s_cons (s_expr (v_call c_need_steps S (by decide) (by rfl) (a_cons (vn 0) a_nil))) (s_cons (s_if (b_not (b_truth (v_call c_is_numbers S (by decide) (by rfl) (a_cons (vn 1) (a_cons (v_callB (fr := true) (call_len_seq.or call_len) s_len (by rfl) (free "len" (by decide)) boot_len (a_cons (vn 0) a_nil)) a_nil))))) (s_one s_never) s_nil) (s_one (s_ret (v_callT (fr := true) call_tuple_of s_tuple (by rfl) (free "tuple" (by decide)) boot_tuple (a_cons (mkLc S sc_reached.nd (i_range1 (by rfl) (free "range" (by decide)) (a_cons (v_callB (fr := true) (call_len_seq.or call_len) s_len (by rfl) (free "len" (by decide)) boot_len (a_cons (vn 0) a_nil)) a_nil)) (blkOk_by (N := N_reached) (sc := (defScope s_reached)) (own := [("at", 2)]) (by decide +kernel)) (by decide) (fun s0 H0 C0 cl0 fp0 S => ⟨(gn 2 sc_reached.nd), ts_nil, (v_call c_made_at S (by decide) (by rfl) (a_cons (vn 0) (a_cons (vn 1) (a_cons (vn 2) a_nil))))⟩)) a_nil))))))

/-! ### numbers_of -/
abbrev N_numbers_of : List Str := ["steps", "point", "whole", "numbers", "at", "share"]
theorem sc_numbers_of : FnScope N_numbers_of ["steps", "point"] (defScope s_numbers_of) := ⟨rfl, rfl, rfl, by decide +kernel, rfl, by decide +kernel, by decide +kernel⟩
noncomputable def b_numbers_of : MS := (seqS (dropS (fun env => do let ds ← (fun env => do let d ← (getV 0) env; let ds ← (fun _ => pure []) env; pure (d :: ds)) env; phi_need_steps ds))
    (seqS (dropS (fun env => do let ds ← (fun env => do let d ← (getV 1) env; let ds ← (fun env => do let d ← (fun env => do let ds ← (fun env => do let d ← (getV 0) env; let ds ← (fun _ => pure []) env; pure (d :: ds)) env; fLen ds) env; let ds ← (fun _ => pure []) env; pure (d :: ds)) env; pure (d :: ds)) env; phi_need_point ds))
    (seqS (setS 2 (fun env => do let ds ← (fun env => do let d ← (getV 0) env; let ds ← (fun _ => pure []) env; pure (d :: ds)) env; phi_determinant ds))
    (seqS (cellS 3 (fun env => do let ds ← (fun _ => pure []) env; pure (.lst ds)))
    (seqS (forS (fun env => do let ds ← (fun env => do let d ← (fun env => do let ds ← (fun env => do let d ← (getV 0) env; let ds ← (fun _ => pure []) env; pure (d :: ds)) env; fLen ds) env; let ds ← (fun _ => pure []) env; pure (d :: ds)) env; rng1 ds) (gN 4) (seqS (setS 5 (fun env => do let ds ← (fun env => do let d ← (fun env => do let d ← (fun env => do let d ← (fun env => do let d ← (getV 0) env; let l ← (fun _ => pure none) env; let u ← (fun env => do let d ← (getV 4) env; asI d) env; slM d l u) env; let e ← (fun env => do let ds ← (fun env => do let d ← (getV 1) env; let ds ← (fun _ => pure []) env; pure (d :: ds)) env; pure (.tup ds)) env; opAddL d e) env; let e ← (fun env => do let d ← (getV 0) env; let l ← (fun env => do let d ← (fun env => do let d ← (getV 4) env; let e ← (fun _ => pure (.int 1)) env; opAddL d e) env; asI d) env; let u ← (fun _ => pure none) env; slM d l u) env; opAddL d e) env; let ds ← (fun _ => pure []) env; pure (d :: ds)) env; phi_determinant ds))
    (seqS (ifS (fun env => do let d ← (fun env => do let d ← (getV 5) env; let e ← (getV 2) env; opMod d e) env; let e ← (fun _ => pure (.int 0)) env; neX d e) (retS (fun _ => pure .non) true) skipS)
    (dropS (appM 3 (fun env => do let d ← (getV 5) env; let e ← (getV 2) env; opDiv d e))))))
    (retS (fun env => do let ds ← (fun env => do let d ← (getV 3) env; let ds ← (fun _ => pure []) env; pure (d :: ds)) env; fTuple ds) true))))))
noncomputable def phi_numbers_of : List D → M D := defM 2 6 true b_numbers_of
theorem d_numbers_of {P : Program} {w : World} {K : PySem.W.Frag} {mg : Str → Option Value} {base : Heap} {T : List Addr} (free : ∀ x : Str, x ∈ FREE → mg x = none) (c_determinant : Cal P w K mg base T 2 "determinant" 1 true phi_determinant) (c_need_point : Cal P w K mg base T 4 "need_point" 2 true phi_need_point) (c_need_steps : Cal P w K mg base T 6 "need_steps" 1 true phi_need_steps) {fa : Addr} {cdv : Value} {A : Around} {outer : List Env} {s : Shared} {H : Hp} {E : XK} (hcd : cdv = .ref (He.codeOf K ("numbers_of", none))) (S : Stand (cxG P w K mg base N_numbers_of "numbers_of" (defScope s_numbers_of) fa cdv A outer s H E) 6 (wG E)) :
    PSsV (cxG P w K mg base N_numbers_of "numbers_of" (defScope s_numbers_of) fa cdv A outer s H E) T (wG E) (defBody s_numbers_of) (b_numbers_of) :=
  (s_cons (s_expr (v_call c_need_steps S (by decide) (by rfl) (a_cons (vn 0) a_nil))) (s_cons (s_expr (v_call c_need_point S (by decide) (by rfl) (a_cons (vn 1) (a_cons (v_callB (fr := true) (call_len_seq.or call_len) s_len (by rfl) (free "len" (by decide)) boot_len (a_cons (vn 0) a_nil)) a_nil)))) (s_cons (s_set (i := 2) sc_numbers_of.nd (by rfl) (by first | exact Or.inl rfl | exact Or.inr rfl) (v_call c_determinant S (by decide) (by rfl) (a_cons (vn 0) a_nil))) (s_cons (s_cell (i := 3) sc_numbers_of.nd (by rfl) (by first | exact Or.inl rfl | exact Or.inr rfl) (mkL a_nil ln)) (s_cons (s_for own_of S.calm (i_range1 (by rfl) (free "range" (by decide)) (a_cons (v_callB (fr := true) (call_len_seq.or call_len) s_len (by rfl) (free "len" (by decide)) boot_len (a_cons (vn 0) a_nil)) a_nil)) (gn 4 sc_numbers_of.nd) (s_cons (s_set (i := 5) sc_numbers_of.nd (by rfl) (by first | exact Or.inl rfl | exact Or.inr rfl) (v_call c_determinant S (by decide) (by rfl) (a_cons (v_bin (fr := true) op_addL o_addL (v_bin (fr := true) op_addL o_addL (v_slice (vn 0) so_none (so_some (vn 4))) (mkT (a_cons (vn 1) a_nil) (lc ln))) (v_slice (vn 0) (so_some (v_bin (fr := true) op_addL o_addL (vn 4) v_int)) so_none)) a_nil))) (s_cons (s_if (b_cmp (op_neX S.room.units) o_neX (nomark _) (v_bin (fr := true) op_modN o_mod (vn 5) (vn 2)) v_int) (s_one (s_ret v_non)) s_nil) (s_one (s_expr (v_append (i := 3) (by rfl) (by first | exact Or.inl rfl | exact Or.inr (Or.inl rfl) | exact Or.inr (Or.inr rfl)) (v_bin (fr := true) op_fdivX o_div (vn 5) (vn 2)))))))) (s_one (s_ret (v_callT (fr := true) call_tuple_of s_tuple (by rfl) (free "tuple" (by decide)) boot_tuple (a_cons (vn 3) a_nil)))))))))

/-! ### is_same -/
abbrev N_is_same : List Str := ["steps", "other", "step"]
theorem sc_is_same : FnScope N_is_same ["steps", "other"] (defScope s_is_same) := ⟨rfl, rfl, rfl, by decide +kernel, rfl, by decide +kernel, by decide +kernel⟩
noncomputable def b_is_same : MS := (seqS (dropS (fun env => do let ds ← (fun env => do let d ← (getV 0) env; let ds ← (fun _ => pure []) env; pure (d :: ds)) env; phi_need_steps ds))
    (seqS (dropS (fun env => do let ds ← (fun env => do let d ← (getV 1) env; let ds ← (fun _ => pure []) env; pure (d :: ds)) env; phi_need_steps ds))
    (seqS (ifS (fun env => orM ((fun env => do let d ← (fun env => do let ds ← (fun env => do let d ← (getV 0) env; let ds ← (fun _ => pure []) env; pure (d :: ds)) env; fLen ds) env; let e ← (fun env => do let ds ← (fun env => do let d ← (getV 1) env; let ds ← (fun _ => pure []) env; pure (d :: ds)) env; fLen ds) env; neX d e) env) ((fun env => do let d ← (fun env => do let ds ← (fun env => do let d ← (getV 0) env; let ds ← (fun _ => pure []) env; pure (d :: ds)) env; phi_room ds) env; let e ← (fun env => do let ds ← (fun env => do let d ← (getV 1) env; let ds ← (fun _ => pure []) env; pure (d :: ds)) env; phi_room ds) env; neX d e) env)) (retS (fun _ => pure (.bl false)) true) skipS)
    (retS (allM false (fun env => do let d ← (getV 0) env; walkM d) (gN 2) (fun _ => pure true) (fun env => do let d ← (fun env => do let ds ← (fun env => do let d ← (getV 1) env; let ds ← (fun env => do let d ← (getV 2) env; let ds ← (fun _ => pure []) env; pure (d :: ds)) env; pure (d :: ds)) env; phi_numbers_of ds) env; let e ← (fun _ => pure .non) env; vB (isNotM d e)) [2]) true))))
noncomputable def phi_is_same : List D → M D := defM 2 3 true b_is_same
theorem d_is_same {P : Program} {w : World} {K : PySem.W.Frag} {mg : Str → Option Value} {base : Heap} {T : List Addr} (free : ∀ x : Str, x ∈ FREE → mg x = none) (c_numbers_of : Cal P w K mg base T 7 "numbers_of" 2 true phi_numbers_of) (c_room : Cal P w K mg base T 7 "room" 1 true phi_room) (c_need_steps : Cal P w K mg base T 6 "need_steps" 1 true phi_need_steps) (TB : LamX.TabB base mg (He.codeOf K ("is_same", none)) (He.cT K ("is_same", none)).2) (hP : (He.cT K ("is_same", none)).2 ∈ T) {fa : Addr} {cdv : Value} {A : Around} {outer : List Env} {s : Shared} {H : Hp} {E : XK} (hcd : cdv = .ref (He.codeOf K ("is_same", none))) (S : Stand (cxG P w K mg base N_is_same "is_same" (defScope s_is_same) fa cdv A outer s H E) 8 (wG E)) :
    PSsV (cxG P w K mg base N_is_same "is_same" (defScope s_is_same) fa cdv A outer s H E) T (wG E) (defBody s_is_same) (b_is_same) :=
  (s_cons (s_expr (v_call c_need_steps S (by decide) (by rfl) (a_cons (vn 0) a_nil))) (s_cons (s_expr (v_call c_need_steps S (by decide) (by rfl) (a_cons (vn 1) a_nil))) (s_cons (s_if (PW.pt (bw_or (b_cmp (op_neX S.room.units) o_neX (nomark _) (v_callB (fr := true) (call_len_seq.or call_len) s_len (by rfl) (free "len" (by decide)) boot_len (a_cons (vn 0) a_nil)) (v_callB (fr := true) (call_len_seq.or call_len) s_len (by rfl) (free "len" (by decide)) boot_len (a_cons (vn 1) a_nil))) (bw_or1 (b_cmp (op_neX S.room.units) o_neX (nomark _) (v_call c_room S (by decide) (by rfl) (a_cons (vn 0) a_nil)) (v_call c_room S (by decide) (by rfl) (a_cons (vn 1) a_nil)))))) (s_one (s_ret v_bl)) s_nil) (s_one (s_ret (v_all S (by rfl) (free "all" (by decide)) TB hP hcd sc_is_same.nd (gscp_by (N := N_is_same) (sc := defScope s_is_same) (own := [("step", 2)]) (by decide +kernel) (by decide +kernel)) (by decide) (i_any (vn 0)) (fun A0 s0 H0 C0 cl0 cv0 fp0 pn0 S => ⟨(gn 2 sc_is_same.nd), ts_nil, (v_cmp (fr := true) op_notN o_notN (nomark _) (v_call c_numbers_of S (by decide) (by rfl) (a_cons (vn 1) (a_cons (vn 2) a_nil))) v_non)⟩) (by intro _; rfl)))))))

/-! ### show_number -/
abbrev N_show_number : List Str := ["number", "rest", "blocks", "low"]
theorem sc_show_number : FnScope N_show_number ["number"] (defScope s_show_number) := ⟨rfl, rfl, rfl, by decide +kernel, rfl, by decide +kernel, by decide +kernel⟩
noncomputable def b_show_number : MS := (seqS (setS 1 (fun env => do let ds ← (fun env => do let d ← (getV 0) env; let ds ← (fun _ => pure []) env; pure (d :: ds)) env; fAbs ds))
    (seqS (cellS 2 (fun env => do let ds ← (fun _ => pure []) env; pure (.lst ds)))
    (seqS (whS (fun env => do let d ← (getV 1) env; let e ← (fun _ => pure (.int 1000000000000000000000000000000000000000000000000000000000000)) env; (cInt fun i j => decide (j ≤ i)) d e) (seqS (asgS (fun env => do let ds ← (fun env => do let d ← (getV 1) env; let ds ← (fun env => do let d ← (fun _ => pure (.int 1000000000000000000000000000000000000000000000000000000000000)) env; let ds ← (fun _ => pure []) env; pure (d :: ds)) env; pure (d :: ds)) env; fDivmod ds) (gT 2 (gs1 (gN 1) (gs1 (gN 3) gs0))))
    (dropS (appM 2 (fun _ => stuck)))))
    (seqS (dropS (appM 2 (fun env => do let ds ← (fun env => do let d ← (getV 1) env; let ds ← (fun _ => pure []) env; pure (d :: ds)) env; fStr ds)))
    (seqS (ifS (fun env => do let d ← (getV 0) env; let e ← (fun _ => pure (.int 0)) env; ltX d e) (dropS (appM 2 (fun _ => pure (.str "-")))) skipS)
    (retS (fun env => do let x ← (fun _ => pure (.str "")) env; onStr x fun a => do let y ← (fun env => do let d ← (getV 2) env; revX d) env; joinG a y) true))))))
noncomputable def phi_show_number : List D → M D := defM 1 4 true b_show_number
theorem d_show_number {P : Program} {w : World} {K : PySem.W.Frag} {mg : Str → Option Value} {base : Heap} {T : List Addr} (free : ∀ x : Str, x ∈ FREE → mg x = none) (k_BLOCK : ∃ t, mg "BLOCK" = some (.int 1000000000000000000000000000000000000000000000000000000000000 t)) {fa : Addr} {cdv : Value} {A : Around} {outer : List Env} {s : Shared} {H : Hp} {E : XK} (hcd : cdv = .ref (He.codeOf K ("show_number", none))) (S : Stand (cxG P w K mg base N_show_number "show_number" (defScope s_show_number) fa cdv A outer s H E) 0 (wG E)) :
    PSsV (cxG P w K mg base N_show_number "show_number" (defScope s_show_number) fa cdv A outer s H E) T (wG E) (defBody s_show_number) (b_show_number) :=
  (s_cons (s_set (i := 1) sc_show_number.nd (by rfl) (by first | exact Or.inl rfl | exact Or.inr rfl) (v_callB (fr := true) call_abs s_abs (by rfl) (free "abs" (by decide)) boot_abs (a_cons (vn 0) a_nil))) (s_cons (s_cell (i := 2) sc_show_number.nd (by rfl) (by first | exact Or.inl rfl | exact Or.inr rfl) (mkL a_nil ln)) (s_cons (s_while own_of (b_cmp op_ge (c_int (p := fun i j => decide (j ≤ i))) (nomark _) (vn 1) (k_BLOCK.elim fun _ hk => v_globi (by rfl) hk)) (s_cons (s_asg (v_callB (fr := true) call_divmodX s_divmod (by rfl) (free "divmod" (by decide)) boot_divmod (a_cons (vn 1) (a_cons (k_BLOCK.elim fun _ hk => v_globi (by rfl) hk) a_nil))) (g_tup S.calm (g_cons (gn 1 sc_show_number.nd) (g_cons (gn 3 sc_show_number.nd) g_nil)))) (s_one (s_expr (v_append (i := 2) (by rfl) (by first | exact Or.inl rfl | exact Or.inr (Or.inl rfl) | exact Or.inr (Or.inr rfl)) (v_never (fr := true))))))) (s_cons (s_expr (v_append (i := 2) (by rfl) (by first | exact Or.inl rfl | exact Or.inr (Or.inl rfl) | exact Or.inr (Or.inr rfl)) (v_callT (fr := true) (call_strX S.gu S.room.units) s_str (by rfl) (free "str" (by decide)) boot_str (a_cons (vn 1) a_nil)))) (s_cons (s_if (b_cmp (op_ltX S.room.units) o_ltX (nomark _) (vn 0) v_int) (s_one (s_expr (v_append (i := 2) (by rfl) (by first | exact Or.inl rfl | exact Or.inr (Or.inl rfl) | exact Or.inr (Or.inr rfl)) v_str))) s_nil) (s_one (s_ret (v_join v_str (v_revX (vn 2))))))))))

/-! ### show_point -/
abbrev N_show_point : List Str := ["point", "number"]
theorem sc_show_point : FnScope N_show_point ["point"] (defScope s_show_point) := ⟨rfl, rfl, rfl, by decide +kernel, rfl, by decide +kernel, by decide +kernel⟩
noncomputable def b_show_point : MS := (retS (fun env => do let x ← (fun _ => pure (.str ",")) env; onStr x fun a => do let y ← (lcM (fun env => do let d ← (getV 0) env; walkM d) (gN 1) (fun _ => pure true) (fun env => do let ds ← (fun env => do let d ← (getV 1) env; let ds ← (fun _ => pure []) env; pure (d :: ds)) env; phi_show_number ds) [1]) env; joinG a y) true)
noncomputable def phi_show_point : List D → M D := defM 1 2 true b_show_point
theorem d_show_point {P : Program} {w : World} {K : PySem.W.Frag} {mg : Str → Option Value} {base : Heap} {T : List Addr} (free : ∀ x : Str, x ∈ FREE → mg x = none) (c_show_number : Cal P w K mg base T 1 "show_number" 1 true phi_show_number) {fa : Addr} {cdv : Value} {A : Around} {outer : List Env} {s : Shared} {H : Hp} {E : XK} (hcd : cdv = .ref (He.codeOf K ("show_point", none))) (S : Stand (cxG P w K mg base N_show_point "show_point" (defScope s_show_point) fa cdv A outer s H E) 1 (wG E)) :
    PSsV (cxG P w K mg base N_show_point "show_point" (defScope s_show_point) fa cdv A outer s H E) T (wG E) (defBody s_show_point) (b_show_point) :=
  (s_one (s_ret (v_join v_str (mkLc S sc_show_point.nd (i_any (vn 0)) (blkOk_by (N := N_show_point) (sc := (defScope s_show_point)) (own := [("number", 1)]) (by decide +kernel)) (by decide) (fun s0 H0 C0 cl0 fp0 S => ⟨(gn 1 sc_show_point.nd), ts_nil, (v_call c_show_number S (by decide) (by rfl) (a_cons (vn 1) a_nil))⟩)))))

/-! ### show -/
abbrev N_show : List Str := ["steps", "point"]
theorem sc_show : FnScope N_show ["steps"] (defScope s_show) := ⟨rfl, rfl, rfl, by decide +kernel, rfl, by decide +kernel, by decide +kernel⟩
noncomputable def b_show : MS := (seqS (dropS (fun env => do let ds ← (fun env => do let d ← (getV 0) env; let ds ← (fun _ => pure []) env; pure (d :: ds)) env; phi_need_steps ds))
    (retS (fun env => do let x ← (fun _ => pure (.str " ")) env; onStr x fun a => do let y ← (lcM (fun env => do let d ← (getV 0) env; walkM d) (gN 1) (fun _ => pure true) (fun env => do let ds ← (fun env => do let d ← (getV 1) env; let ds ← (fun _ => pure []) env; pure (d :: ds)) env; phi_show_point ds) [1]) env; joinG a y) true))
noncomputable def phi_show : List D → M D := defM 1 2 true b_show
theorem d_show {P : Program} {w : World} {K : PySem.W.Frag} {mg : Str → Option Value} {base : Heap} {T : List Addr} (free : ∀ x : Str, x ∈ FREE → mg x = none) (c_show_point : Cal P w K mg base T 2 "show_point" 1 true phi_show_point) (c_need_steps : Cal P w K mg base T 6 "need_steps" 1 true phi_need_steps) {fa : Addr} {cdv : Value} {A : Around} {outer : List Env} {s : Shared} {H : Hp} {E : XK} (hcd : cdv = .ref (He.codeOf K ("show", none))) (S : Stand (cxG P w K mg base N_show "show" (defScope s_show) fa cdv A outer s H E) 6 (wG E)) :
    PSsV (cxG P w K mg base N_show "show" (defScope s_show) fa cdv A outer s H E) T (wG E) (defBody s_show) (b_show) :=
  (s_cons (s_expr (v_call c_need_steps S (by decide) (by rfl) (a_cons (vn 0) a_nil))) (s_one (s_ret (v_join v_str (mkLc S sc_show.nd (i_any (vn 0)) (blkOk_by (N := N_show) (sc := (defScope s_show)) (own := [("point", 1)]) (by decide +kernel)) (by decide) (fun s0 H0 C0 cl0 fp0 S => ⟨(gn 1 sc_show.nd), ts_nil, (v_call c_show_point S (by decide) (by rfl) (a_cons (vn 1) a_nil))⟩))))))

/-! ### is_number_text -/
abbrev N_is_number_text : List Str := ["part", "figures", "sign"]
theorem sc_is_number_text : FnScope N_is_number_text ["part"] (defScope s_is_number_text) := ⟨rfl, rfl, rfl, by decide +kernel, rfl, by decide +kernel, by decide +kernel⟩
noncomputable def b_is_number_text : MS := (seqS (setS 1 (fun env => do let k ← (fun env => do let d ← (fun env => do let x ← (getV 0) env; onStr x fun a => do let y ← (fun _ => pure (.str "-")) env; startsG a y) env; truth d) env; if k = true then (fun env => do let d ← (getV 0) env; let l ← (fun env => do let d ← (fun _ => pure (.int 1)) env; asI d) env; let u ← (fun _ => pure none) env; slM d l u) env else (getV 0) env))
    (seqS (ifS (fun env => orM ((fun env => do let d ← (getV 1) env; let e ← (fun _ => pure (.str "")) env; eqX d e) env) ((fun env => notM ((fun env => do let d ← (allM false (fun env => do let d ← (getV 1) env; walkM d) (gN 2) (fun _ => pure true) (fun env => do let d ← (getV 2) env; let e ← (fun _ => pure (.str "0123456789")) env; vB (inS d e)) [2]) env; truth d) env)) env)) (retS (fun _ => pure (.bl false)) true) skipS)
    (retS (fun env => orV ((fun env => do let d ← (fun env => do let d ← (getV 1) env; let e ← (fun _ => pure (.int 0)) env; ixM d e) env; let e ← (fun _ => pure (.str "0")) env; vB (neX d e)) env) ((fun env => do let d ← (getV 0) env; let e ← (fun _ => pure (.str "0")) env; vB (eqX d e)) env)) true)))
noncomputable def phi_is_number_text : List D → M D := defM 1 3 true b_is_number_text
theorem d_is_number_text {P : Program} {w : World} {K : PySem.W.Frag} {mg : Str → Option Value} {base : Heap} {T : List Addr} (free : ∀ x : Str, x ∈ FREE → mg x = none) (k_FIGURES : ∃ t, mg "FIGURES" = some (.str "0123456789" t)) (TB : LamX.TabB base mg (He.codeOf K ("is_number_text", none)) (He.cT K ("is_number_text", none)).2) (hP : (He.cT K ("is_number_text", none)).2 ∈ T) {fa : Addr} {cdv : Value} {A : Around} {outer : List Env} {s : Shared} {H : Hp} {E : XK} (hcd : cdv = .ref (He.codeOf K ("is_number_text", none))) (S : Stand (cxG P w K mg base N_is_number_text "is_number_text" (defScope s_is_number_text) fa cdv A outer s H E) 1 (wG E)) :
    PSsV (cxG P w K mg base N_is_number_text "is_number_text" (defScope s_is_number_text) fa cdv A outer s H E) T (wG E) (defBody s_is_number_text) (b_is_number_text) :=
  (s_cons (s_set (i := 1) sc_is_number_text.nd (by rfl) (by first | exact Or.inl rfl | exact Or.inr rfl) (v_if (b_truth (v_starts (vn 0) v_str)) (PV.drop (v_slice (vn 0) (so_some v_int) so_none)) (vn 0))) (s_cons (s_if (PW.pt (bw_or (b_cmp (op_eqX S.room.units) o_eqX (nomark _) (vn 1) v_str) (bw_or1 (b_not (b_truth (v_all S (by rfl) (free "all" (by decide)) TB hP hcd sc_is_number_text.nd (gscp_by (N := N_is_number_text) (sc := defScope s_is_number_text) (own := [("sign", 2)]) (by decide +kernel) (by decide +kernel)) (by decide) (i_any (vn 1)) (fun A0 s0 H0 C0 cl0 cv0 fp0 pn0 S => ⟨(gn 2 sc_is_number_text.nd), ts_nil, (v_cmp (fr := true) op_inS o_inS (by with_unfolding_all rfl) (vn 2) (k_FIGURES.elim fun _ hk => v_globs (by rfl) hk))⟩) (by intro _; rfl))))))) (s_one (s_ret v_bl)) s_nil) (s_one (s_ret (v_or (v_cmp (fr := true) (op_neX S.room.units) o_neX (nomark _) (v_ix (vn 1) v_int) v_str) (v_one (v_cmp (fr := true) (op_eqX S.room.units) o_eqX (nomark _) (vn 0) v_str)))))))

/-! ### number_of -/
abbrev N_number_of : List Str := ["part", "figures", "number", "start", "end"]
theorem sc_number_of : FnScope N_number_of ["part"] (defScope s_number_of) := ⟨rfl, rfl, rfl, by decide +kernel, rfl, by decide +kernel, by decide +kernel⟩
noncomputable def b_number_of : MS := (seqS (setS 1 (fun env => do let k ← (fun env => do let d ← (fun env => do let x ← (getV 0) env; onStr x fun a => do let y ← (fun _ => pure (.str "-")) env; startsG a y) env; truth d) env; if k = true then (fun env => do let d ← (getV 0) env; let l ← (fun env => do let d ← (fun _ => pure (.int 1)) env; asI d) env; let u ← (fun _ => pure none) env; slM d l u) env else (getV 0) env))
    (seqS (setS 2 (fun _ => pure (.int 0)))
    (seqS (setS 3 (fun _ => pure (.int 0)))
    (seqS (setS 4 (fun env => do let d ← (fun env => do let ds ← (fun env => do let d ← (getV 1) env; let ds ← (fun _ => pure []) env; pure (d :: ds)) env; fLen ds) env; let e ← (fun _ => pure (.int 60)) env; opMod d e))
    (seqS (whS (fun env => do let d ← (getV 4) env; let e ← (fun env => do let ds ← (fun env => do let d ← (getV 1) env; let ds ← (fun _ => pure []) env; pure (d :: ds)) env; fLen ds) env; (cInt fun i j => decide (i ≤ j)) d e) (seqS (setS 2 (fun env => do let d ← (fun env => do let d ← (getV 2) env; let e ← (fun _ => pure (.int 1000000000000000000000000000000000000000000000000000000000000)) env; opMulL d e) env; let e ← (fun env => do let ds ← (fun env => do let d ← (fun env => do let d ← (fun _ => pure (.str "0")) env; let e ← (fun env => do let d ← (getV 1) env; let l ← (fun env => do let d ← (getV 3) env; asI d) env; let u ← (fun env => do let d ← (getV 4) env; asI d) env; slM d l u) env; opAddL d e) env; let ds ← (fun _ => pure []) env; pure (d :: ds)) env; fIntX ds) env; opAddL d e))
    (seqS (setS 3 (getV 4))
    (setS 4 (fun env => do let d ← (getV 4) env; let e ← (fun _ => pure (.int 60)) env; opAddL d e)))))
    (retS (fun env => do let k ← (fun env => do let d ← (fun env => do let x ← (getV 0) env; onStr x fun a => do let y ← (fun _ => pure (.str "-")) env; startsG a y) env; truth d) env; if k = true then (fun env => do let d ← (getV 2) env; opNeg d) env else (getV 2) env) false))))))
noncomputable def phi_number_of : List D → M D := defM 1 5 false b_number_of
theorem d_number_of {P : Program} {w : World} {K : PySem.W.Frag} {mg : Str → Option Value} {base : Heap} {T : List Addr} (free : ∀ x : Str, x ∈ FREE → mg x = none) (k_BLOCK_FIGURES : ∃ t, mg "BLOCK_FIGURES" = some (.int 60 t)) (k_BLOCK : ∃ t, mg "BLOCK" = some (.int 1000000000000000000000000000000000000000000000000000000000000 t)) {fa : Addr} {cdv : Value} {A : Around} {outer : List Env} {s : Shared} {H : Hp} {E : XK} (hcd : cdv = .ref (He.codeOf K ("number_of", none))) (S : Stand (cxG P w K mg base N_number_of "number_of" (defScope s_number_of) fa cdv A outer s H E) 0 (wG E)) :
    PSsV (cxG P w K mg base N_number_of "number_of" (defScope s_number_of) fa cdv A outer s H E) T (wG E) (defBody s_number_of) (b_number_of) :=
  (s_cons (s_set (i := 1) sc_number_of.nd (by rfl) (by first | exact Or.inl rfl | exact Or.inr rfl) (v_if (b_truth (v_starts (vn 0) v_str)) (PV.drop (v_slice (vn 0) (so_some v_int) so_none)) (vn 0))) (s_cons (s_set (i := 2) sc_number_of.nd (by rfl) (by first | exact Or.inl rfl | exact Or.inr rfl) v_int) (s_cons (s_set (i := 3) sc_number_of.nd (by rfl) (by first | exact Or.inl rfl | exact Or.inr rfl) v_int) (s_cons (s_set (i := 4) sc_number_of.nd (by rfl) (by first | exact Or.inl rfl | exact Or.inr rfl) (v_bin (fr := true) op_modN o_mod (v_callB (fr := true) (call_len_seq.or call_len) s_len (by rfl) (free "len" (by decide)) boot_len (a_cons (vn 1) a_nil)) (k_BLOCK_FIGURES.elim fun _ hk => v_globi (by rfl) hk))) (s_cons (s_while own_of (b_cmp op_le (c_int (p := fun i j => decide (i ≤ j))) (nomark _) (vn 4) (v_callB (fr := true) (call_len_seq.or call_len) s_len (by rfl) (free "len" (by decide)) boot_len (a_cons (vn 1) a_nil))) (s_cons (s_set (i := 2) sc_number_of.nd (by rfl) (by first | exact Or.inl rfl | exact Or.inr rfl) (v_bin (fr := true) op_addL o_addL (v_bin (fr := true) op_mulL o_mulL (vn 2) (k_BLOCK.elim fun _ hk => v_globi (by rfl) hk)) (v_callT (fr := true) call_intX s_intX (by rfl) (free "int" (by decide)) boot_int (a_cons (v_bin (fr := true) op_addL o_addL v_str (v_slice (vn 1) (so_some (vn 3)) (so_some (vn 4)))) a_nil)))) (s_cons (s_set (i := 3) sc_number_of.nd (by rfl) (by first | exact Or.inl rfl | exact Or.inr rfl) (vn 4)) (s_one (s_set (i := 4) sc_number_of.nd (by rfl) (by first | exact Or.inl rfl | exact Or.inr rfl) (v_bin (fr := true) op_addL o_addL (vn 4) (k_BLOCK_FIGURES.elim fun _ hk => v_globi (by rfl) hk))))))) (s_one (s_ret (v_if (b_truth (v_starts (vn 0) v_str)) (PV.drop (v_un (fr := true) un_neg o_neg (vn 2))) (vn 2)))))))))

/-! ### read -/
abbrev N_read : List Str := ["text", "words", "steps", "word", "part"]
theorem sc_read : FnScope N_read ["text"] (defScope s_read) := ⟨rfl, rfl, rfl, by decide +kernel, rfl, by decide +kernel, by decide +kernel⟩
noncomputable def b_read : MS := (seqS (ifS (fun env => notM ((fun env => do let d ← (fun env => do let ds ← (fun env => do let d ← (getV 0) env; let ds ← (fun env => do let d ← (fun _ => pure (.ty "str")) env; let ds ← (fun _ => pure []) env; pure (d :: ds)) env; pure (d :: ds)) env; fIsi ds) env; truth d) env)) (fun _ _ => none) skipS)
    (seqS (setS 1 (lcM (fun env => do let d ← (fun env => do let x ← (getV 0) env; onStr x fun a => do let y ← (fun _ => pure (.str " ")) env; splitG a y) env; walkM d) (gN 3) (fun _ => pure true) (fun env => do let x ← (getV 3) env; onStr x fun a => do let y ← (fun _ => pure (.str ",")) env; splitG a y) [3]))
    (seqS (ifS (fun env => notM ((fun env => do let d ← (all2M false (fun env => do let d ← (getV 1) env; walkM d) (gN 3) (fun _ => pure true) (fun env => do let d ← (getV 3) env; walkM d) (gN 4) (fun _ => pure true) (fun env => do let ds ← (fun env => do let d ← (getV 4) env; let ds ← (fun _ => pure []) env; pure (d :: ds)) env; phi_is_number_text ds) [3, 4] [4]) env; truth d) env)) (fun _ _ => none) skipS)
    (seqS (setS 2 (fun env => do let ds ← (fun env => do let d ← (lcM (fun env => do let d ← (getV 1) env; walkM d) (gN 3) (fun _ => pure true) (fun env => do let ds ← (fun env => do let d ← (lcM (fun env => do let d ← (getV 3) env; walkM d) (gN 4) (fun _ => pure true) (fun env => do let ds ← (fun env => do let d ← (getV 4) env; let ds ← (fun _ => pure []) env; pure (d :: ds)) env; phi_number_of ds) [4]) env; let ds ← (fun _ => pure []) env; pure (d :: ds)) env; fTuple ds) [3]) env; let ds ← (fun _ => pure []) env; pure (d :: ds)) env; fTuple ds))
    (seqS (ifS (fun env => notM ((fun env => do let d ← (fun env => do let ds ← (fun env => do let d ← (getV 2) env; let ds ← (fun _ => pure []) env; pure (d :: ds)) env; phi_is_steps ds) env; truth d) env)) (fun _ _ => none) skipS)
    (retS (getV 2) false))))))
noncomputable def phi_read : List D → M D := defM 1 5 false b_read
theorem d_read {P : Program} {w : World} {K : PySem.W.Frag} {mg : Str → Option Value} {base : Heap} {T : List Addr} (free : ∀ x : Str, x ∈ FREE → mg x = none) (c_is_steps : Cal P w K mg base T 5 "is_steps" 1 true phi_is_steps) (c_number_of : Cal P w K mg base T 1 "number_of" 1 false phi_number_of) (c_is_number_text : Cal P w K mg base T 2 "is_number_text" 1 true phi_is_number_text) (TB : LamX.TabB base mg (He.codeOf K ("read", none)) (He.cT K ("read", none)).2) (hP : (He.cT K ("read", none)).2 ∈ T) {fa : Addr} {cdv : Value} {A : Around} {outer : List Env} {s : Shared} {H : Hp} {E : XK} (hcd : cdv = .ref (He.codeOf K ("read", none))) (S : Stand (cxG P w K mg base N_read "read" (defScope s_read) fa cdv A outer s H E) 6 (wG E)) :
    PSsV (cxG P w K mg base N_read "read" (defScope s_read) fa cdv A outer s H E) T (wG E) (defBody s_read) (b_read) :=
  (s_cons (s_if (b_not (b_truth (v_callB (fr := true) call_isi s_isi (by rfl) (free "isinstance" (by decide)) boot_isinstance (a_cons (vn 0) (a_cons (v_ty (by rfl) (free "str" (by decide)) boot_str) a_nil))))) (s_one s_never) s_nil) (s_cons (setLc 1 S sc_read.nd (by rfl) (by rfl) (by exact sw_true rfl rfl rfl (by decide +kernel)) (i_any (v_split (vn 0) v_str)) (blkOk_by (N := N_read) (sc := (defScope s_read)) (own := [("word", 3)]) (by decide +kernel)) (by decide) (fun s0 H0 C0 cl0 fp0 S => ⟨(gn 3 sc_read.nd), ts_nil, (v_split (vn 3) v_str)⟩)) (s_cons (s_if (b_not (b_truth (v_all2 (vs1 := [4]) S (by rfl) (free "all" (by decide)) TB hP hcd sc_read.nd (gscp_by (N := N_read) (sc := defScope s_read) (own := [("word", 3), ("part", 4)]) (by decide +kernel) (by decide +kernel)) (by decide) (by decide) (by decide) (i_any (vn 1)) (fun A0 s0 H0 C0 cl0 cv0 fp0 pn0 S => ⟨(gn 3 sc_read.nd), ts_nil, (i_any (vn 3)), (gn 4 sc_read.nd), ts_nil, (v_call c_is_number_text S (by decide) (by rfl) (a_cons (vn 4) a_nil))⟩) (by intro _; rfl) (by intro _ _ _ _; rfl)))) (s_one s_never) s_nil) (s_cons (s_set (i := 2) sc_read.nd (by rfl) (by first | exact Or.inl rfl | exact Or.inr rfl) (v_callT (fr := true) call_tuple_of s_tuple (by rfl) (free "tuple" (by decide)) boot_tuple (a_cons (mkLc S sc_read.nd (i_any (vn 1)) (blkOk_by (N := N_read) (sc := (defScope s_read)) (own := [("word", 3)]) (by decide +kernel)) (by decide) (fun s0 H0 C0 cl0 fp0 S => ⟨(gn 3 sc_read.nd), ts_nil, (v_callT (fr := true) call_tuple_of s_tuple (by rfl) (free "tuple" (by decide)) boot_tuple (a_cons (mkLc S sc_read.nd (i_any (vn 3)) (blkOk_by (N := N_read) (sc := (relS _ (defScope s_read))) (own := [("part", 4)]) (by decide +kernel)) (by decide) (fun s0 H0 C0 cl0 fp0 S => ⟨(gn 4 sc_read.nd), ts_nil, (v_call c_number_of S (by decide) (by rfl) (a_cons (vn 4) a_nil))⟩)) a_nil))⟩)) a_nil))) (s_cons (s_if (b_not (b_truth (v_call c_is_steps S (by decide) (by rfl) (a_cons (vn 2) a_nil)))) (s_one s_never) s_nil) (s_one (s_ret (vn 2))))))))

/-! ### _law_cell -/
abbrev N__law_cell : List Str := ["_law_script", "_law_k"]
theorem sc__law_cell : FnScope N__law_cell ["_law_script", "_law_k"] (defScope s__law_cell) := ⟨rfl, rfl, rfl, by decide +kernel, rfl, by decide +kernel, by decide +kernel⟩
noncomputable def b__law_cell : MS := (seqS (ifS (fun env => do let d ← (getV 1) env; let e ← (fun env => do let ds ← (fun env => do let d ← (getV 0) env; let ds ← (fun _ => pure []) env; pure (d :: ds)) env; fLen ds) env; ltX d e) (retS (fun env => do let d ← (getV 0) env; let e ← (getV 1) env; ixM d e) false) skipS)
    (retS (fun _ => pure (.int 0)) true))
noncomputable def phi__law_cell : List D → M D := defM 2 2 false b__law_cell
theorem d__law_cell {P : Program} {w : World} {K : PySem.W.Frag} {mg : Str → Option Value} {base : Heap} {T : List Addr} (free : ∀ x : Str, x ∈ FREE → mg x = none) {fa : Addr} {cdv : Value} {A : Around} {outer : List Env} {s : Shared} {H : Hp} {E : XK} (hcd : cdv = .ref (He.codeOf K ("_law_cell", none))) (S : Stand (cxG P w K mg base N__law_cell "_law_cell" (defScope s__law_cell) fa cdv A outer s H E) 0 (wG E)) :
    PSsV (cxG P w K mg base N__law_cell "_law_cell" (defScope s__law_cell) fa cdv A outer s H E) T (wG E) (defBody s__law_cell) (b__law_cell) :=
  (s_cons (s_if (b_cmp (op_ltX S.room.units) o_ltX (nomark _) (vn 1) (v_callB (fr := true) (call_len_seq.or call_len) s_len (by rfl) (free "len" (by decide)) boot_len (a_cons (vn 0) a_nil))) (s_one (s_ret (v_ix (vn 0) (vn 1)))) s_nil) (s_one (s_ret v_int)))

/-! ### _law_mix -/
abbrev N__law_mix : List Str := ["_law_cell_here", "_law_k", "_law_some", "_law_stir"]
theorem sc__law_mix : FnScope N__law_mix ["_law_cell_here", "_law_k"] (defScope s__law_mix) := ⟨rfl, rfl, rfl, by decide +kernel, rfl, by decide +kernel, by decide +kernel⟩
noncomputable def b__law_mix : MS := (seqS (setS 2 (fun env => do let ds ← (fun env => do let d ← (fun _ => pure (.int 48271)) env; let ds ← (fun env => do let d ← (fun _ => pure (.int 69621)) env; let ds ← (fun env => do let d ← (fun _ => pure (.int 16807)) env; let ds ← (fun env => do let d ← (fun _ => pure (.int 39373)) env; let ds ← (fun env => do let d ← (fun _ => pure (.int 30269)) env; let ds ← (fun env => do let d ← (fun _ => pure (.int 40014)) env; let ds ← (fun env => do let d ← (fun _ => pure (.int 40692)) env; let ds ← (fun env => do let d ← (fun _ => pure (.int 50021)) env; let ds ← (fun env => do let d ← (fun _ => pure (.int 61687)) env; let ds ← (fun env => do let d ← (fun _ => pure (.int 71993)) env; let ds ← (fun env => do let d ← (fun _ => pure (.int 83869)) env; let ds ← (fun env => do let d ← (fun _ => pure (.int 95561)) env; let ds ← (fun env => do let d ← (fun _ => pure (.int 30307)) env; let ds ← (fun _ => pure []) env; pure (d :: ds)) env; pure (d :: ds)) env; pure (d :: ds)) env; pure (d :: ds)) env; pure (d :: ds)) env; pure (d :: ds)) env; pure (d :: ds)) env; pure (d :: ds)) env; pure (d :: ds)) env; pure (d :: ds)) env; pure (d :: ds)) env; pure (d :: ds)) env; pure (d :: ds)) env; pure (.lst ds)))
    (seqS (setS 3 (fun env => do let d ← (fun env => do let d ← (fun env => do let d ← (getV 0) env; let e ← (fun _ => pure (.int 2147483647)) env; opMod d e) env; let e ← (fun _ => pure (.int 12345)) env; opAddL d e) env; let e ← (fun env => do let d ← (getV 2) env; let e ← (fun env => do let d ← (getV 1) env; let e ← (fun _ => pure (.int 13)) env; opMod d e) env; ixM d e) env; opMulL d e))
    (seqS (setS 3 (fun env => do let d ← (fun env => do let d ← (getV 3) env; let e ← (fun env => do let d ← (fun _ => pure (.int 977)) env; let e ← (getV 1) env; opMulL d e) env; opAddL d e) env; let e ← (fun env => do let d ← (fun _ => pure (.int 7919)) env; let e ← (fun env => do let d ← (getV 1) env; let e ← (fun _ => pure (.int 13)) env; opDiv d e) env; opMulL d e) env; opAddL d e))
    (seqS (setS 3 (fun env => do let d ← (getV 3) env; let e ← (fun _ => pure (.int 1000000007)) env; opMod d e))
    (retS (fun env => do let d ← (fun env => do let d ← (fun env => do let d ← (fun env => do let d ← (getV 3) env; let e ← (getV 3) env; opMulL d e) env; let e ← (fun env => do let d ← (fun _ => pure (.int 48271)) env; let e ← (getV 1) env; opMulL d e) env; opAddL d e) env; let e ← (fun _ => pure (.int 1000000007)) env; opMod d e) env; let e ← (fun _ => pure (.int 7)) env; opDiv d e) true)))))
noncomputable def phi__law_mix : List D → M D := defM 2 4 true b__law_mix
theorem d__law_mix {P : Program} {w : World} {K : PySem.W.Frag} {mg : Str → Option Value} {base : Heap} {T : List Addr} (free : ∀ x : Str, x ∈ FREE → mg x = none) {fa : Addr} {cdv : Value} {A : Around} {outer : List Env} {s : Shared} {H : Hp} {E : XK} (hcd : cdv = .ref (He.codeOf K ("_law_mix", none))) (S : Stand (cxG P w K mg base N__law_mix "_law_mix" (defScope s__law_mix) fa cdv A outer s H E) 0 (wG E)) :
    PSsV (cxG P w K mg base N__law_mix "_law_mix" (defScope s__law_mix) fa cdv A outer s H E) T (wG E) (defBody s__law_mix) (b__law_mix) :=
  (s_cons (s_set (i := 2) sc__law_mix.nd (by rfl) (by first | exact Or.inl rfl | exact Or.inr rfl) (mkL (a_cons v_int (a_cons v_int (a_cons v_int (a_cons v_int (a_cons v_int (a_cons v_int (a_cons v_int (a_cons v_int (a_cons v_int (a_cons v_int (a_cons v_int (a_cons v_int (a_cons v_int a_nil))))))))))))) (lc (lc (lc (lc (lc (lc (lc (lc (lc (lc (lc (lc (lc ln))))))))))))))) (s_cons (s_set (i := 3) sc__law_mix.nd (by rfl) (by first | exact Or.inl rfl | exact Or.inr rfl) (v_bin (fr := true) op_mulL o_mulL (v_bin (fr := true) op_addL o_addL (v_bin (fr := true) op_modN o_mod (vn 0) v_int) v_int) (v_ix (vn 2) (v_bin (fr := true) op_modN o_mod (vn 1) v_int)))) (s_cons (s_set (i := 3) sc__law_mix.nd (by rfl) (by first | exact Or.inl rfl | exact Or.inr rfl) (v_bin (fr := true) op_addL o_addL (v_bin (fr := true) op_addL o_addL (vn 3) (v_bin (fr := true) op_mulL o_mulL v_int (vn 1))) (v_bin (fr := true) op_mulL o_mulL v_int (v_bin (fr := true) op_fdivX o_div (vn 1) v_int)))) (s_cons (s_set (i := 3) sc__law_mix.nd (by rfl) (by first | exact Or.inl rfl | exact Or.inr rfl) (v_bin (fr := true) op_modN o_mod (vn 3) v_int)) (s_one (s_ret (v_bin (fr := true) op_fdivX o_div (v_bin (fr := true) op_modN o_mod (v_bin (fr := true) op_addL o_addL (v_bin (fr := true) op_mulL o_mulL (vn 3) (vn 3)) (v_bin (fr := true) op_mulL o_mulL v_int (vn 1))) v_int) v_int)))))))

/-! ### _law_box -/
abbrev N__law_box : List Str := ["_law_script", "_law_k", "_law_cell_here", "_law_number", "_law_j"]
theorem sc__law_box : FnScope N__law_box ["_law_script", "_law_k"] (defScope s__law_box) := ⟨rfl, rfl, rfl, by decide +kernel, rfl, by decide +kernel, by decide +kernel⟩
noncomputable def b__law_box : MS := (seqS (setS 2 (fun env => do let ds ← (fun env => do let d ← (getV 0) env; let ds ← (fun env => do let d ← (getV 1) env; let ds ← (fun _ => pure []) env; pure (d :: ds)) env; pure (d :: ds)) env; phi__law_cell ds))
    (seqS (ifS (fun env => do let d ← (fun env => do let d ← (getV 2) env; let e ← (fun _ => pure (.int 2)) env; opMod d e) env; let e ← (fun _ => pure (.int 0)) env; eqX d e) (retS (fun env => do let ds ← (fun env => do let d ← (fun env => do let d ← (fun env => do let ds ← (fun env => do let d ← (getV 2) env; let ds ← (fun _ => pure []) env; pure (d :: ds)) env; fAbs ds) env; let e ← (fun _ => pure (.int 2)) env; opDiv d e) env; let ds ← (fun _ => pure []) env; pure (d :: ds)) env; pure (.lst ds)) true) skipS)
    (seqS (setS 3 (fun _ => pure (.int 0)))
    (seqS (forS (fun env => do let ds ← (fun env => do let d ← (fun _ => pure (.int 40)) env; let ds ← (fun _ => pure []) env; pure (d :: ds)) env; rng1 ds) (gN 4) (setS 3 (fun env => do let d ← (fun env => do let d ← (getV 3) env; let e ← (fun _ => pure (.int 142857143)) env; opMulL d e) env; let e ← (fun env => do let ds ← (fun env => do let d ← (getV 2) env; let ds ← (fun env => do let d ← (getV 4) env; let ds ← (fun _ => pure []) env; pure (d :: ds)) env; pure (d :: ds)) env; phi__law_mix ds) env; opAddL d e)))
    (retS (fun env => do let ds ← (fun env => do let d ← (getV 3) env; let ds ← (fun _ => pure []) env; pure (d :: ds)) env; pure (.lst ds)) true)))))
noncomputable def phi__law_box : List D → M D := defM 2 5 true b__law_box
theorem d__law_box {P : Program} {w : World} {K : PySem.W.Frag} {mg : Str → Option Value} {base : Heap} {T : List Addr} (free : ∀ x : Str, x ∈ FREE → mg x = none) (c__law_mix : Cal P w K mg base T 1 "_law_mix" 2 true phi__law_mix) (c__law_cell : Cal P w K mg base T 1 "_law_cell" 2 false phi__law_cell) {fa : Addr} {cdv : Value} {A : Around} {outer : List Env} {s : Shared} {H : Hp} {E : XK} (hcd : cdv = .ref (He.codeOf K ("_law_box", none))) (S : Stand (cxG P w K mg base N__law_box "_law_box" (defScope s__law_box) fa cdv A outer s H E) 1 (wG E)) :
    PSsV (cxG P w K mg base N__law_box "_law_box" (defScope s__law_box) fa cdv A outer s H E) T (wG E) (defBody s__law_box) (b__law_box) :=
  (s_cons (s_set (i := 2) sc__law_box.nd (by rfl) (by first | exact Or.inl rfl | exact Or.inr rfl) (v_call c__law_cell S (by decide) (by rfl) (a_cons (vn 0) (a_cons (vn 1) a_nil)))) (s_cons (s_if (b_cmp (op_eqX S.room.units) o_eqX (nomark _) (v_bin (fr := true) op_modN o_mod (vn 2) v_int) v_int) (s_one (s_ret (mkL (a_cons (v_bin (fr := true) op_fdivX o_div (v_callB (fr := true) call_abs s_abs (by rfl) (free "abs" (by decide)) boot_abs (a_cons (vn 2) a_nil)) v_int) a_nil) (lc ln)))) s_nil) (s_cons (s_set (i := 3) sc__law_box.nd (by rfl) (by first | exact Or.inl rfl | exact Or.inr rfl) v_int) (s_cons (s_for own_of S.calm (i_range1 (by rfl) (free "range" (by decide)) (a_cons v_int a_nil)) (gn 4 sc__law_box.nd) (s_one (s_set (i := 3) sc__law_box.nd (by rfl) (by first | exact Or.inl rfl | exact Or.inr rfl) (v_bin (fr := true) op_addL o_addL (v_bin (fr := true) op_mulL o_mulL (vn 3) v_int) (v_call c__law_mix S (by decide) (by rfl) (a_cons (vn 2) (a_cons (vn 4) a_nil))))))) (s_one (s_ret (mkL (a_cons (vn 3) a_nil) (lc ln))))))))

/-! ### _law_take -/
abbrev N__law_take : List Str := ["_law_box_here", "_law_many", "_law_left", "_law_digit"]
theorem sc__law_take : FnScope N__law_take ["_law_box_here", "_law_many"] (defScope s__law_take) := ⟨rfl, rfl, rfl, by decide +kernel, rfl, by decide +kernel, by decide +kernel⟩
noncomputable def b__law_take : MS := (seqS (asgS (fun env => do let ds ← (fun env => do let d ← (fun env => do let d ← (getV 0) env; let e ← (fun _ => pure (.int 0)) env; ixM d e) env; let ds ← (fun env => do let d ← (getV 1) env; let ds ← (fun _ => pure []) env; pure (d :: ds)) env; pure (d :: ds)) env; fDivmod ds) (gT 2 (gs1 (gN 2) (gs1 (gN 3) gs0))))
    (seqS (asgS (getV 2) (gS (getV 0) (fun _ => pure (.int 0))))
    (retS (getV 3) false)))
noncomputable def phi__law_take : List D → M D := defM 2 4 false b__law_take
theorem d__law_take {P : Program} {w : World} {K : PySem.W.Frag} {mg : Str → Option Value} {base : Heap} {T : List Addr} (free : ∀ x : Str, x ∈ FREE → mg x = none) {fa : Addr} {cdv : Value} {A : Around} {outer : List Env} {s : Shared} {H : Hp} {E : XK} (hcd : cdv = .ref (He.codeOf K ("_law_take", none))) (S : Stand (cxG P w K mg base N__law_take "_law_take" (defScope s__law_take) fa cdv A outer s H E) 0 (wG E)) :
    PSsV (cxG P w K mg base N__law_take "_law_take" (defScope s__law_take) fa cdv A outer s H E) T (wG E) (defBody s__law_take) (b__law_take) :=
  (s_cons (s_asg (v_callB (fr := true) call_divmodX s_divmod (by rfl) (free "divmod" (by decide)) boot_divmod (a_cons (v_ix (vn 0) v_int) (a_cons (vn 1) a_nil))) (g_tup S.calm (g_cons (gn 2 sc__law_take.nd) (g_cons (gn 3 sc__law_take.nd) g_nil)))) (s_cons (s_asg (vn 2) (g_sub (W := wG E) (vn 0) v_int)) (s_one (s_ret (vn 3)))))

/-! ### _law_drawn_number -/
abbrev N__law_drawn_number : List Str := ["_law_box_here", "_law_size"]
theorem sc__law_drawn_number : FnScope N__law_drawn_number ["_law_box_here", "_law_size"] (defScope s__law_drawn_number) := ⟨rfl, rfl, rfl, by decide +kernel, rfl, by decide +kernel, by decide +kernel⟩
noncomputable def b__law_drawn_number : MS := (retS (fun env => do let d ← (fun env => do let ds ← (fun env => do let d ← (getV 0) env; let ds ← (fun env => do let d ← (fun env => do let d ← (fun env => do let d ← (fun _ => pure (.int 2)) env; let e ← (getV 1) env; opMulL d e) env; let e ← (fun _ => pure (.int 1)) env; opAddL d e) env; let ds ← (fun _ => pure []) env; pure (d :: ds)) env; pure (d :: ds)) env; phi__law_take ds) env; let e ← (getV 1) env; opSub d e) true)
noncomputable def phi__law_drawn_number : List D → M D := defM 2 2 true b__law_drawn_number
theorem d__law_drawn_number {P : Program} {w : World} {K : PySem.W.Frag} {mg : Str → Option Value} {base : Heap} {T : List Addr} (free : ∀ x : Str, x ∈ FREE → mg x = none) (c__law_take : Cal P w K mg base T 1 "_law_take" 2 false phi__law_take) {fa : Addr} {cdv : Value} {A : Around} {outer : List Env} {s : Shared} {H : Hp} {E : XK} (hcd : cdv = .ref (He.codeOf K ("_law_drawn_number", none))) (S : Stand (cxG P w K mg base N__law_drawn_number "_law_drawn_number" (defScope s__law_drawn_number) fa cdv A outer s H E) 1 (wG E)) :
    PSsV (cxG P w K mg base N__law_drawn_number "_law_drawn_number" (defScope s__law_drawn_number) fa cdv A outer s H E) T (wG E) (defBody s__law_drawn_number) (b__law_drawn_number) :=
  (s_one (s_ret (v_bin (fr := true) op_sub o_sub (v_call c__law_take S (by decide) (by rfl) (a_cons (vn 0) (a_cons (v_bin (fr := true) op_addL o_addL (v_bin (fr := true) op_mulL o_mulL v_int (vn 1)) v_int) a_nil))) (vn 1))))

/-! ### _law_drawn_point -/
abbrev N__law_drawn_point : List Str := ["_law_box_here", "_law_width", "_law_size", "_law_place"]
theorem sc__law_drawn_point : FnScope N__law_drawn_point ["_law_box_here", "_law_width", "_law_size"] (defScope s__law_drawn_point) := ⟨rfl, rfl, rfl, by decide +kernel, rfl, by decide +kernel, by decide +kernel⟩
noncomputable def b__law_drawn_point : MS := (retS (fun env => do let ds ← (fun env => do let d ← (lcM (fun env => do let ds ← (fun env => do let d ← (getV 1) env; let ds ← (fun _ => pure []) env; pure (d :: ds)) env; rng1 ds) (gN 3) (fun _ => pure true) (fun env => do let ds ← (fun env => do let d ← (getV 0) env; let ds ← (fun env => do let d ← (getV 2) env; let ds ← (fun _ => pure []) env; pure (d :: ds)) env; pure (d :: ds)) env; phi__law_drawn_number ds) [3]) env; let ds ← (fun _ => pure []) env; pure (d :: ds)) env; fTuple ds) true)
noncomputable def phi__law_drawn_point : List D → M D := defM 3 4 true b__law_drawn_point
theorem d__law_drawn_point {P : Program} {w : World} {K : PySem.W.Frag} {mg : Str → Option Value} {base : Heap} {T : List Addr} (free : ∀ x : Str, x ∈ FREE → mg x = none) (c__law_drawn_number : Cal P w K mg base T 2 "_law_drawn_number" 2 true phi__law_drawn_number) {fa : Addr} {cdv : Value} {A : Around} {outer : List Env} {s : Shared} {H : Hp} {E : XK} (hcd : cdv = .ref (He.codeOf K ("_law_drawn_point", none))) (S : Stand (cxG P w K mg base N__law_drawn_point "_law_drawn_point" (defScope s__law_drawn_point) fa cdv A outer s H E) 2 (wG E)) :
    PSsV (cxG P w K mg base N__law_drawn_point "_law_drawn_point" (defScope s__law_drawn_point) fa cdv A outer s H E) T (wG E) (defBody s__law_drawn_point) (b__law_drawn_point) :=
  (s_one (s_ret (v_callT (fr := true) call_tuple_of s_tuple (by rfl) (free "tuple" (by decide)) boot_tuple (a_cons (mkLc S sc__law_drawn_point.nd (i_range1 (by rfl) (free "range" (by decide)) (a_cons (vn 1) a_nil)) (blkOk_by (N := N__law_drawn_point) (sc := (defScope s__law_drawn_point)) (own := [("_law_place", 3)]) (by decide +kernel)) (by decide) (fun s0 H0 C0 cl0 fp0 S => ⟨(gn 3 sc__law_drawn_point.nd), ts_nil, (v_call c__law_drawn_number S (by decide) (by rfl) (a_cons (vn 0) (a_cons (vn 2) a_nil)))⟩)) a_nil))))

/-! ### _law_det -/
abbrev N__law_det : List Str := ["_law_steps", "_law_found", "_law_at", "_law_first", "_law_second", "_law_one", "_law_other", "_law_minor", "_law_place"]
theorem sc__law_det : FnScope N__law_det ["_law_steps"] (defScope s__law_det) := ⟨rfl, rfl, rfl, by decide +kernel, rfl, by decide +kernel, by decide +kernel⟩
noncomputable def b__law_det : MS := (seqS (ifS (fun env => do let d ← (fun env => do let ds ← (fun env => do let d ← (getV 0) env; let ds ← (fun _ => pure []) env; pure (d :: ds)) env; fLen ds) env; let e ← (fun _ => pure (.int 2)) env; eqX d e) (retS (fun env => do let d ← (fun env => do let d ← (fun env => do let d ← (fun env => do let d ← (getV 0) env; let e ← (fun _ => pure (.int 0)) env; ixM d e) env; let e ← (fun _ => pure (.int 0)) env; ixM d e) env; let e ← (fun env => do let d ← (fun env => do let d ← (getV 0) env; let e ← (fun _ => pure (.int 1)) env; ixM d e) env; let e ← (fun _ => pure (.int 1)) env; ixM d e) env; opMulL d e) env; let e ← (fun env => do let d ← (fun env => do let d ← (fun env => do let d ← (getV 0) env; let e ← (fun _ => pure (.int 0)) env; ixM d e) env; let e ← (fun _ => pure (.int 1)) env; ixM d e) env; let e ← (fun env => do let d ← (fun env => do let d ← (getV 0) env; let e ← (fun _ => pure (.int 1)) env; ixM d e) env; let e ← (fun _ => pure (.int 0)) env; ixM d e) env; opMulL d e) env; opSub d e) true) skipS)
    (seqS (setS 1 (fun _ => pure (.int 0)))
    (seqS (forS (fun env => do let ds ← (fun env => do let d ← (fun _ => pure (.int 3)) env; let ds ← (fun _ => pure []) env; pure (d :: ds)) env; rng1 ds) (gN 2) (seqS (asgS (lcM (fun env => do let ds ← (fun env => do let d ← (fun _ => pure (.int 3)) env; let ds ← (fun _ => pure []) env; pure (d :: ds)) env; rng1 ds) (gN 8) (fun env => do let d ← (getV 8) env; let e ← (getV 2) env; neX d e) (getV 8) [8]) (gT 2 (gs1 (gN 3) (gs1 (gN 4) gs0))))
    (seqS (parS 5 6 (fun env => do let d ← (fun env => do let d ← (getV 0) env; let e ← (fun _ => pure (.int 1)) env; ixM d e) env; let ds ← (fun env => do let d ← (fun env => do let d ← (getV 0) env; let e ← (fun _ => pure (.int 2)) env; ixM d e) env; let ds ← (fun _ => pure []) env; pure (d :: ds)) env; pure (d :: ds)))
    (seqS (setS 7 (fun env => do let d ← (fun env => do let d ← (fun env => do let d ← (getV 5) env; let e ← (getV 3) env; ixM d e) env; let e ← (fun env => do let d ← (getV 6) env; let e ← (getV 4) env; ixM d e) env; opMulL d e) env; let e ← (fun env => do let d ← (fun env => do let d ← (getV 5) env; let e ← (getV 4) env; ixM d e) env; let e ← (fun env => do let d ← (getV 6) env; let e ← (getV 3) env; ixM d e) env; opMulL d e) env; opSub d e))
    (setS 1 (fun env => do let d ← (getV 1) env; let e ← (fun env => do let d ← (fun env => do let d ← (fun env => do let d ← (fun env => do let ds ← (fun env => do let d ← (fun _ => pure (.int 1)) env; let ds ← (fun env => do let d ← (fun env => do let d ← (fun _ => pure (.int 1)) env; opNeg d) env; let ds ← (fun env => do let d ← (fun _ => pure (.int 1)) env; let ds ← (fun _ => pure []) env; pure (d :: ds)) env; pure (d :: ds)) env; pure (d :: ds)) env; pure (.lst ds)) env; let e ← (getV 2) env; ixM d e) env; let e ← (fun env => do let d ← (fun env => do let d ← (getV 0) env; let e ← (fun _ => pure (.int 0)) env; ixM d e) env; let e ← (getV 2) env; ixM d e) env; opMulL d e) env; let e ← (getV 7) env; opMulL d e) env; opAddL d e))))))
    (retS (getV 1) false))))
noncomputable def phi__law_det : List D → M D := defM 1 9 false b__law_det
theorem d__law_det {P : Program} {w : World} {K : PySem.W.Frag} {mg : Str → Option Value} {base : Heap} {T : List Addr} (free : ∀ x : Str, x ∈ FREE → mg x = none) {fa : Addr} {cdv : Value} {A : Around} {outer : List Env} {s : Shared} {H : Hp} {E : XK} (hcd : cdv = .ref (He.codeOf K ("_law_det", none))) (S : Stand (cxG P w K mg base N__law_det "_law_det" (defScope s__law_det) fa cdv A outer s H E) 0 (wG E)) :
    PSsV (cxG P w K mg base N__law_det "_law_det" (defScope s__law_det) fa cdv A outer s H E) T (wG E) (defBody s__law_det) (b__law_det) :=
  (s_cons (s_if (b_cmp (op_eqX S.room.units) o_eqX (nomark _) (v_callB (fr := true) (call_len_seq.or call_len) s_len (by rfl) (free "len" (by decide)) boot_len (a_cons (vn 0) a_nil)) v_int) (s_one (s_ret (v_bin (fr := true) op_sub o_sub (v_bin (fr := true) op_mulL o_mulL (v_ix (v_ix (vn 0) v_int) v_int) (v_ix (v_ix (vn 0) v_int) v_int)) (v_bin (fr := true) op_mulL o_mulL (v_ix (v_ix (vn 0) v_int) v_int) (v_ix (v_ix (vn 0) v_int) v_int))))) s_nil) (s_cons (s_set (i := 1) sc__law_det.nd (by rfl) (by first | exact Or.inl rfl | exact Or.inr rfl) v_int) (s_cons (s_for own_of S.calm (i_range1 (by rfl) (free "range" (by decide)) (a_cons v_int a_nil)) (gn 2 sc__law_det.nd) (s_cons (s_asg (mkLc S sc__law_det.nd (i_range1 (by rfl) (free "range" (by decide)) (a_cons v_int a_nil)) (blkOk_by (N := N__law_det) (sc := (defScope s__law_det)) (own := [("_law_place", 8)]) (by decide +kernel)) (by decide) (fun s0 H0 C0 cl0 fp0 S => ⟨(gn 8 sc__law_det.nd), (ts_one (b_cmp (op_neX S.room.units) o_neX (nomark _) (vn 8) (vn 2))), (vn 8)⟩)) (g_tup S.calm (g_cons (gn 3 sc__law_det.nd) (g_cons (gn 4 sc__law_det.nd) g_nil)))) (s_cons (s_par (i := 5) (j := 6) S.calm sc__law_det.nd (by rfl) (by rfl) (by decide) (by rfl) (by rfl) (a_cons (v_ix (vn 0) v_int) (a_cons (v_ix (vn 0) v_int) a_nil)) (by rfl)) (s_cons (s_set (i := 7) sc__law_det.nd (by rfl) (by first | exact Or.inl rfl | exact Or.inr rfl) (v_bin (fr := true) op_sub o_sub (v_bin (fr := true) op_mulL o_mulL (v_ix (vn 5) (vn 3)) (v_ix (vn 6) (vn 4))) (v_bin (fr := true) op_mulL o_mulL (v_ix (vn 5) (vn 4)) (v_ix (vn 6) (vn 3))))) (s_one (s_set (i := 1) sc__law_det.nd (by rfl) (by first | exact Or.inl rfl | exact Or.inr rfl) (v_bin (fr := true) op_addL o_addL (vn 1) (v_bin (fr := true) op_mulL o_mulL (v_bin (fr := true) op_mulL o_mulL (v_ix (mkL (a_cons v_int (a_cons (v_un (fr := true) un_neg o_neg v_int) (a_cons v_int a_nil))) (lc (lc (lc ln)))) (vn 2)) (v_ix (v_ix (vn 0) v_int) (vn 2))) (vn 7))))))))) (s_one (s_ret (vn 1))))))

/-! ### _law_drawn_pair -/
abbrev N__law_drawn_pair : List Str := ["_law_box_here", "_law_size", "_law_one", "_law_other", "_law_way", "_law_near"]
theorem sc__law_drawn_pair : FnScope N__law_drawn_pair ["_law_box_here", "_law_size"] (defScope s__law_drawn_pair) := ⟨rfl, rfl, rfl, by decide +kernel, rfl, by decide +kernel, by decide +kernel⟩
noncomputable def b__law_drawn_pair : MS := (seqS (parS 2 3 (fun env => do let d ← (fun env => do let ds ← (fun env => do let d ← (getV 0) env; let ds ← (fun env => do let d ← (fun _ => pure (.int 2)) env; let ds ← (fun env => do let d ← (getV 1) env; let ds ← (fun _ => pure []) env; pure (d :: ds)) env; pure (d :: ds)) env; pure (d :: ds)) env; phi__law_drawn_point ds) env; let ds ← (fun env => do let d ← (fun env => do let ds ← (fun env => do let d ← (getV 0) env; let ds ← (fun env => do let d ← (fun _ => pure (.int 2)) env; let ds ← (fun env => do let d ← (getV 1) env; let ds ← (fun _ => pure []) env; pure (d :: ds)) env; pure (d :: ds)) env; pure (d :: ds)) env; phi__law_drawn_point ds) env; let ds ← (fun _ => pure []) env; pure (d :: ds)) env; pure (d :: ds)))
    (seqS (setS 4 (fun env => do let ds ← (fun env => do let d ← (getV 0) env; let ds ← (fun env => do let d ← (fun _ => pure (.int 6)) env; let ds ← (fun _ => pure []) env; pure (d :: ds)) env; pure (d :: ds)) env; phi__law_take ds))
    (seqS (ifS (fun env => do let d ← (getV 4) env; let e ← (fun _ => pure (.int 0)) env; eqX d e) (setS 3 (fun env => do let ds ← (fun env => do let d ← (fun env => do let d ← (fun _ => pure (.int 0)) env; let e ← (fun env => do let d ← (getV 2) env; let e ← (fun _ => pure (.int 1)) env; ixM d e) env; opSub d e) env; let ds ← (fun env => do let d ← (fun env => do let d ← (getV 2) env; let e ← (fun _ => pure (.int 0)) env; ixM d e) env; let ds ← (fun _ => pure []) env; pure (d :: ds)) env; pure (d :: ds)) env; pure (.tup ds))) skipS)
    (seqS (ifS (fun env => do let d ← (getV 4) env; let e ← (fun _ => pure (.int 1)) env; eqX d e) (seqS (setS 5 (fun env => do let ds ← (fun env => do let d ← (getV 0) env; let ds ← (fun env => do let d ← (fun _ => pure (.int 2)) env; let ds ← (fun env => do let d ← (fun _ => pure (.int 2)) env; let ds ← (fun _ => pure []) env; pure (d :: ds)) env; pure (d :: ds)) env; pure (d :: ds)) env; phi__law_drawn_point ds))
    (setS 3 (fun env => do let ds ← (fun env => do let d ← (fun env => do let d ← (fun env => do let d ← (getV 2) env; let e ← (fun _ => pure (.int 0)) env; ixM d e) env; let e ← (fun env => do let d ← (getV 5) env; let e ← (fun _ => pure (.int 0)) env; ixM d e) env; opAddL d e) env; let ds ← (fun env => do let d ← (fun env => do let d ← (fun env => do let d ← (getV 2) env; let e ← (fun _ => pure (.int 1)) env; ixM d e) env; let e ← (fun env => do let d ← (getV 5) env; let e ← (fun _ => pure (.int 1)) env; ixM d e) env; opAddL d e) env; let ds ← (fun _ => pure []) env; pure (d :: ds)) env; pure (d :: ds)) env; pure (.tup ds)))) skipS)
    (seqS (ifS (fun env => do let d ← (fun env => do let ds ← (fun env => do let d ← (fun env => do let ds ← (fun env => do let d ← (getV 2) env; let ds ← (fun env => do let d ← (getV 3) env; let ds ← (fun _ => pure []) env; pure (d :: ds)) env; pure (d :: ds)) env; pure (.tup ds)) env; let ds ← (fun _ => pure []) env; pure (d :: ds)) env; phi__law_det ds) env; let e ← (fun _ => pure (.int 0)) env; eqX d e) (parS 2 3 (fun env => do let d ← (fun env => do let ds ← (fun env => do let d ← (fun env => do let d ← (fun env => do let d ← (getV 2) env; let e ← (fun _ => pure (.int 0)) env; ixM d e) env; let e ← (fun _ => pure (.int 1)) env; opAddL d e) env; let ds ← (fun env => do let d ← (fun _ => pure (.int 1)) env; let ds ← (fun _ => pure []) env; pure (d :: ds)) env; pure (d :: ds)) env; pure (.tup ds)) env; let ds ← (fun env => do let d ← (fun env => do let ds ← (fun env => do let d ← (fun env => do let d ← (getV 2) env; let e ← (fun _ => pure (.int 0)) env; ixM d e) env; let ds ← (fun env => do let d ← (fun _ => pure (.int 1)) env; let ds ← (fun _ => pure []) env; pure (d :: ds)) env; pure (d :: ds)) env; pure (.tup ds)) env; let ds ← (fun _ => pure []) env; pure (d :: ds)) env; pure (d :: ds))) skipS)
    (retS (fun env => do let ds ← (fun env => do let d ← (getV 2) env; let ds ← (fun env => do let d ← (getV 3) env; let ds ← (fun _ => pure []) env; pure (d :: ds)) env; pure (d :: ds)) env; pure (.tup ds)) true))))))
noncomputable def phi__law_drawn_pair : List D → M D := defM 2 6 true b__law_drawn_pair
theorem d__law_drawn_pair {P : Program} {w : World} {K : PySem.W.Frag} {mg : Str → Option Value} {base : Heap} {T : List Addr} (free : ∀ x : Str, x ∈ FREE → mg x = none) (c__law_det : Cal P w K mg base T 1 "_law_det" 1 false phi__law_det) (c__law_drawn_point : Cal P w K mg base T 3 "_law_drawn_point" 3 true phi__law_drawn_point) (c__law_take : Cal P w K mg base T 1 "_law_take" 2 false phi__law_take) {fa : Addr} {cdv : Value} {A : Around} {outer : List Env} {s : Shared} {H : Hp} {E : XK} (hcd : cdv = .ref (He.codeOf K ("_law_drawn_pair", none))) (S : Stand (cxG P w K mg base N__law_drawn_pair "_law_drawn_pair" (defScope s__law_drawn_pair) fa cdv A outer s H E) 3 (wG E)) :
    PSsV (cxG P w K mg base N__law_drawn_pair "_law_drawn_pair" (defScope s__law_drawn_pair) fa cdv A outer s H E) T (wG E) (defBody s__law_drawn_pair) (b__law_drawn_pair) :=
  (s_cons (s_par (i := 2) (j := 3) S.calm sc__law_drawn_pair.nd (by rfl) (by rfl) (by decide) (by rfl) (by rfl) (a_cons (v_call c__law_drawn_point S (by decide) (by rfl) (a_cons (vn 0) (a_cons v_int (a_cons (vn 1) a_nil)))) (a_cons (v_call c__law_drawn_point S (by decide) (by rfl) (a_cons (vn 0) (a_cons v_int (a_cons (vn 1) a_nil)))) a_nil)) (by rfl)) (s_cons (s_set (i := 4) sc__law_drawn_pair.nd (by rfl) (by first | exact Or.inl rfl | exact Or.inr rfl) (v_call c__law_take S (by decide) (by rfl) (a_cons (vn 0) (a_cons v_int a_nil)))) (s_cons (s_if (b_cmp (op_eqX S.room.units) o_eqX (nomark _) (vn 4) v_int) (s_one (s_set (i := 3) sc__law_drawn_pair.nd (by rfl) (by first | exact Or.inl rfl | exact Or.inr rfl) (mkT (a_cons (v_bin (fr := true) op_sub o_sub v_int (v_ix (vn 2) v_int)) (a_cons (v_ix (vn 2) v_int) a_nil)) (lc (lc ln))))) s_nil) (s_cons (s_if (b_cmp (op_eqX S.room.units) o_eqX (nomark _) (vn 4) v_int) (s_cons (s_set (i := 5) sc__law_drawn_pair.nd (by rfl) (by first | exact Or.inl rfl | exact Or.inr rfl) (v_call c__law_drawn_point S (by decide) (by rfl) (a_cons (vn 0) (a_cons v_int (a_cons v_int a_nil))))) (s_one (s_set (i := 3) sc__law_drawn_pair.nd (by rfl) (by first | exact Or.inl rfl | exact Or.inr rfl) (mkT (a_cons (v_bin (fr := true) op_addL o_addL (v_ix (vn 2) v_int) (v_ix (vn 5) v_int)) (a_cons (v_bin (fr := true) op_addL o_addL (v_ix (vn 2) v_int) (v_ix (vn 5) v_int)) a_nil)) (lc (lc ln)))))) s_nil) (s_cons (s_if (b_cmp (op_eqX S.room.units) o_eqX (nomark _) (v_call c__law_det S (by decide) (by rfl) (a_cons (mkT (a_cons (vn 2) (a_cons (vn 3) a_nil)) (lc (lc ln))) a_nil)) v_int) (s_one (s_par (i := 2) (j := 3) S.calm sc__law_drawn_pair.nd (by rfl) (by rfl) (by decide) (by rfl) (by rfl) (a_cons (mkT (a_cons (v_bin (fr := true) op_addL o_addL (v_ix (vn 2) v_int) v_int) (a_cons v_int a_nil)) (lc (lc ln))) (a_cons (mkT (a_cons (v_ix (vn 2) v_int) (a_cons v_int a_nil)) (lc (lc ln))) a_nil)) (by rfl))) s_nil) (s_one (s_ret (mkT (a_cons (vn 2) (a_cons (vn 3) a_nil)) (lc (lc ln))))))))))

/-! ### _law_drawn_three -/
abbrev N__law_drawn_three : List Str := ["_law_box_here", "_law_size", "_law_some", "_law_lap"]
theorem sc__law_drawn_three : FnScope N__law_drawn_three ["_law_box_here", "_law_size"] (defScope s__law_drawn_three) := ⟨rfl, rfl, rfl, by decide +kernel, rfl, by decide +kernel, by decide +kernel⟩
noncomputable def b__law_drawn_three : MS := (seqS (setS 2 (fun env => do let ds ← (fun env => do let d ← (lcM (fun env => do let ds ← (fun env => do let d ← (fun _ => pure (.int 3)) env; let ds ← (fun _ => pure []) env; pure (d :: ds)) env; rng1 ds) (gN 3) (fun _ => pure true) (fun env => do let ds ← (fun env => do let d ← (getV 0) env; let ds ← (fun env => do let d ← (fun _ => pure (.int 3)) env; let ds ← (fun env => do let d ← (getV 1) env; let ds ← (fun _ => pure []) env; pure (d :: ds)) env; pure (d :: ds)) env; pure (d :: ds)) env; phi__law_drawn_point ds) [3]) env; let ds ← (fun _ => pure []) env; pure (d :: ds)) env; fTuple ds))
    (seqS (ifS (fun env => do let d ← (fun env => do let ds ← (fun env => do let d ← (getV 2) env; let ds ← (fun _ => pure []) env; pure (d :: ds)) env; phi__law_det ds) env; let e ← (fun _ => pure (.int 0)) env; eqX d e) (setS 2 (fun env => do let ds ← (fun env => do let d ← (fun env => do let ds ← (fun env => do let d ← (fun env => do let d ← (fun _ => pure (.int 1)) env; let e ← (fun env => do let ds ← (fun env => do let d ← (fun env => do let d ← (fun env => do let d ← (getV 2) env; let e ← (fun _ => pure (.int 0)) env; ixM d e) env; let e ← (fun _ => pure (.int 0)) env; ixM d e) env; let ds ← (fun _ => pure []) env; pure (d :: ds)) env; fAbs ds) env; opAddL d e) env; let ds ← (fun env => do let d ← (fun _ => pure (.int 0)) env; let ds ← (fun env => do let d ← (fun _ => pure (.int 0)) env; let ds ← (fun _ => pure []) env; pure (d :: ds)) env; pure (d :: ds)) env; pure (d :: ds)) env; pure (.tup ds)) env; let ds ← (fun env => do let d ← (fun env => do let ds ← (fun env => do let d ← (fun env => do let d ← (fun env => do let d ← (getV 2) env; let e ← (fun _ => pure (.int 0)) env; ixM d e) env; let e ← (fun _ => pure (.int 1)) env; ixM d e) env; let ds ← (fun env => do let d ← (fun _ => pure (.int 1)) env; let ds ← (fun env => do let d ← (fun _ => pure (.int 0)) env; let ds ← (fun _ => pure []) env; pure (d :: ds)) env; pure (d :: ds)) env; pure (d :: ds)) env; pure (.tup ds)) env; let ds ← (fun env => do let d ← (fun env => do let ds ← (fun env => do let d ← (fun env => do let d ← (fun env => do let d ← (getV 2) env; let e ← (fun _ => pure (.int 0)) env; ixM d e) env; let e ← (fun _ => pure (.int 2)) env; ixM d e) env; let ds ← (fun env => do let d ← (fun env => do let d ← (fun env => do let d ← (getV 2) env; let e ← (fun _ => pure (.int 1)) env; ixM d e) env; let e ← (fun _ => pure (.int 0)) env; ixM d e) env; let ds ← (fun env => do let d ← (fun _ => pure (.int 2)) env; let ds ← (fun _ => pure []) env; pure (d :: ds)) env; pure (d :: ds)) env; pure (d :: ds)) env; pure (.tup ds)) env; let ds ← (fun _ => pure []) env; pure (d :: ds)) env; pure (d :: ds)) env; pure (d :: ds)) env; pure (.tup ds))) skipS)
    (retS (getV 2) false)))
noncomputable def phi__law_drawn_three : List D → M D := defM 2 4 false b__law_drawn_three
theorem d__law_drawn_three {P : Program} {w : World} {K : PySem.W.Frag} {mg : Str → Option Value} {base : Heap} {T : List Addr} (free : ∀ x : Str, x ∈ FREE → mg x = none) (c__law_det : Cal P w K mg base T 1 "_law_det" 1 false phi__law_det) (c__law_drawn_point : Cal P w K mg base T 3 "_law_drawn_point" 3 true phi__law_drawn_point) {fa : Addr} {cdv : Value} {A : Around} {outer : List Env} {s : Shared} {H : Hp} {E : XK} (hcd : cdv = .ref (He.codeOf K ("_law_drawn_three", none))) (S : Stand (cxG P w K mg base N__law_drawn_three "_law_drawn_three" (defScope s__law_drawn_three) fa cdv A outer s H E) 3 (wG E)) :
    PSsV (cxG P w K mg base N__law_drawn_three "_law_drawn_three" (defScope s__law_drawn_three) fa cdv A outer s H E) T (wG E) (defBody s__law_drawn_three) (b__law_drawn_three) :=
  (s_cons (s_set (i := 2) sc__law_drawn_three.nd (by rfl) (by first | exact Or.inl rfl | exact Or.inr rfl) (v_callT (fr := true) call_tuple_of s_tuple (by rfl) (free "tuple" (by decide)) boot_tuple (a_cons (mkLc S sc__law_drawn_three.nd (i_range1 (by rfl) (free "range" (by decide)) (a_cons v_int a_nil)) (blkOk_by (N := N__law_drawn_three) (sc := (defScope s__law_drawn_three)) (own := [("_law_lap", 3)]) (by decide +kernel)) (by decide) (fun s0 H0 C0 cl0 fp0 S => ⟨(gn 3 sc__law_drawn_three.nd), ts_nil, (v_call c__law_drawn_point S (by decide) (by rfl) (a_cons (vn 0) (a_cons v_int (a_cons (vn 1) a_nil))))⟩)) a_nil))) (s_cons (s_if (b_cmp (op_eqX S.room.units) o_eqX (nomark _) (v_call c__law_det S (by decide) (by rfl) (a_cons (vn 2) a_nil)) v_int) (s_one (s_set (i := 2) sc__law_drawn_three.nd (by rfl) (by first | exact Or.inl rfl | exact Or.inr rfl) (mkT (a_cons (mkT (a_cons (v_bin (fr := true) op_addL o_addL v_int (v_callB (fr := true) call_abs s_abs (by rfl) (free "abs" (by decide)) boot_abs (a_cons (v_ix (v_ix (vn 2) v_int) v_int) a_nil))) (a_cons v_int (a_cons v_int a_nil))) (lc (lc (lc ln)))) (a_cons (mkT (a_cons (v_ix (v_ix (vn 2) v_int) v_int) (a_cons v_int (a_cons v_int a_nil))) (lc (lc (lc ln)))) (a_cons (mkT (a_cons (v_ix (v_ix (vn 2) v_int) v_int) (a_cons (v_ix (v_ix (vn 2) v_int) v_int) (a_cons v_int a_nil))) (lc (lc (lc ln)))) a_nil))) (lc (lc (lc ln)))))) s_nil) (s_one (s_ret (vn 2)))))

/-! ### _law_drawn_steps -/
abbrev N__law_drawn_steps : List Str := ["_law_box_here", "_law_size"]
theorem sc__law_drawn_steps : FnScope N__law_drawn_steps ["_law_box_here", "_law_size"] (defScope s__law_drawn_steps) := ⟨rfl, rfl, rfl, by decide +kernel, rfl, by decide +kernel, by decide +kernel⟩
noncomputable def b__law_drawn_steps : MS := (seqS (ifS (fun env => do let d ← (fun env => do let ds ← (fun env => do let d ← (getV 0) env; let ds ← (fun env => do let d ← (fun _ => pure (.int 2)) env; let ds ← (fun _ => pure []) env; pure (d :: ds)) env; pure (d :: ds)) env; phi__law_take ds) env; let e ← (fun _ => pure (.int 0)) env; eqX d e) (retS (fun env => do let ds ← (fun env => do let d ← (getV 0) env; let ds ← (fun env => do let d ← (getV 1) env; let ds ← (fun _ => pure []) env; pure (d :: ds)) env; pure (d :: ds)) env; phi__law_drawn_pair ds) true) skipS)
    (retS (fun env => do let ds ← (fun env => do let d ← (getV 0) env; let ds ← (fun env => do let d ← (getV 1) env; let ds ← (fun _ => pure []) env; pure (d :: ds)) env; pure (d :: ds)) env; phi__law_drawn_three ds) false))
noncomputable def phi__law_drawn_steps : List D → M D := defM 2 2 false b__law_drawn_steps
theorem d__law_drawn_steps {P : Program} {w : World} {K : PySem.W.Frag} {mg : Str → Option Value} {base : Heap} {T : List Addr} (free : ∀ x : Str, x ∈ FREE → mg x = none) (c__law_drawn_three : Cal P w K mg base T 4 "_law_drawn_three" 2 false phi__law_drawn_three) (c__law_take : Cal P w K mg base T 1 "_law_take" 2 false phi__law_take) (c__law_drawn_pair : Cal P w K mg base T 4 "_law_drawn_pair" 2 true phi__law_drawn_pair) {fa : Addr} {cdv : Value} {A : Around} {outer : List Env} {s : Shared} {H : Hp} {E : XK} (hcd : cdv = .ref (He.codeOf K ("_law_drawn_steps", none))) (S : Stand (cxG P w K mg base N__law_drawn_steps "_law_drawn_steps" (defScope s__law_drawn_steps) fa cdv A outer s H E) 4 (wG E)) :
    PSsV (cxG P w K mg base N__law_drawn_steps "_law_drawn_steps" (defScope s__law_drawn_steps) fa cdv A outer s H E) T (wG E) (defBody s__law_drawn_steps) (b__law_drawn_steps) :=
  (s_cons (s_if (b_cmp (op_eqX S.room.units) o_eqX (nomark _) (v_call c__law_take S (by decide) (by rfl) (a_cons (vn 0) (a_cons v_int a_nil))) v_int) (s_one (s_ret (v_call c__law_drawn_pair S (by decide) (by rfl) (a_cons (vn 0) (a_cons (vn 1) a_nil))))) s_nil) (s_one (s_ret (v_call c__law_drawn_three S (by decide) (by rfl) (a_cons (vn 0) (a_cons (vn 1) a_nil))))))

/-! ### law -/
abbrev N_law : List Str := ["_law_script", "_law_k", "_law_box_here", "_law_steps", "_law_width", "_law_one", "_law_other", "_law_here", "_law_there", "_law_both", "_law_at", "_law_twice", "_law_round_steps", "_law_first", "_law_second", "_law_number"]
theorem sc_law : FnScope N_law ["_law_script"] (defScope s_law) := ⟨rfl, rfl, rfl, by decide +kernel, rfl, by decide +kernel, by decide +kernel⟩
noncomputable def b_law : MS := (seqS (forS (fun env => do let ds ← (fun env => do let d ← (fun env => do let ds ← (fun env => do let d ← (fun _ => pure (.int 1)) env; let ds ← (fun env => do let d ← (fun env => do let ds ← (fun env => do let d ← (fun env => do let ds ← (fun env => do let d ← (getV 0) env; let ds ← (fun _ => pure []) env; pure (d :: ds)) env; fLen ds) env; let ds ← (fun env => do let d ← (fun _ => pure (.int 6)) env; let ds ← (fun _ => pure []) env; pure (d :: ds)) env; pure (d :: ds)) env; fMin2 ds) env; let ds ← (fun _ => pure []) env; pure (d :: ds)) env; pure (d :: ds)) env; fMax2 ds) env; let ds ← (fun _ => pure []) env; pure (d :: ds)) env; rng1 ds) (gN 1) (seqS (cellS 2 (fun env => do let ds ← (fun env => do let d ← (getV 0) env; let ds ← (fun env => do let d ← (getV 1) env; let ds ← (fun _ => pure []) env; pure (d :: ds)) env; pure (d :: ds)) env; phi__law_box ds))
    (seqS (setS 3 (fun env => do let ds ← (fun env => do let d ← (getV 2) env; let ds ← (fun env => do let d ← (fun env => do let d ← (fun env => do let ds ← (fun env => do let d ← (fun _ => pure (.int 2)) env; let ds ← (fun env => do let d ← (fun _ => pure (.int 9)) env; let ds ← (fun env => do let d ← (fun env => do let d ← (fun _ => pure (.int 10)) env; let e ← (fun _ => pure (.int 6)) env; opPow d e) env; let ds ← (fun env => do let d ← (fun env => do let d ← (fun _ => pure (.int 10)) env; let e ← (fun _ => pure (.int 29)) env; opPow d e) env; let ds ← (fun _ => pure []) env; pure (d :: ds)) env; pure (d :: ds)) env; pure (d :: ds)) env; pure (d :: ds)) env; pure (.lst ds)) env; let e ← (fun env => do let ds ← (fun env => do let d ← (getV 2) env; let ds ← (fun env => do let d ← (fun _ => pure (.int 4)) env; let ds ← (fun _ => pure []) env; pure (d :: ds)) env; pure (d :: ds)) env; phi__law_take ds) env; ixM d e) env; let ds ← (fun _ => pure []) env; pure (d :: ds)) env; pure (d :: ds)) env; phi__law_drawn_steps ds))
    (seqS (setS 4 (fun env => do let ds ← (fun env => do let d ← (getV 3) env; let ds ← (fun _ => pure []) env; pure (d :: ds)) env; fLen ds))
    (seqS (ifS (fun env => orM ((fun env => do let d ← (fun env => do let ds ← (fun env => do let d ← (fun env => do let ds ← (fun env => do let d ← (getV 3) env; let ds ← (fun _ => pure []) env; pure (d :: ds)) env; phi_show ds) env; let ds ← (fun _ => pure []) env; pure (d :: ds)) env; phi_read ds) env; let e ← (getV 3) env; neX d e) env) ((fun env => orM ((fun env => do let d ← (fun env => do let ds ← (fun env => do let d ← (getV 3) env; let ds ← (fun _ => pure []) env; pure (d :: ds)) env; phi_is_steps ds) env; let e ← (fun _ => pure (.bl true)) env; notBM d e) env) ((fun env => do let d ← (fun env => do let ds ← (fun env => do let d ← (getV 3) env; let ds ← (fun env => do let d ← (getV 3) env; let ds ← (fun _ => pure []) env; pure (d :: ds)) env; pure (d :: ds)) env; phi_is_same ds) env; let e ← (fun _ => pure (.bl true)) env; notBM d e) env)) env)) (retS (fun _ => pure (.bl false)) true) skipS)
    (seqS (parS 5 6 (fun env => do let d ← (fun env => do let ds ← (fun env => do let d ← (getV 2) env; let ds ← (fun env => do let d ← (getV 4) env; let ds ← (fun env => do let d ← (fun _ => pure (.int 9)) env; let ds ← (fun _ => pure []) env; pure (d :: ds)) env; pure (d :: ds)) env; pure (d :: ds)) env; phi__law_drawn_point ds) env; let ds ← (fun env => do let d ← (fun env => do let ds ← (fun env => do let d ← (getV 2) env; let ds ← (fun env => do let d ← (getV 4) env; let ds ← (fun env => do let d ← (fun _ => pure (.int 9)) env; let ds ← (fun _ => pure []) env; pure (d :: ds)) env; pure (d :: ds)) env; pure (d :: ds)) env; phi__law_drawn_point ds) env; let ds ← (fun _ => pure []) env; pure (d :: ds)) env; pure (d :: ds)))
    (seqS (parS 7 8 (fun env => do let d ← (fun env => do let ds ← (fun env => do let d ← (getV 3) env; let ds ← (fun env => do let d ← (getV 5) env; let ds ← (fun _ => pure []) env; pure (d :: ds)) env; pure (d :: ds)) env; phi_reached ds) env; let ds ← (fun env => do let d ← (fun env => do let ds ← (fun env => do let d ← (getV 3) env; let ds ← (fun env => do let d ← (getV 6) env; let ds ← (fun _ => pure []) env; pure (d :: ds)) env; pure (d :: ds)) env; phi_reached ds) env; let ds ← (fun _ => pure []) env; pure (d :: ds)) env; pure (d :: ds)))
    (seqS (setS 9 (fun env => do let ds ← (fun env => do let d ← (lcM (fun env => do let ds ← (fun env => do let d ← (getV 5) env; let ds ← (fun env => do let d ← (getV 6) env; let ds ← (fun _ => pure []) env; pure (d :: ds)) env; pure (d :: ds)) env; zipGM ds) (gT 2 (gs1 (gN 13) (gs1 (gN 14) gs0))) (fun _ => pure true) (fun env => do let d ← (getV 13) env; let e ← (getV 14) env; opAddL d e) [13, 14]) env; let ds ← (fun _ => pure []) env; pure (d :: ds)) env; fTuple ds))
    (seqS (ifS (fun env => orM ((fun env => do let d ← (fun env => do let ds ← (fun env => do let d ← (getV 7) env; let ds ← (fun _ => pure []) env; pure (d :: ds)) env; phi_is_point ds) env; let e ← (fun _ => pure (.bl true)) env; notBM d e) env) ((fun env => do let d ← (fun env => do let ds ← (fun env => do let d ← (getV 3) env; let ds ← (fun env => do let d ← (getV 7) env; let ds ← (fun _ => pure []) env; pure (d :: ds)) env; pure (d :: ds)) env; phi_numbers_of ds) env; let e ← (getV 5) env; neX d e) env)) (retS (fun _ => pure (.bl false)) true) skipS)
    (seqS (ifS (fun env => do let d ← (fun env => do let ds ← (fun env => do let d ← (getV 3) env; let ds ← (fun env => do let d ← (getV 9) env; let ds ← (fun _ => pure []) env; pure (d :: ds)) env; pure (d :: ds)) env; phi_reached ds) env; let e ← (fun env => do let ds ← (fun env => do let d ← (lcM (fun env => do let ds ← (fun env => do let d ← (getV 7) env; let ds ← (fun env => do let d ← (getV 8) env; let ds ← (fun _ => pure []) env; pure (d :: ds)) env; pure (d :: ds)) env; zipGM ds) (gT 2 (gs1 (gN 13) (gs1 (gN 14) gs0))) (fun _ => pure true) (fun env => do let d ← (getV 13) env; let e ← (getV 14) env; opAddL d e) [13, 14]) env; let ds ← (fun _ => pure []) env; pure (d :: ds)) env; fTuple ds) env; neX d e) (retS (fun _ => pure (.bl false)) true) skipS)
    (seqS (ifS (fun env => do let d ← (fun env => do let ds ← (fun env => do let d ← (getV 7) env; let ds ← (fun env => do let d ← (getV 8) env; let ds ← (fun _ => pure []) env; pure (d :: ds)) env; pure (d :: ds)) env; phi_product ds) env; let e ← (fun env => do let ds ← (fun env => do let d ← (getV 8) env; let ds ← (fun env => do let d ← (getV 7) env; let ds ← (fun _ => pure []) env; pure (d :: ds)) env; pure (d :: ds)) env; phi_product ds) env; neX d e) (retS (fun _ => pure (.bl false)) true) skipS)
    (seqS (ifS (fun env => do let d ← (fun env => do let ds ← (fun env => do let d ← (fun env => do let ds ← (fun env => do let d ← (getV 3) env; let ds ← (fun env => do let d ← (getV 9) env; let ds ← (fun _ => pure []) env; pure (d :: ds)) env; pure (d :: ds)) env; phi_reached ds) env; let ds ← (fun env => do let d ← (getV 7) env; let ds ← (fun _ => pure []) env; pure (d :: ds)) env; pure (d :: ds)) env; phi_product ds) env; let e ← (fun env => do let d ← (fun env => do let ds ← (fun env => do let d ← (getV 7) env; let ds ← (fun env => do let d ← (getV 7) env; let ds ← (fun _ => pure []) env; pure (d :: ds)) env; pure (d :: ds)) env; phi_product ds) env; let e ← (fun env => do let ds ← (fun env => do let d ← (getV 8) env; let ds ← (fun env => do let d ← (getV 7) env; let ds ← (fun _ => pure []) env; pure (d :: ds)) env; pure (d :: ds)) env; phi_product ds) env; opAddL d e) env; neX d e) (retS (fun _ => pure (.bl false)) true) skipS)
    (seqS (setS 10 (fun env => do let ds ← (fun env => do let d ← (getV 2) env; let ds ← (fun env => do let d ← (getV 4) env; let ds ← (fun _ => pure []) env; pure (d :: ds)) env; pure (d :: ds)) env; phi__law_take ds))
    (seqS (setS 11 (fun env => do let d ← (fun env => do let d ← (fun env => do let d ← (getV 3) env; let l ← (fun _ => pure none) env; let u ← (fun env => do let d ← (getV 10) env; asI d) env; slM d l u) env; let e ← (fun env => do let ds ← (fun env => do let d ← (fun env => do let ds ← (fun env => do let d ← (lcM (fun env => do let d ← (fun env => do let d ← (getV 3) env; let e ← (getV 10) env; ixM d e) env; walkM d) (gN 15) (fun _ => pure true) (fun env => do let d ← (fun _ => pure (.int 2)) env; let e ← (getV 15) env; opMulL d e) [15]) env; let ds ← (fun _ => pure []) env; pure (d :: ds)) env; fTuple ds) env; let ds ← (fun _ => pure []) env; pure (d :: ds)) env; pure (.tup ds)) env; opAddL d e) env; let e ← (fun env => do let d ← (getV 3) env; let l ← (fun env => do let d ← (fun env => do let d ← (getV 10) env; let e ← (fun _ => pure (.int 1)) env; opAddL d e) env; asI d) env; let u ← (fun _ => pure none) env; slM d l u) env; opAddL d e))
    (seqS (ifS (fun env => orM ((fun env => do let d ← (fun env => do let ds ← (fun env => do let d ← (getV 11) env; let ds ← (fun _ => pure []) env; pure (d :: ds)) env; phi_room ds) env; let e ← (fun env => do let d ← (fun _ => pure (.int 2)) env; let e ← (fun env => do let ds ← (fun env => do let d ← (getV 3) env; let ds ← (fun _ => pure []) env; pure (d :: ds)) env; phi_room ds) env; opMulL d e) env; neX d e) env) ((fun env => orM ((fun env => do let d ← (fun env => do let ds ← (fun env => do let d ← (getV 3) env; let ds ← (fun env => do let d ← (getV 11) env; let ds ← (fun _ => pure []) env; pure (d :: ds)) env; pure (d :: ds)) env; phi_is_same ds) env; let e ← (fun _ => pure (.bl false)) env; notBM d e) env) ((fun env => do let d ← (fun env => do let ds ← (fun env => do let d ← (getV 3) env; let ds ← (fun _ => pure []) env; pure (d :: ds)) env; phi_room ds) env; let e ← (fun _ => pure (.int 1)) env; ltX d e) env)) env)) (retS (fun _ => pure (.bl false)) true) skipS)
    (seqS (setS 12 (fun env => do let d ← (fun env => do let d ← (getV 3) env; let l ← (fun env => do let d ← (fun _ => pure (.int 1)) env; asI d) env; let u ← (fun _ => pure none) env; slM d l u) env; let e ← (fun env => do let d ← (getV 3) env; let l ← (fun _ => pure none) env; let u ← (fun env => do let d ← (fun _ => pure (.int 1)) env; asI d) env; slM d l u) env; opAddL d e))
    (ifS (fun env => orM ((fun env => do let d ← (fun env => do let ds ← (fun env => do let d ← (getV 3) env; let ds ← (fun env => do let d ← (getV 12) env; let ds ← (fun _ => pure []) env; pure (d :: ds)) env; pure (d :: ds)) env; phi_is_same ds) env; let e ← (fun _ => pure (.bl true)) env; notBM d e) env) ((fun env => do let d ← (fun env => do let ds ← (fun env => do let d ← (getV 12) env; let ds ← (fun _ => pure []) env; pure (d :: ds)) env; phi_room ds) env; let e ← (fun env => do let ds ← (fun env => do let d ← (getV 3) env; let ds ← (fun _ => pure []) env; pure (d :: ds)) env; phi_room ds) env; neX d e) env)) (retS (fun _ => pure (.bl false)) true) skipS)))))))))))))))))
    (retS (fun _ => pure (.bl true)) true))
noncomputable def phi_law : List D → M D := defM 1 16 true b_law
theorem d_law {P : Program} {w : World} {K : PySem.W.Frag} {mg : Str → Option Value} {base : Heap} {T : List Addr} (free : ∀ x : Str, x ∈ FREE → mg x = none) (c_room : Cal P w K mg base T 7 "room" 1 true phi_room) (c_is_same : Cal P w K mg base T 9 "is_same" 2 true phi_is_same) (c__law_take : Cal P w K mg base T 1 "_law_take" 2 false phi__law_take) (c_product : Cal P w K mg base T 5 "product" 2 true phi_product) (c_reached : Cal P w K mg base T 7 "reached" 2 true phi_reached) (c_numbers_of : Cal P w K mg base T 7 "numbers_of" 2 true phi_numbers_of) (c_is_point : Cal P w K mg base T 3 "is_point" 1 true phi_is_point) (c__law_drawn_point : Cal P w K mg base T 3 "_law_drawn_point" 3 true phi__law_drawn_point) (c_is_steps : Cal P w K mg base T 5 "is_steps" 1 true phi_is_steps) (c_read : Cal P w K mg base T 7 "read" 1 false phi_read) (c_show : Cal P w K mg base T 7 "show" 1 true phi_show) (c__law_drawn_steps : Cal P w K mg base T 5 "_law_drawn_steps" 2 false phi__law_drawn_steps) (c__law_box : Cal P w K mg base T 2 "_law_box" 2 true phi__law_box) {fa : Addr} {cdv : Value} {A : Around} {outer : List Env} {s : Shared} {H : Hp} {E : XK} (hcd : cdv = .ref (He.codeOf K ("law", none))) (S : Stand (cxG P w K mg base N_law "law" (defScope s_law) fa cdv A outer s H E) 9 (wG E)) :
    PSsV (cxG P w K mg base N_law "law" (defScope s_law) fa cdv A outer s H E) T (wG E) (defBody s_law) (b_law) :=
  (s_cons (s_for own_of S.calm (i_range1 (by rfl) (free "range" (by decide)) (a_cons (v_callB (fr := true) (call_max2 S.calm) s_max2 (by rfl) (free "max" (by decide)) boot_max (a_cons v_int (a_cons (v_callB (fr := true) (call_min2 S.calm) s_min2 (by rfl) (free "min" (by decide)) boot_min (a_cons (v_callB (fr := true) (call_len_seq.or call_len) s_len (by rfl) (free "len" (by decide)) boot_len (a_cons (vn 0) a_nil)) (a_cons v_int a_nil))) a_nil))) a_nil)) (gn 1 sc_law.nd) (s_cons (s_cell (i := 2) sc_law.nd (by rfl) (by first | exact Or.inl rfl | exact Or.inr rfl) (v_call c__law_box S (by decide) (by rfl) (a_cons (vn 0) (a_cons (vn 1) a_nil)))) (s_cons (s_set (i := 3) sc_law.nd (by rfl) (by first | exact Or.inl rfl | exact Or.inr rfl) (v_call c__law_drawn_steps S (by decide) (by rfl) (a_cons (vn 2) (a_cons (v_ix (mkL (a_cons v_int (a_cons v_int (a_cons (v_bin (fr := true) op_pow o_pow v_int v_int) (a_cons (v_bin (fr := true) op_pow o_pow v_int v_int) a_nil)))) (lc (lc (lc (lc ln))))) (v_call c__law_take S (by decide) (by rfl) (a_cons (vn 2) (a_cons v_int a_nil)))) a_nil)))) (s_cons (s_set (i := 4) sc_law.nd (by rfl) (by first | exact Or.inl rfl | exact Or.inr rfl) (v_callB (fr := true) (call_len_seq.or call_len) s_len (by rfl) (free "len" (by decide)) boot_len (a_cons (vn 3) a_nil))) (s_cons (s_if (PW.pt (bw_or (b_cmp (op_neX S.room.units) o_neX (nomark _) (v_call c_read S (by decide) (by rfl) (a_cons (v_call c_show S (by decide) (by rfl) (a_cons (vn 3) a_nil)) a_nil)) (vn 3)) (bw_or (b_cmp op_notB o_notB (nomark _) (v_call c_is_steps S (by decide) (by rfl) (a_cons (vn 3) a_nil)) v_bl) (bw_or1 (b_cmp op_notB o_notB (nomark _) (v_call c_is_same S (by decide) (by rfl) (a_cons (vn 3) (a_cons (vn 3) a_nil))) v_bl))))) (s_one (s_ret v_bl)) s_nil) (s_cons (s_par (i := 5) (j := 6) S.calm sc_law.nd (by rfl) (by rfl) (by decide) (by rfl) (by rfl) (a_cons (v_call c__law_drawn_point S (by decide) (by rfl) (a_cons (vn 2) (a_cons (vn 4) (a_cons v_int a_nil)))) (a_cons (v_call c__law_drawn_point S (by decide) (by rfl) (a_cons (vn 2) (a_cons (vn 4) (a_cons v_int a_nil)))) a_nil)) (by rfl)) (s_cons (s_par (i := 7) (j := 8) S.calm sc_law.nd (by rfl) (by rfl) (by decide) (by rfl) (by rfl) (a_cons (v_call c_reached S (by decide) (by rfl) (a_cons (vn 3) (a_cons (vn 5) a_nil))) (a_cons (v_call c_reached S (by decide) (by rfl) (a_cons (vn 3) (a_cons (vn 6) a_nil))) a_nil)) (by rfl)) (s_cons (s_set (i := 9) sc_law.nd (by rfl) (by first | exact Or.inl rfl | exact Or.inr rfl) (v_callT (fr := true) call_tuple_of s_tuple (by rfl) (free "tuple" (by decide)) boot_tuple (a_cons (mkLc S sc_law.nd (i_zipG (by rfl) (free "zip" (by decide)) (a_cons (vn 5) (a_cons (vn 6) a_nil))) (blkOk_by (N := N_law) (sc := (defScope s_law)) (own := [("_law_first", 13), ("_law_second", 14)]) (by decide +kernel)) (by decide) (fun s0 H0 C0 cl0 fp0 S => ⟨(g_tup S.calm (g_cons (gn 13 sc_law.nd) (g_cons (gn 14 sc_law.nd) g_nil))), ts_nil, (v_bin (fr := true) op_addL o_addL (vn 13) (vn 14))⟩)) a_nil))) (s_cons (s_if (PW.pt (bw_or (b_cmp op_notB o_notB (nomark _) (v_call c_is_point S (by decide) (by rfl) (a_cons (vn 7) a_nil)) v_bl) (bw_or1 (b_cmp (op_neX S.room.units) o_neX (nomark _) (v_call c_numbers_of S (by decide) (by rfl) (a_cons (vn 3) (a_cons (vn 7) a_nil))) (vn 5))))) (s_one (s_ret v_bl)) s_nil) (s_cons (s_if (b_cmp (op_neX S.room.units) o_neX (nomark _) (v_call c_reached S (by decide) (by rfl) (a_cons (vn 3) (a_cons (vn 9) a_nil))) (v_callT (fr := true) call_tuple_of s_tuple (by rfl) (free "tuple" (by decide)) boot_tuple (a_cons (mkLc S sc_law.nd (i_zipG (by rfl) (free "zip" (by decide)) (a_cons (vn 7) (a_cons (vn 8) a_nil))) (blkOk_by (N := N_law) (sc := (defScope s_law)) (own := [("_law_first", 13), ("_law_second", 14)]) (by decide +kernel)) (by decide) (fun s0 H0 C0 cl0 fp0 S => ⟨(g_tup S.calm (g_cons (gn 13 sc_law.nd) (g_cons (gn 14 sc_law.nd) g_nil))), ts_nil, (v_bin (fr := true) op_addL o_addL (vn 13) (vn 14))⟩)) a_nil))) (s_one (s_ret v_bl)) s_nil) (s_cons (s_if (b_cmp (op_neX S.room.units) o_neX (nomark _) (v_call c_product S (by decide) (by rfl) (a_cons (vn 7) (a_cons (vn 8) a_nil))) (v_call c_product S (by decide) (by rfl) (a_cons (vn 8) (a_cons (vn 7) a_nil)))) (s_one (s_ret v_bl)) s_nil) (s_cons (s_if (b_cmp (op_neX S.room.units) o_neX (nomark _) (v_call c_product S (by decide) (by rfl) (a_cons (v_call c_reached S (by decide) (by rfl) (a_cons (vn 3) (a_cons (vn 9) a_nil))) (a_cons (vn 7) a_nil))) (v_bin (fr := true) op_addL o_addL (v_call c_product S (by decide) (by rfl) (a_cons (vn 7) (a_cons (vn 7) a_nil))) (v_call c_product S (by decide) (by rfl) (a_cons (vn 8) (a_cons (vn 7) a_nil))))) (s_one (s_ret v_bl)) s_nil) (s_cons (s_set (i := 10) sc_law.nd (by rfl) (by first | exact Or.inl rfl | exact Or.inr rfl) (v_call c__law_take S (by decide) (by rfl) (a_cons (vn 2) (a_cons (vn 4) a_nil)))) (s_cons (s_set (i := 11) sc_law.nd (by rfl) (by first | exact Or.inl rfl | exact Or.inr rfl) (v_bin (fr := true) op_addL o_addL (v_bin (fr := true) op_addL o_addL (v_slice (vn 3) so_none (so_some (vn 10))) (mkT (a_cons (v_callT (fr := true) call_tuple_of s_tuple (by rfl) (free "tuple" (by decide)) boot_tuple (a_cons (mkLc S sc_law.nd (i_any (v_ix (vn 3) (vn 10))) (blkOk_by (N := N_law) (sc := (defScope s_law)) (own := [("_law_number", 15)]) (by decide +kernel)) (by decide) (fun s0 H0 C0 cl0 fp0 S => ⟨(gn 15 sc_law.nd), ts_nil, (v_bin (fr := true) op_mulL o_mulL v_int (vn 15))⟩)) a_nil)) a_nil) (lc ln))) (v_slice (vn 3) (so_some (v_bin (fr := true) op_addL o_addL (vn 10) v_int)) so_none))) (s_cons (s_if (PW.pt (bw_or (b_cmp (op_neX S.room.units) o_neX (nomark _) (v_call c_room S (by decide) (by rfl) (a_cons (vn 11) a_nil)) (v_bin (fr := true) op_mulL o_mulL v_int (v_call c_room S (by decide) (by rfl) (a_cons (vn 3) a_nil)))) (bw_or (b_cmp op_notB o_notB (nomark _) (v_call c_is_same S (by decide) (by rfl) (a_cons (vn 3) (a_cons (vn 11) a_nil))) v_bl) (bw_or1 (b_cmp (op_ltX S.room.units) o_ltX (nomark _) (v_call c_room S (by decide) (by rfl) (a_cons (vn 3) a_nil)) v_int))))) (s_one (s_ret v_bl)) s_nil) (s_cons (s_set (i := 12) sc_law.nd (by rfl) (by first | exact Or.inl rfl | exact Or.inr rfl) (v_bin (fr := true) op_addL o_addL (v_slice (vn 3) (so_some v_int) so_none) (v_slice (vn 3) so_none (so_some v_int)))) (s_one (s_if (PW.pt (bw_or (b_cmp op_notB o_notB (nomark _) (v_call c_is_same S (by decide) (by rfl) (a_cons (vn 3) (a_cons (vn 12) a_nil))) v_bl) (bw_or1 (b_cmp (op_neX S.room.units) o_neX (nomark _) (v_call c_room S (by decide) (by rfl) (a_cons (vn 12) a_nil)) (v_call c_room S (by decide) (by rfl) (a_cons (vn 3) a_nil)))))) (s_one (s_ret v_bl)) s_nil)))))))))))))))))) (s_one (s_ret v_bl)))
end L2.GL.LW
end

section
set_option linter.all false
set_option maxRecDepth 10000
namespace L2.GL.LW
open PySem PySem.Spec PyProof.Rows L2.GL
section
variable {G : Gh} {Q : D → Gh → Prop}
@[simp ↓] theorem is_whole_ok {n : Int} : wpM (phi_is_whole [.int n]) G Q ↔ Q (.bl true) G := by
  unfold phi_is_whole
  rw [wp_def]
  simp [b_is_whole]
abbrev p2 (a b : Int) : D := .tup [.int a, .int b]
abbrev p3 (a b c : Int) : D := .tup [.int a, .int b, .int c]
@[simp ↓] theorem is_point2 {a b : Int} : wpM (phi_is_point [p2 a b]) G Q ↔ Q (.bl true) G := by
  unfold phi_is_point
  rw [wp_def]
  simp [b_is_point, wipeE]
@[simp ↓] theorem is_point3 {a b c : Int} : wpM (phi_is_point [p3 a b c]) G Q ↔ Q (.bl true) G := by
  unfold phi_is_point
  rw [wp_def]
  simp [b_is_point, wipeE]
/-- small enough -/
def Sm (n : Nat) (x : Int) : Prop := x.natAbs < 2 ^ n
theorem Sm.log {n : Nat} {x : Int} (h : Sm n x) : x.natAbs.log2 ≤ n := by
  rcases Nat.eq_zero_or_pos x.natAbs with e | e
  · rw [e]; simp
  · exact Nat.le_of_lt ((Nat.log2_lt (by omega)).mpr h)
theorem Sm.bits {a b : Nat} {x y : Int} (h : Sm a x) (k : Sm b y) (z : a + b < 130000000) : bitsOk x y = true := by
  have h1 := h.log
  have h2 := k.log
  unfold bitsOk
  exact decide_eq_true (by omega)
theorem Sm.mul {a b : Nat} {x y : Int} (h : Sm a x) (k : Sm b y) : Sm (a + b) (x * y) := by
  unfold Sm at *
  rw [Int.natAbs_mul, Nat.pow_add]
  exact Nat.mul_lt_mul'' h k
theorem Sm.mono {a b : Nat} {x : Int} (h : Sm a x) (z : a ≤ b) : Sm b x := Nat.lt_of_lt_of_le h (Nat.pow_le_pow_right (by decide) z)
theorem Sm.add {a : Nat} {x y : Int} (h : Sm a x) (k : Sm a y) : Sm (a + 1) (x + y) := by
  unfold Sm at *
  rw [Nat.pow_succ]
  omega
theorem Sm.sub {a : Nat} {x y : Int} (h : Sm a x) (k : Sm a y) : Sm (a + 1) (x - y) := by
  unfold Sm at *
  rw [Nat.pow_succ]
  omega
theorem Sm.neg {a : Nat} {x : Int} (h : Sm a x) : Sm a (-x) := by unfold Sm at *; omega
theorem det2 {a b c d : Int} {n : Nat} (hn : n < 1000000) (ha : Sm n a) (hb : Sm n b) (hc : Sm n c) (hd : Sm n d) : wpM (phi_determinant_1 [.tup [p2 a b, p2 c d]]) G Q ↔ Q (.int (a * d - b * c)) G := by
  unfold phi_determinant_1
  rw [wp_def]
  simp [b_determinant, ha.bits hd (by omega), hb.bits hc (by omega)]
theorem det2' {a b c d : Int} {n : Nat} (hn : n < 1000000) (ha : Sm n a) (hb : Sm n b) (hc : Sm n c) (hd : Sm n d) : wpM (phi_determinant_2 [.tup [p2 a b, p2 c d]]) G Q ↔ Q (.int (a * d - b * c)) G := by
  unfold phi_determinant_2
  rw [wp_def]
  simp [b_determinant, ha.bits hd (by omega), hb.bits hc (by omega)]
theorem det3 {a b c d e f g h i : Int} {n : Nat} (hn : n < 1000000) (ha : Sm n a) (hb : Sm n b) (hc : Sm n c) (hd : Sm n d) (he : Sm n e) (hf : Sm n f) (hg : Sm n g) (hh : Sm n h) (hi : Sm n i) :
    wpM (phi_determinant_2 [.tup [p3 a b c, p3 d e f, p3 g h i]]) G Q ↔ Q (.int (a * (e * i - f * h) - b * (d * i - f * g) + c * (d * h - e * g))) G := by
  have m1 : Sm (n + n + 1) (e * i - f * h) := (he.mul hi).sub (hf.mul hh)
  have m2 : Sm (n + n + 1) (d * i - f * g) := (hd.mul hi).sub (hf.mul hg)
  have m3 : Sm (n + n + 1) (d * h - e * g) := (hd.mul hh).sub (he.mul hg)
  unfold phi_determinant_2
  rw [wp_def]
  simp [b_determinant, cutD, HT.sIx, ↓det2 hn he hf hh hi, ↓det2 hn hd hf hg hi, ↓det2 hn hd he hg hh, ha.bits m1 (by omega), hb.bits m2 (by omega), hc.bits m3 (by omega)]
abbrev dt2 (a b c d : Int) : Int := a * d - b * c
abbrev dt3 (a b c d e f g h i : Int) : Int := a * (e * i - f * h) - b * (d * i - f * g) + c * (d * h - e * g)
/-- all of a pair's numbers -/
def S2 (n : Nat) (a b c d : Int) : Prop := Sm n a ∧ Sm n b ∧ Sm n c ∧ Sm n d
def S3 (n : Nat) (a b c d e f g h i : Int) : Prop := Sm n a ∧ Sm n b ∧ Sm n c ∧ Sm n d ∧ Sm n e ∧ Sm n f ∧ Sm n g ∧ Sm n h ∧ Sm n i
section
variable {a b c d e f g h i x y z : Int} {n : Nat}
theorem dtS2 (hn : n < 1000000) (s : S2 n a b c d) : wpM (phi_determinant [.tup [p2 a b, p2 c d]]) G Q ↔ Q (.int (dt2 a b c d)) G := det2' hn s.1 s.2.1 s.2.2.1 s.2.2.2
theorem dtS3 (hn : n < 1000000) (s : S3 n a b c d e f g h i) : wpM (phi_determinant [.tup [p3 a b c, p3 d e f, p3 g h i]]) G Q ↔ Q (.int (dt3 a b c d e f g h i)) G := by
  obtain ⟨h1, h2, h3, h4, h5, h6, h7, h8, h9⟩ := s
  exact det3 hn h1 h2 h3 h4 h5 h6 h7 h8 h9
theorem steps2 (hn : n < 1000000) (s : S2 n a b c d) : wpM (phi_is_steps [.tup [p2 a b, p2 c d]]) G Q ↔ Q (.bl (!decide (dt2 a b c d = 0))) G := by
  unfold phi_is_steps
  rw [wp_def]
  simp [b_is_steps, wipeE, ↓dtS2 hn s]
theorem steps3 (hn : n < 1000000) (s : S3 n a b c d e f g h i) : wpM (phi_is_steps [.tup [p3 a b c, p3 d e f, p3 g h i]]) G Q ↔ Q (.bl (!decide (dt3 a b c d e f g h i = 0))) G := by
  unfold phi_is_steps
  rw [wp_def]
  simp [b_is_steps, wipeE, ↓dtS3 hn s]
theorem need2 (hn : n < 1000000) (s : S2 n a b c d) (hd : dt2 a b c d ≠ 0) : wpM (phi_need_steps [.tup [p2 a b, p2 c d]]) G Q ↔ Q .non G := by
  unfold phi_need_steps
  rw [wp_def]
  simp [b_need_steps, ↓steps2 hn s, hd]
theorem need3 (hn : n < 1000000) (s : S3 n a b c d e f g h i) (hd : dt3 a b c d e f g h i ≠ 0) : wpM (phi_need_steps [.tup [p3 a b c, p3 d e f, p3 g h i]]) G Q ↔ Q .non G := by
  unfold phi_need_steps
  rw [wp_def]
  simp [b_need_steps, ↓steps3 hn s, hd]
@[simp ↓] theorem needp2 : wpM (phi_need_point [p2 x y, .int 2]) G Q ↔ Q .non G := by
  unfold phi_need_point
  rw [wp_def]
  simp [b_need_point]
@[simp ↓] theorem needp3 : wpM (phi_need_point [p3 x y z, .int 3]) G Q ↔ Q .non G := by
  unfold phi_need_point
  rw [wp_def]
  simp [b_need_point]
theorem room2 (hn : n < 1000000) (s : S2 n a b c d) (hd : dt2 a b c d ≠ 0) : wpM (phi_room [.tup [p2 a b, p2 c d]]) G Q ↔ Q (.int (dt2 a b c d).natAbs) G := by
  unfold phi_room
  rw [wp_def]
  simp [b_room, ↓need2 hn s hd, ↓dtS2 hn s]
theorem room3 (hn : n < 1000000) (s : S3 n a b c d e f g h i) (hd : dt3 a b c d e f g h i ≠ 0) : wpM (phi_room [.tup [p3 a b c, p3 d e f, p3 g h i]]) G Q ↔ Q (.int (dt3 a b c d e f g h i).natAbs) G := by
  unfold phi_room
  rw [wp_def]
  simp [b_room, ↓need3 hn s hd, ↓dtS3 hn s]
@[simp ↓] theorem nums2 : wpM (phi_is_numbers [p2 x y, .int 2]) G Q ↔ Q (.bl true) G := by
  unfold phi_is_numbers
  rw [wp_def]
  simp [b_is_numbers, wipeE]
@[simp ↓] theorem nums3 : wpM (phi_is_numbers [p3 x y z, .int 3]) G Q ↔ Q (.bl true) G := by
  unfold phi_is_numbers
  rw [wp_def]
  simp [b_is_numbers, wipeE]
@[simp ↓] theorem sum2 : wpM (fSum [.lst [.int x, .int y]]) G Q ↔ Q (.int (x + y)) G := by
  rw [wp_sum (ns := [x, y]) rfl]
  simp
@[simp ↓] theorem sum3 : wpM (fSum [.lst [.int x, .int y, .int z]]) G Q ↔ Q (.int (x + (y + z))) G := by
  rw [wp_sum (ns := [x, y, z]) rfl]
  simp
theorem made2 (hn : n < 1000000) (s : S2 n a b c d) (hx : Sm n x) (hy : Sm n y) :
    (∀ {G : Gh} {Q : D → Gh → Prop}, wpM (phi_made_at [.tup [p2 a b, p2 c d], p2 x y, .int 0]) G Q ↔ Q (.int (x * a + y * c)) G) ∧ ∀ {G : Gh} {Q : D → Gh → Prop}, wpM (phi_made_at [.tup [p2 a b, p2 c d], p2 x y, .int 1]) G Q ↔ Q (.int (x * b + y * d)) G := by
  obtain ⟨h1, h2, h3, h4⟩ := s
  constructor <;> intro G Q <;> (unfold phi_made_at; rw [wp_def]; simp [b_made_at, wipeE, hx.bits h1 (by omega), hx.bits h2 (by omega), hy.bits h3 (by omega), hy.bits h4 (by omega)])
theorem made3 (hn : n < 1000000) (s : S3 n a b c d e f g h i) (hx : Sm n x) (hy : Sm n y) (hz : Sm n z) :
    (∀ {G : Gh} {Q : D → Gh → Prop}, wpM (phi_made_at [.tup [p3 a b c, p3 d e f, p3 g h i], p3 x y z, .int 0]) G Q ↔ Q (.int (x * a + (y * d + z * g))) G) ∧
    (∀ {G : Gh} {Q : D → Gh → Prop}, wpM (phi_made_at [.tup [p3 a b c, p3 d e f, p3 g h i], p3 x y z, .int 1]) G Q ↔ Q (.int (x * b + (y * e + z * h))) G) ∧
    ∀ {G : Gh} {Q : D → Gh → Prop}, wpM (phi_made_at [.tup [p3 a b c, p3 d e f, p3 g h i], p3 x y z, .int 2]) G Q ↔ Q (.int (x * c + (y * f + z * i))) G := by
  obtain ⟨h1, h2, h3, h4, h5, h6, h7, h8, h9⟩ := s
  refine ⟨?_, ?_, ?_⟩ <;> intro G Q <;> (unfold phi_made_at; rw [wp_def]; simp [b_made_at, wipeE, hx.bits h1 (by omega), hx.bits h2 (by omega), hx.bits h3 (by omega), hy.bits h4 (by omega), hy.bits h5 (by omega), hy.bits h6 (by omega), hz.bits h7 (by omega), hz.bits h8 (by omega), hz.bits h9 (by omega)])
theorem reached2 (hn : n < 1000000) (s : S2 n a b c d) (hd : dt2 a b c d ≠ 0) (hx : Sm n x) (hy : Sm n y) : wpM (phi_reached [.tup [p2 a b, p2 c d], p2 x y]) G Q ↔ Q (p2 (x * a + y * c) (x * b + y * d)) G := by
  obtain ⟨m1, m2⟩ := made2 hn s hx hy
  unfold phi_reached
  rw [wp_def]
  simp [b_reached, wipeE, ↓need2 hn s hd, m1, m2]
theorem reached3 (hn : n < 1000000) (s : S3 n a b c d e f g h i) (hd : dt3 a b c d e f g h i ≠ 0) (hx : Sm n x) (hy : Sm n y) (hz : Sm n z) :
    wpM (phi_reached [.tup [p3 a b c, p3 d e f, p3 g h i], p3 x y z]) G Q ↔ Q (p3 (x * a + (y * d + z * g)) (x * b + (y * e + z * h)) (x * c + (y * f + z * i))) G := by
  obtain ⟨m1, m2, m3⟩ := made3 hn s hx hy hz
  unfold phi_reached
  rw [wp_def]
  simp [b_reached, wipeE, ↓need3 hn s hd, m1, m2, m3]
theorem wp_app {k : Nat} {fe : EnvD → M D} {env : EnvD} : wpM (appM k fe env) G Q ↔ wpM (getV k env) G fun l G1 => match l with
    | .cell n => wpM (fe env) G1 fun d G2 => ∃ ds, G2[n]? = some ds ∧ (ds.length < sizeLine ∧ d.pure = true) ∧ Q .non (G2.set n (ds ++ [d]))
    | _ => False := by
  unfold appM
  rw [wpM_bind]
  have key : ∀ {n : Nat} {d : D} {G2 : Gh}, wpM (fun G => match G[n]? with
      | some ds => if ds.length < sizeLine ∧ d.pure = true then some (.ok .non, G.set n (ds ++ [d])) else none
      | none => none) G2 Q ↔ ∃ ds, G2[n]? = some ds ∧ (ds.length < sizeLine ∧ d.pure = true) ∧ Q .non (G2.set n (ds ++ [d])) := fun {n d G2} => by
    constructor
    · rintro ⟨a, G', e, q⟩
      dsimp only at e
      split at e
      · rename_i ds h1
        split at e
        · cases e; exact ⟨ds, h1, by assumption, q⟩
        · cases e
      · cases e
    · rintro ⟨ds, h1, h2, q⟩
      exact ⟨_, _, by dsimp only; rw [h1]; dsimp only; rw [if_pos h2], q⟩
  constructor
  · exact fun h => h.mono fun l G1 h => by
      cases l with
      | cell n => rw [wpM_bind] at h; exact h.mono fun d G2 h => key.mp h
      | _ => exact (wpM_stuck.mp h)
  · exact fun h => h.mono fun l G1 h => by
      cases l with
      | cell n => rw [wpM_bind]; exact h.mono fun d G2 h => key.mpr h
      | _ => exact h.elim
end
@[simp] theorem at_end {α : Type} {G : List α} {x : α} : (G ++ [x])[G.length]? = some x := by simp
@[simp] theorem set_end {α : Type} {G : List α} {x y : α} : (G ++ [x]).set G.length y = G ++ [y] := by
  rw [List.set_append_right _ _ (Nat.le_refl _)]
  simp
@[simp] theorem take_end {α : Type} {G : List α} {x : α} : (G ++ [x]).take G.length = G := by simp
theorem wp_tupE {ds : List D} : wpM (fTuple [.cell G.length]) (G ++ [ds]) Q ↔ Q (.tup ds) (G ++ [ds]) := wp_tupC at_end
def nof2 (w s t : Int) : D := if s.fmod w ≠ 0 then .non else if t.fmod w ≠ 0 then .non else p2 (s.fdiv w) (t.fdiv w)
def nof3 (w s t u : Int) : D := if s.fmod w ≠ 0 then .non else if t.fmod w ≠ 0 then .non else if u.fmod w ≠ 0 then .non else p3 (s.fdiv w) (t.fdiv w) (u.fdiv w)
section
variable {a b c d e f g h i x y z : Int} {n : Nat}
theorem S2.dt (s : S2 n a b c d) : Sm (n + n + 1) (dt2 a b c d) := (s.1.mul s.2.2.2).sub (s.2.1.mul s.2.2.1)
theorem S3.dt (s : S3 n a b c d e f g h i) : Sm (n + (n + n + 1) + 2) (dt3 a b c d e f g h i) := by
  obtain ⟨h1, h2, h3, h4, h5, h6, h7, h8, h9⟩ := s
  exact ((h1.mul ((h5.mul h9).sub (h6.mul h8))).sub (h2.mul ((h4.mul h9).sub (h6.mul h7)))).add ((h3.mul ((h4.mul h8).sub (h5.mul h7))).mono (Nat.le_succ _))
theorem nums_of2 (hn : n < 1000) (s : S2 n a b c d) (hd : dt2 a b c d ≠ 0) (hx : Sm n x) (hy : Sm n y) :
    wpM (phi_numbers_of [.tup [p2 a b, p2 c d], p2 x y]) G Q ↔ Q (nof2 (dt2 a b c d) (dt2 x y c d) (dt2 a b x y)) G := by
  have n1 : n < 1000000 := by omega
  have w := s.dt.log
  have s1 : S2 n x y c d := ⟨hx, hy, s.2.2.1, s.2.2.2⟩
  have s2 : S2 n a b x y := ⟨s.1, s.2.1, hx, hy⟩
  have lw : (dt2 a b c d).natAbs.log2 < 9000 := by omega
  unfold phi_numbers_of nof2
  rw [wp_def]
  by_cases q1 : (dt2 x y c d).fmod (dt2 a b c d) = 0
  · by_cases q2 : (dt2 a b x y).fmod (dt2 a b c d) = 0
    · simp [b_numbers_of, wipeE, ↓need2 n1 s hd, ↓dtS2 n1 s, ↓dtS2 n1 s1, ↓dtS2 n1 s2, ↓wpS_cell, D.pureA, cutD, HT.sIx, hd, lw, q1, q2, ↓wp_app, ↓wp_tupE, D.pure]
    · simp [b_numbers_of, wipeE, ↓need2 n1 s hd, ↓dtS2 n1 s, ↓dtS2 n1 s1, ↓dtS2 n1 s2, ↓wpS_cell, D.pureA, cutD, HT.sIx, hd, lw, q1, q2, ↓wp_app, ↓wp_tupE, D.pure]
  · simp [b_numbers_of, wipeE, ↓need2 n1 s hd, ↓dtS2 n1 s, ↓dtS2 n1 s1, ↓dtS2 n1 s2, ↓wpS_cell, D.pureA, cutD, HT.sIx, hd, lw, q1, ↓wp_app, ↓wp_tupE, D.pure]
theorem nums_of3 (hn : n < 1000) (s : S3 n a b c d e f g h i) (hd : dt3 a b c d e f g h i ≠ 0) (hx : Sm n x) (hy : Sm n y) (hz : Sm n z) :
    wpM (phi_numbers_of [.tup [p3 a b c, p3 d e f, p3 g h i], p3 x y z]) G Q ↔ Q (nof3 (dt3 a b c d e f g h i) (dt3 x y z d e f g h i) (dt3 a b c x y z g h i) (dt3 a b c d e f x y z)) G := by
  have n1 : n < 1000000 := by omega
  have w := s.dt.log
  obtain ⟨h1, h2, h3, h4, h5, h6, h7, h8, h9⟩ := id s
  have s1 : S3 n x y z d e f g h i := ⟨hx, hy, hz, h4, h5, h6, h7, h8, h9⟩
  have s2 : S3 n a b c x y z g h i := ⟨h1, h2, h3, hx, hy, hz, h7, h8, h9⟩
  have s3 : S3 n a b c d e f x y z := ⟨h1, h2, h3, h4, h5, h6, hx, hy, hz⟩
  have lw : (dt3 a b c d e f g h i).natAbs.log2 < 9000 := by omega
  unfold phi_numbers_of nof3
  rw [wp_def]
  by_cases q1 : (dt3 x y z d e f g h i).fmod (dt3 a b c d e f g h i) = 0
  · by_cases q2 : (dt3 a b c x y z g h i).fmod (dt3 a b c d e f g h i) = 0
    · by_cases q3 : (dt3 a b c d e f x y z).fmod (dt3 a b c d e f g h i) = 0
      · simp [b_numbers_of, wipeE, ↓need3 n1 s hd, ↓dtS3 n1 s, ↓dtS3 n1 s1, ↓dtS3 n1 s2, ↓dtS3 n1 s3, ↓wpS_cell, D.pureA, cutD, HT.sIx, hd, lw, q1, q2, q3, ↓wp_app, ↓wp_tupE, D.pure]
      · simp [b_numbers_of, wipeE, ↓need3 n1 s hd, ↓dtS3 n1 s, ↓dtS3 n1 s1, ↓dtS3 n1 s2, ↓dtS3 n1 s3, ↓wpS_cell, D.pureA, cutD, HT.sIx, hd, lw, q1, q2, q3, ↓wp_app, ↓wp_tupE, D.pure]
    · simp [b_numbers_of, wipeE, ↓need3 n1 s hd, ↓dtS3 n1 s, ↓dtS3 n1 s1, ↓dtS3 n1 s2, ↓wpS_cell, D.pureA, cutD, HT.sIx, hd, lw, q1, q2, ↓wp_app, ↓wp_tupE, D.pure]
  · simp [b_numbers_of, wipeE, ↓need3 n1 s hd, ↓dtS3 n1 s, ↓dtS3 n1 s1, ↓wpS_cell, D.pureA, cutD, HT.sIx, hd, lw, q1, ↓wp_app, ↓wp_tupE, D.pure]
end
section
variable {a b c d e f g h i x y z : Int} {n : Nat}
theorem Sm.one : Sm 1 1 := by unfold Sm; decide
theorem Sm.m1 : Sm 1 (-1) := by unfold Sm; decide
theorem ldt2 (hn : n < 1000000) (s : S2 n a b c d) : wpM (phi__law_det [.tup [p2 a b, p2 c d]]) G Q ↔ Q (.int (dt2 a b c d)) G := by
  obtain ⟨h1, h2, h3, h4⟩ := s
  unfold phi__law_det
  rw [wp_def]
  simp [b__law_det, h1.bits h4 (by omega), h2.bits h3 (by omega)]
theorem ldt3 (hn : n < 1000000) (s : S3 n a b c d e f g h i) : wpM (phi__law_det [.tup [p3 a b c, p3 d e f, p3 g h i]]) G Q ↔ Q (.int (dt3 a b c d e f g h i)) G := by
  obtain ⟨h1, h2, h3, h4, h5, h6, h7, h8, h9⟩ := s
  have m1 : Sm (n + n + 1) (e * i - f * h) := (h5.mul h9).sub (h6.mul h8)
  have m2 : Sm (n + n + 1) (d * i - f * g) := (h4.mul h9).sub (h6.mul h7)
  have m3 : Sm (n + n + 1) (d * h - e * g) := (h4.mul h8).sub (h5.mul h7)
  have q : a * (e * i - f * h) + -b * (d * i - f * g) + c * (d * h - e * g) = dt3 a b c d e f g h i := by simp only [dt3, Int.neg_mul]; omega
  unfold phi__law_det
  rw [wp_def]
  simp [b__law_det, wipeE, h5.bits h9 (by omega), h6.bits h8 (by omega), h4.bits h9 (by omega), h6.bits h7 (by omega), h4.bits h8 (by omega), h5.bits h7 (by omega), Sm.one.bits h1 (by omega), Sm.m1.bits h2 (by omega), Sm.one.bits h3 (by omega), h1.bits m1 (by omega), h2.neg.bits m2 (by omega), h3.bits m3 (by omega), q]
end
end
end L2.GL.LW
end

section
set_option linter.all false
set_option maxRecDepth 10000
namespace L2.GL.LW
open PySem PySem.Spec PyProof.Rows L2.GL
section
variable {G : Gh} {Q : D → Gh → Prop}
theorem wp_repr {d : D} {p : PyData} (h : toPG G d = some p) (ok : reprOk p = true) : wpM (fRepr [d]) G Q ↔ Q (.str p.shown) G := by
  have e : fRepr [d] G = some (.ok (.str p.shown), G) := by
    unfold fRepr
    dsimp only
    rw [h]
    dsimp only
    rw [if_pos ok]
  constructor
  · rintro ⟨a, G', e', q⟩
    rw [e] at e'
    cases e'
    exact q
  · exact fun q => ⟨_, _, e, q⟩
theorem Sm.shown {i : Int} (h : Sm 1900 i) : (PyData.int i).shown.length ≤ 1921 := by
  have l := h.log
  exact int_text_len_1921 (by omega)
theorem Sm.wt {i : Int} (h : Sm 1900 i) : (if i = 0 then 0 else i.natAbs.log2 + 1) ≤ 1901 := by
  have := h.log
  split <;> omega
theorem ok1 {i : Int} (h : Sm 1900 i) : reprOk (.int i) = true := by
  have w1 := h.wt
  have l := PyData.shown_le 1921 (by decide) (.int i) (by simp [PyData.leavesShort, h.shown])
  unfold reprOk
  simp only [Bool.and_eq_true, decide_eq_true_eq]
  refine ⟨⟨⟨by simp [PyData.showable]; have := h.log; omega, by simp [PyData.depth]⟩, by simp [PyData.hasDict]⟩, ?_⟩
  rw [szl]
  simp [PyData.weight] at l
  omega
theorem ok2 {a b : Int} (ha : Sm 1900 a) (hb : Sm 1900 b) : reprOk (.tuple [.int a, .int b]) = true := by
  have w1 := ha.wt
  have w2 := hb.wt
  have l1 := ha.log
  have l2 := hb.log
  have l := PyData.shown_le 1921 (by decide) (.tuple [.int a, .int b]) (by simp [PyData.leavesShort, PyData.leavesShortAll, ha.shown, hb.shown])
  unfold reprOk
  simp only [Bool.and_eq_true, decide_eq_true_eq]
  refine ⟨⟨⟨by simp [PyData.showable, PyData.showableAll]; omega, by simp [PyData.depth, PyData.depthAll]⟩, by simp [PyData.hasDict, PyData.hasDictAll]⟩, ?_⟩
  rw [szl]
  simp [PyData.weight, PyData.weightAll] at l
  omega
theorem ok3 {a b c : Int} (ha : Sm 1900 a) (hb : Sm 1900 b) (hc : Sm 1900 c) : reprOk (.tuple [.int a, .int b, .int c]) = true := by
  have w1 := ha.wt
  have w2 := hb.wt
  have w3 := hc.wt
  have l1 := ha.log
  have l2 := hb.log
  have l3 := hc.log
  have l := PyData.shown_le 1921 (by decide) (.tuple [.int a, .int b, .int c]) (by simp [PyData.leavesShort, PyData.leavesShortAll, ha.shown, hb.shown, hc.shown])
  unfold reprOk
  simp only [Bool.and_eq_true, decide_eq_true_eq]
  refine ⟨⟨⟨by simp [PyData.showable, PyData.showableAll]; omega, by simp [PyData.depth, PyData.depthAll]⟩, by simp [PyData.hasDict, PyData.hasDictAll]⟩, ?_⟩
  rw [szl]
  simp [PyData.weight, PyData.weightAll] at l
  omega
theorem repr1 {i : Int} (h : Sm 1900 i) : wpM (fRepr [.int i]) G Q ↔ Q (.str (PyData.int i).shown) G := wp_repr rfl (ok1 h)
theorem repr2 {a b : Int} (ha : Sm 1900 a) (hb : Sm 1900 b) : wpM (fRepr [p2 a b]) G Q ↔ Q (.str (PyData.tuple [.int a, .int b]).shown) G := wp_repr rfl (ok2 ha hb)
theorem repr3 {a b c : Int} (ha : Sm 1900 a) (hb : Sm 1900 b) (hc : Sm 1900 c) : wpM (fRepr [p3 a b c]) G Q ↔ Q (.str (PyData.tuple [.int a, .int b, .int c]).shown) G := wp_repr rfl (ok3 ha hb hc)
@[simp ↓] theorem repr0 : wpM (fRepr [.non]) G Q ↔ Q (.str (PyData.shown .none)) G := wp_repr rfl (by decide +kernel)
theorem Sm.quo {n : Nat} {s w : Int} (h : Sm n s) (z : s.fmod w = 0) : Sm n (s.fdiv w) := by
  have e : s = w * s.fdiv w := by
    have := Int.mul_fdiv_add_fmod s w
    omega
  unfold Sm at *
  by_cases w0 : w = 0
  · subst w0
    simp
    exact Nat.pow_pos (by decide)
  · have : s.natAbs = w.natAbs * (s.fdiv w).natAbs := by
      conv => lhs; rw [e]
      exact Int.natAbs_mul _ _
    have w1 : 1 ≤ w.natAbs := by omega
    have := Nat.le_mul_of_pos_left (s.fdiv w).natAbs w1
    omega
/-- the text of nof2, nof3 -/
noncomputable def tx (d : D) : Str := match d.toP with
  | some p => p.shown
  | none => ""
theorem reprN2 {w s t : Int} (hs : Sm 1900 s) (ht : Sm 1900 t) : wpM (fRepr [nof2 w s t]) G Q ↔ Q (.str (tx (nof2 w s t))) G := by
  unfold nof2
  by_cases q1 : s.fmod w = 0
  · by_cases q2 : t.fmod w = 0
    · rw [if_neg (by simp [q1]), if_neg (by simp [q2])]
      exact repr2 (hs.quo q1) (ht.quo q2)
    · rw [if_neg (by simp [q1]), if_pos (by simp [q2])]
      exact repr0
  · rw [if_pos (by simp [q1])]
    exact repr0
theorem reprN3 {w s t u : Int} (hs : Sm 1900 s) (ht : Sm 1900 t) (hu : Sm 1900 u) : wpM (fRepr [nof3 w s t u]) G Q ↔ Q (.str (tx (nof3 w s t u))) G := by
  unfold nof3
  by_cases q1 : s.fmod w = 0
  · by_cases q2 : t.fmod w = 0
    · by_cases q3 : u.fmod w = 0
      · rw [if_neg (by simp [q1]), if_neg (by simp [q2]), if_neg (by simp [q3])]
        exact repr3 (hs.quo q1) (ht.quo q2) (hu.quo q3)
      · rw [if_neg (by simp [q1]), if_neg (by simp [q2]), if_pos (by simp [q3])]
        exact repr0
    · rw [if_neg (by simp [q1]), if_pos (by simp [q2])]
      exact repr0
  · rw [if_pos (by simp [q1])]
    exact repr0
/-! ### Cramer -/
theorem cr2 {a b c d x y : Int} (hd : dt2 a b c d ≠ 0) : nof2 (dt2 a b c d) (dt2 (x * a + y * c) (x * b + y * d) c d) (dt2 a b (x * a + y * c) (x * b + y * d)) = p2 x y := by
  have e1 : dt2 (x * a + y * c) (x * b + y * d) c d = dt2 a b c d * x := by unfold dt2; grind
  have e2 : dt2 a b (x * a + y * c) (x * b + y * d) = dt2 a b c d * y := by unfold dt2; grind
  rw [e1, e2]
  unfold nof2
  rw [if_neg (by simp), if_neg (by simp), Int.mul_fdiv_cancel_left _ hd, Int.mul_fdiv_cancel_left _ hd]
theorem cr3 {a b c d e f g h i x y z : Int} (hd : dt3 a b c d e f g h i ≠ 0) :
    nof3 (dt3 a b c d e f g h i) (dt3 (x * a + y * d + z * g) (x * b + y * e + z * h) (x * c + y * f + z * i) d e f g h i)
      (dt3 a b c (x * a + y * d + z * g) (x * b + y * e + z * h) (x * c + y * f + z * i) g h i)
      (dt3 a b c d e f (x * a + y * d + z * g) (x * b + y * e + z * h) (x * c + y * f + z * i)) = p3 x y z := by
  have e1 : dt3 (x * a + y * d + z * g) (x * b + y * e + z * h) (x * c + y * f + z * i) d e f g h i = dt3 a b c d e f g h i * x := by unfold dt3; grind
  have e2 : dt3 a b c (x * a + y * d + z * g) (x * b + y * e + z * h) (x * c + y * f + z * i) g h i = dt3 a b c d e f g h i * y := by unfold dt3; grind
  have e3 : dt3 a b c d e f (x * a + y * d + z * g) (x * b + y * e + z * h) (x * c + y * f + z * i) = dt3 a b c d e f g h i * z := by unfold dt3; grind
  rw [e1, e2, e3]
  unfold nof3
  rw [if_neg (by simp), if_neg (by simp), if_neg (by simp), Int.mul_fdiv_cancel_left _ hd, Int.mul_fdiv_cancel_left _ hd, Int.mul_fdiv_cancel_left _ hd]
end
end L2.GL.LW
end

section
set_option linter.all false
set_option maxRecDepth 10000
namespace L2.GL.LW
open PySem PySem.Spec PyProof.Rows L2.GL
section
variable {Gp G R : Gh} {Q : D → Gh → Prop}
@[simp] theorem at_mid {α : Type} {G R : List α} {x : α} : (G ++ x :: R)[G.length]? = some x := by simp
@[simp] theorem set_mid {α : Type} {G R : List α} {x y : α} : (G ++ x :: R).set G.length y = G ++ y :: R := by
  rw [List.set_append_right _ _ (Nat.le_refl _)]
  simp
@[simp ↓] theorem wp_ixC {ds : List D} {k : Int} : wpM (ixM (.cell Gp.length) (.int k)) (Gp ++ ds :: R) Q ↔ wpM (liftO (atI ds k)) (Gp ++ ds :: R) Q := by
  rw [show ixM (.cell Gp.length) (.int k) = (getL (.cell Gp.length) >>= fun ds => liftO (atI ds k)) from rfl, wpM_bind]
  have e : getL (.cell Gp.length) (Gp ++ ds :: R) = some (.ok ds, Gp ++ ds :: R) := by
    unfold getL
    dsimp only
    rw [at_mid]
  constructor
  · rintro ⟨a, G', e', h⟩
    rw [e] at e'
    cases e'
    exact h
  · exact fun h => ⟨_, _, e, h⟩
@[simp ↓] theorem wpT_set {fo fi : EnvD → M D} {d : D} {env : EnvD} {QE : EnvD → Gh → Prop} : wpT (gS fo fi) d env G QE ↔ wpM (fo env) G fun o G1 => wpM (fi env) G1 fun i G2 => wpT (fun d env G => setAt o i d env G) d env G2 QE := by
  unfold wpT gS wpM
  constructor
  · rintro ⟨e, G', h, q⟩
    split at h
    · rename_i o G1 h1
      split at h
      · rename_i i G2 h2
        exact ⟨o, G1, h1, i, G2, h2, e, G', h, q⟩
      · cases h
    · cases h
  · rintro ⟨o, G1, h1, i, G2, h2, e, G', h, q⟩
    exact ⟨e, G', by rw [h1]; dsimp only; rw [h2]; exact h, q⟩
@[simp ↓] theorem wpT_set0 {x d : D} {env : EnvD} {QE : EnvD → Gh → Prop} : wpT (fun d env G => setAt (.cell Gp.length) (.int 0) d env G) d env (Gp ++ [x] :: R) QE ↔ d.pure = true ∧ QE env (Gp ++ [d] :: R) := by
  unfold wpT setAt
  dsimp only
  rw [at_mid]
  dsimp only
  rw [show ixN [x].length 0 = some 0 from rfl]
  dsimp only
  by_cases h : d.pure = true
  · rw [if_pos h, set_mid]
    constructor
    · rintro ⟨e, G', h1, q⟩
      cases h1
      exact ⟨h, q⟩
    · exact fun q => ⟨_, _, rfl, q.2⟩
  · rw [if_neg h]
    constructor
    · rintro ⟨e, G', h1, q⟩
      cases h1
    · exact fun q => (h q.1).elim
@[simp] theorem take_same {α : Type} {G R : List α} {y : α} : (G ++ y :: R).take (G.length + (R.length + 1)) = G ++ y :: R := List.take_of_length_le (by simp)
@[simp] theorem take_same1 {α : Type} {G : List α} {y : α} : (G ++ [y]).take (G.length + 1) = G ++ [y] := List.take_of_length_le (by simp)
theorem take_ok {b m : Int} (h : m ≠ 0) (h2 : m.natAbs.log2 < 9000) : wpM (phi__law_take [.cell Gp.length, .int m]) (Gp ++ [.int b] :: R) Q ↔ Q (.int (b.fmod m)) (Gp ++ [.int (b.fdiv m)] :: R) := by
  unfold phi__law_take
  rw [wp_def]
  simp [b__law_take, h, h2, D.pure]
@[irreducible] def dr (s b : Int) : Int := b.fmod (2 * s + 1) - s
@[irreducible] def nx (s b : Int) : Int := b.fdiv (2 * s + 1)
theorem dr_le {s b : Int} (h : 0 ≤ s) : -s ≤ dr s b ∧ dr s b ≤ s := by
  unfold dr
  have h1 := Int.fmod_nonneg_of_pos b (show 0 < 2 * s + 1 by omega)
  have h2 := Int.fmod_lt_of_pos b (show 0 < 2 * s + 1 by omega)
  omega
theorem num_ok {b s : Int} (h : 0 ≤ s) (hs : Sm 98 s) : wpM (phi__law_drawn_number [.cell Gp.length, .int s]) (Gp ++ [.int b] :: R) Q ↔ Q (.int (dr s b)) (Gp ++ [.int (nx s b)] :: R) := by
  have m : Sm 100 (2 * s + 1) := by unfold Sm at *; omega
  have ml := m.log
  have two : Sm 2 2 := by unfold Sm; decide
  have nz : 2 * s + 1 ≠ 0 := by omega
  unfold phi__law_drawn_number dr nx
  rw [wp_def]
  simp [b__law_drawn_number, two.bits hs (by omega), ↓take_ok nz (show (2 * s + 1).natAbs.log2 < 9000 by omega)]
theorem pt2 {b s : Int} (h : 0 ≤ s) (hs : Sm 98 s) : wpM (phi__law_drawn_point [.cell Gp.length, .int 2, .int s]) (Gp ++ [.int b] :: R) Q ↔ Q (p2 (dr s b) (dr s (nx s b))) (Gp ++ [.int (nx s (nx s b))] :: R) := by
  unfold phi__law_drawn_point
  rw [wp_def]
  simp [b__law_drawn_point, wipeE, ↓num_ok h hs]
theorem pt3 {b s : Int} (h : 0 ≤ s) (hs : Sm 98 s) : wpM (phi__law_drawn_point [.cell Gp.length, .int 3, .int s]) (Gp ++ [.int b] :: R) Q ↔ Q (p3 (dr s b) (dr s (nx s b)) (dr s (nx s (nx s b)))) (Gp ++ [.int (nx s (nx s (nx s b)))] :: R) := by
  unfold phi__law_drawn_point
  rw [wp_def]
  simp [b__law_drawn_point, wipeE, ↓num_ok h hs]
end
end L2.GL.LW
end

section
set_option linter.all false
set_option maxRecDepth 10000
namespace L2.GL.LW
open PySem PySem.Spec PyProof.Rows L2.GL
section
variable {Gp G : Gh} {Q : D → Gh → Prop}
theorem dr_sm {s b : Int} {n : Nat} (h : 0 ≤ s) (hs : Sm n s) : Sm n (dr s b) := by
  have := dr_le (b := b) h
  unfold Sm at *
  omega
theorem take6 {b : Int} : wpM (phi__law_take [.cell Gp.length, .int 6]) (Gp ++ [[.int b]]) Q ↔ Q (.int (b.fmod 6)) (Gp ++ [[.int (b.fdiv 6)]]) := take_ok (by decide) (by decide)
theorem take2 {b : Int} : wpM (phi__law_take [.cell Gp.length, .int 2]) (Gp ++ [[.int b]]) Q ↔ Q (.int (b.fmod 2)) (Gp ++ [[.int (b.fdiv 2)]]) := take_ok (by decide) (by decide)
theorem take3 {b : Int} : wpM (phi__law_take [.cell Gp.length, .int 3]) (Gp ++ [[.int b]]) Q ↔ Q (.int (b.fmod 3)) (Gp ++ [[.int (b.fdiv 3)]]) := take_ok (by decide) (by decide)
theorem take4 {b : Int} : wpM (phi__law_take [.cell Gp.length, .int 4]) (Gp ++ [[.int b]]) Q ↔ Q (.int (b.fmod 4)) (Gp ++ [[.int (b.fdiv 4)]]) := take_ok (by decide) (by decide)
theorem two98 : Sm 98 2 := by unfold Sm; decide
theorem pair_ok {b s : Int} (h : 0 ≤ s) (hs : Sm 98 s) (q : ∀ a b c d b' : Int, S2 100 a b c d → dt2 a b c d ≠ 0 → Q (.tup [p2 a b, p2 c d]) (Gp ++ [[.int b']])) :
    wpM (phi__law_drawn_pair [.cell Gp.length, .int s]) (Gp ++ [[.int b]]) Q := by
  have sx : ∀ b, Sm 100 (dr s b) := fun b => (dr_sm h hs).mono (by decide)
  have sy : ∀ b, Sm 100 (-dr s b) := fun b => (sx b).neg
  have sz : ∀ b c, Sm 100 (dr s b + dr 2 c) := fun b c => by
    have h1 : Sm 98 (dr s b) := dr_sm h hs
    have h2 : Sm 98 (dr 2 c) := dr_sm (by decide) two98
    exact (h1.add h2).mono (by decide)
  have so : ∀ b, Sm 100 (dr s b + 1) := fun b => by
    have h1 : Sm 98 (dr s b) := dr_sm h hs
    exact (h1.add (Sm.one.mono (by decide))).mono (by decide)
  have s1 : Sm 100 1 := Sm.one.mono (by decide)
  have dl : ∀ x : Int, dt2 (x + 1) 1 x 1 ≠ 0 := fun x => by simp only [dt2]; omega
  unfold phi__law_drawn_pair
  rw [wp_def]
  by_cases q0 : (nx s (nx s (nx s (nx s b)))).fmod 6 = 0
  · by_cases qd : dt2 (dr s b) (dr s (nx s b)) (-dr s (nx s b)) (dr s b) = 0
    · simp [b__law_drawn_pair, ↓pt2 h hs, ↓take6, q0, ↓ldt2 (show 100 < 1000000 by decide) (⟨sx b, sx (nx s b), sy (nx s b), sx b⟩ : S2 100 (dr s b) (dr s (nx s b)) (-dr s (nx s b)) (dr s b)), qd]
      exact q _ _ _ _ _ ⟨so _, s1, sx _, s1⟩ (dl _)
    · simp [b__law_drawn_pair, ↓pt2 h hs, ↓take6, q0, ↓ldt2 (show 100 < 1000000 by decide) (⟨sx b, sx (nx s b), sy (nx s b), sx b⟩ : S2 100 (dr s b) (dr s (nx s b)) (-dr s (nx s b)) (dr s b)), qd]
      exact q _ _ _ _ _ ⟨sx _, sx _, sy _, sx _⟩ qd
  · by_cases q1 : (nx s (nx s (nx s (nx s b)))).fmod 6 = 1
    · have s2 : ∀ c, S2 100 (dr s b) (dr s (nx s b)) (dr s b + dr 2 c) (dr s (nx s b) + dr 2 (nx 2 c)) := fun c => ⟨sx _, sx _, sz _ _, sz _ _⟩
      by_cases qd : dt2 (dr s b) (dr s (nx s b)) (dr s b + dr 2 ((nx s (nx s (nx s (nx s b)))).fdiv 6)) (dr s (nx s b) + dr 2 (nx 2 ((nx s (nx s (nx s (nx s b)))).fdiv 6))) = 0
      · simp [b__law_drawn_pair, ↓pt2 h hs, ↓pt2 (show (0 : Int) ≤ 2 by decide) two98, ↓take6, q0, q1, ↓ldt2 (show 100 < 1000000 by decide) (s2 _), qd]
        exact q _ _ _ _ _ ⟨so _, s1, sx _, s1⟩ (dl _)
      · simp [b__law_drawn_pair, ↓pt2 h hs, ↓pt2 (show (0 : Int) ≤ 2 by decide) two98, ↓take6, q0, q1, ↓ldt2 (show 100 < 1000000 by decide) (s2 _), qd]
        exact q _ _ _ _ _ (s2 _) qd
    · have s2 : S2 100 (dr s b) (dr s (nx s b)) (dr s (nx s (nx s b))) (dr s (nx s (nx s (nx s b)))) := ⟨sx _, sx _, sx _, sx _⟩
      by_cases qd : dt2 (dr s b) (dr s (nx s b)) (dr s (nx s (nx s b))) (dr s (nx s (nx s (nx s b)))) = 0
      · simp [b__law_drawn_pair, ↓pt2 h hs, ↓take6, q0, q1, ↓ldt2 (show 100 < 1000000 by decide) s2, qd]
        exact q _ _ _ _ _ ⟨so _, s1, sx _, s1⟩ (dl _)
      · simp [b__law_drawn_pair, ↓pt2 h hs, ↓take6, q0, q1, ↓ldt2 (show 100 < 1000000 by decide) s2, qd]
        exact q _ _ _ _ _ s2 qd
theorem three_ok {b s : Int} (h : 0 ≤ s) (hs : Sm 98 s) (q : ∀ a b c d e f g h i b' : Int, S3 100 a b c d e f g h i → dt3 a b c d e f g h i ≠ 0 → Q (.tup [p3 a b c, p3 d e f, p3 g h i]) (Gp ++ [[.int b']])) :
    wpM (phi__law_drawn_three [.cell Gp.length, .int s]) (Gp ++ [[.int b]]) Q := by
  have sx : ∀ b, Sm 100 (dr s b) := fun b => (dr_sm h hs).mono (by decide)
  have so : ∀ b, Sm 100 (1 + ((dr s b).natAbs : Int)) := fun b => by
    have h1 : Sm 98 (dr s b) := dr_sm h hs
    unfold Sm at *
    omega
  have s0 : Sm 100 0 := by unfold Sm; decide
  have s1 : Sm 100 1 := Sm.one.mono (by decide)
  have s2 : Sm 100 2 := two98.mono (by decide)
  have dl : ∀ x y z w : Int, dt3 (1 + (x.natAbs : Int)) 0 0 y 1 0 z w 2 ≠ 0 := fun x y z w => by simp only [dt3]; omega
  have s3 : ∀ c1 c2 c3 c4 c5 c6 c7 c8 c9, S3 100 (dr s c1) (dr s c2) (dr s c3) (dr s c4) (dr s c5) (dr s c6) (dr s c7) (dr s c8) (dr s c9) := fun _ _ _ _ _ _ _ _ _ => ⟨sx _, sx _, sx _, sx _, sx _, sx _, sx _, sx _, sx _⟩
  unfold phi__law_drawn_three
  rw [wp_def]
  by_cases qd : dt3 (dr s b) (dr s (nx s b)) (dr s (nx s (nx s b))) (dr s (nx s (nx s (nx s b)))) (dr s (nx s (nx s (nx s (nx s b))))) (dr s (nx s (nx s (nx s (nx s (nx s b)))))) (dr s (nx s (nx s (nx s (nx s (nx s (nx s b))))))) (dr s (nx s (nx s (nx s (nx s (nx s (nx s (nx s b)))))))) (dr s (nx s (nx s (nx s (nx s (nx s (nx s (nx s (nx s b))))))))) = 0
  · simp [b__law_drawn_three, wipeE, ↓pt3 h hs, ↓ldt3 (show 100 < 1000000 by decide) (s3 _ _ _ _ _ _ _ _ _), qd]
    exact q _ _ _ _ _ _ _ _ _ _ ⟨so _, s0, s0, sx _, s1, s0, sx _, sx _, s2⟩ (dl _ _ _ _)
  · simp [b__law_drawn_three, wipeE, ↓pt3 h hs, ↓ldt3 (show 100 < 1000000 by decide) (s3 _ _ _ _ _ _ _ _ _), qd]
    exact q _ _ _ _ _ _ _ _ _ _ (s3 _ _ _ _ _ _ _ _ _) qd
/-- either pair or three -/
theorem steps_ok {b s : Int} (h : 0 ≤ s) (hs : Sm 98 s) (q2 : ∀ a b c d b' : Int, S2 100 a b c d → dt2 a b c d ≠ 0 → Q (.tup [p2 a b, p2 c d]) (Gp ++ [[.int b']]))
    (q3 : ∀ a b c d e f g h i b' : Int, S3 100 a b c d e f g h i → dt3 a b c d e f g h i ≠ 0 → Q (.tup [p3 a b c, p3 d e f, p3 g h i]) (Gp ++ [[.int b']])) :
    wpM (phi__law_drawn_steps [.cell Gp.length, .int s]) (Gp ++ [[.int b]]) Q := by
  unfold phi__law_drawn_steps
  rw [wp_def]
  unfold b__law_drawn_steps
  by_cases q0 : b.fmod 2 = 0
  · simp only [List.length_cons, List.length_nil, List.map_cons, List.map_nil, List.replicate_zero, List.nil_append, List.append_nil, List.cons_append, true_and, Nat.reduceAdd, Nat.reduceSub, Nat.sub_self, List.replicate, wpS_seq, ↓wpS_if, ↓wpM_bind, ↓wpM_pure, ↓wp_get0, ↓wp_getS, ↓take2, ↓wp_eqI, q0, decide_true, if_true, ↓wpS_ret, ↓thn_rt]
    refine pair_ok h hs fun a b c d b' s2 hd => ?_
    simpa using q2 a b c d b' s2 hd
  · simp only [List.length_cons, List.length_nil, List.map_cons, List.map_nil, List.replicate_zero, List.nil_append, List.append_nil, List.cons_append, true_and, Nat.reduceAdd, Nat.reduceSub, Nat.sub_self, List.replicate, wpS_seq, ↓wpS_if, ↓wpM_bind, ↓wpM_pure, ↓wp_get0, ↓wp_getS, ↓take2, ↓wp_eqI, q0, decide_false, if_false, Bool.false_eq_true, ↓wpS_skip, ↓thn_nx, ↓wpS_ret, ↓thn_rt]
    refine three_ok h hs fun a b c d e f g h i b' s3 hd => ?_
    simpa using q3 a b c d e f g h i b' s3 hd
end
end L2.GL.LW
end

section
set_option linter.all false
set_option maxRecDepth 10000
namespace L2.GL.LW
open PySem PySem.Spec PyProof.Rows L2.GL
section
variable {Gp G : Gh} {Q : D → Gh → Prop}
def cellv (ns : List Int) (k : Nat) : Int := if h : k < ns.length then ns[k] else 0
theorem cell_ok {ns : List Int} {k : Nat} : wpM (phi__law_cell [.lst (ns.map D.int), .int k]) G Q ↔ Q (.int (cellv ns k)) G := by
  unfold phi__law_cell cellv
  rw [wp_def]
  by_cases h : k < ns.length
  · have e : atI (ns.map D.int) (k : Int) = some (.int ns[k]) := atI_nat (by simp [h])
    simp [b__law_cell, h, e]
  · simp [b__law_cell, h]
def tab : List D := [.int 48271, .int 69621, .int 16807, .int 39373, .int 30269, .int 40014, .int 40692, .int 50021, .int 61687, .int 71993, .int 83869, .int 95561, .int 30307]
theorem at13 {t : Int} (h : 0 ≤ t) (h2 : t < 13) : ∃ c : Int, Sm 17 c ∧ atI tab t = some (.int c) := by
  have z : t = 0 ∨ t = 1 ∨ t = 2 ∨ t = 3 ∨ t = 4 ∨ t = 5 ∨ t = 6 ∨ t = 7 ∨ t = 8 ∨ t = 9 ∨ t = 10 ∨ t = 11 ∨ t = 12 := by omega
  rcases z with rfl | rfl | rfl | rfl | rfl | rfl | rfl | rfl | rfl | rfl | rfl | rfl | rfl <;> exact ⟨_, by unfold Sm; decide, rfl⟩
theorem mix_ok {v k : Int} (h : 0 ≤ k) (h2 : k < 40) : ∃ z : Int, Sm 28 z ∧ ∀ {G : Gh} {Q : D → Gh → Prop}, wpM (phi__law_mix [.int v, .int k]) G Q ↔ Q (.int z) G := by
  have r1 := Int.fmod_nonneg_of_pos k (show 0 < 13 by decide)
  have r2 := Int.fmod_lt_of_pos k (show 0 < 13 by decide)
  obtain ⟨c, hc, ec⟩ := at13 r1 r2
  have v1 := Int.fmod_nonneg_of_pos v (show 0 < 2147483647 by decide)
  have v2 := Int.fmod_lt_of_pos v (show 0 < 2147483647 by decide)
  have hv : Sm 33 (v.fmod 2147483647 + 12345) := by unfold Sm; omega
  have hk : Sm 6 k := by unfold Sm; omega
  have hq : Sm 6 (k.fdiv 13) := by
    have := Int.mul_fdiv_add_fmod k 13
    unfold Sm
    omega
  have h977 : Sm 10 977 := by unfold Sm; decide
  have h7919 : Sm 13 7919 := by unfold Sm; decide
  have h48 : Sm 16 48271 := by unfold Sm; decide
  let x : Int := (c * (v.fmod 2147483647 + 12345) + 977 * k + 7919 * k.fdiv 13).fmod 1000000007
  let x' : Int := ((v.fmod 2147483647 + 12345) * c + 977 * k + 7919 * k.fdiv 13).fmod 1000000007
  have x1 : 0 ≤ x' := Int.fmod_nonneg_of_pos _ (show 0 < 1000000007 by decide)
  have x2 : x' < 1000000007 := Int.fmod_lt_of_pos _ (show 0 < 1000000007 by decide)
  have hx : Sm 30 x' := by unfold Sm; omega
  let y : Int := (x' * x' + 48271 * k).fmod 1000000007
  have y1 : 0 ≤ y := Int.fmod_nonneg_of_pos _ (show 0 < 1000000007 by decide)
  have y2 : y < 1000000007 := Int.fmod_lt_of_pos _ (show 0 < 1000000007 by decide)
  refine ⟨y.fdiv 7, ?_, ?_⟩
  · have := Int.mul_fdiv_add_fmod y 7
    have w1 := Int.fmod_nonneg_of_pos y (show 0 < 7 by decide)
    have w2 := Int.fmod_lt_of_pos y (show 0 < 7 by decide)
    unfold Sm
    omega
  · intro G Q
    unfold phi__law_mix
    rw [wp_def]
    unfold tab at ec
    have l13 : Nat.log2 13 < 9000 := by decide
    have l7 : Nat.log2 7 < 9000 := by decide
    simp [b__law_mix, l13, l7, ec, hv.bits hc (by omega), hc.bits hv (by omega), h977.bits hk (by omega), h7919.bits hq (by omega), h48.bits hk (by omega), hx.bits hx (by omega), x', y]
theorem mixes : ∃ f : Int → Nat → Int, ∀ v k, k < 40 → Sm 28 (f v k) ∧ ∀ {G : Gh} {Q : D → Gh → Prop}, wpM (phi__law_mix [.int v, .int k]) G Q ↔ Q (.int (f v k)) G :=
  ⟨fun v k => if h : k < 40 then Classical.choose (mix_ok (v := v) (k := k) (by omega) (by omega)) else 0, fun v k h => by
    dsimp only
    rw [dif_pos h]
    exact Classical.choose_spec (mix_ok (v := v) (k := k) (by omega) (by omega))⟩
noncomputable def mixv : Int → Nat → Int := Classical.choose mixes
theorem mixv_sm {v : Int} {k : Nat} (h : k < 40) : Sm 28 (mixv v k) := (Classical.choose_spec mixes v k h).1
theorem mixv_ok {v : Int} {k : Nat} (h : k < 40) : wpM (phi__law_mix [.int v, .int k]) G Q ↔ Q (.int (mixv v k)) G := (Classical.choose_spec mixes v k h).2
noncomputable def bx : MS := (setS 3 (fun env => do let d ← (fun env => do let d ← (getV 3) env; let e ← (fun _ => pure (.int 142857143)) env; opMulL d e) env; let e ← (fun env => do let ds ← (fun env => do let d ← (getV 2) env; let ds ← (fun env => do let d ← (getV 4) env; let ds ← (fun _ => pure []) env; pure (d :: ds)) env; pure (d :: ds)) env; phi__law_mix ds) env; opAddL d e))
theorem c28 : Sm 28 142857143 := by unfold Sm; decide
theorem bx_ok {cs col : D} {v x : Int} {k : Nat} {K : K4} (h : k < 40) (hx : Sm (29 * k + 1) x) : wpS bx [some cs, some col, some (.int v), some (.int x), some (.int k)] G K ↔ K.nx [some cs, some col, some (.int v), some (.int (x * 142857143 + mixv v k)), some (.int k)] G := by
  simp [bx, hx.bits c28 (by omega), ↓mixv_ok h]
theorem bx_loop {cs col : D} {v : Int} {K : K4} (hK : ∀ x e, K.nx [some cs, some col, some (.int v), some (.int x), e] G) : ∀ (m k : Nat) (x : Int) (e : Option D), k + m ≤ 40 → Sm (29 * k + 1) x → wpF (gN 4) bx (rangeD k m) [some cs, some col, some (.int v), some (.int x), e] G K
  | 0, k, x, e, _, _ => by
    rw [rangeD_zero, wpF_nil]
    exact hK _ _
  | m + 1, k, x, e, h, hx => by
    rw [rangeD_succ, wpF_cons, wpT_name]
    show wpS bx [some cs, some col, some (.int v), some (.int x), some (.int k)] G _
    rw [bx_ok (by omega) hx]
    have s := ((hx.mul c28).add ((mixv_sm (v := v) (show k < 40 by omega)).mono (show 28 ≤ 29 * k + 1 + 28 by omega))).mono (show 29 * k + 1 + 28 + 1 ≤ 29 * (k + 1) + 1 by omega)
    exact bx_loop hK m (k + 1) _ _ (by omega) s
theorem box_ok {ns : List Int} {k : Nat} (q : ∀ b : Int, Q (.lst [.int b]) G) : wpM (phi__law_box [.lst (ns.map D.int), .int k]) G Q := by
  have l2 : Nat.log2 2 < 9000 := by decide
  unfold phi__law_box
  rw [wp_def]
  rw [show b__law_box = seqS (setS 2 _) (seqS (ifS _ (retS _ true) skipS) (seqS (setS 3 _) (seqS (forS _ (gN 4) bx) (retS _ true)))) from rfl]
  by_cases h : (cellv ns k).fmod 2 = 0
  · simp [↓cell_ok, h, l2]
    exact q _
  · simp [-rangeD_succ, ↓cell_ok, h]
    refine bx_loop (fun x e => ?_) 40 0 0 none (by omega) (by unfold Sm; decide)
    simp
    exact q _
end
end L2.GL.LW
end

section
set_option linter.all false
set_option maxRecDepth 10000
namespace L2.GL.LW
open PySem PySem.Spec PyProof.Rows L2.GL
/-! the program's pairs and moves -/
abbrev pr (a b c d : Int) : D := .tup [p2 a b, p2 c d]
inductive Mv where
  | turn
  | about
  | less (k : Int)
def mvD : Mv → D
  | .turn => .tup [.str "turn"]
  | .about => .tup [.str "about"]
  | .less k => .tup [.str "less", .int k]
section
variable {G : Gh} {Q : D → Gh → Prop} {QB : Bool → Gh → Prop} {a b c d k : Int} {n : Nat}
theorem prod_ok (hn : n < 1000000) (h1 : Sm n a) (h2 : Sm n b) (h3 : Sm n c) (h4 : Sm n d) : wpM (phi_product [p2 a b, p2 c d]) G Q ↔ Q (.int (a * c + b * d)) G := by
  unfold phi_product
  rw [wp_def]
  simp [b_product, wipeE, h1.bits h3 (by omega), h2.bits h4 (by omega)]
def isSh (a b c d : Int) : Bool := decide (0 ≤ a * c + b * d) && (decide (2 * (a * c + b * d) ≤ a * a + b * b) && decide (a * a + b * b ≤ c * c + d * d))
@[simp ↓] theorem mv_at0 {m : Mv} : wpM (ixM (mvD m) (.int 0)) G Q ↔ Q (match m with | .turn => .str "turn" | .about => .str "about" | .less _ => .str "less") G := by
  cases m <;> simp [mvD]
theorem ne1 : ¬ ("about" : Str) = "turn" := by decide
theorem ne2 : ¬ ("less" : Str) = "turn" := by decide
theorem ne3 : ¬ ("less" : Str) = "about" := by decide
theorem eqT {a b : List D} : eqX (.tup a) (.tup b) = eqM (.tup a) (.tup b) := rfl
theorem mv_eqs (m : Mv) : ∃ p, ∀ G, toPG G (mvD m) = some p ∧ SeqAt.shaped p = true ∧
    (PyData.eqv p (.tuple [.str "turn"]) = match m with | .turn => true | _ => false) ∧ (PyData.eqv p (.tuple [.str "about"]) = match m with | .about => true | _ => false) := by
  cases m with
  | turn => exact ⟨.tuple [.str "turn"], fun G => ⟨rfl, by decide +kernel, by decide +kernel, by decide +kernel⟩⟩
  | about => exact ⟨.tuple [.str "about"], fun G => ⟨rfl, by decide +kernel, by decide +kernel, by decide +kernel⟩⟩
  | less k => exact ⟨.tuple [.str "less", .int k], fun G => ⟨rfl, by simp [SeqAt.shaped, PyData.canLay0, PyData.canLayAll0, PyData.depth, PyData.depthAll]; decide +kernel, by simp [PyData.eqv, PyData.eqvAll], by simp [PyData.eqv, PyData.eqvAll]⟩⟩
theorem eq_turn {m : Mv} : wpM (eqX (mvD m) (.tup [.str "turn"])) G QB ↔ QB (match m with | .turn => true | _ => false) G := by
  obtain ⟨p, h⟩ := mv_eqs m
  obtain ⟨h1, h2, h3, h4⟩ := h G
  rw [← h3]
  rw [show eqX (mvD m) (.tup [.str "turn"]) = eqM (mvD m) (.tup [.str "turn"]) by cases m <;> rfl]
  exact wp_eqM h1 rfl h2 (by decide +kernel)
theorem eq_about {m : Mv} : wpM (eqX (mvD m) (.tup [.str "about"])) G QB ↔ QB (match m with | .about => true | _ => false) G := by
  obtain ⟨p, h⟩ := mv_eqs m
  obtain ⟨h1, h2, h3, h4⟩ := h G
  rw [← h4]
  rw [show eqX (mvD m) (.tup [.str "about"]) = eqM (mvD m) (.tup [.str "about"]) by cases m <;> rfl]
  exact wp_eqM h1 rfl h2 (by decide +kernel)
@[simp ↓] theorem mv_isi {m : Mv} : wpM (fIsi [mvD m, .ty "tuple"]) G Q ↔ Q (.bl true) G := by cases m <;> simp [mvD]
end
end L2.GL.LW
end

section
set_option linter.all false
set_option maxRecDepth 10000
namespace L2.GL.LW
open PySem PySem.Spec PyProof.Rows L2.GL
/-! the program's is_whole, is_point, is_steps of any thing -/
/-- a point: two or three whole numbers -/
def ptD : D → Bool
  | .tup xs => (xs.length == 2 || xs.length == 3) && xs.all isInt
  | _ => false
def lenT : D → Nat
  | .tup xs => xs.length
  | _ => 0
theorem isInt_iff {d : D} : isInt d = true ↔ ∃ i, d = .int i := by
  cases d <;> simp [isInt]
theorem pt_cases {d : D} (h : ptD d = true) : (∃ a b, d = p2 a b) ∨ ∃ a b c, d = p3 a b c := by
  cases d with
  | tup xs =>
    simp only [ptD, Bool.and_eq_true, Bool.or_eq_true, beq_iff_eq, List.all_eq_true] at h
    obtain ⟨h1, h2⟩ := h
    match xs, h1, h2 with
    | [x, y], _, h2 =>
      obtain ⟨a, rfl⟩ := isInt_iff.mp (h2 x (by simp))
      obtain ⟨b, rfl⟩ := isInt_iff.mp (h2 y (by simp))
      exact .inl ⟨a, b, rfl⟩
    | [x, y, z], _, h2 =>
      obtain ⟨a, rfl⟩ := isInt_iff.mp (h2 x (by simp))
      obtain ⟨b, rfl⟩ := isInt_iff.mp (h2 y (by simp))
      obtain ⟨c, rfl⟩ := isInt_iff.mp (h2 z (by simp))
      exact .inr ⟨a, b, c, rfl⟩
    | [], h1, _ => simp at h1
    | [_], h1, _ => simp at h1
    | _ :: _ :: _ :: _ :: _, h1, _ => simp at h1
  | _ => simp [ptD] at h
theorem ten40 {i : Int} (h : i.natAbs < 10 ^ 40) : Sm 140 i := Nat.lt_of_lt_of_le h (by decide)
section
variable {G : Gh} {Q : D → Gh → Prop} {d : D} {n : Nat}
theorem whole_any (h : okD n d = true) : wpM (phi_is_whole [d]) G Q ↔ Q (.bl (isInt d)) G := by
  unfold phi_is_whole
  rw [wp_def]
  have e : isInt d = ((isInt d || isBl d) && !isBl d) := by cases d <;> rfl
  rw [e]
  by_cases q : isBl d = true <;> by_cases q2 : isInt d = true <;> simp [b_is_whole, ↓isi_int h, ↓isi_bool h, q, q2]
theorem point_any (h : okD (n + 1) d = true) : wpM (phi_is_point [d]) G Q ↔ Q (.bl (ptD d)) G := by
  unfold phi_is_point
  rw [wp_def]
  cases d with
  | tup xs =>
    have ha : okA n xs = true := by simpa using h
    by_cases hl : xs.length = 2 ∨ xs.length = 3
    · have e : ptD (.tup xs) = xs.all isInt := by rcases hl with hl | hl <;> simp [ptD, hl]
      rw [e]
      have st : ∀ x ∈ xs, wpM (phi_is_whole [x]) G fun y G3 => y = .bl (isInt x) ∧ G3 = G := fun x hx => (whole_any (okA_mem ha x hx)).mpr ⟨rfl, rfl⟩
      rcases hl with hl | hl <;> (simp [b_is_point, ↓isi_tuple h, isTup, hl, wipeE]; rw [wpA_iff isInt fun x hx => by simpa using st x hx]; simp)
    · have e : ptD (.tup xs) = false := by simp [ptD]; intro z; omega
      have h2 : ¬ (2 : Int) = xs.length := by omega
      have h3 : ¬ (3 : Int) = xs.length := by omega
      rw [e]
      simp [b_is_point, ↓isi_tuple h, isTup, h2, h3]
  | _ => simp [b_is_point, ↓isi_tuple h, isTup, ptD]
end
/-- steps -/
def Two (d : D) : Prop := ∃ a b c e, d = .tup [p2 a b, p2 c e] ∧ dt2 a b c e ≠ 0
def Tri (x : D) : Prop := ∃ a b c d e f g h i, x = .tup [p3 a b c, p3 d e f, p3 g h i] ∧ dt3 a b c d e f g h i ≠ 0
open Classical in
noncomputable def stD (d : D) : Bool := decide (Two d ∨ Tri d)
open Classical in
theorem stD_iff {d : D} : stD d = true ↔ Two d ∨ Tri d := by unfold stD; simp
theorem stD_no {d : D} (h : ¬ (Two d ∨ Tri d)) : stD d = false := by
  cases q : stD d with
  | true => exact absurd (stD_iff.mp q) h
  | false => rfl
/-- looks like steps -/
def lkD : D → Bool
  | .tup xs => (xs.length == 2 || xs.length == 3) && xs.all fun p => ptD p && lenT p == xs.length
  | _ => false
theorem lk_cases {d : D} (h : lkD d = true) : (∃ a b c e, d = .tup [p2 a b, p2 c e]) ∨ ∃ a b c d' e f g h i, d = .tup [p3 a b c, p3 d' e f, p3 g h i] := by
  cases d with
  | tup xs =>
    simp only [lkD, Bool.and_eq_true, Bool.or_eq_true, beq_iff_eq, List.all_eq_true] at h
    obtain ⟨h1, h2⟩ := h
    match xs, h1, h2 with
    | [x, y], _, h2 =>
      have hx := h2 x (by simp)
      have hy := h2 y (by simp)
      rcases pt_cases hx.1 with ⟨a, b, rfl⟩ | ⟨a, b, c, rfl⟩
      · rcases pt_cases hy.1 with ⟨c, e, rfl⟩ | ⟨c, e, f, rfl⟩
        · exact .inl ⟨a, b, c, e, rfl⟩
        · simp [lenT] at hy
      · simp [lenT] at hx
    | [x, y, z], _, h2 =>
      have hx := h2 x (by simp)
      have hy := h2 y (by simp)
      have hz := h2 z (by simp)
      rcases pt_cases hx.1 with ⟨a, b, rfl⟩ | ⟨a, b, c, rfl⟩
      · simp [lenT] at hx
      rcases pt_cases hy.1 with ⟨d, e, rfl⟩ | ⟨d, e, f, rfl⟩
      · simp [lenT] at hy
      rcases pt_cases hz.1 with ⟨g, i, rfl⟩ | ⟨g, i, j, rfl⟩
      · simp [lenT] at hz
      exact .inr ⟨a, b, c, d, e, f, g, i, j, rfl⟩
    | [], h1, _ => simp at h1
    | [_], h1, _ => simp at h1
    | _ :: _ :: _ :: _ :: _, h1, _ => simp at h1
  | _ => simp [lkD] at h
theorem two_lk {d : D} (h : Two d ∨ Tri d) : lkD d = true := by
  rcases h with ⟨a, b, c, e, rfl, _⟩ | ⟨a, b, c, d', e, f, g, h, i, rfl, _⟩ <;> simp [lkD, ptD, lenT, isInt]
section
variable {G : Gh} {Q : D → Gh → Prop} {d : D} {n : Nat}
theorem ok_S2 {a b c e : Int} (h : okD n (.tup [p2 a b, p2 c e]) = true) : S2 140 a b c e := by
  cases n with
  | zero => simp [okD] at h
  | succ n =>
    cases n with
    | zero => simp [okD] at h
    | succ n =>
      simp only [okD_tup, okA_cons, okA_nil, Bool.and_true, okD_int, Bool.and_eq_true, decide_eq_true_eq] at h
      exact ⟨ten40 h.1.1, ten40 h.1.2, ten40 h.2.1, ten40 h.2.2⟩
theorem ok_S3 {a b c d e f g h i : Int} (k : okD n (.tup [p3 a b c, p3 d e f, p3 g h i]) = true) : S3 140 a b c d e f g h i := by
  cases n with
  | zero => simp [okD] at k
  | succ n =>
    cases n with
    | zero => simp [okD] at k
    | succ n =>
      simp only [okD_tup, okA_cons, okA_nil, Bool.and_true, okD_int, Bool.and_eq_true, decide_eq_true_eq] at k
      obtain ⟨⟨k1, k2, k3⟩, ⟨k4, k5, k6⟩, k7, k8, k9⟩ := k
      exact ⟨ten40 k1, ten40 k2, ten40 k3, ten40 k4, ten40 k5, ten40 k6, ten40 k7, ten40 k8, ten40 k9⟩
theorem steps_any (h : okD (n + 2) d = true) : wpM (phi_is_steps [d]) G Q ↔ Q (.bl (stD d)) G := by
  by_cases hk : lkD d = true
  · rcases lk_cases hk with ⟨a, b, c, e, rfl⟩ | ⟨a, b, c, d', e, f, g, h', i, rfl⟩
    · rw [steps2 (by decide) (ok_S2 h)]
      have q : stD (.tup [p2 a b, p2 c e]) = !decide (dt2 a b c e = 0) := by
        by_cases z : dt2 a b c e = 0
        · rw [stD_no (fun k => by rcases k with ⟨_, _, _, _, k, k2⟩ | ⟨_, _, _, _, _, _, _, _, _, k, _⟩ <;> simp at k; obtain ⟨⟨rfl, rfl⟩, rfl, rfl⟩ := k; exact k2 z)]
          simp [z]
        · rw [stD_iff.mpr (.inl ⟨a, b, c, e, rfl, z⟩)]
          simp [z]
      rw [q]
    · rw [steps3 (by decide) (ok_S3 h)]
      have q : stD (.tup [p3 a b c, p3 d' e f, p3 g h' i]) = !decide (dt3 a b c d' e f g h' i = 0) := by
        by_cases z : dt3 a b c d' e f g h' i = 0
        · rw [stD_no (fun k => by
            rcases k with ⟨_, _, _, _, k, k2⟩ | ⟨_, _, _, _, _, _, _, _, _, k, k2⟩
            · simp at k
            · simp at k
              obtain ⟨⟨rfl, rfl, rfl⟩, ⟨rfl, rfl, rfl⟩, rfl, rfl, rfl⟩ := k
              exact k2 z)]
          simp [z]
        · rw [stD_iff.mpr (.inr ⟨a, b, c, d', e, f, g, h', i, rfl, z⟩)]
          simp [z]
      rw [q]
  · rw [stD_no fun k => hk (two_lk k)]
    unfold phi_is_steps
    rw [wp_def]
    cases d with
    | tup xs =>
      have ha : okA (n + 1) xs = true := by simpa using h
      by_cases hl : xs.length = 2 ∨ xs.length = 3
      · have e : xs.all (fun p => ptD p && lenT p == xs.length) = false := by
          cases z : xs.all (fun p => ptD p && lenT p == xs.length) with
          | false => rfl
          | true => exact absurd (by simp only [lkD, z, Bool.and_true, Bool.or_eq_true, beq_iff_eq]; exact hl) hk
        have st : ∀ x ∈ xs, wpM (andV (phi_is_point [x]) (do let a ← fLen [x]; vB (eqX a (.int xs.length)))) G fun y G3 => y = .bl (ptD x && lenT x == xs.length) ∧ G3 = G := fun x hx => by
          have hx' := okA_mem ha x hx
          by_cases hp : ptD x = true
          · obtain ⟨ys, rfl⟩ : ∃ ys, x = .tup ys := by rcases pt_cases hp with ⟨a, b, rfl⟩ | ⟨a, b, c, rfl⟩ <;> exact ⟨_, rfl⟩
            by_cases hq : ys.length = xs.length
            · simp [↓point_any hx', hp, lenT, hq]
            · have hq' : ¬ (ys.length : Int) = xs.length := by omega
              simp [↓point_any hx', hp, lenT, hq, hq']
          · simp [↓point_any hx', hp]
        have e2 : (xs.all fun p => ptD p && lenT p == xs.length) = false := e
        rcases hl with hl | hl <;> (simp [b_is_steps, ↓isi_tuple h, isTup, hl, wipeE]; rw [wpA_iff (fun p => ptD p && lenT p == xs.length) fun x hx => by simpa using st x hx, e2]; simp)
      · have h2 : ¬ (2 : Int) = xs.length := by omega
        have h3 : ¬ (3 : Int) = xs.length := by omega
        simp [b_is_steps, ↓isi_tuple h, isTup, h2, h3]
    | _ => simp [b_is_steps, ↓isi_tuple h, isTup]
end
end L2.GL.LW
end

section
set_option linter.all false
set_option maxRecDepth 10000
namespace L2.GL.LW
open PySem PySem.Spec PyProof.Rows L2.GL
/-! the same grid -/
def in2 (a b c d x y : Int) : Prop := ∃ m n : Int, x = m * a + n * c ∧ y = m * b + n * d
def in3 (a b c d e f g h i x y z : Int) : Prop := ∃ m n o : Int, x = m * a + n * d + o * g ∧ y = m * b + n * e + o * h ∧ z = m * c + n * f + o * i
theorem nof2_in {a b c d x y : Int} (hd : dt2 a b c d ≠ 0) : nof2 (dt2 a b c d) (dt2 x y c d) (dt2 a b x y) ≠ .non ↔ in2 a b c d x y := by
  constructor
  · intro h
    unfold nof2 at h
    split at h
    · exact absurd rfl h
    split at h
    · exact absurd rfl h
    rename_i q1 q2
    have q1 : (dt2 x y c d).fmod (dt2 a b c d) = 0 := by simpa using q1
    have q2 : (dt2 a b x y).fmod (dt2 a b c d) = 0 := by simpa using q2
    have e1 := Int.mul_fdiv_add_fmod (dt2 x y c d) (dt2 a b c d)
    have e2 := Int.mul_fdiv_add_fmod (dt2 a b x y) (dt2 a b c d)
    rw [q1] at e1
    rw [q2] at e2
    generalize (dt2 x y c d).fdiv (dt2 a b c d) = m at e1
    generalize (dt2 a b x y).fdiv (dt2 a b c d) = n at e2
    refine ⟨m, n, ?_, ?_⟩
    · apply Int.eq_of_mul_eq_mul_left hd
      have : dt2 a b c d * x = dt2 x y c d * a + dt2 a b x y * c := by unfold dt2; grind
      rw [this, ← e1, ← e2]
      grind
    · apply Int.eq_of_mul_eq_mul_left hd
      have : dt2 a b c d * y = dt2 x y c d * b + dt2 a b x y * d := by unfold dt2; grind
      rw [this, ← e1, ← e2]
      grind
  · rintro ⟨m, n, rfl, rfl⟩
    rw [cr2 hd]
    exact fun z => nomatch z
theorem nof3_in {a b c d e f g h i x y z : Int} (hd : dt3 a b c d e f g h i ≠ 0) :
    nof3 (dt3 a b c d e f g h i) (dt3 x y z d e f g h i) (dt3 a b c x y z g h i) (dt3 a b c d e f x y z) ≠ .non ↔ in3 a b c d e f g h i x y z := by
  constructor
  · intro q
    unfold nof3 at q
    split at q
    · exact absurd rfl q
    split at q
    · exact absurd rfl q
    split at q
    · exact absurd rfl q
    rename_i q1 q2 q3
    have q1 : (dt3 x y z d e f g h i).fmod (dt3 a b c d e f g h i) = 0 := by simpa using q1
    have q2 : (dt3 a b c x y z g h i).fmod (dt3 a b c d e f g h i) = 0 := by simpa using q2
    have q3 : (dt3 a b c d e f x y z).fmod (dt3 a b c d e f g h i) = 0 := by simpa using q3
    have e1 := Int.mul_fdiv_add_fmod (dt3 x y z d e f g h i) (dt3 a b c d e f g h i)
    have e2 := Int.mul_fdiv_add_fmod (dt3 a b c x y z g h i) (dt3 a b c d e f g h i)
    have e3 := Int.mul_fdiv_add_fmod (dt3 a b c d e f x y z) (dt3 a b c d e f g h i)
    rw [q1] at e1
    rw [q2] at e2
    rw [q3] at e3
    generalize (dt3 x y z d e f g h i).fdiv (dt3 a b c d e f g h i) = m at e1
    generalize (dt3 a b c x y z g h i).fdiv (dt3 a b c d e f g h i) = n at e2
    generalize (dt3 a b c d e f x y z).fdiv (dt3 a b c d e f g h i) = o at e3
    refine ⟨m, n, o, ?_, ?_, ?_⟩
    · apply Int.eq_of_mul_eq_mul_left hd
      have : dt3 a b c d e f g h i * x = dt3 x y z d e f g h i * a + dt3 a b c x y z g h i * d + dt3 a b c d e f x y z * g := by unfold dt3; grind
      rw [this, ← e1, ← e2, ← e3]
      grind
    · apply Int.eq_of_mul_eq_mul_left hd
      have : dt3 a b c d e f g h i * y = dt3 x y z d e f g h i * b + dt3 a b c x y z g h i * e + dt3 a b c d e f x y z * h := by unfold dt3; grind
      rw [this, ← e1, ← e2, ← e3]
      grind
    · apply Int.eq_of_mul_eq_mul_left hd
      have : dt3 a b c d e f g h i * z = dt3 x y z d e f g h i * c + dt3 a b c x y z g h i * f + dt3 a b c d e f x y z * i := by unfold dt3; grind
      rw [this, ← e1, ← e2, ← e3]
      grind
  · rintro ⟨m, n, o, rfl, rfl, rfl⟩
    rw [cr3 hd]
    exact fun z => nomatch z
theorem unit_of {u D E : Int} (hE : E ≠ 0) (e : D = u * E) (h : D.natAbs = E.natAbs) : u = 1 ∨ u = -1 := by
  rw [e, Int.natAbs_mul] at h
  have p : 0 < E.natAbs := by omega
  have : u.natAbs = 1 := Nat.eq_of_mul_eq_mul_right p (by omega)
  omega
theorem same2 {a b c d e f g h : Int} (h1 : dt2 a b c d ≠ 0) (h2 : dt2 e f g h ≠ 0) (p1 : in2 e f g h a b) (p2 : in2 e f g h c d) :
    (dt2 a b c d).natAbs = (dt2 e f g h).natAbs ↔ in2 a b c d e f ∧ in2 a b c d g h := by
  obtain ⟨m, n, rfl, rfl⟩ := p1
  obtain ⟨o, p, rfl, rfl⟩ := p2
  have ed : dt2 (m * e + n * g) (m * f + n * h) (o * e + p * g) (o * f + p * h) = (m * p - n * o) * dt2 e f g h := by unfold dt2; grind
  constructor
  · intro q
    rcases unit_of h2 ed q with u | u
    · exact ⟨⟨p, -n, by grind, by grind⟩, ⟨-o, m, by grind, by grind⟩⟩
    · exact ⟨⟨-p, n, by grind, by grind⟩, ⟨o, -m, by grind, by grind⟩⟩
  · rintro ⟨⟨r, s, e1, e2⟩, ⟨t, v, e3, e4⟩⟩
    have q : dt2 e f g h = (r * v - s * t) * dt2 (m * e + n * g) (m * f + n * h) (o * e + p * g) (o * f + p * h) := by
      have z : dt2 (r * (m * e + n * g) + s * (o * e + p * g)) (r * (m * f + n * h) + s * (o * f + p * h)) (t * (m * e + n * g) + v * (o * e + p * g)) (t * (m * f + n * h) + v * (o * f + p * h)) = (r * v - s * t) * dt2 (m * e + n * g) (m * f + n * h) (o * e + p * g) (o * f + p * h) := by unfold dt2; grind
      rw [← e1, ← e2, ← e3, ← e4] at z
      exact z
    have n1 := congrArg Int.natAbs ed
    have n2 := congrArg Int.natAbs q
    rw [Int.natAbs_mul] at n1 n2
    generalize (dt2 (m * e + n * g) (m * f + n * h) (o * e + p * g) (o * f + p * h)).natAbs = A at *
    generalize (dt2 e f g h).natAbs = B at *
    apply Nat.dvd_antisymm
    · exact ⟨_, by rw [n2, Nat.mul_comm]⟩
    · exact ⟨_, by rw [n1, Nat.mul_comm]⟩
end L2.GL.LW
end

section
set_option linter.all false
set_option maxRecDepth 10000
namespace L2.GL.LW
open PySem PySem.Spec PyProof.Rows L2.GL
section
variable {a b c d e f g h i m n o p q r s t u : Int}
theorem dt3_mul : dt3 (m * a + n * d + o * g) (m * b + n * e + o * h) (m * c + n * f + o * i) (p * a + q * d + r * g) (p * b + q * e + r * h) (p * c + q * f + r * i) (s * a + t * d + u * g) (s * b + t * e + u * h) (s * c + t * f + u * i) = dt3 m n o p q r s t u * dt3 a b c d e f g h i := by unfold dt3; grind
theorem adj_00 : ((q * u - r * t)) * (m * a + n * d + o * g) + (-(n * u - o * t)) * (p * a + q * d + r * g) + ((n * r - o * q)) * (s * a + t * d + u * g) = dt3 m n o p q r s t u * a := by unfold dt3; grind
theorem adj_01 : ((q * u - r * t)) * (m * b + n * e + o * h) + (-(n * u - o * t)) * (p * b + q * e + r * h) + ((n * r - o * q)) * (s * b + t * e + u * h) = dt3 m n o p q r s t u * b := by unfold dt3; grind
theorem adj_02 : ((q * u - r * t)) * (m * c + n * f + o * i) + (-(n * u - o * t)) * (p * c + q * f + r * i) + ((n * r - o * q)) * (s * c + t * f + u * i) = dt3 m n o p q r s t u * c := by unfold dt3; grind
theorem adj_10 : (-(p * u - r * s)) * (m * a + n * d + o * g) + ((m * u - o * s)) * (p * a + q * d + r * g) + (-(m * r - o * p)) * (s * a + t * d + u * g) = dt3 m n o p q r s t u * d := by unfold dt3; grind
theorem adj_11 : (-(p * u - r * s)) * (m * b + n * e + o * h) + ((m * u - o * s)) * (p * b + q * e + r * h) + (-(m * r - o * p)) * (s * b + t * e + u * h) = dt3 m n o p q r s t u * e := by unfold dt3; grind
theorem adj_12 : (-(p * u - r * s)) * (m * c + n * f + o * i) + ((m * u - o * s)) * (p * c + q * f + r * i) + (-(m * r - o * p)) * (s * c + t * f + u * i) = dt3 m n o p q r s t u * f := by unfold dt3; grind
theorem adj_20 : ((p * t - q * s)) * (m * a + n * d + o * g) + (-(m * t - n * s)) * (p * a + q * d + r * g) + ((m * q - n * p)) * (s * a + t * d + u * g) = dt3 m n o p q r s t u * g := by unfold dt3; grind
theorem adj_21 : ((p * t - q * s)) * (m * b + n * e + o * h) + (-(m * t - n * s)) * (p * b + q * e + r * h) + ((m * q - n * p)) * (s * b + t * e + u * h) = dt3 m n o p q r s t u * h := by unfold dt3; grind
theorem adj_22 : ((p * t - q * s)) * (m * c + n * f + o * i) + (-(m * t - n * s)) * (p * c + q * f + r * i) + ((m * q - n * p)) * (s * c + t * f + u * i) = dt3 m n o p q r s t u * i := by unfold dt3; grind
end
theorem same3 {a b c d e f g h i a' b' c' d' e' f' g' h' i' : Int} (h1 : dt3 a' b' c' d' e' f' g' h' i' ≠ 0) (h2 : dt3 a b c d e f g h i ≠ 0)
    (p1 : in3 a b c d e f g h i a' b' c') (p2 : in3 a b c d e f g h i d' e' f') (p3 : in3 a b c d e f g h i g' h' i') :
    (dt3 a' b' c' d' e' f' g' h' i').natAbs = (dt3 a b c d e f g h i).natAbs ↔ in3 a' b' c' d' e' f' g' h' i' a b c ∧ in3 a' b' c' d' e' f' g' h' i' d e f ∧ in3 a' b' c' d' e' f' g' h' i' g h i := by
  obtain ⟨m, n, o, rfl, rfl, rfl⟩ := p1
  obtain ⟨p, q, r, rfl, rfl, rfl⟩ := p2
  obtain ⟨s, t, u, rfl, rfl, rfl⟩ := p3
  have ed := dt3_mul (a := a) (b := b) (c := c) (d := d) (e := e) (f := f) (g := g) (h := h) (i := i) (m := m) (n := n) (o := o) (p := p) (q := q) (r := r) (s := s) (t := t) (u := u)
  constructor
  · intro w
    rcases unit_of h2 ed w with z | z
    · refine ⟨⟨((q * u - r * t)), (-(n * u - o * t)), ((n * r - o * q)), by have y := adj_00 (a := a) (d := d) (g := g) (m := m) (n := n) (o := o) (p := p) (q := q) (r := r) (s := s) (t := t) (u := u); rw [z, Int.one_mul] at y; exact y.symm, by have y := adj_01 (b := b) (e := e) (h := h) (m := m) (n := n) (o := o) (p := p) (q := q) (r := r) (s := s) (t := t) (u := u); rw [z, Int.one_mul] at y; exact y.symm, by have y := adj_02 (c := c) (f := f) (i := i) (m := m) (n := n) (o := o) (p := p) (q := q) (r := r) (s := s) (t := t) (u := u); rw [z, Int.one_mul] at y; exact y.symm⟩, ⟨(-(p * u - r * s)), ((m * u - o * s)), (-(m * r - o * p)), by have y := adj_10 (a := a) (d := d) (g := g) (m := m) (n := n) (o := o) (p := p) (q := q) (r := r) (s := s) (t := t) (u := u); rw [z, Int.one_mul] at y; exact y.symm, by have y := adj_11 (b := b) (e := e) (h := h) (m := m) (n := n) (o := o) (p := p) (q := q) (r := r) (s := s) (t := t) (u := u); rw [z, Int.one_mul] at y; exact y.symm, by have y := adj_12 (c := c) (f := f) (i := i) (m := m) (n := n) (o := o) (p := p) (q := q) (r := r) (s := s) (t := t) (u := u); rw [z, Int.one_mul] at y; exact y.symm⟩, ⟨((p * t - q * s)), (-(m * t - n * s)), ((m * q - n * p)), by have y := adj_20 (a := a) (d := d) (g := g) (m := m) (n := n) (o := o) (p := p) (q := q) (r := r) (s := s) (t := t) (u := u); rw [z, Int.one_mul] at y; exact y.symm, by have y := adj_21 (b := b) (e := e) (h := h) (m := m) (n := n) (o := o) (p := p) (q := q) (r := r) (s := s) (t := t) (u := u); rw [z, Int.one_mul] at y; exact y.symm, by have y := adj_22 (c := c) (f := f) (i := i) (m := m) (n := n) (o := o) (p := p) (q := q) (r := r) (s := s) (t := t) (u := u); rw [z, Int.one_mul] at y; exact y.symm⟩⟩
    · refine ⟨⟨(-((q * u - r * t))), (-(-(n * u - o * t))), (-((n * r - o * q))), by have y := adj_00 (a := a) (d := d) (g := g) (m := m) (n := n) (o := o) (p := p) (q := q) (r := r) (s := s) (t := t) (u := u); rw [z] at y; simp only [Int.neg_mul, Int.neg_neg, Int.one_mul] at y ⊢; omega, by have y := adj_01 (b := b) (e := e) (h := h) (m := m) (n := n) (o := o) (p := p) (q := q) (r := r) (s := s) (t := t) (u := u); rw [z] at y; simp only [Int.neg_mul, Int.neg_neg, Int.one_mul] at y ⊢; omega, by have y := adj_02 (c := c) (f := f) (i := i) (m := m) (n := n) (o := o) (p := p) (q := q) (r := r) (s := s) (t := t) (u := u); rw [z] at y; simp only [Int.neg_mul, Int.neg_neg, Int.one_mul] at y ⊢; omega⟩, ⟨(-(-(p * u - r * s))), (-((m * u - o * s))), (-(-(m * r - o * p))), by have y := adj_10 (a := a) (d := d) (g := g) (m := m) (n := n) (o := o) (p := p) (q := q) (r := r) (s := s) (t := t) (u := u); rw [z] at y; simp only [Int.neg_mul, Int.neg_neg, Int.one_mul] at y ⊢; omega, by have y := adj_11 (b := b) (e := e) (h := h) (m := m) (n := n) (o := o) (p := p) (q := q) (r := r) (s := s) (t := t) (u := u); rw [z] at y; simp only [Int.neg_mul, Int.neg_neg, Int.one_mul] at y ⊢; omega, by have y := adj_12 (c := c) (f := f) (i := i) (m := m) (n := n) (o := o) (p := p) (q := q) (r := r) (s := s) (t := t) (u := u); rw [z] at y; simp only [Int.neg_mul, Int.neg_neg, Int.one_mul] at y ⊢; omega⟩, ⟨(-((p * t - q * s))), (-(-(m * t - n * s))), (-((m * q - n * p))), by have y := adj_20 (a := a) (d := d) (g := g) (m := m) (n := n) (o := o) (p := p) (q := q) (r := r) (s := s) (t := t) (u := u); rw [z] at y; simp only [Int.neg_mul, Int.neg_neg, Int.one_mul] at y ⊢; omega, by have y := adj_21 (b := b) (e := e) (h := h) (m := m) (n := n) (o := o) (p := p) (q := q) (r := r) (s := s) (t := t) (u := u); rw [z] at y; simp only [Int.neg_mul, Int.neg_neg, Int.one_mul] at y ⊢; omega, by have y := adj_22 (c := c) (f := f) (i := i) (m := m) (n := n) (o := o) (p := p) (q := q) (r := r) (s := s) (t := t) (u := u); rw [z] at y; simp only [Int.neg_mul, Int.neg_neg, Int.one_mul] at y ⊢; omega⟩⟩
  · rintro ⟨⟨k1, k2, k3, e1, e2, e3⟩, ⟨k4, k5, k6, e4, e5, e6⟩, ⟨k7, k8, k9, e7, e8, e9⟩⟩
    have z := dt3_mul (m := k1) (n := k2) (o := k3) (p := k4) (q := k5) (r := k6) (s := k7) (t := k8) (u := k9) (a := (m * a + n * d + o * g)) (b := (m * b + n * e + o * h)) (c := (m * c + n * f + o * i)) (d := (p * a + q * d + r * g)) (e := (p * b + q * e + r * h)) (f := (p * c + q * f + r * i)) (g := (s * a + t * d + u * g)) (h := (s * b + t * e + u * h)) (i := (s * c + t * f + u * i))
    rw [← e1, ← e2, ← e3, ← e4, ← e5, ← e6, ← e7, ← e8, ← e9] at z
    have n1 := congrArg Int.natAbs ed
    have n2 := congrArg Int.natAbs z
    rw [Int.natAbs_mul] at n1 n2
    apply Nat.dvd_antisymm
    · exact ⟨_, by rw [Nat.mul_comm]; exact n2⟩
    · exact ⟨_, by rw [Nat.mul_comm]; exact n1⟩
end L2.GL.LW
end

section
set_option linter.all false
set_option maxRecDepth 10000
namespace L2.GL.LW
open PySem PySem.Spec PyProof.Rows L2.GL
section
variable {G : Gh} {Q : D → Gh → Prop} {a b c d e f g h i a' b' c' d' e' f' g' h' i' x y z : Int}
def no2 (a b c d x y : Int) : Bool := isNon (nof2 (dt2 a b c d) (dt2 x y c d) (dt2 a b x y))
def no3 (a b c d e f g h i x y z : Int) : Bool := isNon (nof3 (dt3 a b c d e f g h i) (dt3 x y z d e f g h i) (dt3 a b c x y z g h i) (dt3 a b c d e f x y z))
theorem isNon_iff {d : D} : isNon d = false ↔ d ≠ .non := by cases d <;> simp [isNon]
theorem no2_in (hd : dt2 a b c d ≠ 0) : no2 a b c d x y = false ↔ in2 a b c d x y := by
  unfold no2
  rw [isNon_iff]
  exact nof2_in hd
theorem no3_in (hd : dt3 a b c d e f g h i ≠ 0) : no3 a b c d e f g h i x y z = false ↔ in3 a b c d e f g h i x y z := by
  unfold no3
  rw [isNon_iff]
  exact nof3_in hd
theorem isNum2 (s : S2 200 a b c d) (hd : dt2 a b c d ≠ 0) (hx : Sm 200 x) (hy : Sm 200 y) {QB : D → Gh → Prop} : wpM (phi_numbers_of [.tup [p2 a b, p2 c d], p2 x y]) G QB ↔ QB (nof2 (dt2 a b c d) (dt2 x y c d) (dt2 a b x y)) G := nums_of2 (by decide) s hd hx hy
theorem same_2 (s : S2 200 a b c d) (s' : S2 200 a' b' c' d') (hd : dt2 a b c d ≠ 0) (hd' : dt2 a' b' c' d' ≠ 0) :
    wpM (phi_is_same [.tup [p2 a b, p2 c d], .tup [p2 a' b', p2 c' d']]) G Q ↔ Q (.bl (decide ((dt2 a b c d).natAbs = (dt2 a' b' c' d').natAbs) && !no2 a' b' c' d' a b && !no2 a' b' c' d' c d)) G := by
  have n1 : 200 < 1000000 := by decide
  have ee : ((dt2 a b c d).natAbs : Int) = ((dt2 a' b' c' d').natAbs : Int) ↔ (dt2 a b c d).natAbs = (dt2 a' b' c' d').natAbs := Int.ofNat_inj
  unfold phi_is_same no2
  rw [wp_def]
  by_cases w : (dt2 a b c d).natAbs = (dt2 a' b' c' d').natAbs
  · by_cases q1 : isNon (nof2 (dt2 a' b' c' d') (dt2 a b c' d') (dt2 a' b' a b)) = true
    · simp [b_is_same, wipeE, ↓need2 n1 s hd, ↓need2 n1 s' hd', ↓room2 n1 s hd, ↓room2 n1 s' hd', w, ↓isNum2 s' hd' s.1 s.2.1, q1]
    · have q1 : isNon (nof2 (dt2 a' b' c' d') (dt2 a b c' d') (dt2 a' b' a b)) = false := by simpa using q1
      simp [b_is_same, wipeE, ↓need2 n1 s hd, ↓need2 n1 s' hd', ↓room2 n1 s hd, ↓room2 n1 s' hd', w, ↓isNum2 s' hd' s.1 s.2.1, ↓isNum2 s' hd' s.2.2.1 s.2.2.2, q1]
      cases isNon (nof2 (dt2 a' b' c' d') (dt2 c d c' d') (dt2 a' b' c d)) <;> simp
  · have w' := eq_false (fun z => w (ee.mp z))
    simp [b_is_same, wipeE, ↓need2 n1 s hd, ↓need2 n1 s' hd', ↓room2 n1 s hd, ↓room2 n1 s' hd', w, w']
theorem one_2 (hd : dt2 a b c d ≠ 0) (hd' : dt2 a' b' c' d' ≠ 0) : (decide ((dt2 a b c d).natAbs = (dt2 a' b' c' d').natAbs) && !no2 a' b' c' d' a b && !no2 a' b' c' d' c d) = (!no2 a b c d a' b' && !no2 a b c d c' d' && !no2 a' b' c' d' a b && !no2 a' b' c' d' c d) := by
  rw [Bool.eq_iff_iff]
  simp only [Bool.and_eq_true, Bool.not_eq_true', decide_eq_true_eq, no2_in hd, no2_in hd']
  constructor
  · rintro ⟨⟨h1, h2⟩, h3⟩
    have := (same2 hd hd' h2 h3).mp h1
    exact ⟨⟨this, h2⟩, h3⟩
  · rintro ⟨⟨h1, h2⟩, h3⟩
    exact ⟨⟨(same2 hd hd' h2 h3).mpr h1, h2⟩, h3⟩
theorem isNum3 (s : S3 200 a b c d e f g h i) (hd : dt3 a b c d e f g h i ≠ 0) (hx : Sm 200 x) (hy : Sm 200 y) (hz : Sm 200 z) {QB : D → Gh → Prop} : wpM (phi_numbers_of [.tup [p3 a b c, p3 d e f, p3 g h i], p3 x y z]) G QB ↔ QB (nof3 (dt3 a b c d e f g h i) (dt3 x y z d e f g h i) (dt3 a b c x y z g h i) (dt3 a b c d e f x y z)) G := nums_of3 (by decide) s hd hx hy hz
theorem same_3 (s : S3 200 a b c d e f g h i) (s' : S3 200 a' b' c' d' e' f' g' h' i') (hd : dt3 a b c d e f g h i ≠ 0) (hd' : dt3 a' b' c' d' e' f' g' h' i' ≠ 0) :
    wpM (phi_is_same [.tup [p3 a b c, p3 d e f, p3 g h i], .tup [p3 a' b' c', p3 d' e' f', p3 g' h' i']]) G Q ↔ Q (.bl (decide ((dt3 a b c d e f g h i).natAbs = (dt3 a' b' c' d' e' f' g' h' i').natAbs) && !no3 a' b' c' d' e' f' g' h' i' a b c && !no3 a' b' c' d' e' f' g' h' i' d e f && !no3 a' b' c' d' e' f' g' h' i' g h i)) G := by
  have n1 : 200 < 1000000 := by decide
  have ee : ((dt3 a b c d e f g h i).natAbs : Int) = ((dt3 a' b' c' d' e' f' g' h' i').natAbs : Int) ↔ (dt3 a b c d e f g h i).natAbs = (dt3 a' b' c' d' e' f' g' h' i').natAbs := Int.ofNat_inj
  obtain ⟨h1, h2, h3, h4, h5, h6, h7, h8, h9⟩ := id s
  obtain ⟨k1, k2, k3, k4, k5, k6, k7, k8, k9⟩ := id s'
  unfold phi_is_same
  rw [wp_def]
  by_cases w : (dt3 a b c d e f g h i).natAbs = (dt3 a' b' c' d' e' f' g' h' i').natAbs
  · cases q1 : no3 a' b' c' d' e' f' g' h' i' a b c <;> cases q2 : no3 a' b' c' d' e' f' g' h' i' d e f <;> cases q3 : no3 a' b' c' d' e' f' g' h' i' g h i <;> unfold no3 at q1 q2 q3 <;>
      simp [b_is_same, wipeE, ↓need3 n1 s hd, ↓need3 n1 s' hd', ↓room3 n1 s hd, ↓room3 n1 s' hd', w, ↓isNum3 s' hd' h1 h2 h3, ↓isNum3 s' hd' h4 h5 h6, ↓isNum3 s' hd' h7 h8 h9, q1, q2, q3]
  · have w' := eq_false (fun z => w (ee.mp z))
    simp [b_is_same, wipeE, ↓need3 n1 s hd, ↓need3 n1 s' hd', ↓room3 n1 s hd, ↓room3 n1 s' hd', w, w']
theorem one_3 (hd : dt3 a b c d e f g h i ≠ 0) (hd' : dt3 a' b' c' d' e' f' g' h' i' ≠ 0) : (decide ((dt3 a b c d e f g h i).natAbs = (dt3 a' b' c' d' e' f' g' h' i').natAbs) && !no3 a' b' c' d' e' f' g' h' i' a b c && !no3 a' b' c' d' e' f' g' h' i' d e f && !no3 a' b' c' d' e' f' g' h' i' g h i) = (!no3 a b c d e f g h i a' b' c' && !no3 a b c d e f g h i d' e' f' && !no3 a b c d e f g h i g' h' i' && !no3 a' b' c' d' e' f' g' h' i' a b c && !no3 a' b' c' d' e' f' g' h' i' d e f && !no3 a' b' c' d' e' f' g' h' i' g h i) := by
  rw [Bool.eq_iff_iff]
  simp only [Bool.and_eq_true, Bool.not_eq_true', decide_eq_true_eq, no3_in hd, no3_in hd']
  constructor
  · rintro ⟨⟨⟨h1, h2⟩, h3⟩, h4⟩
    obtain ⟨u, v, w⟩ := (same3 hd hd' h2 h3 h4).mp h1
    exact ⟨⟨⟨⟨⟨u, v⟩, w⟩, h2⟩, h3⟩, h4⟩
  · rintro ⟨⟨⟨⟨⟨u, v⟩, w⟩, h2⟩, h3⟩, h4⟩
    exact ⟨⟨⟨(same3 hd hd' h2 h3 h4).mpr ⟨u, v, w⟩, h2⟩, h3⟩, h4⟩
theorem same_23 {n m : Nat} (hn : n < 1000000) (hm : m < 1000000) (s : S2 n a b c d) (s' : S3 m a' b' c' d' e' f' g' h' i') (hd : dt2 a b c d ≠ 0) (hd' : dt3 a' b' c' d' e' f' g' h' i' ≠ 0) :
    wpM (phi_is_same [.tup [p2 a b, p2 c d], .tup [p3 a' b' c', p3 d' e' f', p3 g' h' i']]) G Q ↔ Q (.bl false) G := by
  unfold phi_is_same
  rw [wp_def]
  simp [b_is_same, ↓need2 hn s hd, ↓need3 hm s' hd']
theorem same_32 {n m : Nat} (hn : n < 1000000) (hm : m < 1000000) (s : S2 n a b c d) (s' : S3 m a' b' c' d' e' f' g' h' i') (hd : dt2 a b c d ≠ 0) (hd' : dt3 a' b' c' d' e' f' g' h' i' ≠ 0) :
    wpM (phi_is_same [.tup [p3 a' b' c', p3 d' e' f', p3 g' h' i'], .tup [p2 a b, p2 c d]]) G Q ↔ Q (.bl false) G := by
  unfold phi_is_same
  rw [wp_def]
  simp [b_is_same, ↓need2 hn s hd, ↓need3 hm s' hd']
end
end L2.GL.LW
end

section
set_option linter.all false
set_option maxRecDepth 10000
set_option maxHeartbeats 1000000
namespace L2.GL.LW
open PySem PySem.Spec PyProof.Rows L2.GL
open TL (numL tl numL_digits numL_ne numL_free numL_val numL_len tl_num)
/-! numbers written, and read -/
def strL (l : List Nat) : Str := ⟨l.toArray⟩
theorem tl_strL (l : List Nat) : tl (strL l) = l := by simp [tl, strL]
theorem strL_len (l : List Nat) : (strL l).length = l.length := by rw [TL.len_tl, tl_strL]
theorem strL_tl (x : Str) : strL (tl x) = x := TL.mk_tl x
/-- the signs of a whole number -/
def sgL (n : Int) : List Nat := if n < 0 then 45 :: numL n.natAbs else numL n.natAbs
/-- a whole number's text -/
def sN (n : Int) : Str := strL (sgL n)
def Sz (n : Int) : Prop := n.natAbs < 10 ^ 50
theorem sg_len {n : Int} (h : Sz n) : (sgL n).length ≤ 51 := by
  have := numL_len (n := n.natAbs) (k := 50) (by decide) h
  unfold sgL
  split
  · simp; omega
  · omega
theorem sg_free {n : Int} {s : Nat} (h : s < 45 ∨ s = 46 ∨ s = 47 ∨ 57 < s) : s ∉ sgL n := by
  have h2 := numL_free (n := n.natAbs) (s := s)
  unfold sgL
  split
  · simp only [List.mem_cons, not_or]
    by_cases q : s < 48 ∨ 57 < s
    · exact ⟨by omega, h2 q⟩
    · omega
  · by_cases q : s < 48 ∨ 57 < s
    · exact h2 q
    · omega
theorem head_num : ∀ n : Nat, 0 < n → (numL n).head? ≠ some 48 := by
  intro n
  induction n using Nat.strongRecOn with
  | _ n ih =>
    intro h0
    by_cases h : n < 10
    · rw [TL.numL_lt h]
      simp
      omega
    · rw [TL.numL_step (by omega)]
      have := ih (n / 10) (by omega) (by omega)
      have ne := numL_ne (n / 10)
      cases q : numL (n / 10) with
      | nil => exact absurd q ne
      | cons x r =>
        rw [q] at this
        simpa using this
theorem num0 : numL 0 = [48] := TL.numL_lt (by decide)
section
variable {G : Gh} {Q : D → Gh → Prop} {n : Int}
theorem wp_revC {k : Nat} {ds : List D} (h : G[k]? = some ds) : wpM (revX (.cell k)) G Q ↔ Q (.lst ds.reverse) G := by
  rw [show revX (.cell k) = (getL (.cell k) >>= fun ds => pure (.lst ds.reverse)) from rfl, wpM_bind]
  constructor
  · rintro ⟨a, G', e', z⟩
    rw [show getL (.cell k) G = some (.ok ds, G) by simp [getL, h]] at e'
    cases e'
    exact wpM_pure.mp z
  · intro z
    exact ⟨ds, G, by simp [getL, h], wpM_pure.mpr z⟩
theorem join_one (a : Str) : Txt.join "" [a] = a := by
  refine TL.ext_tl ?_
  rw [TL.join_eq, TL.tl_join]
  rfl
theorem empty_len : ("" : Str).length = 0 := by decide
theorem minus_len : ("-" : Str).length = 1 := by decide
theorem join_two (l : List Nat) : Txt.join "" ["-", strL l] = strL (45 :: l) := by
  refine TL.ext_tl ?_
  rw [TL.join_eq, TL.tl_join, tl_strL]
  simp only [List.map_cons, List.map_nil, tl_strL]
  rfl
theorem shown_int {m : Nat} : (PyData.int (m : Int)).shown = strL (numL m) := by
  rw [← tl_num m, strL_tl]
  simp only [PyData.shown]
theorem shownumber_ok (h : Sz n) : wpM (phi_show_number [.int n]) G Q ↔ Q (.str (sN n)) G := by
  refine wpM_det (fun Q q => ?_) Q
  unfold phi_show_number
  rw [wp_def]
  unfold b_show_number
  have hb : ¬ (1000000000000000000000000000000000000000000000000000000000000 : Int) ≤ (n.natAbs : Int) := by unfold Sz at h; omega
  have hm : Sm 167 n := Nat.lt_trans h (by decide)
  have hs : n.natAbs.log2 < 1920 := Nat.lt_of_le_of_lt hm.log (by decide)
  simp [wpS_cell]
  refine ⟨rfl, ?_⟩
  refine wpS_wh ?_
  simp [hb, ↓wp_app, hs, D.pure]
  have hl := numL_len (n := n.natAbs) (k := 50) (by decide) h
  split
  · rename_i hn
    rw [wp_revC at_end]
    rw [show ([D.str (PyData.int (n.natAbs : Int)).shown, D.str (Str.ofString "-")] : List D).reverse = (["-", strL (numL n.natAbs)] : List Str).map D.str by rw [shown_int]; rfl]
    rw [wp_join (by simp [strL_len, minus_len, empty_len]; omega), join_two]
    simpa [sN, sgL, hn] using q
  · rename_i hn
    rw [wp_revC at_end]
    rw [show ([D.str (PyData.int (n.natAbs : Int)).shown] : List D).reverse = ([strL (numL n.natAbs)] : List Str).map D.str by rw [shown_int]; rfl]
    rw [wp_join (by simp [strL_len, empty_len]; omega), join_one]
    simpa [sN, sgL, hn] using q
theorem joinL_len (S : List Nat) : ∀ ps : List (List Nat), (TL.joinL S ps).length ≤ (ps.map List.length).sum + ps.length * S.length
  | [] => by simp [TL.joinL]
  | [p] => by simp [TL.joinL]
  | p :: q :: r => by
    have ih := joinL_len S (q :: r)
    have e : TL.joinL S (p :: q :: r) = p ++ (S ++ TL.joinL S (q :: r)) := rfl
    rw [e]
    simp only [List.length_append, List.map_cons, List.sum_cons, List.length_cons, Nat.add_mul, Nat.one_mul] at ih ⊢
    omega
theorem join_len (y : Str) (ps : List Str) : (Txt.join y ps).length ≤ (ps.map (·.length)).sum + ps.length * y.length := by
  have h := joinL_len (tl y) (ps.map tl)
  rw [TL.len_tl, TL.join_eq, TL.tl_join, TL.len_tl y]
  have e : (ps.map tl).map List.length = ps.map (·.length) := by
    rw [List.map_map]
    exact List.map_congr_left fun p _ => (TL.len_tl p).symm
  rw [e, List.length_map] at h
  exact h
theorem joinL_free {S : List Nat} {s : Nat} (hS : s ∉ S) : ∀ ps : List (List Nat), (∀ p ∈ ps, s ∉ p) → s ∉ TL.joinL S ps
  | [], _ => by simp [TL.joinL]
  | [p], h => h p (by simp)
  | p :: q :: r, h => by
    have ih := joinL_free hS (q :: r) fun z hz => h z (List.mem_cons_of_mem _ hz)
    have e : TL.joinL S (p :: q :: r) = p ++ (S ++ TL.joinL S (q :: r)) := rfl
    rw [e]
    simp only [List.mem_append, not_or]
    exact ⟨h p (by simp), hS, ih⟩
theorem join_free {y : Str} {s : Nat} {ps : List Str} (hy : s ∉ tl y) (h : ∀ p ∈ ps, s ∉ tl p) : s ∉ tl (Txt.join y ps) := by
  rw [TL.join_eq, TL.tl_join]
  refine joinL_free hy _ fun p hp => ?_
  obtain ⟨z, hz, rfl⟩ := List.mem_map.mp hp
  exact h z hz
/-- a point's text, the steps' text -/
def sP (ns : List Int) : Str := Txt.join "," (ns.map sN)
def sS (rows : List (List Int)) : Str := Txt.join " " (rows.map sP)
def ptI (ns : List Int) : D := .tup (ns.map D.int)
def stI (rows : List (List Int)) : D := .tup (rows.map ptI)
def Row (ns : List Int) : Prop := (ns.length = 2 ∨ ns.length = 3) ∧ ∀ n ∈ ns, Sz n
theorem sN_len {n : Int} (h : Sz n) : (sN n).length ≤ 51 := by
  unfold sN
  rw [strL_len]
  exact sg_len h
theorem comma_len : ("," : Str).length = 1 := by decide
theorem blank_len : (" " : Str).length = 1 := by decide
theorem sum_le {α : Type} {f : α → Nat} {k : Nat} : ∀ {l : List α}, (∀ x ∈ l, f x ≤ k) → (l.map f).sum ≤ l.length * k
  | [], _ => by simp
  | x :: l, h => by
    have ih := sum_le (l := l) fun z hz => h z (List.mem_cons_of_mem _ hz)
    have := h x (by simp)
    simp only [List.map_cons, List.sum_cons, List.length_cons, Nat.add_mul, Nat.one_mul]
    omega
theorem sP_sum {ns : List Int} (h : Row ns) : (((ns.map sN).map (·.length)).sum + (ns.map sN).length * ("," : Str).length) ≤ 200 := by
  have e : (ns.map sN).map (·.length) = ns.map fun n => (sN n).length := by rw [List.map_map]; rfl
  have := sum_le (l := ns) (f := fun n => (sN n).length) (k := 51) fun n hn => sN_len (h.2 n hn)
  rw [e, List.length_map, comma_len]
  rcases h.1 with hl | hl <;> rw [hl] at this ⊢ <;> omega
theorem sP_len {ns : List Int} (h : Row ns) : (sP ns).length ≤ 200 := Nat.le_trans (join_len _ _) (sP_sum h)
theorem sS_sum {rows : List (List Int)} (hl : rows.length ≤ 3) (h : ∀ ns ∈ rows, Row ns) : (((rows.map sP).map (·.length)).sum + (rows.map sP).length * (" " : Str).length) ≤ 700 := by
  have e : (rows.map sP).map (·.length) = rows.map fun n => (sP n).length := by rw [List.map_map]; rfl
  have := sum_le (l := rows) (f := fun n => (sP n).length) (k := 200) fun n hn => sP_len (h n hn)
  rw [e, List.length_map, blank_len]
  have : rows.length * 200 ≤ 600 := by omega
  omega
theorem sS_len {rows : List (List Int)} (hl : rows.length ≤ 3) (h : ∀ ns ∈ rows, Row ns) : (sS rows).length ≤ 700 := Nat.le_trans (join_len _ _) (sS_sum hl h)
theorem wpC_img {α : Type} {ft : MT} {tt : EnvD → M Bool} {te : EnvD → M D} {env : EnvD} {QL : List D → Gh → Prop} {f g : α → D} {xs : List α} {acc : List D} (hl : acc.length + xs.length ≤ sizeLine) (q : QL (acc ++ xs.map g) G)
    (step : ∀ x ∈ xs, wpT ft (f x) env G fun e G1 => wpM (tt e) G1 fun b G2 => b = true ∧ wpM (te e) G2 fun y G3 => y = g x ∧ G3 = G) : wpC ft tt te env (xs.map f) acc G QL := by
  induction xs generalizing acc with
  | nil => rw [List.map_nil, wpC_nil]; simpa using q
  | cons x xs ih =>
    rw [List.map_cons, wpC_cons]
    obtain ⟨e1, G1, q1, b, G2, q2, rfl, y, G3, q3, rfl, rfl⟩ := step x List.mem_cons_self
    refine ⟨e1, G1, q1, true, G2, q2, ?_⟩
    rw [List.length_cons] at hl
    simp only [if_true]
    exact ⟨_, _, q3, by omega, ih (by rw [List.length_append, List.length_singleton]; omega) (by simpa using q) fun z hz => step z (List.mem_cons_of_mem _ hz)⟩
theorem row_sz {ns : List Int} (h : Row ns) : 0 + ns.length ≤ sizeLine := by
  rw [szl]
  rcases h.1 with z | z <;> omega
theorem showpoint_ok {ns : List Int} (h : Row ns) : wpM (phi_show_point [ptI ns]) G Q ↔ Q (.str (sP ns)) G := by
  refine wpM_det (fun Q q => ?_) Q
  unfold phi_show_point ptI
  rw [wp_def]
  simp [b_show_point, -wpC_cons]
  refine wpC_img (g := fun n => .str (sN n)) (row_sz h) ?_ fun n hn => ?_
  · rw [List.nil_append, show (ns.map fun n => D.str (sN n)) = (ns.map sN).map D.str by rw [List.map_map]; rfl, wp_join (Nat.le_trans (sP_sum h) (by decide))]
    simpa [sP] using q
  · simp [wipeE, ↓shownumber_ok (h.2 n hn)]
theorem show_ok {rows : List (List Int)} (hl : rows.length ≤ 3) (h : ∀ ns ∈ rows, Row ns) (hn : ∀ G Q, wpM (phi_need_steps [stI rows]) G Q ↔ Q .non G) : wpM (phi_show [stI rows]) G Q ↔ Q (.str (sS rows)) G := by
  refine wpM_det (fun Q q => ?_) Q
  unfold phi_show
  rw [wp_def]
  simp [b_show, -wpC_cons, ↓hn]
  rw [show walkM (stI rows) = walkM (.tup (rows.map ptI)) from rfl]
  simp [-wpC_cons]
  refine wpC_img (g := fun ns => .str (sP ns)) (by rw [szl]; simp; omega) ?_ fun ns hns => ?_
  · rw [List.nil_append, show (rows.map fun n => D.str (sP n)) = (rows.map sP).map D.str by rw [List.map_map]; rfl, wp_join (Nat.le_trans (sS_sum hl h) (by decide))]
    simpa [sS] using q
  · simp [wipeE, ↓showpoint_ok (h ns hns)]
/-! ### a number's text, looked at -/
theorem starts1 (x : Nat) (t : List Nat) : Txt.startswith (strL (x :: t)) "-" = decide (x = 45) := by
  have e : ("-" : Str) = strL [45] := by decide
  rw [e]
  unfold Txt.startswith Builtin.Str.subAt
  simp only [strL_len]
  by_cases h : x = 45
  · simp [strL, h]
  · simp [strL, h]
theorem num_cons (m : Nat) : ∃ x t, numL m = x :: t ∧ 48 ≤ x ∧ x ≤ 57 := by
  have ne := numL_ne m
  have hd := numL_digits m
  cases q : numL m with
  | nil => exact absurd q ne
  | cons x t =>
    rw [q] at hd
    exact ⟨x, t, rfl, hd x (by simp)⟩
theorem starts_sN : Txt.startswith (sN n) "-" = decide (n < 0) := by
  unfold sN sgL
  by_cases h : n < 0
  · rw [if_pos h, starts1]
    simp [h]
  · obtain ⟨x, t, e, h1, h2⟩ := num_cons n.natAbs
    rw [if_neg h, e, starts1]
    have : ¬ x = 45 := by omega
    simp [h, this]
theorem cut1 (l : List Nat) (x : Nat) : cutS (strL (x :: l)) (some 1) none = strL l := by
  unfold cutS
  rw [show (some (1 : Int)) = some ((1 : Nat) : Int) from rfl, HT.sIx_nat, HT.sIx_none, strL_len]
  simp [strL]
theorem signs_strL (l : List Nat) : signsD (strL l) = l.map fun c => D.str ⟨#[c]⟩ := by
  unfold signsD strL
  simp
theorem fig_in {c : Nat} (h : 48 ≤ c ∧ c ≤ 57) : c ∈ ("0123456789" : Str).cps.toList := by
  have : ("0123456789" : Str).cps.toList = [48, 49, 50, 51, 52, 53, 54, 55, 56, 57] := by decide
  rw [this]
  have : c = 48 ∨ c = 49 ∨ c = 50 ∨ c = 51 ∨ c = 52 ∨ c = 53 ∨ c = 54 ∨ c = 55 ∨ c = 56 ∨ c = 57 := by omega
  rcases this with z | z | z | z | z | z | z | z | z | z <;> subst z <;> simp
theorem wp_slS {z : Str} {l u : Option Int} (h : z.length ≤ sizeLine) : wpM (slM (.str z) l u) G Q ↔ Q (.str (cutS z l u)) G := by
  rw [show slM (.str z) l u = if z.length ≤ sizeLine then Pure.pure (.str (cutS z l u)) else stuck from rfl, if_pos h, wpM_pure]
theorem wp_walkS {z : Str} {QL : List D → Gh → Prop} : wpM (walkM (.str z)) G QL ↔ QL (signsD z) G := wpM_pure
theorem wp_ixS0 {x : Nat} {t : List Nat} (h : (strL (x :: t)).length ≤ sizeLine) : wpM (ixM (.str (strL (x :: t))) (.int 0)) G Q ↔ Q (.str (strL [x])) G := by
  have e : ixM (.str (strL (x :: t))) (.int 0) = if (strL (x :: t)).length ≤ sizeLine then (match atI (strL (x :: t)).cps.toList 0 with
    | some c => pure (.str (oneSign c))
    | none => stuck) else stuck := rfl
  rw [e, if_pos h]
  have e2 : atI (strL (x :: t)).cps.toList 0 = some x := by
    simp [strL, atI, ixN]
  rw [e2, wpM_pure]
  rfl
theorem eq_zero {x : Nat} {t : List Nat} : strL (x :: t) = ("0" : Str) ↔ x = 48 ∧ t = [] := by
  have e : ("0" : Str) = strL [48] := by decide
  rw [e]
  constructor
  · intro h
    have := congrArg tl h
    simpa [tl_strL] using this
  · rintro ⟨rfl, rfl⟩
    rfl
theorem ne_empty {x : Nat} {t : List Nat} : ¬ strL (x :: t) = ("" : Str) := by
  intro h
  have := congrArg (·.length) h
  simp [strL_len, empty_len] at this
@[simp ↓] theorem wp_orV {m k : M D} : wpM (orV m k) G Q ↔ wpM m G fun d G1 => match d with | .bl true => Q (.bl true) G1 | .bl false => wpM k G1 Q | _ => False := by
  unfold orV
  rw [wpM_bind]
  constructor
  · rintro ⟨d, G1, e, z⟩
    refine ⟨d, G1, e, ?_⟩
    split at z
    · exact wpM_pure.mp z
    · exact z
    · obtain ⟨_, _, zz, _⟩ := z; cases zz
  · rintro ⟨d, G1, e, z⟩
    refine ⟨d, G1, e, ?_⟩
    split at z
    · exact wpM_pure.mpr z
    · exact z
    · exact z.elim
theorem all_figs {a b : Option D} {l : List Nat} {QB : Bool → Gh → Prop} (hl : NumText.AllDigits l) : wpA false (gN 2) (fun _ => pure true) (fun env => do let d ← getV 2 env; vB (inS d (D.str ("0123456789" : Str)))) (wipeE [a, b, none] [2]) (signsD (strL l)) G QB ↔ QB true G := by
  rw [wpA_iff (fun _ => true)]
  · rw [show (signsD (strL l)).all (fun _ => true) = true by simp]
  · intro d hd
    rw [signs_strL] at hd
    obtain ⟨c, hc, rfl⟩ := List.mem_map.mp hd
    have := fig_in (hl c hc)
    simp [wipeE, -Array.mem_toList_iff, this]
theorem isnum_ok (h : Sz n) : wpM (phi_is_number_text [.str (sN n)]) G Q ↔ Q (.bl true) G := by
  unfold phi_is_number_text
  rw [wp_def]
  have hsz := sN_len h
  have hz : (sN n).length ≤ sizeLine := Nat.le_trans hsz (by rw [szl]; decide)
  obtain ⟨x, t, e1, h1, h2⟩ := num_cons n.natAbs
  have hd := numL_digits n.natAbs
  rw [e1] at hd
  have q0 := @eq_zero x t
  by_cases hn : n < 0
  · have e : sN n = strL (45 :: x :: t) := by simp [sN, sgL, hn, e1]
    have hx : ¬ x = 48 := by
      have := head_num n.natAbs (by omega)
      rw [e1] at this
      simpa using this
    rw [e] at hz ⊢
    have hz2 : (strL (x :: t)).length ≤ sizeLine := by
      rw [strL_len] at hz ⊢
      simp only [List.length_cons] at hz ⊢
      omega
    have q1 := @eq_zero x []
    simp only [hx, false_and, iff_false] at q0 q1
    simp [b_is_number_text, starts1, ↓wp_slS hz, cut1, ne_empty, ↓wp_walkS, ↓all_figs hd, ↓wp_ixS0 hz2, q1]
  · have e : sN n = strL (x :: t) := by simp [sN, sgL, hn, e1]
    have hm : ¬ x = 45 := by omega
    rw [e] at hz ⊢
    by_cases hx : x = 48
    · have h0 : n.natAbs = 0 := by
        have := head_num n.natAbs
        rw [e1] at this
        simp only [List.head?_cons, ne_eq, Option.some.injEq] at this
        omega
      have ht : t = [] := by
        rw [h0, num0] at e1
        exact (List.cons.inj e1).2.symm
      subst hx ht
      have q2 := eq_true ((@eq_zero 48 []).mpr ⟨rfl, rfl⟩)
      have q3 : Txt.startswith (strL [48]) "-" = false := by rw [starts1]; decide
      simp [b_is_number_text, q3, ne_empty, ↓wp_walkS, ↓all_figs hd, ↓wp_ixS0 hz, q2]
    · have q1 := @eq_zero x []
      simp only [hx, false_and, iff_false] at q0 q1
      simp [b_is_number_text, starts1, hm, ne_empty, ↓wp_walkS, ↓all_figs hd, ↓wp_ixS0 hz, q1]
/-! ### the number of a text -/
theorem strL_app (x y : List Nat) : strL x ++ strL y = strL (x ++ y) := by
  refine TL.ext_tl ?_
  rw [TL.tl_append, tl_strL, tl_strL, tl_strL]
theorem wp_addS {a b : Str} (h : a.length + b.length ≤ sizeLine) : wpM (opAddL (.str a) (.str b)) G Q ↔ Q (.str (a ++ b)) G := by
  rw [show opAddL (.str a) (.str b) = if a.length + b.length ≤ sizeLine then Pure.pure (.str (a ++ b)) else stuck from rfl, if_pos h, wpM_pure]
theorem wp_lenS {a : Str} (h : a.length ≤ sizeLine) : wpM (fLen [.str a]) G Q ↔ Q (.int a.length) G := by
  rw [show fLen [.str a] = if a.length ≤ sizeLine then Pure.pure (.int a.length) else stuck from rfl, if_pos h, wpM_pure]
theorem cutAll (l : List Nat) : cutS (strL l) (some 0) (some (l.length : Int)) = strL l := by
  unfold cutS
  rw [show (some (0 : Int)) = some ((0 : Nat) : Int) from rfl, HT.sIx_nat, HT.sIx_nat, strL_len]
  simp [strL]
theorem int0 {l : List Nat} (h : NumText.AllDigits l) (h2 : l.length ≤ 600) : intText? (strL (48 :: l)) = some (NumText.digitsVal l : Int) := by
  have e : (strL (48 :: l)).cps.toList = 48 :: l := by simp [strL]
  have := intText_digits (x := strL (48 :: l)) (by rw [e]; intro c hc; exact (List.mem_cons.mp hc).elim (fun z => by omega) (h c)) (by rw [e]; simp) (by rw [strL_len]; simp; omega)
  rw [e] at this
  rw [this, NumText.digitsVal_zero]
/-- what the loop of number_of makes of at most 51 figures -/
theorem numof_ok (h : Sz n) : wpM (phi_number_of [.str (sN n)]) G Q ↔ Q (.int n) G := by
  refine wpM_det (fun Q q => ?_) Q
  unfold phi_number_of
  rw [wp_def]
  have hl := numL_len (n := n.natAbs) (k := 50) (by decide) h
  have hd := numL_digits n.natAbs
  have hv := numL_val n.natAbs
  have ne := numL_ne n.natAbs
  generalize hL : numL n.natAbs = l at hl hd hv ne
  have hz : (strL (45 :: l)).length ≤ sizeLine := by rw [strL_len, szl]; simp; omega
  have hz2 : (strL l).length ≤ sizeLine := by rw [strL_len, szl]; omega
  have hm : (l.length : Int).fmod 60 = l.length := by rw [Int.fmod_eq_emod_of_nonneg _ (by decide)]; omega
  have hz3 : ("0" : Str).length + (strL l).length ≤ sizeLine := by rw [strL_len, szl, show ("0" : Str).length = 1 by decide]; omega
  have h0 : ("0" : Str) ++ strL l = strL (48 :: l) := by
    rw [show ("0" : Str) = strL [48] by decide, strL_app]
    rfl
  have hi := int0 hd (by omega)
  have hl6 : (strL (48 :: l)).length ≤ 640 := by rw [strL_len]; simp; omega
  have hf : ¬ ((l.length : Int) + 60 ≤ l.length) := by omega
  have hb : bitsOk 0 1000000000000000000000000000000000000000000000000000000000000 = true := by decide
  by_cases hn : n < 0
  · have e : sN n = strL (45 :: l) := by simp [sN, sgL, hn, hL]
    rw [e]
    unfold b_number_of
    simp [starts1, ↓wp_slS hz, cut1, ↓wp_lenS hz2, strL_len, hm]
    refine wpS_wh ?_
    simp [↓wp_lenS hz2, strL_len, hb, ↓wp_slS hz2, cutAll, ↓wp_addS hz3, h0, ↓wp_intS hi hl6]
    refine wpS_wh ?_
    simp [↓wp_lenS hz2, strL_len, hf, starts1]
    rw [hv]
    have : -(n.natAbs : Int) = n := by omega
    simpa [this] using q
  · have e : sN n = strL l := by simp [sN, sgL, hn, hL]
    have hs := @starts_sN n
    rw [e] at hs ⊢
    unfold b_number_of
    simp [hs, hn, ↓wp_lenS hz2, strL_len, hm]
    refine wpS_wh ?_
    simp [↓wp_lenS hz2, strL_len, hb, ↓wp_slS hz2, cutAll, ↓wp_addS hz3, h0, ↓wp_intS hi hl6]
    refine wpS_wh ?_
    simp [↓wp_lenS hz2, strL_len, hf, hs, hn]
    rw [hv]
    have : (n.natAbs : Int) = n := by omega
    simpa [this] using q
/-! ### a text read -/
theorem ints_pure : ∀ ns : List Int, D.pureA (ns.map D.int) = true
  | [] => rfl
  | n :: ns => by simp [D.pureA, D.pure, ints_pure ns]
theorem stI_pure : ∀ {rows : List (List Int)}, D.pureA (rows.map ptI) = true
  | [] => rfl
  | n :: ns => by simp [D.pureA, D.pure, ptI, ints_pure, stI_pure]
theorem read_ok {rows : List (List Int)} (hl : rows.length = 2 ∨ rows.length = 3) (h : ∀ ns ∈ rows, Row ns) (hn : ∀ G Q, wpM (phi_is_steps [stI rows]) G Q ↔ Q (.bl true) G) : wpM (phi_read [.str (sS rows)]) G Q ↔ Q (stI rows) G := by
  refine wpM_det (fun Q q => ?_) Q
  have hS := sS_len (rows := rows) (by omega) h
  have s1 : Txt.split (sS rows) " " = rows.map sP := TL.split_join (y := " ") (s := 32) (S := []) (by decide) (by rw [← Array.all_toList]; decide) (by intro z; have := congrArg List.length z; simp at this; subst this; simp at hl) (by
    intro p hp
    obtain ⟨ns, hns, rfl⟩ := List.mem_map.mp hp
    refine join_free (by decide) fun z hz => ?_
    obtain ⟨n, _, rfl⟩ := List.mem_map.mp hz
    rw [sN, tl_strL]
    exact sg_free (by decide))
  have s2 : ∀ ns ∈ rows, Txt.split (sP ns) "," = ns.map sN := fun ns hns => TL.split_join (y := ",") (s := 44) (S := []) (by decide) (by rw [← Array.all_toList]; decide) (by intro z; have := congrArg List.length z; have h3 := (h ns hns).1; simp at this; subst this; simp at h3) (by
    intro p hp
    obtain ⟨n, _, rfl⟩ := List.mem_map.mp hp
    rw [sN, tl_strL]
    exact sg_free (by decide))
  unfold phi_read
  rw [wp_def]
  unfold b_read
  have w1 : ∀ {G : Gh} {Q : D → Gh → Prop}, wpM (fIsi [D.str (sS rows), D.ty "str"]) G Q ↔ Q (.bl true) G := isi_eq rfl (by decide +kernel)
  simp [-wpC_cons, ↓w1]
  rw [wp_split (by rw [blank_len]; rfl) (by rw [szl]; omega), s1, wp_walkL]
  rw [show (rows.map sP).map D.str = rows.map fun ns => D.str (sP ns) by rw [List.map_map]; rfl]
  refine wpC_img (g := fun ns => .lst ((ns.map sN).map D.str)) (by rw [szl]; simp; omega) ?_ fun ns hns => ?_
  · rw [List.nil_append, wp_allM2 (g := fun d => match d with | .lst ds => ds | _ => []) (f := fun _ => true) (ds := rows.map fun ns => .lst ((ns.map sN).map D.str))]
    · simp [-wpC_cons]
      refine wpC_img (g := ptI) (by rw [szl]; simp; omega) ?_ fun ns hns => ?_
      · rw [List.nil_append, show D.tup (rows.map ptI) = stI rows from rfl, hn]
        simp
        rw [pure_convA stI_pure]
        exact q
      · simp [wipeE, -wpC_cons]
        refine wpC_img (f := fun n => D.str (sN n)) (g := D.int) (row_sz (h ns hns)) ?_ fun n hn => ?_
        · exact ⟨rfl, rfl⟩
        · simp [wipeE, ↓numof_ok ((h ns hns).2 n hn)]
    · intro QL
      simp
    · intro d hd
      obtain ⟨ns, hns, rfl⟩ := List.mem_map.mp hd
      simp [wipeE]
      intro p hp
      obtain ⟨n, hn, rfl⟩ := List.mem_map.mp hp
      simp [wipeE, ↓isnum_ok ((h ns hns).2 n hn)]
  · have h2 := sP_len (h ns hns)
    simp [wipeE]
    rw [wp_split (by rw [comma_len]; rfl) (by rw [szl]; omega), s2 ns hns]
    simp
end
end L2.GL.LW
end

section
set_option linter.all false
set_option maxRecDepth 10000
namespace L2.GL.LW
open PySem PySem.Spec PyProof.Rows L2.GL
section
variable {Gp G : Gh} {Q : D → Gh → Prop} {QL : List D → Gh → Prop} {QB : Bool → Gh → Prop} {a b c d e f g h i x y z u v w : Int} {n : Nat}
theorem ne_self {d : D} (n : Nat) (h : niceD n d = true) (hn : n ≤ 63 := by decide) : wpM (neX d d) G QB ↔ QB false G := by
  rw [wp_neN h h hn hn, eqD_refl n d h]
  rfl
theorem prod3 (hn : n < 1000000) (h1 : Sm n a) (h2 : Sm n b) (h3 : Sm n c) (h4 : Sm n d) (h5 : Sm n e) (h6 : Sm n f) : wpM (phi_product [p3 a b c, p3 d e f]) G Q ↔ Q (.int (a * d + (b * e + c * f))) G := by
  unfold phi_product
  rw [wp_def]
  simp [b_product, wipeE, h1.bits h4 (by omega), h2.bits h5 (by omega), h3.bits h6 (by omega)]
theorem size4 {t : Int} (h : 0 ≤ t) (h2 : t < 4) : ∃ z : Int, 0 ≤ z ∧ Sm 98 z ∧ atI [D.int 2, .int 9, .int 1000000, .int 100000000000000000000000000000] t = some (.int z) := by
  have : t = 0 ∨ t = 1 ∨ t = 2 ∨ t = 3 := by omega
  rcases this with rfl | rfl | rfl | rfl <;> exact ⟨_, by decide, by unfold Sm; decide, rfl⟩
theorem Sm.sz (h : Sm 100 x) : Sz x := by
  unfold Sm at h
  unfold Sz
  exact Nat.lt_of_lt_of_le h (by decide)
theorem row2 (h1 : Sm 100 a) (h2 : Sm 100 b) : Row [a, b] := ⟨.inl rfl, by simp; exact ⟨h1.sz, h2.sz⟩⟩
theorem row3 (h1 : Sm 100 a) (h2 : Sm 100 b) (h3 : Sm 100 c) : Row [a, b, c] := ⟨.inr rfl, by simp; exact ⟨h1.sz, h2.sz, h3.sz⟩⟩
def st2 (a b c d : Int) : D := .tup [p2 a b, p2 c d]
theorem stI2 : stI [[a, b], [c, d]] = .tup [p2 a b, p2 c d] := rfl
theorem stI3 : stI [[a, b, c], [d, e, f], [g, h, i]] = .tup [p3 a b c, p3 d e f, p3 g h i] := rfl
theorem rows2 (s : S2 100 a b c d) : ∀ ns ∈ [[a, b], [c, d]], Row ns := by
  simp
  exact ⟨row2 s.1 s.2.1, row2 s.2.2.1 s.2.2.2⟩
theorem rows3 (s : S3 100 a b c d e f g h i) : ∀ ns ∈ [[a, b, c], [d, e, f], [g, h, i]], Row ns := by
  obtain ⟨h1, h2, h3, h4, h5, h6, h7, h8, h9⟩ := s
  simp
  exact ⟨row3 h1 h2 h3, row3 h4 h5 h6, row3 h7 h8 h9⟩
theorem show2 (s : S2 100 a b c d) (hd : dt2 a b c d ≠ 0) : wpM (phi_show [.tup [p2 a b, p2 c d]]) G Q ↔ Q (.str (sS [[a, b], [c, d]])) G := by
  rw [← stI2]
  exact show_ok (by simp) (rows2 s) fun G Q => by rw [stI2]; exact need2 (by decide) s hd
theorem show3 (s : S3 100 a b c d e f g h i) (hd : dt3 a b c d e f g h i ≠ 0) : wpM (phi_show [.tup [p3 a b c, p3 d e f, p3 g h i]]) G Q ↔ Q (.str (sS [[a, b, c], [d, e, f], [g, h, i]])) G := by
  rw [← stI3]
  exact show_ok (by simp) (rows3 s) fun G Q => by rw [stI3]; exact need3 (by decide) s hd
theorem read2 (s : S2 100 a b c d) (hd : dt2 a b c d ≠ 0) : wpM (phi_read [.str (sS [[a, b], [c, d]])]) G Q ↔ Q (.tup [p2 a b, p2 c d]) G := by
  rw [← stI2]
  exact read_ok (by simp) (rows2 s) fun G Q => by rw [stI2, steps2 (show 100 < 1000000 by decide) s]; simp [hd]
theorem read3 (s : S3 100 a b c d e f g h i) (hd : dt3 a b c d e f g h i ≠ 0) : wpM (phi_read [.str (sS [[a, b, c], [d, e, f], [g, h, i]])]) G Q ↔ Q (.tup [p3 a b c, p3 d e f, p3 g h i]) G := by
  rw [← stI3]
  exact read_ok (by simp) (rows3 s) fun G Q => by rw [stI3, steps3 (show 100 < 1000000 by decide) s]; simp [hd]
theorem same2_self (s : S2 100 a b c d) (hd : dt2 a b c d ≠ 0) : wpM (phi_is_same [.tup [p2 a b, p2 c d], .tup [p2 a b, p2 c d]]) G Q ↔ Q (.bl true) G := by
  have w : S2 200 a b c d := ⟨s.1.mono (by decide), s.2.1.mono (by decide), s.2.2.1.mono (by decide), s.2.2.2.mono (by decide)⟩
  have e1 := (no2_in (x := a) (y := b) hd).mpr ⟨1, 0, by simp, by simp⟩
  have e2 := (no2_in (x := c) (y := d) hd).mpr ⟨0, 1, by simp, by simp⟩
  rw [same_2 w w hd hd, e1, e2]
  simp
theorem same3_self (s : S3 100 a b c d e f g h i) (hd : dt3 a b c d e f g h i ≠ 0) : wpM (phi_is_same [.tup [p3 a b c, p3 d e f, p3 g h i], .tup [p3 a b c, p3 d e f, p3 g h i]]) G Q ↔ Q (.bl true) G := by
  obtain ⟨h1, h2, h3, h4, h5, h6, h7, h8, h9⟩ := s
  have w : S3 200 a b c d e f g h i := ⟨h1.mono (by decide), h2.mono (by decide), h3.mono (by decide), h4.mono (by decide), h5.mono (by decide), h6.mono (by decide), h7.mono (by decide), h8.mono (by decide), h9.mono (by decide)⟩
  have e1 := (no3_in (x := a) (y := b) (z := c) hd).mpr ⟨1, 0, 0, by simp, by simp, by simp⟩
  have e2 := (no3_in (x := d) (y := e) (z := f) hd).mpr ⟨0, 1, 0, by simp, by simp, by simp⟩
  have e3 := (no3_in (x := g) (y := h) (z := i) hd).mpr ⟨0, 0, 1, by simp, by simp, by simp⟩
  rw [same_3 w w hd hd, e1, e2, e3]
  simp
theorem nine {b : Int} : ∃ x, dr 9 b = x ∧ Sm 4 x := by
  refine ⟨_, rfl, ?_⟩
  have := dr_le (s := 9) (b := b) (by decide)
  unfold Sm
  omega
theorem nine98 : Sm 98 9 := by unfold Sm; decide
theorem mono2 {m n : Nat} (hm : m ≤ n) (s : S2 m a b c d) : S2 n a b c d := ⟨s.1.mono hm, s.2.1.mono hm, s.2.2.1.mono hm, s.2.2.2.mono hm⟩
theorem mono3 {m n : Nat} (hm : m ≤ n) (s : S3 m a b c d e f g h i) : S3 n a b c d e f g h i := by
  obtain ⟨h1, h2, h3, h4, h5, h6, h7, h8, h9⟩ := s
  exact ⟨h1.mono hm, h2.mono hm, h3.mono hm, h4.mono hm, h5.mono hm, h6.mono hm, h7.mono hm, h8.mono hm, h9.mono hm⟩
theorem two1 : Sm 2 2 := by unfold Sm; decide
theorem abs_sm {x : Int} (h : Sm n x) : Sm n (x.natAbs : Int) := by
  unfold Sm at *
  simpa using h
/-- what is asked of two steps twice -/
theorem twice2 (s : S2 100 a b c d) (hd : dt2 a b c d ≠ 0) (s' : S2 200 x y z w) (e : dt2 x y z w = 2 * dt2 a b c d) :
    (∀ {G Q}, wpM (phi_room [.tup [p2 x y, p2 z w]]) G Q ↔ Q (.int (2 * ((dt2 a b c d).natAbs : Int))) G) ∧ ∀ {G Q}, wpM (phi_is_same [.tup [p2 a b, p2 c d], .tup [p2 x y, p2 z w]]) G Q ↔ Q (.bl false) G := by
  have h0 : dt2 x y z w ≠ 0 := by omega
  constructor
  · intro G Q
    rw [room2 (show 200 < 1000000 by decide) s' h0, show ((dt2 x y z w).natAbs : Int) = 2 * ((dt2 a b c d).natAbs : Int) by omega]
  · intro G Q
    rw [same_2 (mono2 (by decide) s) s' hd h0, decide_eq_false (show ¬ (dt2 a b c d).natAbs = (dt2 x y z w).natAbs by omega)]
    simp
theorem round2 (s : S2 100 a b c d) (hd : dt2 a b c d ≠ 0) :
    (∀ {G Q}, wpM (phi_room [.tup [p2 c d, p2 a b]]) G Q ↔ Q (.int ((dt2 a b c d).natAbs : Int)) G) ∧ ∀ {G Q}, wpM (phi_is_same [.tup [p2 a b, p2 c d], .tup [p2 c d, p2 a b]]) G Q ↔ Q (.bl true) G := by
  have e : dt2 c d a b = -dt2 a b c d := by unfold dt2; grind
  have h0 : dt2 c d a b ≠ 0 := by omega
  have s' : S2 100 c d a b := ⟨s.2.2.1, s.2.2.2, s.1, s.2.1⟩
  have e1 := (no2_in (x := a) (y := b) h0).mpr ⟨0, 1, by simp, by simp⟩
  have e2 := (no2_in (x := c) (y := d) h0).mpr ⟨1, 0, by simp, by simp⟩
  constructor
  · intro G Q
    rw [room2 (show 100 < 1000000 by decide) s' h0, show ((dt2 c d a b).natAbs : Int) = ((dt2 a b c d).natAbs : Int) by omega]
  · intro G Q
    rw [same_2 (mono2 (by decide) s) (mono2 (by decide) s') hd h0, e1, e2, decide_eq_true (show (dt2 a b c d).natAbs = (dt2 c d a b).natAbs by omega)]
    simp
/-- what two reached points come to -/
theorem reach2 (s : S2 100 a b c d) (hd : dt2 a b c d ≠ 0) (hx : Sm 4 x) (hy : Sm 4 y) (hu : Sm 4 u) (hv : Sm 4 v) : ∃ X Y U V m k : Int,
    (∀ {G Q}, wpM (phi_reached [.tup [p2 a b, p2 c d], p2 x y]) G Q ↔ Q (p2 X Y) G) ∧ (∀ {G Q}, wpM (phi_reached [.tup [p2 a b, p2 c d], p2 u v]) G Q ↔ Q (p2 U V) G) ∧
    (∀ {G Q}, wpM (phi_reached [.tup [p2 a b, p2 c d], p2 (x + u) (y + v)]) G Q ↔ Q (p2 (X + U) (Y + V)) G) ∧ (∀ {G Q}, wpM (phi_numbers_of [.tup [p2 a b, p2 c d], p2 X Y]) G Q ↔ Q (p2 x y) G) ∧
    (∀ {G Q}, wpM (phi_product [p2 X Y, p2 U V]) G Q ↔ Q (.int m) G) ∧ (∀ {G Q}, wpM (phi_product [p2 U V, p2 X Y]) G Q ↔ Q (.int m) G) ∧ (∀ {G Q}, wpM (phi_product [p2 X Y, p2 X Y]) G Q ↔ Q (.int k) G) ∧
    ∀ {G Q}, wpM (phi_product [p2 (X + U) (Y + V), p2 X Y]) G Q ↔ Q (.int (k + m)) G := by
  have lt : ∀ {x y p q : Int}, Sm 4 x → Sm 4 y → Sm 100 p → Sm 100 q → Sm 110 (x * p + y * q) := fun h1 h2 h3 h4 => ((h1.mul h3).add (h2.mul h4)).mono (by decide)
  have m4 : ∀ {x : Int}, Sm 4 x → Sm 100 x := fun h => h.mono (by decide)
  have m5 : ∀ {x y : Int}, Sm 4 x → Sm 4 y → Sm 100 (x + y) := fun h k => (h.add k).mono (by decide)
  have sX := lt hx hy s.1 s.2.2.1
  have sY := lt hx hy s.2.1 s.2.2.2
  have sU := lt hu hv s.1 s.2.2.1
  have sV := lt hu hv s.2.1 s.2.2.2
  have m6 : ∀ {x : Int}, Sm 110 x → Sm 200 x := fun h => h.mono (by decide)
  have m7 : ∀ {x y : Int}, Sm 110 x → Sm 110 y → Sm 200 (x + y) := fun h k => (h.add k).mono (by decide)
  have n1 : 100 < 1000000 := by decide
  have n2 : 200 < 1000000 := by decide
  refine ⟨_, _, _, _, (x * a + y * c) * (u * a + v * c) + (x * b + y * d) * (u * b + v * d), (x * a + y * c) * (x * a + y * c) + (x * b + y * d) * (x * b + y * d), reached2 n1 s hd (m4 hx) (m4 hy), reached2 n1 s hd (m4 hu) (m4 hv), ?_, ?_, ?_, ?_, ?_, ?_⟩
  · intro G Q
    rw [reached2 n1 s hd (m5 hx hu) (m5 hy hv), show (x + u) * a + (y + v) * c = x * a + y * c + (u * a + v * c) by grind, show (x + u) * b + (y + v) * d = x * b + y * d + (u * b + v * d) by grind]
  · intro G Q
    rw [nums_of2 (show 200 < 1000 by decide) (mono2 (by decide) s) hd (m6 sX) (m6 sY), cr2 hd]
  · intro G Q
    rw [prod_ok n2 (m6 sX) (m6 sY) (m6 sU) (m6 sV)]
  · intro G Q
    rw [prod_ok n2 (m6 sU) (m6 sV) (m6 sX) (m6 sY), Int.mul_comm (u * a + v * c), Int.mul_comm (u * b + v * d)]
  · intro G Q
    rw [prod_ok n2 (m6 sX) (m6 sY) (m6 sX) (m6 sY)]
  · intro G Q
    rw [prod_ok n2 (m7 sX sU) (m7 sY sV) (m6 sX) (m6 sY)]
    generalize x * a + y * c = X
    generalize x * b + y * d = Y
    generalize u * a + v * c = U
    generalize u * b + v * d = V
    rw [show (X + U) * X + (Y + V) * Y = X * X + Y * Y + (X * U + Y * V) by grind]
theorem twice3 {a' b' c' d' e' f' g' h' i' : Int} (s : S3 100 a b c d e f g h i) (hd : dt3 a b c d e f g h i ≠ 0) (s' : S3 200 a' b' c' d' e' f' g' h' i') (q : dt3 a' b' c' d' e' f' g' h' i' = 2 * dt3 a b c d e f g h i) :
    (∀ {G Q}, wpM (phi_room [.tup [p3 a' b' c', p3 d' e' f', p3 g' h' i']]) G Q ↔ Q (.int (2 * ((dt3 a b c d e f g h i).natAbs : Int))) G) ∧ ∀ {G Q}, wpM (phi_is_same [.tup [p3 a b c, p3 d e f, p3 g h i], .tup [p3 a' b' c', p3 d' e' f', p3 g' h' i']]) G Q ↔ Q (.bl false) G := by
  have h0 : dt3 a' b' c' d' e' f' g' h' i' ≠ 0 := by omega
  constructor
  · intro G Q
    rw [room3 (show 200 < 1000000 by decide) s' h0, show ((dt3 a' b' c' d' e' f' g' h' i').natAbs : Int) = 2 * ((dt3 a b c d e f g h i).natAbs : Int) by omega]
  · intro G Q
    rw [same_3 (mono3 (by decide) s) s' hd h0, decide_eq_false (show ¬ (dt3 a b c d e f g h i).natAbs = (dt3 a' b' c' d' e' f' g' h' i').natAbs by omega)]
    simp
theorem round3 (s : S3 100 a b c d e f g h i) (hd : dt3 a b c d e f g h i ≠ 0) :
    (∀ {G Q}, wpM (phi_room [.tup [p3 d e f, p3 g h i, p3 a b c]]) G Q ↔ Q (.int ((dt3 a b c d e f g h i).natAbs : Int)) G) ∧ ∀ {G Q}, wpM (phi_is_same [.tup [p3 a b c, p3 d e f, p3 g h i], .tup [p3 d e f, p3 g h i, p3 a b c]]) G Q ↔ Q (.bl true) G := by
  have e0 : dt3 d e f g h i a b c = dt3 a b c d e f g h i := by unfold dt3; grind
  have h0 : dt3 d e f g h i a b c ≠ 0 := by omega
  obtain ⟨h1, h2, h3, h4, h5, h6, h7, h8, h9⟩ := id s
  have s' : S3 100 d e f g h i a b c := ⟨h4, h5, h6, h7, h8, h9, h1, h2, h3⟩
  have e1 := (no3_in (x := a) (y := b) (z := c) h0).mpr ⟨0, 0, 1, by simp, by simp, by simp⟩
  have e2 := (no3_in (x := d) (y := e) (z := f) h0).mpr ⟨1, 0, 0, by simp, by simp, by simp⟩
  have e3 := (no3_in (x := g) (y := h) (z := i) h0).mpr ⟨0, 1, 0, by simp, by simp, by simp⟩
  constructor
  · intro G Q
    rw [room3 (show 100 < 1000000 by decide) s' h0, e0]
  · intro G Q
    rw [same_3 (mono3 (by decide) s) (mono3 (by decide) s') hd h0, e1, e2, e3, decide_eq_true (show (dt3 a b c d e f g h i).natAbs = (dt3 d e f g h i a b c).natAbs by omega)]
    simp
theorem reach3 (s : S3 100 a b c d e f g h i) (hd : dt3 a b c d e f g h i ≠ 0) (hx : Sm 4 x) (hy : Sm 4 y) (hz : Sm 4 z) (hu : Sm 4 u) (hv : Sm 4 v) (hw : Sm 4 w) : ∃ X Y Z U V W m k : Int,
    (∀ {G Q}, wpM (phi_reached [.tup [p3 a b c, p3 d e f, p3 g h i], p3 x y z]) G Q ↔ Q (p3 X Y Z) G) ∧ (∀ {G Q}, wpM (phi_reached [.tup [p3 a b c, p3 d e f, p3 g h i], p3 u v w]) G Q ↔ Q (p3 U V W) G) ∧
    (∀ {G Q}, wpM (phi_reached [.tup [p3 a b c, p3 d e f, p3 g h i], p3 (x + u) (y + v) (z + w)]) G Q ↔ Q (p3 (X + U) (Y + V) (Z + W)) G) ∧ (∀ {G Q}, wpM (phi_numbers_of [.tup [p3 a b c, p3 d e f, p3 g h i], p3 X Y Z]) G Q ↔ Q (p3 x y z) G) ∧
    (∀ {G Q}, wpM (phi_product [p3 X Y Z, p3 U V W]) G Q ↔ Q (.int m) G) ∧ (∀ {G Q}, wpM (phi_product [p3 U V W, p3 X Y Z]) G Q ↔ Q (.int m) G) ∧ (∀ {G Q}, wpM (phi_product [p3 X Y Z, p3 X Y Z]) G Q ↔ Q (.int k) G) ∧
    ∀ {G Q}, wpM (phi_product [p3 (X + U) (Y + V) (Z + W), p3 X Y Z]) G Q ↔ Q (.int (k + m)) G := by
  have lt : ∀ {x y z p q r : Int}, Sm 4 x → Sm 4 y → Sm 4 z → Sm 100 p → Sm 100 q → Sm 100 r → Sm 110 (x * p + (y * q + z * r)) := fun h1 h2 h3 h4 h5 h6 => (((h1.mul h4).mono (b := 106) (by decide)).add (((h2.mul h5).add (h3.mul h6)).mono (b := 106) (by decide))).mono (by decide)
  have m4 : ∀ {x : Int}, Sm 4 x → Sm 100 x := fun h => h.mono (by decide)
  have m5 : ∀ {x y : Int}, Sm 4 x → Sm 4 y → Sm 100 (x + y) := fun h k => (h.add k).mono (by decide)
  obtain ⟨h1, h2, h3, h4, h5, h6, h7, h8, h9⟩ := id s
  have sX := lt hx hy hz h1 h4 h7
  have sY := lt hx hy hz h2 h5 h8
  have sZ := lt hx hy hz h3 h6 h9
  have sU := lt hu hv hw h1 h4 h7
  have sV := lt hu hv hw h2 h5 h8
  have sW := lt hu hv hw h3 h6 h9
  have m6 : ∀ {x : Int}, Sm 110 x → Sm 200 x := fun h => h.mono (by decide)
  have m7 : ∀ {x y : Int}, Sm 110 x → Sm 110 y → Sm 200 (x + y) := fun h k => (h.add k).mono (by decide)
  have n1 : 100 < 1000000 := by decide
  have n2 : 200 < 1000000 := by decide
  refine ⟨_, _, _, _, _, _, _, _, reached3 n1 s hd (m4 hx) (m4 hy) (m4 hz), reached3 n1 s hd (m4 hu) (m4 hv) (m4 hw), ?_, ?_, prod3 n2 (m6 sX) (m6 sY) (m6 sZ) (m6 sU) (m6 sV) (m6 sW), ?_, prod3 n2 (m6 sX) (m6 sY) (m6 sZ) (m6 sX) (m6 sY) (m6 sZ), ?_⟩
  · intro G Q
    rw [reached3 n1 s hd (m5 hx hu) (m5 hy hv) (m5 hz hw), show (x + u) * a + ((y + v) * d + (z + w) * g) = x * a + (y * d + z * g) + (u * a + (v * d + w * g)) by grind, show (x + u) * b + ((y + v) * e + (z + w) * h) = x * b + (y * e + z * h) + (u * b + (v * e + w * h)) by grind, show (x + u) * c + ((y + v) * f + (z + w) * i) = x * c + (y * f + z * i) + (u * c + (v * f + w * i)) by grind]
  · intro G Q
    rw [nums_of3 (show 200 < 1000 by decide) (mono3 (by decide) s) hd (m6 sX) (m6 sY) (m6 sZ)]
    have := cr3 (x := x) (y := y) (z := z) hd
    simp only [Int.add_assoc] at this
    rw [this]
  · intro G Q
    rw [prod3 n2 (m6 sU) (m6 sV) (m6 sW) (m6 sX) (m6 sY) (m6 sZ), Int.mul_comm (u * a + (v * d + w * g)), Int.mul_comm (u * b + (v * e + w * h)), Int.mul_comm (u * c + (v * f + w * i))]
  · intro G Q
    rw [prod3 n2 (m7 sX sU) (m7 sY sV) (m7 sZ sW) (m6 sX) (m6 sY) (m6 sZ)]
    generalize x * a + (y * d + z * g) = X
    generalize x * b + (y * e + z * h) = Y
    generalize x * c + (y * f + z * i) = Z
    generalize u * a + (v * d + w * g) = U
    generalize u * b + (v * e + w * h) = V
    generalize u * c + (v * f + w * i) = W
    rw [show (X + U) * X + ((Y + V) * Y + (Z + W) * Z) = X * X + (Y * Y + Z * Z) + (X * U + (Y * V + Z * W)) by grind]
theorem law_wp (ns : List Int) (hl : ns.length ≤ 63) : wpM (phi_law [.lst (ns.map D.int)]) [] (fun d _ => d = .bl true) := by
  unfold phi_law
  rw [wp_def]
  unfold b_law
  simp [-wpF_cons, -rangeD_succ]
  refine ⟨?_, ?_⟩
  · split <;> (try split) <;> (try split) <;> omega
  refine wpF_range (fun _ e _ => ∃ o : List (Option D), o.length = 15 ∧ e = some (.lst (ns.map D.int)) :: o) ⟨_, rfl, rfl⟩ ?_ ?_
  rotate_left
  · rintro env G ⟨o, ho, rfl⟩
    simp
  rintro i env G h1 h2 ⟨o, ho, rfl⟩
  obtain ⟨k, rfl⟩ : ∃ k : Nat, i = k := ⟨i.toNat, by omega⟩
  match o, ho with
  | [o1, o2, o3, o4, o5, o6, o7, o8, o9, o10, o11, o12, o13, o14, o15], _ =>
  simp [-wpF_cons, -rangeD_succ, -wpC_cons, wpS_cell]
  refine box_ok fun b => ?_
  have q1 := Int.fmod_nonneg_of_pos b (show 0 < 4 by decide)
  have q2 := Int.fmod_lt_of_pos b (show 0 < 4 by decide)
  obtain ⟨z, z0, zs, e⟩ := size4 q1 q2
  simp [-wpF_cons, -rangeD_succ, -wpC_cons, D.pureA, D.pure, ↓take4, e, wpM_lift]
  refine steps_ok z0 zs (fun a b c d b' s hd => ?_) (fun a b c d e f g h i b' s hd => ?_)
  · obtain ⟨x, ex, hx⟩ := nine (b := b')
    obtain ⟨y, ey, hy⟩ := nine (b := nx 9 b')
    have P1 : ∀ {Q}, wpM (phi__law_drawn_point [.cell G.length, .int 2, .int 9]) (G ++ [[.int b']]) Q ↔ Q (p2 x y) (G ++ [[.int (nx 9 (nx 9 b'))]]) := fun {Q} => by rw [pt2 (by decide) nine98, ex, ey]
    generalize nx 9 (nx 9 b') = b2 at P1
    obtain ⟨u, eu, hu⟩ := nine (b := b2)
    obtain ⟨v, ev, hv⟩ := nine (b := nx 9 b2)
    have P2 : ∀ {Q}, wpM (phi__law_drawn_point [.cell G.length, .int 2, .int 9]) (G ++ [[.int b2]]) Q ↔ Q (p2 u v) (G ++ [[.int (nx 9 (nx 9 b2))]]) := fun {Q} => by rw [pt2 (by decide) nine98, eu, ev]
    generalize nx 9 (nx 9 b2) = b3 at P2
    obtain ⟨X, Y, U, V, m, k', R1, R2, R3, R4, R5, R6, R7, R8⟩ := reach2 s hd hx hy hu hv
    have n1 : 100 < 1000000 := by decide
    have nn1 : ∀ {x y : Int} {G QB}, wpM (neX (p2 x y) (p2 x y)) G QB ↔ QB false G := ne_self 1 (by simp [niceD])
    have nn2 : ∀ {x y z w : Int} {G QB}, wpM (neX (.tup [p2 x y, p2 z w]) (.tup [p2 x y, p2 z w])) G QB ↔ QB false G := ne_self 2 (by simp [niceD])
    obtain ⟨rd1, rd2⟩ := round2 s hd
    have rm : ∀ {G Q}, wpM (phi_room [.tup [p2 a b, p2 c d]]) G Q ↔ Q (.int ((dt2 a b c d).natAbs : Int)) G := room2 n1 s hd
    have bk : bitsOk 2 ((dt2 a b c d).natAbs : Int) = true := two1.bits (abs_sm s.dt) (by decide)
    have d2 : ∀ {p : Int}, Sm 100 p → bitsOk 2 p = true := fun h => two1.bits h (by decide)
    have big : ¬ ((dt2 a b c d).natAbs : Int) < 1 := by omega
    have z1 : ∀ {p : Int}, Sm 100 p → Sm 200 (2 * p) := fun h => (two1.mul h).mono (by decide)
    have z2 : ∀ {p : Int}, Sm 100 p → Sm 200 p := fun h => h.mono (by decide)
    have t2 : b3.fmod 2 = 0 ∨ b3.fmod 2 = 1 := by
      have := Int.fmod_nonneg_of_pos b3 (show 0 < 2 by decide)
      have := Int.fmod_lt_of_pos b3 (show 0 < 2 by decide)
      omega
    rcases t2 with t2 | t2
    · obtain ⟨tw1, tw2⟩ := twice2 (x := 2 * a) (y := 2 * b) (z := c) (w := d) s hd ⟨z1 s.1, z1 s.2.1, z2 s.2.2.1, z2 s.2.2.2⟩ (by unfold dt2; grind)
      simp [wipeE, ↓show2 s hd, ↓read2 s hd, ↓nn1, ↓nn2, ↓steps2 n1 s, hd, ↓same2_self s hd, ↓P1, ↓P2, ↓R1, ↓R2, ↓R3, ↓R4, ↓R5, ↓R6, ↓R7, ↓R8, ↓take2, t2, cutD, HT.sIx, ↓rm, ↓tw1, ↓tw2, ↓rd1, ↓rd2, bk, big, d2 s.1, d2 s.2.1]
    · obtain ⟨tw1, tw2⟩ := twice2 (x := a) (y := b) (z := 2 * c) (w := 2 * d) s hd ⟨z2 s.1, z2 s.2.1, z1 s.2.2.1, z1 s.2.2.2⟩ (by unfold dt2; grind)
      simp [wipeE, ↓show2 s hd, ↓read2 s hd, ↓nn1, ↓nn2, ↓steps2 n1 s, hd, ↓same2_self s hd, ↓P1, ↓P2, ↓R1, ↓R2, ↓R3, ↓R4, ↓R5, ↓R6, ↓R7, ↓R8, ↓take2, t2, cutD, HT.sIx, ↓rm, ↓tw1, ↓tw2, ↓rd1, ↓rd2, bk, big, d2 s.2.2.1, d2 s.2.2.2]
  · obtain ⟨x, ex, hx⟩ := nine (b := b')
    obtain ⟨y, ey, hy⟩ := nine (b := nx 9 b')
    obtain ⟨z, ez, hz⟩ := nine (b := nx 9 (nx 9 b'))
    have P1 : ∀ {Q}, wpM (phi__law_drawn_point [.cell G.length, .int 3, .int 9]) (G ++ [[.int b']]) Q ↔ Q (p3 x y z) (G ++ [[.int (nx 9 (nx 9 (nx 9 b')))]]) := fun {Q} => by rw [pt3 (by decide) nine98, ex, ey, ez]
    generalize nx 9 (nx 9 (nx 9 b')) = b2 at P1
    obtain ⟨u, eu, hu⟩ := nine (b := b2)
    obtain ⟨v, ev, hv⟩ := nine (b := nx 9 b2)
    obtain ⟨w, ew, hw⟩ := nine (b := nx 9 (nx 9 b2))
    have P2 : ∀ {Q}, wpM (phi__law_drawn_point [.cell G.length, .int 3, .int 9]) (G ++ [[.int b2]]) Q ↔ Q (p3 u v w) (G ++ [[.int (nx 9 (nx 9 (nx 9 b2)))]]) := fun {Q} => by rw [pt3 (by decide) nine98, eu, ev, ew]
    generalize nx 9 (nx 9 (nx 9 b2)) = b3 at P2
    obtain ⟨X, Y, Z, U, V, W, m, k', R1, R2, R3, R4, R5, R6, R7, R8⟩ := reach3 s hd hx hy hz hu hv hw
    have n1 : 100 < 1000000 := by decide
    have nn1 : ∀ {x y z : Int} {G QB}, wpM (neX (p3 x y z) (p3 x y z)) G QB ↔ QB false G := ne_self 1 (by simp [niceD])
    have nn2 : ∀ {a b c d e f g h i : Int} {G QB}, wpM (neX (.tup [p3 a b c, p3 d e f, p3 g h i]) (.tup [p3 a b c, p3 d e f, p3 g h i])) G QB ↔ QB false G := ne_self 2 (by simp [niceD])
    obtain ⟨rd1, rd2⟩ := round3 s hd
    have rm : ∀ {G Q}, wpM (phi_room [.tup [p3 a b c, p3 d e f, p3 g h i]]) G Q ↔ Q (.int ((dt3 a b c d e f g h i).natAbs : Int)) G := room3 n1 s hd
    have bk : bitsOk 2 ((dt3 a b c d e f g h i).natAbs : Int) = true := two1.bits (abs_sm s.dt) (by decide)
    have d2 : ∀ {p : Int}, Sm 100 p → bitsOk 2 p = true := fun h => two1.bits h (by decide)
    have big : ¬ ((dt3 a b c d e f g h i).natAbs : Int) < 1 := by omega
    have z1 : ∀ {p : Int}, Sm 100 p → Sm 200 (2 * p) := fun h => (two1.mul h).mono (by decide)
    have z2 : ∀ {p : Int}, Sm 100 p → Sm 200 p := fun h => h.mono (by decide)
    have t2 : b3.fmod 3 = 0 ∨ b3.fmod 3 = 1 ∨ b3.fmod 3 = 2 := by
      have := Int.fmod_nonneg_of_pos b3 (show 0 < 3 by decide)
      have := Int.fmod_lt_of_pos b3 (show 0 < 3 by decide)
      omega
    obtain ⟨h1, h2, h3, h4, h5, h6, h7, h8, h9⟩ := id s
    rcases t2 with t2 | t2 | t2
    · obtain ⟨tw1, tw2⟩ := twice3 (a' := 2 * a) (b' := 2 * b) (c' := 2 * c) (d' := d) (e' := e) (f' := f) (g' := g) (h' := h) (i' := i) s hd ⟨z1 h1, z1 h2, z1 h3, z2 h4, z2 h5, z2 h6, z2 h7, z2 h8, z2 h9⟩ (by unfold dt3; grind)
      simp [wipeE, ↓show3 s hd, ↓read3 s hd, ↓nn1, ↓nn2, ↓steps3 n1 s, hd, ↓same3_self s hd, ↓P1, ↓P2, ↓R1, ↓R2, ↓R3, ↓R4, ↓R5, ↓R6, ↓R7, ↓R8, ↓take3, t2, cutD, HT.sIx, ↓rm, ↓tw1, ↓tw2, ↓rd1, ↓rd2, bk, big, d2 h1, d2 h2, d2 h3]
    · obtain ⟨tw1, tw2⟩ := twice3 (a' := a) (b' := b) (c' := c) (d' := 2 * d) (e' := 2 * e) (f' := 2 * f) (g' := g) (h' := h) (i' := i) s hd ⟨z2 h1, z2 h2, z2 h3, z1 h4, z1 h5, z1 h6, z2 h7, z2 h8, z2 h9⟩ (by unfold dt3; grind)
      simp [wipeE, ↓show3 s hd, ↓read3 s hd, ↓nn1, ↓nn2, ↓steps3 n1 s, hd, ↓same3_self s hd, ↓P1, ↓P2, ↓R1, ↓R2, ↓R3, ↓R4, ↓R5, ↓R6, ↓R7, ↓R8, ↓take3, t2, cutD, HT.sIx, ↓rm, ↓tw1, ↓tw2, ↓rd1, ↓rd2, bk, big, d2 h4, d2 h5, d2 h6]
    · obtain ⟨tw1, tw2⟩ := twice3 (a' := a) (b' := b) (c' := c) (d' := d) (e' := e) (f' := f) (g' := 2 * g) (h' := 2 * h) (i' := 2 * i) s hd ⟨z2 h1, z2 h2, z2 h3, z2 h4, z2 h5, z2 h6, z1 h7, z1 h8, z1 h9⟩ (by unfold dt3; grind)
      simp [wipeE, ↓show3 s hd, ↓read3 s hd, ↓nn1, ↓nn2, ↓steps3 n1 s, hd, ↓same3_self s hd, ↓P1, ↓P2, ↓R1, ↓R2, ↓R3, ↓R4, ↓R5, ↓R6, ↓R7, ↓R8, ↓take3, t2, cutD, HT.sIx, ↓rm, ↓tw1, ↓tw2, ↓rd1, ↓rd2, bk, big, d2 h7, d2 h8, d2 h9]
theorem law_ok : ∀ ns : List Int, ns.length ≤ 63 → (∀ z ∈ ns, Builtin.Int.intBits z ≤ 1048576) → ∃ Ge, phi_law [.lst (ns.map D.int)] [] = some (.ok (.bl true), Ge) := fun ns hl _ => by
  obtain ⟨d, G', e, h⟩ := law_wp ns hl
  exact ⟨G', by rw [e, h]⟩
end
end L2.GL.LW
end

section
set_option Elab.async false
set_option linter.all false
set_option maxRecDepth 100000
set_option maxHeartbeats 0
set_option autoImplicit false
namespace L2.GL.LW
open PySem PySem.Spec PyProof.Rows L2.GL
theorem free_all {K : PySem.W.Frag} {h : Heap} {mg : Str → Option Value} (X : K.In h) (G : h.Ns mainGlobals mg) (c : He.SaysD fas fns K) : ∀ x : Str, x ∈ FREE → mg x = none := fun x hx => by
  have key : ∀ y ∈ FREE, He.Fa.free y ∈ fas := by
    have : (FREE.all fun y => fas.any fun f => match f with | .free z => decide (z = y) | _ => false) = true := by decide +kernel
    intro y hy
    obtain ⟨f, hf, e⟩ := List.any_eq_true.mp (List.all_eq_true.mp this y hy)
    cases f with
    | free z => rw [← of_decide_eq_true e]; exact hf
    | _ => cases e
  exact He.free_ok X G (He.SaysD.facts c (key x hx))
theorem facts {P : Program} {w : World} {K : PySem.W.Frag} {h : Heap} {mg : Str → Option Value} {fa : Addr} (X : K.In h) (G : h.Ns mainGlobals mg) (hfa : mg ("law" : Str) = some (.ref fa)) (c : He.SaysD fas fns K) (mo : exK K = true) :
    ∃ fd : FuncData, (∀ (s : Shared) (v : Value), BindsTo s fd ⟨[v], []⟩ [("_law_script", v)]) ∧ ∀ base : Heap, K.In base → base.Ns mainGlobals mg → (∀ p ∈ tfs.map (He.cT K), LamX.TabB base mg p.1 p.2) →
      FnG P w K mg base 10 fa fd ["_law_script"] (spG K ((tfs.map (He.cT K)).map (·.2)) mg 1 true phi_law) := by
  obtain ⟨fd_is_whole, F_is_whole⟩ := c.def_ 0 (d := D_is_whole) rfl
  obtain ⟨fd_is_point, F_is_point⟩ := c.def_ 1 (d := D_is_point) rfl
  obtain ⟨fd_determinant, F_determinant⟩ := c.def_ 2 (d := D_determinant) rfl
  obtain ⟨fd_is_steps, F_is_steps⟩ := c.def_ 3 (d := D_is_steps) rfl
  obtain ⟨fd_need_steps, F_need_steps⟩ := c.def_ 4 (d := D_need_steps) rfl
  obtain ⟨fd_need_point, F_need_point⟩ := c.def_ 5 (d := D_need_point) rfl
  obtain ⟨fd_product, F_product⟩ := c.def_ 6 (d := D_product) rfl
  obtain ⟨fd_room, F_room⟩ := c.def_ 7 (d := D_room) rfl
  obtain ⟨fd_is_numbers, F_is_numbers⟩ := c.def_ 8 (d := D_is_numbers) rfl
  obtain ⟨fd_made_at, F_made_at⟩ := c.def_ 9 (d := D_made_at) rfl
  obtain ⟨fd_reached, F_reached⟩ := c.def_ 10 (d := D_reached) rfl
  obtain ⟨fd_numbers_of, F_numbers_of⟩ := c.def_ 11 (d := D_numbers_of) rfl
  obtain ⟨fd_is_same, F_is_same⟩ := c.def_ 12 (d := D_is_same) rfl
  obtain ⟨fd_show_number, F_show_number⟩ := c.def_ 13 (d := D_show_number) rfl
  obtain ⟨fd_show_point, F_show_point⟩ := c.def_ 14 (d := D_show_point) rfl
  obtain ⟨fd_show, F_show⟩ := c.def_ 15 (d := D_show) rfl
  obtain ⟨fd_is_number_text, F_is_number_text⟩ := c.def_ 16 (d := D_is_number_text) rfl
  obtain ⟨fd_number_of, F_number_of⟩ := c.def_ 17 (d := D_number_of) rfl
  obtain ⟨fd_read, F_read⟩ := c.def_ 18 (d := D_read) rfl
  obtain ⟨fd__law_cell, F__law_cell⟩ := c.def_ 19 (d := D__law_cell) rfl
  obtain ⟨fd__law_mix, F__law_mix⟩ := c.def_ 20 (d := D__law_mix) rfl
  obtain ⟨fd__law_box, F__law_box⟩ := c.def_ 21 (d := D__law_box) rfl
  obtain ⟨fd__law_take, F__law_take⟩ := c.def_ 22 (d := D__law_take) rfl
  obtain ⟨fd__law_drawn_number, F__law_drawn_number⟩ := c.def_ 23 (d := D__law_drawn_number) rfl
  obtain ⟨fd__law_drawn_point, F__law_drawn_point⟩ := c.def_ 24 (d := D__law_drawn_point) rfl
  obtain ⟨fd__law_det, F__law_det⟩ := c.def_ 25 (d := D__law_det) rfl
  obtain ⟨fd__law_drawn_pair, F__law_drawn_pair⟩ := c.def_ 26 (d := D__law_drawn_pair) rfl
  obtain ⟨fd__law_drawn_three, F__law_drawn_three⟩ := c.def_ 27 (d := D__law_drawn_three) rfl
  obtain ⟨fd__law_drawn_steps, F__law_drawn_steps⟩ := c.def_ 28 (d := D__law_drawn_steps) rfl
  obtain ⟨fd_law, F_law⟩ := c.def_ 29 (d := D_law) rfl
  have e := hfa.symm.trans (He.glo_ok X G (c.fact 29 (f := .glo "law") rfl))
  cases e
  refine ⟨fd_law, fun s v => FunD.bindsA (ps := ["_law_script"]) F_law (fun _ _ _ _ _ _ us hl => match us, hl with | [_], _ => rfl) s [v] rfl, fun base inB nsB TB => ?_⟩
  have fr := free_all X G c
  have k_FIGURES := He.str_ok X G (c.fact 44 (f := .str "FIGURES" "0123456789") rfl)
  have k_BLOCK_FIGURES := He.int_ok X G (c.fact 45 (f := .int "BLOCK_FIGURES" 60) rfl)
  have k_BLOCK := He.int_ok X G (c.fact 46 (f := .int "BLOCK" 1000000000000000000000000000000000000000000000000000000000000) rfl)
  have tb : ∀ q ∈ tfs, LamX.TabB base mg (He.codeOf K q) (He.cT K q).2 := fun q hq => TB (He.cT K q) (List.mem_map.mpr ⟨q, hq, rfl⟩)
  have tp : ∀ q ∈ tfs, (He.cT K q).2 ∈ (tfs.map (He.cT K)).map (·.2) := fun q hq => List.mem_map.mpr ⟨_, List.mem_map.mpr ⟨q, hq, rfl⟩, rfl⟩
  have c_is_whole : Cal P w K mg base ((tfs.map (He.cT K)).map (·.2)) 1 "is_whole" 1 true phi_is_whole := cal_of F_is_whole rfl sc_is_whole (fun _ _ _ _ _ _ us hl => match us, hl with | [_], _ => rfl) (He.glo_ok X G (c.fact 0 (f := .glo "is_whole") rfl)) fun cdv A outer s H E hcd S => d_is_whole fr hcd S
  have c_is_point : Cal P w K mg base ((tfs.map (He.cT K)).map (·.2)) 3 "is_point" 1 true phi_is_point := cal_of F_is_point rfl sc_is_point (fun _ _ _ _ _ _ us hl => match us, hl with | [_], _ => rfl) (He.glo_ok X G (c.fact 1 (f := .glo "is_point") rfl)) fun cdv A outer s H E hcd S => d_is_point fr c_is_whole (tb ("is_point", none) (by decide)) (tp ("is_point", none) (by decide)) hcd S
  have c_determinant_0 : Cal P w K mg base ((tfs.map (He.cT K)).map (·.2)) 0 "determinant" 1 true phi_determinant_0 := ⟨⟨_, _, _, fn_stuck, He.glo_ok X G (c.fact 2 (f := .glo "determinant") rfl), F_determinant.kp, F_determinant.bindsN (ps := ["steps"]) (fun _ _ _ _ _ _ us hl => match us, hl with | [_], _ => rfl), rfl⟩, fun ds G r z => nomatch z⟩
  have c_determinant_1 : Cal P w K mg base ((tfs.map (He.cT K)).map (·.2)) 1 "determinant" 1 true phi_determinant_1 := cal_of F_determinant rfl sc_determinant (fun _ _ _ _ _ _ us hl => match us, hl with | [_], _ => rfl) (He.glo_ok X G (c.fact 2 (f := .glo "determinant") rfl)) fun cdv A outer s H E hcd S => d_determinant fr c_determinant_0 hcd S
  have c_determinant : Cal P w K mg base ((tfs.map (He.cT K)).map (·.2)) 2 "determinant" 1 true phi_determinant_2 := cal_of F_determinant rfl sc_determinant (fun _ _ _ _ _ _ us hl => match us, hl with | [_], _ => rfl) (He.glo_ok X G (c.fact 2 (f := .glo "determinant") rfl)) fun cdv A outer s H E hcd S => d_determinant fr c_determinant_1 hcd S
  have c_is_steps : Cal P w K mg base ((tfs.map (He.cT K)).map (·.2)) 5 "is_steps" 1 true phi_is_steps := cal_of F_is_steps rfl sc_is_steps (fun _ _ _ _ _ _ us hl => match us, hl with | [_], _ => rfl) (He.glo_ok X G (c.fact 3 (f := .glo "is_steps") rfl)) fun cdv A outer s H E hcd S => d_is_steps fr c_determinant c_is_point (tb ("is_steps", none) (by decide)) (tp ("is_steps", none) (by decide)) hcd S
  have c_need_steps : Cal P w K mg base ((tfs.map (He.cT K)).map (·.2)) 6 "need_steps" 1 true phi_need_steps := cal_of F_need_steps rfl sc_need_steps (fun _ _ _ _ _ _ us hl => match us, hl with | [_], _ => rfl) (He.glo_ok X G (c.fact 4 (f := .glo "need_steps") rfl)) fun cdv A outer s H E hcd S => d_need_steps fr c_is_steps hcd S
  have c_need_point : Cal P w K mg base ((tfs.map (He.cT K)).map (·.2)) 4 "need_point" 2 true phi_need_point := cal_of F_need_point rfl sc_need_point (fun _ _ _ _ _ _ us hl => match us, hl with | [_, _], _ => rfl) (He.glo_ok X G (c.fact 5 (f := .glo "need_point") rfl)) fun cdv A outer s H E hcd S => d_need_point fr c_is_point hcd S
  have c_product : Cal P w K mg base ((tfs.map (He.cT K)).map (·.2)) 5 "product" 2 true phi_product := cal_of F_product rfl sc_product (fun _ _ _ _ _ _ us hl => match us, hl with | [_, _], _ => rfl) (He.glo_ok X G (c.fact 6 (f := .glo "product") rfl)) fun cdv A outer s H E hcd S => d_product fr c_need_point c_is_point hcd S
  have c_room : Cal P w K mg base ((tfs.map (He.cT K)).map (·.2)) 7 "room" 1 true phi_room := cal_of F_room rfl sc_room (fun _ _ _ _ _ _ us hl => match us, hl with | [_], _ => rfl) (He.glo_ok X G (c.fact 7 (f := .glo "room") rfl)) fun cdv A outer s H E hcd S => d_room fr c_determinant c_need_steps hcd S
  have c_is_numbers : Cal P w K mg base ((tfs.map (He.cT K)).map (·.2)) 3 "is_numbers" 2 true phi_is_numbers := cal_of F_is_numbers rfl sc_is_numbers (fun _ _ _ _ _ _ us hl => match us, hl with | [_, _], _ => rfl) (He.glo_ok X G (c.fact 8 (f := .glo "is_numbers") rfl)) fun cdv A outer s H E hcd S => d_is_numbers fr c_is_whole (tb ("is_numbers", none) (by decide)) (tp ("is_numbers", none) (by decide)) hcd S
  have c_made_at : Cal P w K mg base ((tfs.map (He.cT K)).map (·.2)) 1 "made_at" 3 true phi_made_at := cal_of F_made_at rfl sc_made_at (fun _ _ _ _ _ _ us hl => match us, hl with | [_, _, _], _ => rfl) (He.glo_ok X G (c.fact 9 (f := .glo "made_at") rfl)) fun cdv A outer s H E hcd S => d_made_at fr hcd S
  have c_reached : Cal P w K mg base ((tfs.map (He.cT K)).map (·.2)) 7 "reached" 2 true phi_reached := cal_of F_reached rfl sc_reached (fun _ _ _ _ _ _ us hl => match us, hl with | [_, _], _ => rfl) (He.glo_ok X G (c.fact 10 (f := .glo "reached") rfl)) fun cdv A outer s H E hcd S => d_reached fr c_made_at c_is_numbers c_need_steps hcd S
  have c_numbers_of : Cal P w K mg base ((tfs.map (He.cT K)).map (·.2)) 7 "numbers_of" 2 true phi_numbers_of := cal_of F_numbers_of rfl sc_numbers_of (fun _ _ _ _ _ _ us hl => match us, hl with | [_, _], _ => rfl) (He.glo_ok X G (c.fact 11 (f := .glo "numbers_of") rfl)) fun cdv A outer s H E hcd S => d_numbers_of fr c_determinant c_need_point c_need_steps hcd S
  have c_is_same : Cal P w K mg base ((tfs.map (He.cT K)).map (·.2)) 9 "is_same" 2 true phi_is_same := cal_of F_is_same rfl sc_is_same (fun _ _ _ _ _ _ us hl => match us, hl with | [_, _], _ => rfl) (He.glo_ok X G (c.fact 12 (f := .glo "is_same") rfl)) fun cdv A outer s H E hcd S => d_is_same fr c_numbers_of c_room c_need_steps (tb ("is_same", none) (by decide)) (tp ("is_same", none) (by decide)) hcd S
  have c_show_number : Cal P w K mg base ((tfs.map (He.cT K)).map (·.2)) 1 "show_number" 1 true phi_show_number := cal_of F_show_number rfl sc_show_number (fun _ _ _ _ _ _ us hl => match us, hl with | [_], _ => rfl) (He.glo_ok X G (c.fact 13 (f := .glo "show_number") rfl)) fun cdv A outer s H E hcd S => d_show_number fr k_BLOCK hcd S
  have c_show_point : Cal P w K mg base ((tfs.map (He.cT K)).map (·.2)) 2 "show_point" 1 true phi_show_point := cal_of F_show_point rfl sc_show_point (fun _ _ _ _ _ _ us hl => match us, hl with | [_], _ => rfl) (He.glo_ok X G (c.fact 14 (f := .glo "show_point") rfl)) fun cdv A outer s H E hcd S => d_show_point fr c_show_number hcd S
  have c_show : Cal P w K mg base ((tfs.map (He.cT K)).map (·.2)) 7 "show" 1 true phi_show := cal_of F_show rfl sc_show (fun _ _ _ _ _ _ us hl => match us, hl with | [_], _ => rfl) (He.glo_ok X G (c.fact 15 (f := .glo "show") rfl)) fun cdv A outer s H E hcd S => d_show fr c_show_point c_need_steps hcd S
  have c_is_number_text : Cal P w K mg base ((tfs.map (He.cT K)).map (·.2)) 2 "is_number_text" 1 true phi_is_number_text := cal_of F_is_number_text rfl sc_is_number_text (fun _ _ _ _ _ _ us hl => match us, hl with | [_], _ => rfl) (He.glo_ok X G (c.fact 16 (f := .glo "is_number_text") rfl)) fun cdv A outer s H E hcd S => d_is_number_text fr k_FIGURES (tb ("is_number_text", none) (by decide)) (tp ("is_number_text", none) (by decide)) hcd S
  have c_number_of : Cal P w K mg base ((tfs.map (He.cT K)).map (·.2)) 1 "number_of" 1 false phi_number_of := cal_of F_number_of rfl sc_number_of (fun _ _ _ _ _ _ us hl => match us, hl with | [_], _ => rfl) (He.glo_ok X G (c.fact 17 (f := .glo "number_of") rfl)) fun cdv A outer s H E hcd S => d_number_of fr k_BLOCK_FIGURES k_BLOCK hcd S
  have c_read : Cal P w K mg base ((tfs.map (He.cT K)).map (·.2)) 7 "read" 1 false phi_read := cal_of F_read rfl sc_read (fun _ _ _ _ _ _ us hl => match us, hl with | [_], _ => rfl) (He.glo_ok X G (c.fact 18 (f := .glo "read") rfl)) fun cdv A outer s H E hcd S => d_read fr c_is_steps c_number_of c_is_number_text (tb ("read", none) (by decide)) (tp ("read", none) (by decide)) hcd S
  have c__law_cell : Cal P w K mg base ((tfs.map (He.cT K)).map (·.2)) 1 "_law_cell" 2 false phi__law_cell := cal_of F__law_cell rfl sc__law_cell (fun _ _ _ _ _ _ us hl => match us, hl with | [_, _], _ => rfl) (He.glo_ok X G (c.fact 19 (f := .glo "_law_cell") rfl)) fun cdv A outer s H E hcd S => d__law_cell fr hcd S
  have c__law_mix : Cal P w K mg base ((tfs.map (He.cT K)).map (·.2)) 1 "_law_mix" 2 true phi__law_mix := cal_of F__law_mix rfl sc__law_mix (fun _ _ _ _ _ _ us hl => match us, hl with | [_, _], _ => rfl) (He.glo_ok X G (c.fact 20 (f := .glo "_law_mix") rfl)) fun cdv A outer s H E hcd S => d__law_mix fr hcd S
  have c__law_box : Cal P w K mg base ((tfs.map (He.cT K)).map (·.2)) 2 "_law_box" 2 true phi__law_box := cal_of F__law_box rfl sc__law_box (fun _ _ _ _ _ _ us hl => match us, hl with | [_, _], _ => rfl) (He.glo_ok X G (c.fact 21 (f := .glo "_law_box") rfl)) fun cdv A outer s H E hcd S => d__law_box fr c__law_mix c__law_cell hcd S
  have c__law_take : Cal P w K mg base ((tfs.map (He.cT K)).map (·.2)) 1 "_law_take" 2 false phi__law_take := cal_of F__law_take rfl sc__law_take (fun _ _ _ _ _ _ us hl => match us, hl with | [_, _], _ => rfl) (He.glo_ok X G (c.fact 22 (f := .glo "_law_take") rfl)) fun cdv A outer s H E hcd S => d__law_take fr hcd S
  have c__law_drawn_number : Cal P w K mg base ((tfs.map (He.cT K)).map (·.2)) 2 "_law_drawn_number" 2 true phi__law_drawn_number := cal_of F__law_drawn_number rfl sc__law_drawn_number (fun _ _ _ _ _ _ us hl => match us, hl with | [_, _], _ => rfl) (He.glo_ok X G (c.fact 23 (f := .glo "_law_drawn_number") rfl)) fun cdv A outer s H E hcd S => d__law_drawn_number fr c__law_take hcd S
  have c__law_drawn_point : Cal P w K mg base ((tfs.map (He.cT K)).map (·.2)) 3 "_law_drawn_point" 3 true phi__law_drawn_point := cal_of F__law_drawn_point rfl sc__law_drawn_point (fun _ _ _ _ _ _ us hl => match us, hl with | [_, _, _], _ => rfl) (He.glo_ok X G (c.fact 24 (f := .glo "_law_drawn_point") rfl)) fun cdv A outer s H E hcd S => d__law_drawn_point fr c__law_drawn_number hcd S
  have c__law_det : Cal P w K mg base ((tfs.map (He.cT K)).map (·.2)) 1 "_law_det" 1 false phi__law_det := cal_of F__law_det rfl sc__law_det (fun _ _ _ _ _ _ us hl => match us, hl with | [_], _ => rfl) (He.glo_ok X G (c.fact 25 (f := .glo "_law_det") rfl)) fun cdv A outer s H E hcd S => d__law_det fr hcd S
  have c__law_drawn_pair : Cal P w K mg base ((tfs.map (He.cT K)).map (·.2)) 4 "_law_drawn_pair" 2 true phi__law_drawn_pair := cal_of F__law_drawn_pair rfl sc__law_drawn_pair (fun _ _ _ _ _ _ us hl => match us, hl with | [_, _], _ => rfl) (He.glo_ok X G (c.fact 26 (f := .glo "_law_drawn_pair") rfl)) fun cdv A outer s H E hcd S => d__law_drawn_pair fr c__law_det c__law_drawn_point c__law_take hcd S
  have c__law_drawn_three : Cal P w K mg base ((tfs.map (He.cT K)).map (·.2)) 4 "_law_drawn_three" 2 false phi__law_drawn_three := cal_of F__law_drawn_three rfl sc__law_drawn_three (fun _ _ _ _ _ _ us hl => match us, hl with | [_, _], _ => rfl) (He.glo_ok X G (c.fact 27 (f := .glo "_law_drawn_three") rfl)) fun cdv A outer s H E hcd S => d__law_drawn_three fr c__law_det c__law_drawn_point hcd S
  have c__law_drawn_steps : Cal P w K mg base ((tfs.map (He.cT K)).map (·.2)) 5 "_law_drawn_steps" 2 false phi__law_drawn_steps := cal_of F__law_drawn_steps rfl sc__law_drawn_steps (fun _ _ _ _ _ _ us hl => match us, hl with | [_, _], _ => rfl) (He.glo_ok X G (c.fact 28 (f := .glo "_law_drawn_steps") rfl)) fun cdv A outer s H E hcd S => d__law_drawn_steps fr c__law_drawn_three c__law_take c__law_drawn_pair hcd S
  exact fnG_of F_law rfl sc_law fun cdv A outer s H E hcd S => d_law fr c_room c_is_same c__law_take c_product c_reached c_numbers_of c_is_point c__law_drawn_point c_is_steps c_read c_show c__law_drawn_steps c__law_box hcd S
end L2.GL.LW
open PySem PySem.W PySem.Calls PyProof.Rows
theorem PySem.Challenge.cw_shortsteps_k06_whole_grids_holds : PySem.Challenge.rw_shortsteps_k06_whole_grids.Holds := by
  w_on; o_law
  refine HandSHeadRun.head_any (r := OpenLaw.row PySem.Challenge.rw_shortsteps_k06_whole_grids) (q := view (OpenLaw.row PySem.Challenge.rw_shortsteps_k06_whole_grids).prog [41]) (H := L2.GL.LW.hk) (ob := L2.GL.LW.ob) (M := 20000) (loose := L2.GL.LW.loose) (d := HandSHeadRun.topDef (OpenLaw.row PySem.Challenge.rw_shortsteps_k06_whole_grids).prog 41) (kwd := []) L2.GL.LW.ob_eq
    (by kernel_rfl) (fun s => by kernel_rfl) L2.GL.LW.run (by kernel_rfl) (by kernel_rfl) (by kernel_rfl) (by rfl) (by first | assumption | decide +kernel) (by decide +kernel) ⟨rfl, rfl, rfl, rfl, rfl, by decide +kernel⟩ ?hw ?hc
  case hw => w_witness2
  case hc =>
    refine L2.GL.law_walk (l := PySem.Challenge.rw_shortsteps_k06_whole_grids) (k := 10) (x := "_law_script") (φ := L2.GL.LW.phi_law) (fr := true) rfl (by kernel_rfl) ⟨rfl, by decide, by decide⟩ ?F L2.GL.LW.law_ok
    intro w mg fa h Y G hmg0
    obtain ⟨K, KX, c⟩ := Y
    have hmg : mg ("law" : PySem.Str) = some (.ref fa) := by
      have e : (HandSHeadRun.topDef (OpenLaw.row PySem.Challenge.rw_shortsteps_k06_whole_grids).prog 41).name = ("law" : PySem.Str) := by kernel_rfl
      rw [← e]
      exact hmg0
    obtain ⟨fd, hb, hF⟩ := L2.GL.LW.facts (P := (PySem.Challenge.rw_shortsteps_k06_whole_grids).prog) (w := w) KX G hmg c.t.d c.more
    refine ⟨K, L2.GL.LW.tfs.map (He.cT K), fd, KX, fun p hp => ?_, fun p hp => ?_, fun p hp => ?_, hb, hF⟩
    · obtain ⟨q, hq, rfl⟩ := List.mem_map.mp hp
      exact c.empty q hq
    · obtain ⟨q, hq, rfl⟩ := List.mem_map.mp hp
      exact c.out q hq
    · obtain ⟨q, hq, rfl⟩ := List.mem_map.mp hp
      exact PySem.W.codeHd_of_K KX (c.hd q hq)
end
