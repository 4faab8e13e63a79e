import PyProof.Rows.All
import Wide.All
import OpenK.AllK
import Wide.FinOn
import HandS.ForMost
import HandS.Exc
import HandS.TryOnly
import HandS.ExcOwn
import HandS.WordsExc
import HandS.IsInst
import HandS.ExcIs
import HandS.DictComp
import HandS.Walk
import HandS.Conv
import HandS.Codes
import HandS.OwnEq
import KE.KExcIs
import HandS.ExcInit
import HandS.ExcField
import HandS.TupSets
import HandS.SortOrd
import HandS.SetBool
import HandS.TupAny
import HandS.Strs
import HandS.Defaults
import PyProof.Rows.Range3
import HandS.FStr
import HandS.Nested
import HandS.Comp
import HandS.Style
import HandS.Deep
import HandS.TupMul
import HandS.Ends
import KE.KExcStr
import KE.RegKIsAll
import KE.KNestM
import KE.KLam
import HandS.EndTab
import HandS.MakeKw
import PySem.Challenge.RW_foldbough_k03_rows_put_in_and_taken_out
set_option Elab.async false
set_option linter.all false
set_option maxRecDepth 100000
/-! Mathematics of forests of names told as lists of pairs. -/
namespace TM
open PySem L2
/-- one to eight small letters -/
def NameOk (s : Str) : Prop := 1 ≤ s.length ∧ s.length ≤ 8 ∧ ∀ c ∈ s.cps.toList, 97 ≤ c ∧ c ≤ 122
inductive Fo where
  | nil
  | cons (c : Str) (kids rest : Fo)
abbrev Pr := Str × Option Str
def flat : Fo → Option Str → List Pr
  | .nil, _ => []
  | .cons c k r, u => (c, u) :: (flat k (some c) ++ flat r u)
def names : Fo → List Str
  | .nil => []
  | .cons c k r => c :: (names k ++ names r)
def app : Fo → Fo → Fo
  | .nil, g => g
  | .cons c k r, g => .cons c k (app r g)
/-- the forest beneath u of a list of pairs in which overs stand ahead -/
def mk : List Pr → Option Str → Fo
  | [], _ => .nil
  | (c, o) :: r, u => if o = u then .cons c (mk r (some c)) (mk r u) else mk r u
def ord (ps : List Pr) (u : Option Str) : List Str := names (mk ps u)
theorem ord_nil (u : Option Str) : ord [] u = [] := rfl
theorem ord_cons (c : Str) (o : Option Str) (r : List Pr) (u : Option Str) : ord ((c, o) :: r) u = if o = u then c :: (ord r (some c) ++ ord r u) else ord r u := by
  unfold ord
  show names (if o = u then .cons c (mk r (some c)) (mk r u) else mk r u) = _
  split <;> rfl
theorem flat_names : ∀ (f : Fo) (u : Option Str), (flat f u).map Prod.fst = names f
  | .nil, _ => rfl
  | .cons c k r, u => by
    show c :: ((flat k (some c) ++ flat r u).map Prod.fst) = c :: (names k ++ names r)
    rw [List.map_append, flat_names k, flat_names r]
theorem flat_app : ∀ (f g : Fo) (u : Option Str), flat (app f g) u = flat f u ++ flat g u
  | .nil, _, _ => rfl
  | .cons c k r, g, u => by
    show (c, u) :: (flat k (some c) ++ flat (app r g) u) = (c, u) :: (flat k (some c) ++ flat r u) ++ flat g u
    rw [flat_app r g u, List.cons_append, List.append_assoc]
theorem names_app : ∀ (f g : Fo), names (app f g) = names f ++ names g
  | .nil, _ => rfl
  | .cons c k r, g => by
    show c :: (names k ++ names (app r g)) = c :: (names k ++ names r) ++ names g
    rw [names_app r g, List.cons_append, List.append_assoc]
theorem app_nil : ∀ f : Fo, app f .nil = f
  | .nil => rfl
  | .cons c k r => by show Fo.cons c k (app r .nil) = _; rw [app_nil r]
/-- every over told is none, or a name that is told ahead; names unlike -/
def Valid : List Str → List Pr → Prop
  | _, [] => True
  | seen, (c, o) :: r => c ∉ seen ∧ (∀ x, o = some x → x ∈ seen) ∧ Valid (seen ++ [c]) r
theorem valid_notin : ∀ {ps : List Pr} {seen : List Str} {x : Str}, Valid seen ps → x ∈ seen → x ∉ ps.map Prod.fst
  | [], _, _, _, _ => by simp
  | (c, o) :: r, seen, x, h, hx => by
    obtain ⟨h1, _, h3⟩ := h
    have ih := valid_notin (x := x) h3 (List.mem_append_left _ hx)
    simp only [List.map_cons, List.mem_cons, not_or]
    exact ⟨fun e => h1 (e ▸ hx), ih⟩
theorem valid_nodup : ∀ {ps : List Pr} {seen : List Str}, Valid seen ps → (ps.map Prod.fst).Nodup
  | [], _, _ => by simp
  | (c, o) :: r, seen, h => by
    obtain ⟨_, _, h3⟩ := h
    simp only [List.map_cons, List.nodup_cons]
    exact ⟨valid_notin h3 (by simp), valid_nodup h3⟩
/-- nothing stands beneath a name that is told nowhere as an over -/
theorem mk_none : ∀ {ps : List Pr} {u : Option Str}, (∀ p ∈ ps, p.2 ≠ u) → mk ps u = .nil
  | [], _, _ => rfl
  | (c, o) :: r, u, h => by
    show (if o = u then _ else mk r u) = _
    rw [if_neg (h (c, o) List.mem_cons_self)]
    exact mk_none fun p hp => h p (List.mem_cons_of_mem _ hp)
/-- a forest told in its own order, and what comes behind -/
theorem mk_flat : ∀ (f : Fo) (r : List Pr) (u : Option Str), (names f).Nodup → (∀ x ∈ names f, u ≠ some x) → (∀ p ∈ r, ∀ x ∈ names f, p.2 ≠ some x) →
    mk (flat f u ++ r) u = app f (mk r u) ∧ ∀ v, v ≠ u → (∀ x ∈ names f, v ≠ some x) → mk (flat f u ++ r) v = mk r v
  | .nil, r, u, _, _, _ => ⟨rfl, fun v _ _ => rfl⟩
  | .cons c k s, r, u, hn, hu, hr => by
    have hn' : (c :: (names k ++ names s)).Nodup := hn
    rw [List.nodup_cons, List.nodup_append] at hn'
    obtain ⟨hc, hk, hs, hks⟩ := hn'
    have hck : c ∉ names k := fun z => hc (List.mem_append_left _ z)
    have hcs : c ∉ names s := fun z => hc (List.mem_append_right _ z)
    have mem_k : ∀ x ∈ names k, x ∈ names (Fo.cons c k s) := fun x hx => List.mem_cons_of_mem _ (List.mem_append_left _ hx)
    have mem_s : ∀ x ∈ names s, x ∈ names (Fo.cons c k s) := fun x hx => List.mem_cons_of_mem _ (List.mem_append_right _ hx)
    have mem_c : c ∈ names (Fo.cons c k s) := List.mem_cons_self
    have huc : u ≠ some c := hu c mem_c
    -- the rest behind the kids
    have over_s : ∀ p ∈ flat s u, p.2 = u ∨ ∃ x ∈ names s, p.2 = some x := by
      have gen : ∀ (f : Fo) (u : Option Str), ∀ p ∈ flat f u, p.2 = u ∨ ∃ x ∈ names f, p.2 = some x := by
        intro f
        induction f with
        | nil => intro u p hp; cases hp
        | cons c k r ihk ihr =>
          intro u p hp
          have hp' : p ∈ (c, u) :: (flat k (some c) ++ flat r u) := hp
          rcases List.mem_cons.mp hp' with e | hp'
          · left; rw [e]
          · rcases List.mem_append.mp hp' with hp' | hp'
            · rcases ihk _ p hp' with e | ⟨x, hx, e⟩
              · exact .inr ⟨c, List.mem_cons_self, e⟩
              · exact .inr ⟨x, List.mem_cons_of_mem _ (List.mem_append_left _ hx), e⟩
            · rcases ihr _ p hp' with e | ⟨x, hx, e⟩
              · exact .inl e
              · exact .inr ⟨x, List.mem_cons_of_mem _ (List.mem_append_right _ hx), e⟩
      exact gen s u
    have hR : ∀ p ∈ flat s u ++ r, ∀ x ∈ names k, p.2 ≠ some x := by
      intro p hp x hx e
      rcases List.mem_append.mp hp with hp | hp
      · rcases over_s p hp with e2 | ⟨y, hy, e2⟩
        · exact hu x (mem_k x hx) (e2 ▸ e)
        · rw [e2] at e
          exact hks x hx y hy (Option.some.inj e).symm
      · exact hr p hp x (mem_k x hx) e
    obtain ⟨k1, k2⟩ := mk_flat k (flat s u ++ r) (some c) hk (fun x hx e => hck (Option.some.inj e ▸ hx)) hR
    obtain ⟨s1, s2⟩ := mk_flat s r u hs (fun x hx => hu x (mem_s x hx)) (fun p hp x hx => hr p hp x (mem_s x hx))
    have rc : mk r (some c) = .nil := mk_none fun p hp => hr p hp c mem_c
    have sc : mk (flat s u ++ r) (some c) = .nil := by
      rw [s2 (some c) huc.symm (fun x hx e => hcs (Option.some.inj e ▸ hx)), rc]
    have e0 : flat (Fo.cons c k s) u ++ r = (c, u) :: (flat k (some c) ++ (flat s u ++ r)) := by
      show (c, u) :: (flat k (some c) ++ flat s u) ++ r = _
      rw [List.cons_append, List.append_assoc]
    rw [e0]
    refine ⟨?_, fun v hvu hv => ?_⟩
    · show (if u = u then Fo.cons c (mk (flat k (some c) ++ (flat s u ++ r)) (some c)) (mk (flat k (some c) ++ (flat s u ++ r)) u) else _) = Fo.cons c k (app s (mk r u))
      rw [if_pos rfl, k1, sc, app_nil, k2 u huc (fun x hx => hu x (mem_k x hx)), s1]
    · show (if u = v then _ else mk (flat k (some c) ++ (flat s u ++ r)) v) = _
      rw [if_neg (fun e => hvu e.symm), k2 v (hv c mem_c) (fun x hx => hv x (mem_k x hx)), s2 v hvu (fun x hx => hv x (mem_s x hx))]
theorem mk_own {f : Fo} (hn : (names f).Nodup) : mk (flat f none) none = f := by
  have h := (mk_flat f [] none hn (fun _ _ e => nomatch e) (fun p hp => nomatch hp)).1
  rw [List.append_nil] at h
  rw [h]
  exact app_nil f
theorem mk_two {f g : Fo} (hn : (names (app f g)).Nodup) : mk (flat f none ++ flat g none) none = app f g := by
  rw [← flat_app]
  exact mk_own hn
/-- a forest told in its own order is validly told -/
theorem valid_app : ∀ {ps qs : List Pr} {seen : List Str}, Valid seen ps → Valid (seen ++ ps.map Prod.fst) qs → Valid seen (ps ++ qs)
  | [], qs, seen, _, h => by simpa using h
  | (c, o) :: r, qs, seen, ⟨h1, h2, h3⟩, h => by
    refine ⟨h1, h2, valid_app h3 ?_⟩
    simpa [List.append_assoc] using h
theorem valid_flat : ∀ (f : Fo) (seen : List Str) (u : Option Str), (∀ x, u = some x → x ∈ seen) → (seen ++ names f).Nodup → Valid seen (flat f u)
  | .nil, _, _, _, _ => trivial
  | .cons c k r, seen, u, hu, hn => by
    have hn' : (seen ++ c :: (names k ++ names r)).Nodup := hn
    have e1 : seen ++ c :: (names k ++ names r) = seen ++ [c] ++ names k ++ names r := by simp [List.append_assoc]
    rw [e1] at hn'
    have n1 : (seen ++ [c] ++ names k).Nodup := (List.nodup_append.mp hn').1
    have n2 : (seen ++ [c]).Nodup := (List.nodup_append.mp n1).1
    refine ⟨fun hc => ?_, hu, valid_app (valid_flat k _ (some c) (fun x e => by cases e; simp) n1) ?_⟩
    · have := (List.nodup_append.mp n2).2.2
      exact this c hc c (by simp) rfl
    · rw [flat_names]
      exact valid_flat r _ u (fun x e => List.mem_append_left _ (List.mem_append_left _ (hu x e))) hn'
theorem over_flat : ∀ (f : Fo) (u : Option Str), ∀ p ∈ flat f u, p.2 = u ∨ ∃ x ∈ names f, p.2 = some x := by
  intro f
  induction f with
  | nil => intro u p hp; cases hp
  | cons c k r ihk ihr =>
    intro u p hp
    have hp' : p ∈ (c, u) :: (flat k (some c) ++ flat r u) := hp
    rcases List.mem_cons.mp hp' with e | hp'
    · left; rw [e]
    · rcases List.mem_append.mp hp' with hp' | hp'
      · rcases ihk _ p hp' with e | ⟨x, hx, e⟩
        · exact .inr ⟨c, List.mem_cons_self, e⟩
        · exact .inr ⟨x, List.mem_cons_of_mem _ (List.mem_append_left _ hx), e⟩
      · rcases ihr _ p hp' with e | ⟨x, hx, e⟩
        · exact .inl e
        · exact .inr ⟨x, List.mem_cons_of_mem _ (List.mem_append_right _ hx), e⟩
end TM
namespace TM
open PySem L2
theorem valid_at : ∀ {ps : List Pr} {seen : List Str} {i : Nat} {c : Str} {o : Option Str}, Valid seen ps → ps[i]? = some (c, o) → c ∉ seen ++ (ps.take i).map Prod.fst ∧ ∀ x, o = some x → x ∈ seen ++ (ps.take i).map Prod.fst
  | [], _, _, _, _, _, h => by simp at h
  | (a, b) :: r, seen, 0, c, o, ⟨h1, h2, _⟩, h => by
    simp only [List.getElem?_cons_zero, Option.some.injEq, Prod.mk.injEq] at h
    obtain ⟨rfl, rfl⟩ := h
    simpa using ⟨h1, h2⟩
  | (a, b) :: r, seen, i + 1, c, o, ⟨h1, h2, h3⟩, h => by
    have h' : r[i]? = some (c, o) := by simpa using h
    have ih := valid_at h3 h'
    simpa [List.append_assoc] using ih
theorem valid_take : ∀ {ps : List Pr} {seen : List Str} (i : Nat), Valid seen ps → Valid seen (ps.take i)
  | [], _, i, _ => by simp [Valid]
  | (a, b) :: r, seen, 0, _ => trivial
  | (a, b) :: r, seen, i + 1, ⟨h1, h2, h3⟩ => ⟨h1, h2, valid_take i h3⟩
/-- nothing ahead of a suffix stands right beneath u -/
def Below (ps : List Pr) (u : Option Str) (n : Nat) : Prop := ∃ pre t, ps = pre ++ t ∧ t.length < n ∧ ∀ p ∈ pre, p.2 ≠ u
theorem below_top (ps : List Pr) {n : Nat} (h : ps.length < n) : Below ps none n := ⟨[], ps, rfl, h, fun _ h => nomatch h⟩
/-- the over of a name stands nowhere ahead of it -/
theorem ahead : ∀ {ps : List Pr} {seen : List Str} {x : Str}, Valid seen ps → x ∉ seen → x ∉ ps.map Prod.fst → ∀ p ∈ ps, p.2 ≠ some x
  | [], _, _, _, _, _, p, hp => nomatch hp
  | (a, b) :: r, seen, x, ⟨h1, h2, h3⟩, hs, hx, p, hp => by
    rw [List.map_cons, List.mem_cons, not_or] at hx
    rcases List.mem_cons.mp hp with e | hp
    · rw [e]
      intro e2
      exact hs (h2 x e2)
    · exact ahead h3 (by simp [hs, hx.1]) hx.2 p hp
/-- beneath a column there is only what stands behind it -/
theorem ahead_at {ps : List Pr} {i : Nat} {c : Str} {o : Option Str} (va : Valid [] ps) (h : ps[i]? = some (c, o)) : ∀ p ∈ ps.take (i + 1), p.2 ≠ some c := by
  have hc := (valid_at va h).1
  rw [List.nil_append] at hc
  have e : ps.take (i + 1) = ps.take i ++ [(c, o)] := by rw [List.take_add_one, h]; rfl
  intro p hp
  rw [e] at hp
  rcases List.mem_append.mp hp with hp | hp
  · exact ahead (valid_take i va) (by simp) hc p hp
  · rw [List.mem_singleton.mp hp]
    intro e2
    have h2 := (valid_at va h).2 c e2
    rw [List.nil_append] at h2
    exact hc h2
theorem below_at {ps : List Pr} {i : Nat} {c : Str} {o : Option Str} {n : Nat} (va : Valid [] ps) (h : ps[i]? = some (c, o)) (b : Below ps o (n + 1)) : Below ps (some c) n := by
  obtain ⟨pre, t, e, hl, hp⟩ := b
  have hi : i < ps.length := (List.getElem?_eq_some_iff.mp h).1
  have hpi : pre.length ≤ i := by
    refine Nat.le_of_not_lt fun hlt => ?_
    have : pre[i]? = some (c, o) := by
      rw [e, List.getElem?_append_left hlt] at h
      exact h
    exact hp _ (List.mem_of_getElem? this) rfl
  refine ⟨ps.take (i + 1), ps.drop (i + 1), (List.take_append_drop _ _).symm, ?_, ahead_at va h⟩
  rw [List.length_drop]
  have := congrArg List.length e
  rw [List.length_append] at this
  omega
theorem mk_skip : ∀ {pre t : List Pr} {u : Option Str}, (∀ p ∈ pre, p.2 ≠ u) → mk (pre ++ t) u = mk t u
  | [], _, _, _ => rfl
  | (c, o) :: r, t, u, h => by
    show (if o = u then _ else mk (r ++ t) u) = _
    rw [if_neg (h (c, o) List.mem_cons_self)]
    exact mk_skip fun p hp => h p (List.mem_cons_of_mem _ hp)
/-- the order, told as the program tells it -/
def step (ps : List Pr) (u : Option Str) (p : Pr) : List Str := if p.2 = u then p.1 :: ord ps (some p.1) else []
theorem ord_suffix {ps : List Pr} (va : Valid [] ps) (u : Option Str) : ∀ (t pre : List Pr), ps = pre ++ t → ord t u = t.flatMap (step ps u)
  | [], _, _ => rfl
  | (c, o) :: r, pre, e => by
    have hi : ps[pre.length]? = some (c, o) := by rw [e]; simp
    have h1 : ord ps (some c) = ord r (some c) := by
      have h2 := ahead_at va hi
      have e2 : ps = ps.take (pre.length + 1) ++ r := by
        have e3 : pre ++ (c, o) :: r = (pre ++ [(c, o)]) ++ r := by simp
        have e4 : ps.take (pre.length + 1) = pre ++ [(c, o)] := by
          rw [e, e3, List.take_append_of_le_length (by simp)]
          rw [List.take_of_length_le (by simp)]
        rw [e4, ← e3]
        exact e
      unfold ord
      rw [e2, mk_skip h2]
    have ih := ord_suffix va u r (pre ++ [(c, o)]) (by rw [e]; simp)
    rw [ord_cons, List.flatMap_cons, ← ih]
    unfold step
    rw [h1]
    by_cases ho : o = u
    · simp [ho]
    · simp [ho]
theorem ord_flat {ps : List Pr} (va : Valid [] ps) (u : Option Str) : ord ps u = ps.flatMap (step ps u) := ord_suffix va u ps [] rfl
theorem ord_take {ps : List Pr} {u : Option Str} {i : Nat} {q : Pr} (h : ps[i]? = some q) : (ps.take (i + 1)).flatMap (step ps u) = (ps.take i).flatMap (step ps u) ++ step ps u q := by
  rw [List.take_add_one, h, List.flatMap_append]
  show _ ++ (step ps u q ++ []) = _
  rw [List.append_nil]
/-- the names in the tree's order are the names told -/
theorem pick : ∀ {us : List (Option Str)} {o : Option Str} {A : List Str} {g : Option Str → List Str}, us.Nodup → o ∈ us → (us.flatMap fun u => if o = u then A ++ g u else g u).Perm (A ++ us.flatMap g)
  | [], _, _, _, _, h => nomatch h
  | v :: us, o, A, g, hn, h => by
    rw [List.nodup_cons] at hn
    by_cases e : o = v
    · have hn2 : o ∉ us := e ▸ hn.1
      have e2 : (us.flatMap fun u => if o = u then A ++ g u else g u) = us.flatMap g := by
        clear hn h
        induction us with
        | nil => rfl
        | cons x r ih =>
          rw [List.mem_cons, not_or] at hn2
          rw [List.flatMap_cons, List.flatMap_cons, ih hn2.2, if_neg hn2.1]
      rw [List.flatMap_cons, List.flatMap_cons, e2, if_pos e, List.append_assoc]
    · have h2 : o ∈ us := (List.mem_cons.mp h).resolve_left e
      rw [List.flatMap_cons, List.flatMap_cons, if_neg e]
      have ih := pick (A := A) (g := g) hn.2 h2
      refine ((List.Perm.append_left (g v) ih).trans ?_)
      rw [← List.append_assoc, ← List.append_assoc]
      exact List.Perm.append_right _ List.perm_append_comm
theorem ords_perm : ∀ {ps : List Pr} {seen : List Str}, seen.Nodup → Valid seen ps → ((none :: seen.map some).flatMap (ord ps)).Perm (ps.map Prod.fst)
  | [], seen, _, _ => by
    have : ∀ us : List (Option Str), us.flatMap (ord []) = [] := by
      intro us
      induction us with
      | nil => rfl
      | cons u us ih => rw [List.flatMap_cons, ih]; rfl
    rw [this]
    exact List.Perm.nil
  | (c, o) :: r, seen, hn, ⟨h1, h2, h3⟩ => by
    have hn2 : (seen ++ [c]).Nodup := by
      rw [List.nodup_append]
      refine ⟨hn, by simp, fun a ha b hb => ?_⟩
      rw [List.mem_singleton.mp hb]
      exact fun e => h1 (e ▸ ha)
    have ih := ords_perm hn2 h3
    have hu : (none :: seen.map some : List (Option Str)).Nodup := by
      rw [List.nodup_cons]
      refine ⟨by simp, ?_⟩
      rw [List.nodup_iff_pairwise_ne, List.pairwise_map]
      exact List.Pairwise.imp (fun h e => h (Option.some.inj e)) (List.nodup_iff_pairwise_ne.mp hn)
    have ho : o ∈ (none :: seen.map some : List (Option Str)) := by
      cases o with
      | none => exact List.mem_cons_self
      | some x => exact List.mem_cons_of_mem _ (List.mem_map.mpr ⟨x, h2 x rfl, rfl⟩)
    have e1 : (none :: seen.map some).flatMap (ord ((c, o) :: r)) = (none :: seen.map some).flatMap fun u => if o = u then (c :: ord r (some c)) ++ ord r u else ord r u := by
      congr 1
      funext u
      rw [ord_cons]
      split <;> rfl
    rw [e1]
    refine (pick hu ho).trans ?_
    rw [List.map_cons, List.cons_append]
    refine List.Perm.cons c ?_
    refine List.Perm.trans ?_ ih
    rw [List.map_append, ← List.cons_append, List.flatMap_append]
    have e3 : List.flatMap (ord r) (List.map some [c]) = ord r (some c) := by
      show ord r (some c) ++ [] = _
      rw [List.append_nil]
    rw [e3]
    exact List.perm_append_comm
theorem ord_perm {ps : List Pr} (va : Valid [] ps) : (ord ps none).Perm (ps.map Prod.fst) := by
  have := ords_perm List.nodup_nil va
  simpa using this
theorem ord_nodup {ps : List Pr} (va : Valid [] ps) : (ord ps none).Nodup := (List.Perm.nodup_iff (ord_perm va)).mpr (valid_nodup va)
/-- the pairs in the tree's order are pairs told -/
theorem mk_sub : ∀ {ps : List Pr} {u : Option Str} {p : Pr}, p ∈ flat (mk ps u) u → p ∈ ps
  | [], _, _, h => nomatch h
  | (c, o) :: r, u, p, h => by
    have h' : p ∈ flat (if o = u then .cons c (mk r (some c)) (mk r u) else mk r u) u := h
    by_cases e : o = u
    · rw [if_pos e] at h'
      have h'' : p ∈ (c, u) :: (flat (mk r (some c)) (some c) ++ flat (mk r u) u) := h'
      rcases List.mem_cons.mp h'' with e2 | h2
      · rw [e2, e]
        exact List.mem_cons_self
      · rcases List.mem_append.mp h2 with h2 | h2
        · exact List.mem_cons_of_mem _ (mk_sub h2)
        · exact List.mem_cons_of_mem _ (mk_sub h2)
    · rw [if_neg e] at h'
      exact List.mem_cons_of_mem _ (mk_sub h')
end TM
namespace TM
open PySem L2
theorem flat_le {α β : Type} {f : α → List β} {k : Nat} : ∀ {l : List α}, (∀ a ∈ l, (f a).length ≤ k) → (l.flatMap f).length ≤ k * l.length
  | [], _ => by simp
  | a :: r, h => by
    rw [List.flatMap_cons, List.length_append, List.length_cons, Nat.mul_succ]
    have h1 := h a List.mem_cons_self
    have h2 := flat_le (l := r) fun b hb => h b (List.mem_cons_of_mem _ hb)
    omega
theorem flat_no {ps : List Pr} {c : Str} {o : Option Str} {us : List (Option Str)} (h : o ∉ us) : us.flatMap (ord ((c, o) :: ps)) = us.flatMap (ord ps) := by
  induction us with
  | nil => rfl
  | cons u r ih =>
    rw [List.mem_cons, not_or] at h
    rw [List.flatMap_cons, List.flatMap_cons, ih h.2, ord_cons, if_neg h.1]
theorem ords_le : ∀ {ps : List Pr} {seen : List Str} {us : List (Option Str)}, us.Nodup → Valid seen ps → (∀ x ∈ ps.map Prod.fst, some x ∉ us) → (us.flatMap (ord ps)).length ≤ ps.length
  | [], _, us, _, _, _ => by
    induction us with
    | nil => exact Nat.le_refl _
    | cons u us ih =>
      rw [List.flatMap_cons, List.length_append]
      rename_i h _ _
      have := ih (List.nodup_cons.mp (by assumption)).2 (fun x hx => nomatch hx)
      rw [ord_nil]
      simpa using this
  | (c, o) :: r, seen, us, hu, ⟨h1, h2, h3⟩, hx => by
    by_cases ho : o ∈ us
    · have e1 : us.flatMap (ord ((c, o) :: r)) = us.flatMap fun u => if o = u then (c :: ord r (some c)) ++ ord r u else ord r u := by
        congr 1
        funext u
        rw [ord_cons]
        split <;> rfl
      rw [e1, (pick (A := c :: ord r (some c)) (g := ord r) hu ho).length_eq]
      have hc : some c ∉ us := hx c (by simp)
      have ih := ords_le (us := some c :: us) (List.nodup_cons.mpr ⟨hc, hu⟩) h3 (fun x hx2 h => by
        rcases List.mem_cons.mp h with e | h
        · have := valid_notin h3 (x := c) (by simp)
          exact this (Option.some.inj e ▸ hx2)
        · exact hx x (List.mem_cons_of_mem _ hx2) h)
      rw [List.flatMap_cons, List.length_append] at ih
      simp only [List.length_append, List.length_cons]
      omega
    · rw [flat_no ho]
      have ih := ords_le hu h3 (fun x hx2 => hx x (List.mem_cons_of_mem _ hx2))
      rw [List.length_cons]
      omega
theorem valid_drop : ∀ {ps : List Pr} {seen : List Str} (i : Nat), Valid seen ps → ∃ s, Valid s (ps.drop i)
  | [], seen, i, _ => ⟨seen, by simp [Valid]⟩
  | (a, b) :: r, seen, 0, h => ⟨seen, h⟩
  | (a, b) :: r, seen, i + 1, ⟨_, _, h3⟩ => valid_drop i h3
theorem ord_le {ps : List Pr} (va : Valid [] ps) (u : Option Str) : (ord ps u).length ≤ ps.length := by
  have one : ∀ (qs : List Pr) (s : List Str), Valid s qs → (∀ x ∈ qs.map Prod.fst, u ≠ some x) → (ord qs u).length ≤ qs.length := fun qs s v h => by
    have := ords_le (us := [u]) (by simp) v (fun x hx e => h x hx (List.mem_singleton.mp e).symm)
    simpa using this
  by_cases h : ∃ c, u = some c ∧ c ∈ ps.map Prod.fst
  · obtain ⟨c, rfl, hc⟩ := h
    obtain ⟨⟨c', o⟩, hm, rfl⟩ := List.mem_map.mp hc
    obtain ⟨i, hi, hie⟩ := List.getElem_of_mem hm
    have hq : ps[i]? = some (c', o) := by rw [List.getElem?_eq_getElem hi, hie]
    have e : ord ps (some c') = ord (ps.drop (i + 1)) (some c') := by
      unfold ord
      have := mk_skip (t := ps.drop (i + 1)) (ahead_at va hq)
      rw [List.take_append_drop] at this
      rw [this]
    obtain ⟨s, vs⟩ := valid_drop (i + 1) va
    have hnd := valid_nodup va
    rw [e]
    refine Nat.le_trans (one _ s vs fun x hx e2 => ?_) (by rw [List.length_drop]; omega)
    cases e2
    rw [List.map_drop] at hx
    obtain ⟨j, hj, hje⟩ := List.getElem_of_mem hx
    rw [List.getElem_drop] at hje
    have h1 : (ps.map Prod.fst)[i]'(by simpa using hi) = c' := by rw [List.getElem_map, hie]
    have := (List.getElem_inj hnd).mp (hje.trans h1.symm)
    omega
  · exact one ps [] va fun x hx e => h ⟨x, e, hx⟩
end TM

/-! Where a name stands in a forest: what is above it, what is beneath. -/
namespace TM
open PySem L2
/-- what is above a name, and the forest beneath it -/
def loc : Fo → Str → Option (List Str × Fo)
  | .nil, _ => none
  | .cons d k r, c => if d = c then some ([], k) else match loc k c with
    | some (a, q) => some (d :: a, q)
    | none => loc r c
def tops : Fo → List Str
  | .nil => []
  | .cons c _ r => c :: tops r
theorem loc_names : ∀ {f : Fo} {c : Str}, c ∈ names f → ∃ a q, loc f c = some (a, q)
  | .nil, _, h => nomatch h
  | .cons d k r, c, h => by
    unfold loc
    by_cases e : d = c
    · exact ⟨_, _, if_pos e⟩
    · rw [if_neg e]
      cases hk : loc k c with
      | some p => exact ⟨_, _, rfl⟩
      | none =>
        have h' : c ∈ d :: (names k ++ names r) := h
        rcases List.mem_cons.mp h' with e2 | h2
        · exact absurd e2.symm e
        · rcases List.mem_append.mp h2 with h2 | h2
          · obtain ⟨a, q, e3⟩ := loc_names h2
            rw [hk] at e3
            cases e3
          · exact loc_names h2
theorem loc_mem : ∀ {f : Fo} {c : Str} {a : List Str} {q : Fo}, loc f c = some (a, q) → c ∈ names f
  | .nil, _, _, _, h => by unfold loc at h; cases h
  | .cons d k r, c, a, q, h => by
    unfold loc at h
    show c ∈ d :: (names k ++ names r)
    by_cases e : d = c
    · rw [e]; exact List.mem_cons_self
    · rw [if_neg e] at h
      cases hk : loc k c with
      | some p =>
        obtain ⟨b, p⟩ := p
        exact List.mem_cons_of_mem _ (List.mem_append_left _ (loc_mem hk))
      | none =>
        rw [hk] at h
        exact List.mem_cons_of_mem _ (List.mem_append_right _ (loc_mem h))
theorem loc_none {f : Fo} {c : Str} (h : c ∉ names f) : loc f c = none := by
  cases e : loc f c with
  | none => rfl
  | some p => exact absurd (loc_mem (a := p.1) (q := p.2) e) h
theorem nd_parts {d : Str} {k r : Fo} (h : (names (.cons d k r)).Nodup) : d ∉ names k ∧ d ∉ names r ∧ (names k).Nodup ∧ (names r).Nodup ∧ ∀ x ∈ names k, x ∉ names r := by
  have h' : (d :: (names k ++ names r)).Nodup := h
  rw [List.nodup_cons, List.nodup_append] at h'
  exact ⟨fun z => h'.1 (List.mem_append_left _ z), fun z => h'.1 (List.mem_append_right _ z), h'.2.1, h'.2.2.1, fun x hx hy => h'.2.2.2 x hx x hy rfl⟩
/-- the three ways in which a name stands in a forest -/
theorem loc_cases {d : Str} {k r : Fo} {c : Str} {a : List Str} {q : Fo} (h : loc (.cons d k r) c = some (a, q)) : (d = c ∧ a = [] ∧ q = k) ∨ (d ≠ c ∧ ∃ b, a = d :: b ∧ loc k c = some (b, q)) ∨ (d ≠ c ∧ loc k c = none ∧ loc r c = some (a, q)) := by
  unfold loc at h
  by_cases e : d = c
  · rw [if_pos e] at h
    cases h
    exact .inl ⟨e, rfl, rfl⟩
  · rw [if_neg e] at h
    cases hk : loc k c with
    | some p =>
      obtain ⟨b, p⟩ := p
      rw [hk] at h
      cases h
      exact .inr (.inl ⟨e, b, rfl, rfl⟩)
    | none =>
      rw [hk] at h
      exact .inr (.inr ⟨e, rfl, h⟩)
theorem loc_here {d : Str} {k r : Fo} : loc (.cons d k r) d = some ([], k) := by unfold loc; exact if_pos rfl
theorem loc_in {d c : Str} {k r : Fo} {b : List Str} {q : Fo} (e : d ≠ c) (h : loc k c = some (b, q)) : loc (.cons d k r) c = some (d :: b, q) := by
  unfold loc
  rw [if_neg e, h]
theorem loc_by {d c : Str} {k r : Fo} (e : d ≠ c) (h : loc k c = none) : loc (.cons d k r) c = loc r c := by
  rw [loc.eq_def]
  dsimp only
  rw [if_neg e, h]
theorem loc_sub : ∀ {f : Fo} {c : Str} {a : List Str} {q : Fo}, loc f c = some (a, q) → (a ++ [c]).Sublist (names f)
  | .nil, _, _, _, h => by unfold loc at h; cases h
  | .cons d k r, c, a, q, h => by
    show (a ++ [c]).Sublist (d :: (names k ++ names r))
    rcases loc_cases h with ⟨rfl, rfl, rfl⟩ | ⟨_, b, rfl, g⟩ | ⟨_, _, g⟩
    · exact List.Sublist.cons_cons _ (List.nil_sublist _)
    · exact List.Sublist.cons_cons _ ((loc_sub g).trans (List.sublist_append_left _ _))
    · exact List.Sublist.cons _ ((loc_sub g).trans (List.sublist_append_right _ _))
/-- what is beneath a name stands behind it, in one piece -/
theorem loc_seg : ∀ {f : Fo} {c : Str} {a : List Str} {q : Fo}, loc f c = some (a, q) → ∃ A B, names f = A ++ (c :: names q) ++ B
  | .nil, _, _, _, h => by unfold loc at h; cases h
  | .cons d k r, c, a, q, h => by
    have e0 : names (.cons d k r) = d :: (names k ++ names r) := rfl
    rcases loc_cases h with ⟨rfl, rfl, rfl⟩ | ⟨_, b, rfl, g⟩ | ⟨_, _, g⟩
    · exact ⟨[], names r, rfl⟩
    · obtain ⟨A, B, e⟩ := loc_seg g
      exact ⟨d :: A, B ++ names r, by rw [e0, e]; simp⟩
    · obtain ⟨A, B, e⟩ := loc_seg g
      exact ⟨d :: (names k ++ A), B, by rw [e0, e]; simp⟩
/-- the column right above -/
def lastOr (a : List Str) (u : Option Str) : Option Str := match a.getLast? with
  | some x => some x
  | none => u
theorem lastOr_snoc (a : List Str) (x : Str) (u : Option Str) : lastOr (a ++ [x]) u = some x := by unfold lastOr; rw [List.getLast?_concat]
theorem lastOr_cons (d : Str) (a : List Str) (u : Option Str) : lastOr (d :: a) u = lastOr a (some d) := by
  cases a with
  | nil => rfl
  | cons x r =>
    unfold lastOr
    rw [List.getLast?_cons_cons]
    rw [List.getLast?_eq_some_getLast (by simp)]
theorem loc_flat : ∀ {f : Fo} {c : Str} {a : List Str} {q : Fo} (u : Option Str), loc f c = some (a, q) → (c, lastOr a u) ∈ flat f u
  | .nil, _, _, _, _, h => by unfold loc at h; cases h
  | .cons d k r, c, a, q, u, h => by
    show _ ∈ (d, u) :: (flat k (some d) ++ flat r u)
    rcases loc_cases h with ⟨rfl, rfl, rfl⟩ | ⟨_, b, rfl, g⟩ | ⟨_, _, g⟩
    · exact List.mem_cons_self
    · rw [lastOr_cons]
      exact List.mem_cons_of_mem _ (List.mem_append_left _ (loc_flat (some d) g))
    · exact List.mem_cons_of_mem _ (List.mem_append_right _ (loc_flat u g))
/-- each one above, with what is above it -/
theorem loc_up : ∀ {f : Fo} {c : Str} {a : List Str} {q : Fo}, (names f).Nodup → loc f c = some (a, q) → ∀ (a1 a2 : List Str) (x : Str), a = a1 ++ x :: a2 → ∃ q1, loc f x = some (a1, q1) ∧ c ∈ names q1
  | .nil, _, _, _, _, h => by unfold loc at h; cases h
  | .cons d k r, c, a, q, hn, h => by
    intro a1 a2 x e
    obtain ⟨n1, n2, n3, n4, n5⟩ := nd_parts hn
    rcases loc_cases h with ⟨rfl, rfl, rfl⟩ | ⟨hd, b, rfl, g⟩ | ⟨hd, hk, g⟩
    · simp at e
    · cases a1 with
      | nil =>
        have e' : d :: b = x :: a2 := e
        injection e' with e1 e2
        subst e1
        exact ⟨k, loc_here, loc_mem g⟩
      | cons y a1 =>
        have e' : d :: b = y :: (a1 ++ x :: a2) := e
        injection e' with e1 e2
        subst e1
        obtain ⟨q1, h1, h2⟩ := loc_up n3 g _ _ _ e2
        exact ⟨q1, loc_in (fun z => n1 (z ▸ loc_mem h1)) h1, h2⟩
    · obtain ⟨q1, h1, h2⟩ := loc_up n4 g _ _ _ e
      have hx := loc_mem h1
      exact ⟨q1, (loc_by (fun (z : d = x) => n2 (z ▸ hx)) (loc_none fun z => n5 _ z hx)).trans h1, h2⟩
/-- each one beneath -/
theorem loc_down : ∀ {f : Fo} {c o : Str} {a a2 : List Str} {q q2 : Fo}, (names f).Nodup → loc f c = some (a, q) → loc q o = some (a2, q2) → loc f o = some (a ++ c :: a2, q2)
  | .nil, _, _, _, _, _, _, _, h, _ => by unfold loc at h; cases h
  | .cons d k r, c, o, a, a2, q, q2, hn, h, h2 => by
    obtain ⟨n1, n2, n3, n4, n5⟩ := nd_parts hn
    rcases loc_cases h with ⟨rfl, rfl, rfl⟩ | ⟨hd, b, rfl, g⟩ | ⟨hd, hk, g⟩
    · exact loc_in (fun z => n1 (z ▸ loc_mem h2)) h2
    · have ih := loc_down n3 g h2
      exact loc_in (fun z => n1 (z ▸ loc_mem ih)) ih
    · have ih := loc_down n4 g h2
      have hx := loc_mem ih
      exact (loc_by (fun (z : d = o) => n2 (z ▸ hx)) (loc_none fun z => n5 _ z hx)).trans ih
theorem loc_top : ∀ {f : Fo} {c : Str}, (names f).Nodup → (c ∈ tops f ↔ ∃ q, loc f c = some ([], q))
  | .nil, c, _ => ⟨(fun h => nomatch h), (fun ⟨q, h⟩ => by unfold loc at h; cases h)⟩
  | .cons d k r, c, hn => by
    obtain ⟨n1, n2, n3, n4, n5⟩ := nd_parts hn
    constructor
    · intro h
      have h' : c ∈ d :: tops r := h
      rcases List.mem_cons.mp h' with e | h2
      · subst e
        exact ⟨k, loc_here⟩
      · obtain ⟨q, e⟩ := (loc_top n4).mp h2
        have hx := loc_mem e
        exact ⟨q, (loc_by (fun (z : d = c) => n2 (z ▸ hx)) (loc_none fun z => n5 _ z hx)).trans e⟩
    · rintro ⟨q, h⟩
      show c ∈ d :: tops r
      rcases loc_cases h with ⟨rfl, _, _⟩ | ⟨_, b, e, _⟩ | ⟨_, _, h⟩
      · exact List.mem_cons_self
      · cases e
      · exact List.mem_cons_of_mem _ ((loc_top n4).mpr ⟨q, h⟩)
theorem tops_sub : ∀ f : Fo, (tops f).Sublist (names f)
  | .nil => List.Sublist.slnil
  | .cons d k r => List.Sublist.cons_cons _ ((tops_sub r).trans (List.sublist_append_right _ _))
theorem filter_mem : ∀ {l s : List Str}, l.Nodup → s.Sublist l → (l.filter fun x => decide (x ∈ s)) = s
  | [], s, _, h => by
    cases h
    rfl
  | x :: l, s, hn, h => by
    rw [List.nodup_cons] at hn
    cases h with
    | cons _ h =>
      have hx : x ∉ s := fun z => hn.1 (h.subset z)
      rw [List.filter_cons_of_neg (by simpa using hx)]
      exact filter_mem hn.2 h
    | cons_cons _ h =>
      rename_i s
      rw [List.filter_cons_of_pos (by simp)]
      congr 1
      have e : (l.filter fun y => decide (y ∈ x :: s)) = l.filter fun y => decide (y ∈ s) := by
        refine List.filter_congr fun y hy => ?_
        have : y ≠ x := fun z => hn.1 (z ▸ hy)
        simp [this]
      rw [e]
      exact filter_mem hn.2 h
/-- above and beneath are one thing, told from both ends -/
theorem up_down {f : Fo} {c o : Str} {a a' : List Str} {q q' : Fo} (hn : (names f).Nodup) (hc : loc f c = some (a, q)) (ho : loc f o = some (a', q')) : c ∈ a' ↔ o ∈ names q := by
  constructor
  · intro h
    obtain ⟨a1, a2, e⟩ := List.append_of_mem h
    obtain ⟨q1, h1, h2⟩ := loc_up hn ho _ _ _ e
    rw [hc] at h1
    cases h1
    exact h2
  · intro h
    obtain ⟨a2, q2, h2⟩ := loc_names h
    have := loc_down hn hc h2
    rw [ho] at this
    cases this
    simp
/-- what is right beneath a name -/
theorem kid_iff {f : Fo} {c o : Str} {a a' : List Str} {q q' : Fo} (hn : (names f).Nodup) (hq : (names q).Nodup) (hc : loc f c = some (a, q)) (ho : loc f o = some (a', q')) : a'.getLast? = some c ↔ o ∈ tops q := by
  constructor
  · intro h
    obtain ⟨a1, e⟩ : ∃ a1, a' = a1 ++ [c] := by
      rw [List.getLast?_eq_some_iff] at h
      exact h
    obtain ⟨q1, h1, h2⟩ := loc_up hn ho a1 [] c e
    rw [hc] at h1
    cases h1
    obtain ⟨a2, q2, h3⟩ := loc_names h2
    have h4 := loc_down hn hc h3
    rw [ho] at h4
    obtain ⟨e4, _⟩ := Prod.mk.inj (Option.some.inj h4)
    rw [e] at e4
    have e5 : [c] = c :: a2 := List.append_cancel_left e4
    have e6 : a2 = [] := by
      have := (List.cons.inj e5).2
      exact this.symm
    subst e6
    exact (loc_top hq).mpr ⟨q2, h3⟩
  · intro h
    obtain ⟨q2, h3⟩ := (loc_top hq).mp h
    have h4 := loc_down hn hc h3
    rw [ho] at h4
    obtain ⟨e4, _⟩ := Prod.mk.inj (Option.some.inj h4)
    rw [e4, List.getLast?_concat]
theorem sub_nodup {f : Fo} {c : Str} {a : List Str} {q : Fo} (hn : (names f).Nodup) (h : loc f c = some (a, q)) : (c :: names q).Nodup := by
  obtain ⟨A, B, e⟩ := loc_seg h
  rw [e, List.append_assoc, List.nodup_append] at hn
  exact (List.nodup_append.mp hn.2.1).1
theorem seg_sub {f : Fo} {c : Str} {a : List Str} {q : Fo} (h : loc f c = some (a, q)) : (c :: names q).Sublist (names f) := by
  obtain ⟨A, B, e⟩ := loc_seg h
  rw [e, List.append_assoc]
  exact (List.sublist_append_left _ _).trans (List.sublist_append_right _ _)
/-- the names beneath, child by child -/
def kidsOf (f : Fo) (c : Str) : List Str := match loc f c with
  | some (_, q) => c :: names q
  | none => []
theorem kids_flat : ∀ {q : Fo}, (names q).Nodup → (tops q).flatMap (kidsOf q) = names q
  | .nil, _ => rfl
  | .cons d k r, hn => by
    obtain ⟨n1, n2, n3, n4, n5⟩ := nd_parts hn
    show (d :: tops r).flatMap (kidsOf (.cons d k r)) = d :: (names k ++ names r)
    rw [List.flatMap_cons]
    have e1 : kidsOf (.cons d k r) d = d :: names k := by unfold kidsOf; rw [loc_here]
    have e2 : (tops r).flatMap (kidsOf (.cons d k r)) = (tops r).flatMap (kidsOf r) := by
      have : ∀ l : List Str, (∀ x ∈ l, x ∈ names r) → l.flatMap (kidsOf (.cons d k r)) = l.flatMap (kidsOf r) := by
        intro l
        induction l with
        | nil => intro _; rfl
        | cons x t ih =>
          intro h
          rw [List.flatMap_cons, List.flatMap_cons, ih fun y hy => h y (List.mem_cons_of_mem _ hy)]
          congr 1
          have hx := h x List.mem_cons_self
          unfold kidsOf
          rw [loc_by (fun (z : d = x) => n2 (z ▸ hx)) (loc_none fun z => n5 _ z hx)]
      exact this _ fun x hx => (tops_sub r).subset hx
    rw [e1, e2, kids_flat n4, List.cons_append]
end TM
namespace TM
open PySem L2
theorem perm_eq {α : Type} {R : α → α → Prop} (anti : ∀ a b, R a b → R b a → a = b) : ∀ {l m : List α}, l.Perm m → l.Pairwise R → m.Pairwise R → l = m
  | [], m, h, _, _ => by
    have := h.length_eq
    cases m with
    | nil => rfl
    | cons b m => simp at this
  | a :: l, [], h, _, _ => by
    have := h.length_eq
    simp at this
  | a :: l, b :: m, h, h1, h2 => by
    have hab : a = b := by
      have ha : a ∈ b :: m := h.subset List.mem_cons_self
      have hb : b ∈ a :: l := h.symm.subset List.mem_cons_self
      rcases List.mem_cons.mp ha with e | ha
      · exact e
      · rcases List.mem_cons.mp hb with e | hb
        · exact e.symm
        · exact anti a b ((List.pairwise_cons.mp h1).1 b hb) ((List.pairwise_cons.mp h2).1 a ha)
    subst hab
    rw [perm_eq anti (List.Perm.cons_inv h) (List.pairwise_cons.mp h1).2 (List.pairwise_cons.mp h2).2]
/-- the first i trees of a forest -/
def takeF : Nat → Fo → Fo
  | 0, _ => .nil
  | _ + 1, .nil => .nil
  | i + 1, .cons c k r => .cons c k (takeF i r)
theorem takeF_all : ∀ f : Fo, takeF (tops f).length f = f
  | .nil => rfl
  | .cons c k r => by
    show Fo.cons c k (takeF (tops r).length r) = _
    rw [takeF_all r]
theorem takeF_next : ∀ {f : Fo} {i : Nat} {c : Str}, (names f).Nodup → (tops f)[i]? = some c → ∃ k, loc f c = some ([], k) ∧ takeF (i + 1) f = app (takeF i f) (.cons c k .nil)
  | .nil, i, c, _, h => by simp [tops] at h
  | .cons d k r, 0, c, _, h => by
    have e : d = c := by simpa [tops] using h
    subst e
    exact ⟨k, loc_here, rfl⟩
  | .cons d k r, i + 1, c, hn, h => by
    have h' : (tops r)[i]? = some c := by simpa [tops] using h
    obtain ⟨n1, n2, n3, n4, n5⟩ := nd_parts hn
    obtain ⟨q, h1, h2⟩ := takeF_next n4 h'
    have hx := loc_mem h1
    refine ⟨q, (loc_by (fun (z : d = c) => n2 (z ▸ hx)) (loc_none fun z => n5 _ z hx)).trans h1, ?_⟩
    show Fo.cons d k (takeF (i + 1) r) = Fo.cons d k (app (takeF i r) (.cons c q .nil))
    rw [h2]
theorem takeF_sub : ∀ (f : Fo) (i : Nat), (names (takeF i f)).Sublist (names f)
  | _, 0 => List.nil_sublist _
  | .nil, i + 1 => List.Sublist.slnil
  | .cons c k r, i + 1 => by
    show (c :: (names k ++ names (takeF i r))).Sublist (c :: (names k ++ names r))
    exact List.Sublist.cons_cons _ (List.Sublist.append_left (takeF_sub r i) _)
/-- the pairs of one tree, picked out of a forest's -/
theorem pick_tree : ∀ {f : Fo} {c : Str} {k : Fo}, (names f).Nodup → loc f c = some ([], k) → (flat f none).filter (fun q => decide (q.1 ∈ c :: names k)) = flat (.cons c k .nil) none
  | .nil, _, _, _, h => by unfold loc at h; cases h
  | .cons d k' r, c, k, hn, h => by
    obtain ⟨n1, n2, n3, n4, n5⟩ := nd_parts hn
    have keep : ∀ (l : List Pr), (∀ q ∈ l, q.1 ∈ c :: names k) → l.filter (fun q => decide (q.1 ∈ c :: names k)) = l := fun l hl => List.filter_eq_self.mpr fun q hq => decide_eq_true (hl q hq)
    have drop : ∀ (l : List Pr), (∀ q ∈ l, q.1 ∉ c :: names k) → l.filter (fun q => decide (q.1 ∈ c :: names k)) = [] := fun l hl => List.filter_eq_nil_iff.mpr fun q hq z => hl q hq (of_decide_eq_true z)
    have nm : ∀ {g : Fo} {u : Option Str} {q : Pr}, q ∈ flat g u → q.1 ∈ names g := fun {g u q} hq => by rw [← flat_names g u]; exact List.mem_map.mpr ⟨q, hq, rfl⟩
    show ((d, none) :: (flat k' (some d) ++ flat r none)).filter _ = (c, none) :: (flat k (some c) ++ [])
    rcases loc_cases h with ⟨rfl, _, rfl⟩ | ⟨_, b, e, _⟩ | ⟨hd, hk, g⟩
    · rw [List.filter_cons_of_pos (by simp), List.filter_append, keep (flat k (some d)) fun q hq => List.mem_cons_of_mem _ (nm hq), drop (flat r none) fun q hq z => ?_]
      rcases List.mem_cons.mp z with z | z
      · exact n2 (z ▸ nm hq)
      · exact n5 _ z (nm hq)
    · cases e
    · have hs := seg_sub g
      rw [List.filter_cons_of_neg (by
        intro z
        exact n2 (hs.subset (of_decide_eq_true z))), List.filter_append, drop (flat k' (some d)) fun q hq z => n5 _ (nm hq) (hs.subset z), List.nil_append]
      exact pick_tree n4 g
end TM

set_option maxHeartbeats 2000000
/-! Words of our own, over any row. -/
namespace TX
open PySem L2 PyProof.Rows
/-- the built-in names that the text leaves alone -/
structure Bn (mg : Str → Option Value) : Prop where
  len : mg "len" = none
  isi : mg "isinstance" = none
  str : mg "str" = none
  list : mg "list" = none
  tuple : mg "tuple" = none
  dict : mg "dict" = none
  int : mg "int" = none
  range : mg "range" = none
  enum : mg "enumerate" = none
  all : mg "all" = none
  any : mg "any" = none
  max : mg "max" = none
  sorted : mg "sorted" = none
/-- a def of the module, ready to be called -/
structure Fn (K : PySem.W.Frag) (mg : Str → Option Value) (x : Str) (st : Stmt) (ps : List Str) (f : Addr) (fd : FuncData) : Prop where
  F : Fun K x x st f fd
  g : mg x = some (.ref f)
  b : Binds K fd ps []
/-- all that was tracked but at W is as it was -/
def Sm (W : Addr) (H H' : Hp) : Prop := ∀ b o, b ≠ W → H b = some o → H' b = some o
theorem Sm.rfl' {W : Addr} {H : Hp} : Sm W H H := fun _ _ _ h => h
theorem Sm.trans {W : Addr} {H H1 H2 : Hp} (a : Sm W H H1) (b : Sm W H1 H2) : Sm W H H2 := fun c o n h => b c o n (a c o n h)
theorem Sm.of {W : Addr} {H H' : Hp} (s : Same H H') : Sm W H H' := fun c o _ h => s c o h
theorem Same.new {H : Hp} {p : Addr} {o : HO} (h : H p = none) : Same H (upd H p o) := fun a u e => by rw [upd_ne (ne_of_none e h)]; exact e
theorem Same.new' {H H1 : Hp} {p : Addr} {o : HO} (s : Same H H1) (h : H1 p = none) : Same H (upd H1 p o) := s.trans (Same.new h)
theorem Sm.new {W : Addr} {H H1 : Hp} {p : Addr} {o : HO} (s : Sm W H H1) (h : H1 p = none) : Sm W H (upd H1 p o) := s.trans (.of (Same.new h))
theorem Sm.put {W : Addr} {H H1 : Hp} {o : HO} (s : Sm W H H1) : Sm W H (upd H1 W o) := fun a u n e => by rw [upd_ne n]; exact s a u n e
/-- a well: three ints; n draws may follow -/
def WellAt (n : Nat) (H : Hp) (W : Addr) : Prop := ∃ a b c : Int, H W = some (.lst [.int a, .int b, .int c]) ∧ 0 ≤ b ∧ b < 2147483648 ∧ 0 ≤ c ∧ c + n ≤ 1000000000000
theorem WellAt.mono {n m : Nat} {H : Hp} {W : Addr} (h : WellAt n H W) (hm : m ≤ n) : WellAt m H W := by
  obtain ⟨a, b, c, e, h1, h2, h3, h4⟩ := h
  exact ⟨a, b, c, e, h1, h2, h3, by omega⟩
theorem WellAt.same {n : Nat} {H H' : Hp} {W : Addr} (h : WellAt n H W) (s : Same H H') : WellAt n H' W := by
  obtain ⟨a, b, c, e, r⟩ := h
  exact ⟨a, b, c, s _ _ e, r⟩
theorem WellAt.new {n : Nat} {H : Hp} {W p : Addr} {o : HO} (h : WellAt n H W) (hp : H p = none) : WellAt n (upd H p o) W := h.same (Same.new hp)
theorem WellAt.ne {n : Nat} {H : Hp} {W p : Addr} (h : WellAt n H W) (hp : H p = none) : W ≠ p := by
  obtain ⟨a, b, c, e, r⟩ := h
  exact ne_of_none e hp
/-- a turn's or a test's joint: what is known of the slots and the heap behind -/
theorem two_le : (2 : Nat) ≤ sizeLine := by decide
theorem small100 {n : Nat} (h : n ≤ 1000) : n ≤ sizeLine := Nat.le_trans h (by decide)
end TX
namespace TX
open PySem L2 PyProof.Rows
theorem Same.mut {H H1 : Hp} {p : Addr} {o : HO} (s : Same H H1) (h : H p = none) : Same H (upd H1 p o) := fun a u e => by rw [upd_ne (ne_of_none e h)]; exact s a u e
theorem Sm.mut {W : Addr} {H H1 : Hp} {p : Addr} {o : HO} (s : Sm W H H1) (h : H p = none) : Sm W H (upd H1 p o) := fun a u n e => by rw [upd_ne (ne_of_none e h)]; exact s a u n e
theorem WellAt.upd {n : Nat} {H : Hp} {W p : Addr} {o : HO} (h : WellAt n H W) (hp : W ≠ p) : WellAt n (L2.upd H p o) W := by
  obtain ⟨a, b, c, e, r⟩ := h
  exact ⟨a, b, c, by rw [upd_ne hp]; exact e, r⟩
theorem Sm.free {W : Addr} {H H' : Hp} (e : Sm W H H') {n : Nat} (hW : WellAt n H W) {l : Addr} (h : H' l = Option.none) (hW' : ∃ m, WellAt m H' W) : H l = Option.none := by
  cases q : H l with
  | none => rfl
  | some o =>
    obtain ⟨m, a, b, c, z, _⟩ := hW'
    have : l ≠ W := fun x => by rw [x, z] at h; cases h
    rw [e l o this q] at h
    cases h
/-- signs as texts -/
def S (l : List Nat) : Str := ⟨l.toArray⟩
theorem S_len (l : List Nat) : (S l).length = l.length := by show l.toArray.size = _; rw [List.size_toArray]
theorem S_cps (l : List Nat) : (S l).cps.toList = l := rfl
theorem S_inj {l m : List Nat} (h : S l = S m) : l = m := by
  have := congrArg (fun s : Str => s.cps.toList) h
  exact this
theorem S_eta (s : Str) : s = S s.cps.toList := by
  obtain ⟨⟨l⟩⟩ := s
  rfl
theorem S_app (l m : List Nat) : S l ++ S m = S (l ++ m) := by
  show (⟨l.toArray ++ m.toArray⟩ : Str) = ⟨(l ++ m).toArray⟩
  simp
theorem join_empty : ∀ ys : List (List Nat), Txt.join (S []) (ys.map S) = S ys.flatten := by
  intro ys
  show Builtin.Str.glued (S []) (ys.map S) = _
  rw [StrLaws.glued_eq_join]
  induction ys with
  | nil => rfl
  | cons y r ih =>
    cases r with
    | nil =>
      show S y = S ([y].flatten)
      simp
    | cons z r =>
      show S y ++ S [] ++ Str.join (S []) ((z :: r).map S) = _
      rw [ih, S_app, S_app]
      simp
theorem cutS_S (l : List Nat) (lo hi : Option Int) : cutS (S l) lo hi = S ((l.drop (HT.sIx l.length 0 lo)).take (HT.sIx l.length l.length hi - HT.sIx l.length 0 lo)) := by
  unfold cutS
  rw [S_len]
  rfl
/-- the letters -/
def abc : Str := Str.ofString "abcdefghijklmnopqrstuvwxyz"
theorem abc_eq : abc = S [97, 98, 99, 100, 101, 102, 103, 104, 105, 106, 107, 108, 109, 110, 111, 112, 113, 114, 115, 116, 117, 118, 119, 120, 121, 122] := by decide +kernel
theorem abc_at {j : Nat} (h : j < 26) : atI abc.cps.toList (j : Int) = some (97 + j) := by
  rw [abc_eq]
  refine atI_nat ?_
  rw [S_cps]
  revert j
  decide
theorem abc_len : abc.length ≤ sizeLine := by rw [abc_eq, S_len]; decide
/-- the k-th name of a well's -/
def nmOf (base : List Nat) (spot more bg ap k : Nat) : Str := S (base.take spot ++ (97 + (bg + ap * k) % 26) :: (base.drop spot).take more)
theorem nm_ok {base : List Nat} {spot more bg ap k : Nat} (hb : base.length = 7) (hc : ∀ c ∈ base, 97 ≤ c ∧ c ≤ 122) (hs : spot + more ≤ 7) : TM.NameOk (nmOf base spot more bg ap k) := by
  unfold TM.NameOk nmOf
  rw [S_len, S_cps]
  simp only [List.length_append, List.length_cons, List.length_take, List.length_drop, hb]
  refine ⟨by omega, by omega, fun c h => ?_⟩
  rcases List.mem_append.mp h with h | h
  · exact hc c (List.mem_of_mem_take h)
  · rcases List.mem_cons.mp h with h | h
    · have := Nat.mod_lt (bg + ap * k) (show 26 > 0 by decide)
      omega
    · exact hc c (List.mem_of_mem_drop (List.mem_of_mem_take h))
theorem nm_inj {base : List Nat} {spot more bg ap k k' : Nat} (ha : ap ∈ [1, 3, 5, 7, 9, 11, 15, 17]) (hk : k < 26) (hk' : k' < 26) (h : nmOf base spot more bg ap k = nmOf base spot more bg ap k') : k = k' := by
  have h1 := S_inj h
  have h2 := (List.append_inj h1 rfl).2
  have h3 : 97 + (bg + ap * k) % 26 = 97 + (bg + ap * k') % 26 := (List.cons.inj h2).1
  simp only [List.mem_cons, List.not_mem_nil, or_false] at ha
  rcases ha with e | e | e | e | e | e | e | e <;> subst e <;> omega
theorem nm_nodup {base : List Nat} {spot more bg ap n : Nat} (ha : ap ∈ [1, 3, 5, 7, 9, 11, 15, 17]) (hn : n ≤ 26) : ((List.range n).map (nmOf base spot more bg ap)).Nodup := by
  rw [List.nodup_iff_pairwise_ne, List.pairwise_map]
  refine List.Pairwise.imp_of_mem ?_ (List.nodup_iff_pairwise_ne.mp List.nodup_range)
  intro a b ha' hb' hne e
  exact hne (nm_inj ha (by have := List.mem_range.mp ha'; omega) (by have := List.mem_range.mp hb'; omega) e)
end TX
namespace TX
open PySem L2 PyProof.Rows
theorem sum_signs (cs : List Nat) : (List.map (fun x : Str => x.length) (cs.map fun c => S [c])).sum = cs.length := by
  induction cs with
  | nil => rfl
  | cons c r ih =>
    rw [List.map_cons, List.map_cons, List.sum_cons, ih, S_len, List.length_cons]
    simp
    omega
theorem join_signs (cs : List Nat) : Txt.join (Str.ofString "") (cs.map fun c => S [c]) = S cs := by
  have e1 : Str.ofString "" = S [] := by decide +kernel
  have e2 : cs.map (fun c => S [c]) = (cs.map fun c => [c]).map S := by rw [List.map_map]; rfl
  have e3 : (cs.map fun c => [c]).flatten = cs := by
    clear e2
    induction cs with
    | nil => rfl
    | cons c r ih => rw [List.map_cons, List.flatten_cons, ih]; rfl
  rw [e1, e2, join_empty, e3]
theorem len_empty : (Str.ofString "").length = 0 := by decide +kernel
end TX
namespace TX
open PySem L2 PyProof.Rows
theorem line100 {n : Nat} (h : n ≤ 1000) : n ≤ sizeLine := Nat.le_trans h (by decide)
theorem line100' {n : Nat} (h : n ≤ 1000) : n < sizeLine := Nat.lt_of_le_of_lt h (by decide)
theorem sapp_len (a b : Str) : (a ++ b).length = a.length + b.length := by
  show (a.cps ++ b.cps).size = _
  rw [Array.size_append]
  rfl
end TX
namespace TX
open PySem L2 PyProof.Rows TM
def optV : Option Str → V
  | none => .non
  | some x => .str x
/-- tuples of a name and what stands over it -/
def TupsAt (H : Hp) : List Addr → List Pr → Prop := Paired fun a q => H a = some (.tup [.str q.1, optV q.2])
def PairsAt (H : Hp) (p : Addr) (ps : List Pr) : Prop := ∃ as, H p = some (.lst (as.map V.ref)) ∧ TupsAt H as ps
theorem TupsAt.sm {W : Addr} {H H' : Hp} {as : List Addr} {ps : List Pr} (h : TupsAt H as ps) (s : Sm W H H') (w : ∃ n, WellAt n H W) : TupsAt H' as ps :=
  Paired.mapP h fun a q e => s a _ (by obtain ⟨n, x, y, z, e2, _⟩ := w; exact ne_of e e2 (by intro z; cases z)) e
theorem TupsAt.same {H H' : Hp} {as : List Addr} {ps : List Pr} (h : TupsAt H as ps) (s : Same H H') : TupsAt H' as ps := Paired.mapP h fun a q e => s a _ e
theorem TupsAt.put {H : Hp} {as : List Addr} {ps : List Pr} {p : Addr} {xs : List V} {o : HO} (h : TupsAt H as ps) (hp : H p = some (.lst xs)) : TupsAt (upd H p o) as ps :=
  Paired.mapP h fun a q e => by rw [upd_ne (ne_of e hp (by intro z; cases z))]; exact e
theorem TupsAt.snoc {H : Hp} {as : List Addr} {ps : List Pr} {a : Addr} {q : Pr} (h : TupsAt H as ps) (e : H a = some (.tup [.str q.1, optV q.2])) : TupsAt H (as ++ [a]) (ps ++ [q]) := by
  unfold TupsAt at *
  induction h with
  | nil => exact .cons e .nil
  | cons h _ ih => exact .cons h ih
theorem TupsAt.len {H : Hp} {as : List Addr} {ps : List Pr} (h : TupsAt H as ps) : as.length = ps.length := Paired.length h
theorem PairsAt.same {H H' : Hp} {p : Addr} {ps : List Pr} (h : PairsAt H p ps) (s : Same H H') : PairsAt H' p ps := by
  obtain ⟨as, e, t⟩ := h
  exact ⟨as, s _ _ e, t.same s⟩
theorem PairsAt.sm {W : Addr} {H H' : Hp} {p : Addr} {ps : List Pr} (h : PairsAt H p ps) (s : Sm W H H') (w : ∃ n, WellAt n H W) (hp : p ≠ W) : PairsAt H' p ps := by
  obtain ⟨as, e, t⟩ := h
  exact ⟨as, s _ _ hp e, t.sm s w⟩
end TX
namespace TX
open PySem L2 PyProof.Rows TM
def kvsOf (ps : List Pr) : List (Key × V) := ps.map fun q => ((Sum.inr q.1 : Key), optV q.2)
theorem kvs_none : ∀ {ps : List Pr} {x : Str}, x ∉ ps.map Prod.fst → valV (kvsOf ps) (Sum.inr x : Key) = none
  | [], _, _ => rfl
  | (c, o) :: r, x, h => by
    have hne : ¬ ((Sum.inr c : Key) = Sum.inr x) := fun e => by
      injection e with e
      exact h (by rw [e]; exact List.mem_cons_self)
    show valV (((Sum.inr c : Key), optV o) :: kvsOf r) _ = none
    rw [valV_neg hne]
    exact kvs_none fun hx => h (List.mem_cons_of_mem _ hx)
theorem kvs_some : ∀ {ps : List Pr} {x : Str} {o : Option Str}, (ps.map Prod.fst).Nodup → (x, o) ∈ ps → valV (kvsOf ps) (Sum.inr x : Key) = some (optV o)
  | [], _, _, _, h => nomatch h
  | (c, p) :: r, x, o, hn, h => by
    rw [List.map_cons, List.nodup_cons] at hn
    rcases List.mem_cons.mp h with e | h
    · obtain ⟨rfl, rfl⟩ := Prod.mk.inj e
      exact valV_pos (p := ((Sum.inr x : Key), optV o)) rfl
    · have hne : ¬ ((Sum.inr c : Key) = Sum.inr x) := fun e => by
        injection e with e
        exact hn.1 (by rw [e]; exact List.mem_map.mpr ⟨(x, o), h, rfl⟩)
      show valV (((Sum.inr c : Key), optV p) :: kvsOf r) _ = _
      rw [valV_neg hne]
      exact kvs_some hn.2 h
theorem optV_inj {o o' : Option Str} (h : optV o = optV o') : o = o' := by
  cases o with
  | none =>
    cases o' with
    | none => rfl
    | some y => cases h
  | some x =>
    cases o' with
    | none => cases h
    | some y =>
      have h' : V.str x = V.str y := h
      injection h' with h'
      rw [h']
/-- in a list or in a dict -/
theorem PC.or {X : Cx} {op : CmpOp} {a b : Expr} {t u : TE} (h1 : PC X op a b t) (h2 : PC X op a b u) : PC X op a b (fun σ H Q => t σ H Q ∨ u σ H Q) :=
  ⟨fun pins s σ H Q I h => h.elim (h1.run pins s σ H Q I) (h2.run pins s σ H Q I)⟩
theorem PC.ofR {X : Cx} {op : CmpOp} {a b : Expr} {ta tb : TE} {r : R2} (ho : OpR X (compareOp op) r) (ha : PE X a ta) (hb : PE X b tb) : PC X op a b (tOp r ta tb) :=
  ⟨fun pins s σ H Q I h => thn (ha.run pins s σ H _ I h) fun u s1 ⟨x, H1, I1, rx, h1⟩ => thn (hb.run pins s1 σ H1 _ I1 h1) fun v s2 ⟨y, H2, I2, ry, h2⟩ => ho pins s2 σ H2 x y u v Q I2 rx ry h2⟩
/-- the order of one sign and a letter -/
theorem lt_sign (c d : Nat) : ([c] < [d]) ↔ c < d := by
  constructor
  · intro h
    cases h with
    | rel h => exact h
    | cons h => cases h
  · intro h
    exact List.Lex.rel h
theorem str_a : Str.ofString "a" = S [97] := by decide +kernel
theorem str_z : Str.ofString "z" = S [122] := by decide +kernel
end TX
namespace TX
open PySem L2 PyProof.Rows TM
theorem TupsAt.get {H : Hp} {as : List Addr} {ps : List Pr} (h : TupsAt H as ps) : ∀ {i : Nat} {a : Addr}, as[i]? = some a → ∃ q, ps[i]? = some q ∧ H a = some (.tup [.str q.1, optV q.2]) := by
  unfold TupsAt at h
  induction h with
  | nil => intro i a e; simp at e
  | cons h _ ih =>
    intro i a e
    cases i with
    | zero =>
      simp at e
      subst e
      exact ⟨_, by simp, h⟩
    | succ i =>
      obtain ⟨q, h1, h2⟩ := ih (by simpa using e)
      exact ⟨q, by simpa using h1, h2⟩
theorem kvs_put {ps : List Pr} {c : Str} {o : Option Str} (h : c ∉ ps.map Prod.fst) : putK (kvsOf ps) (Sum.inr c : Key) (optV o) = kvsOf (ps ++ [(c, o)]) := by
  rw [putK_new _ (kvs_none h)]
  unfold kvsOf
  rw [List.map_append]
  rfl
theorem kvs_len (ps : List Pr) : (kvsOf ps).length = ps.length := by unfold kvsOf; rw [List.length_map]
theorem kvs_get {ps : List Pr} {i : Nat} : (kvsOf ps)[i]? = ps[i]?.map fun q => ((Sum.inr q.1 : Key), optV q.2) := by unfold kvsOf; rw [List.getElem?_map]
end TX
namespace TX
open PySem L2 PyProof.Rows TM
/-- a dict comprehension over a walk: Pr by the turn and the heap -/
theorem dc_walk {J : It} {n : Nat} {G : Hp → Prop} {Y : Nat → Hp → V → Hp → Prop} (wk : Walk J n G Y) {tgt : TG} {cond : TT} {key val : TE} {own : List Nat} {slots : L2.St} {Hs : Hp} {Dn : Addr} {Qf : Hp → Prop}
    (Pw : Nat → Hp → Prop) (start : Pw 0 (upd Hs Dn (.dK []))) (good : ∀ i h, i ≤ n → Pw i h → G h)
    (turn : ∀ i v h h', i < n → Pw i h → Y i h v h' → tgt v (wipe slots own) h' fun s2 h2 => wipe s2 own = wipe slots own ∧ cond s2 h2 fun b h3 =>
      (if b = true then (key s2 h3 fun ky h4 => val s2 h4 fun vl h5 => ∃ es kk, ky = kV kk ∧ h5 Dn = some (.dK es) ∧ es.length < sizeLine ∧ Pw (i + 1) (upd h5 Dn (.dK (putK es kk vl)))) else Pw (i + 1) h3))
    (fin : ∀ h, Pw n h → Qf h) :
    ∃ Z : Nat → Nat → Hp → Prop, (∃ m, Z 0 m (upd Hs Dn (.dK []))) ∧ ∀ i m h, Z i m h → (J.stop i h ∧ Qf h) ∨ (J.go i h ∧ ∃ Nx : Hp → Prop, (∀ h', Nx h' → ∃ m', m' < m ∧ Z (i + 1) m' h') ∧
      ∀ v h', J.yld i h v h' → tgt v (wipe slots own) h' fun s2 h2 => wipe s2 own = wipe slots own ∧ cond s2 h2 fun b h3 =>
        (if b = true then (key s2 h3 fun ky h4 => val s2 h4 fun vl h5 => ∃ es kk, ky = kV kk ∧ h5 Dn = some (.dK es) ∧ es.length < sizeLine ∧ Nx (upd h5 Dn (.dK (putK es kk vl)))) else Nx h3)) := by
  refine ⟨fun i m h => i ≤ n ∧ m = n - i ∧ Pw i h, ⟨n, Nat.zero_le _, by simp, start⟩, ?_⟩
  rintro i m h ⟨hi, rfl, pw⟩
  have g := good i h hi pw
  rcases Nat.lt_or_ge i n with hlt | hge
  · exact .inr ⟨wk.goes i h hlt g, Pw (i + 1), fun h' p' => ⟨n - (i + 1), by omega, hlt, rfl, p'⟩, fun v h' y => turn i v h h' hlt pw (wk.yields i h v h' hlt g y)⟩
  · obtain rfl : i = n := by omega
    exact .inl ⟨wk.stops h g, fin h pw⟩
/-- what is asked of a tree's names -/
structure FoOk (f : Fo) : Prop where
  nd : (names f).Nodup
  le : (names f).length ≤ 8
  ok : ∀ x ∈ names f, NameOk x
theorem foOk_mk {ps : List Pr} (va : Valid [] ps) (hl : ps.length ≤ 8) (hn : ∀ x ∈ ps.map Prod.fst, NameOk x) : FoOk (mk ps none) :=
  ⟨ord_nodup va, Nat.le_trans (ord_le va none) hl, fun x hx => hn x ((ord_perm va).mem_iff.mp hx)⟩
theorem kcol : ¬ (("_columns" : Str) = "_over") := by decide +kernel
/-- the attributes of a tree, in the order in which they are stored -/
def tflds (l d : Addr) : List (Str × V) := putF "_over" (.ref d) (putF "_columns" (.ref l) [])
theorem tflds_col (l d : Addr) : (tflds l d).lookup ("_columns" : Str) = some (.ref l) := by
  unfold tflds
  rw [lookup_putF, if_neg kcol, lookup_putF, if_pos rfl]
theorem tflds_over (l d : Addr) : (tflds l d).lookup ("_over" : Str) = some (.ref d) := by
  unfold tflds
  rw [lookup_putF, if_pos rfl]
theorem tflds_no (l d : Addr) {m : Str} (h1 : ¬ m = "_over") (h2 : ¬ m = "_columns") : (tflds l d).lookup m = none := by
  unfold tflds
  rw [lookup_putF, if_neg h1, lookup_putF, if_neg h2]
  rfl
theorem tflds_len (l d : Addr) : (tflds l d).length < 1000 := by
  unfold tflds
  show (if ("_columns" : Str) = "_over" then [(("_columns" : Str), V.ref d)] else (("_columns" : Str), V.ref l) :: putF "_over" (V.ref d) []).length < 1000
  rw [if_neg kcol]
  show 2 < 1000
  decide
/-- a tree stands at p -/
def TreeAt (C : Addr) (H : Hp) (p : Addr) (f : Fo) : Prop := ∃ dx l d, H p = some (.ins C dx (tflds l d)) ∧ H l = some (.lst ((names f).map V.str)) ∧ H d = some (.dK (kvsOf (flat f none)))
theorem TreeAt.same {C : Addr} {H H' : Hp} {p : Addr} {f : Fo} (t : TreeAt C H p f) (s : Same H H') : TreeAt C H' p f := by
  obtain ⟨dx, l, d, h1, h2, h3⟩ := t
  exact ⟨dx, l, d, s _ _ h1, s _ _ h2, s _ _ h3⟩
/-- an own class that isinstance may be asked of -/
structure Ic (K : PySem.W.Frag) (C : Addr) : Prop where
  ha : PySem.W.findIn K (.ref C) "__class__" = some (some (.builtin "object.__class__"))
  hn : PySem.W.specialIn K (.builtin "object.__class__") "__get__" = some (some (.builtin "getset_descriptor.__get__"))
  htk : PySem.W.takesIn K (.builtin "object.__class__") = some true
  hm : PySem.W.mroIn K C (.type "object") = some true
  me : PySem.W.kitOne K (.ref C) (.ref C) = some true
/-- what the top says of the class -/
structure Tc (K : PySem.W.Frag) (mg : Str → Option Value) (C : Addr) : Prop where
  cl : Cls K C
  nC : NoAttr K C "_columns"
  nO : NoAttr K C "_over"
  g : mg "Tree" = some (.ref C)
  ins : Ic K C
end TX
namespace TX
open PySem L2 PyProof.Rows TM
theorem strOk_name {x : Str} (h : NameOk x) : PyData.strOk x = true := by
  unfold PyData.strOk
  rw [Array.all_eq_true']
  intro c hc
  have := h.2.2 c (Array.mem_toList_iff.mpr hc)
  exact decide_eq_true (by omega)
def dS (ns : List Str) : PyData := .list (ns.map .str)
def dO : Option Str → PyData
  | none => .none
  | some x => .str x
def dP (ps : List Pr) : PyData := .list (ps.map fun q => .tuple [.str q.1, dO q.2])
theorem canS : ∀ {ns : List Str}, (∀ x ∈ ns, NameOk x) → PyData.canLayAll0 (ns.map .str) = true
  | [], _ => rfl
  | x :: r, h => by
    rw [List.map_cons]
    unfold PyData.canLayAll0
    rw [show PyData.canLay0 (.str x) = true from strOk_name (h x List.mem_cons_self), canS fun y hy => h y (List.mem_cons_of_mem _ hy)]
    rfl
theorem depS : ∀ (ns : List Str), PyData.depthAll (ns.map .str) = 0
  | [] => rfl
  | x :: r => by
    rw [List.map_cons]
    unfold PyData.depthAll
    rw [depS r]
    rfl
theorem shS {ns : List Str} (h : ∀ x ∈ ns, NameOk x) : SeqAt.shaped (dS ns) = true := by
  unfold SeqAt.shaped dS
  have h1 : PyData.canLay0 (.list (ns.map .str)) = true := by unfold PyData.canLay0; exact canS h
  have h2 : PyData.depth (.list (ns.map .str)) ≤ 64 := by unfold PyData.depth; rw [depS]; decide
  rw [h1, decide_eq_true h2]
  rfl
theorem eqvS : ∀ (ns ms : List Str), PyData.eqvAll (ns.map .str) (ms.map .str) = decide (ns = ms)
  | [], [] => rfl
  | [], _ :: _ => rfl
  | _ :: _, [] => rfl
  | x :: r, y :: t => by
    rw [List.map_cons, List.map_cons]
    unfold PyData.eqvAll PyData.eqv
    rw [eqvS r t]
    by_cases h : x = y <;> by_cases h2 : r = t <;> simp [h, h2]
theorem DpAll_strs {K : PySem.W.Frag} {H : Hp} : ∀ (ns : List Str), DpAll K H (ns.map V.str) (ns.map .str)
  | [] => .nil
  | x :: r => .cons (.str x) (DpAll_strs r)
theorem DpS {K : PySem.W.Frag} {H : Hp} {a : Addr} {ns : List Str} (h : H a = some (.lst (ns.map V.str))) : Dp K H (.ref a) (dS ns) := .lst (.of h) (DpAll_strs ns)
end TX
namespace TX
open PySem L2 PyProof.Rows TM
/-- all names of a list of pairs are names -/
def PsOk (ps : List Pr) : Prop := ∀ q ∈ ps, NameOk q.1 ∧ ∀ x, q.2 = some x → NameOk x
theorem PsOk.flat {f : Fo} (h : FoOk f) : PsOk (flat f none) := fun q hq => by
  refine ⟨h.ok _ ?_, fun x hx => ?_⟩
  · rw [← flat_names f none]
    exact List.mem_map.mpr ⟨q, hq, rfl⟩
  · rcases over_flat f none q hq with e | ⟨y, hy, e⟩
    · rw [e] at hx; cases hx
    · rw [e] at hx
      cases hx
      exact h.ok _ hy
theorem can_pair {q : Pr} (h : NameOk q.1 ∧ ∀ x, q.2 = some x → NameOk x) : PyData.canLay0 (.tuple [.str q.1, dO q.2]) = true := by
  obtain ⟨c, o⟩ := q
  have h1 : PyData.canLay0 (.str c) = true := strOk_name h.1
  have h2 : PyData.canLay0 (dO o) = true := by
    cases o with
    | none => rfl
    | some x => exact strOk_name (h.2 x rfl)
  unfold PyData.canLay0 PyData.canLayAll0 PyData.canLayAll0 PyData.canLayAll0
  rw [h1, h2]
  rfl
theorem canP : ∀ {ps : List Pr}, PsOk ps → PyData.canLayAll0 (ps.map fun q => .tuple [.str q.1, dO q.2]) = true
  | [], _ => rfl
  | x :: r, h => by
    rw [List.map_cons]
    unfold PyData.canLayAll0
    rw [can_pair (h x List.mem_cons_self), canP fun y hy => h y (List.mem_cons_of_mem _ hy)]
    rfl
theorem dep_dO (o : Option Str) : PyData.depth (dO o) = 0 := by cases o <;> rfl
theorem depP : ∀ (ps : List Pr), PyData.depthAll (ps.map fun q => .tuple [.str q.1, dO q.2]) ≤ 1
  | [] => Nat.zero_le _
  | x :: r => by
    rw [List.map_cons]
    unfold PyData.depthAll
    have h1 : PyData.depth (.tuple [.str x.1, dO x.2]) = 1 := by
      unfold PyData.depth PyData.depthAll PyData.depthAll PyData.depthAll
      rw [dep_dO]
      rfl
    have := depP r
    rw [h1]
    omega
theorem shP {ps : List Pr} (h : PsOk ps) : SeqAt.shaped (dP ps) = true := by
  unfold SeqAt.shaped dP
  have h1 : PyData.canLay0 (.list (ps.map fun q => .tuple [.str q.1, dO q.2])) = true := by unfold PyData.canLay0; exact canP h
  have h2 : PyData.depth (.list (ps.map fun q => .tuple [.str q.1, dO q.2])) ≤ 64 := by
    unfold PyData.depth
    have := depP ps
    omega
  rw [h1, decide_eq_true h2]
  rfl
theorem eqv_dO : ∀ (o p : Option Str), PyData.eqv (dO o) (dO p) = decide (o = p)
  | none, none => rfl
  | none, some _ => rfl
  | some _, none => rfl
  | some x, some y => by
    show PyData.eqv (.str x) (.str y) = _
    unfold PyData.eqv
    by_cases h : x = y <;> simp [h]
theorem eqv_pair (q r : Pr) : PyData.eqv (.tuple [.str q.1, dO q.2]) (.tuple [.str r.1, dO r.2]) = decide (q = r) := by
  obtain ⟨a, b⟩ := q
  obtain ⟨c, d⟩ := r
  unfold PyData.eqv PyData.eqvAll PyData.eqvAll PyData.eqvAll
  rw [eqv_dO]
  have : PyData.eqv (.str a) (.str c) = decide (a = c) := by unfold PyData.eqv; by_cases h : a = c <;> simp [h]
  show (PyData.eqv (.str a) (.str c) && (decide (b = d) && true)) = _
  rw [this]
  by_cases h : a = c <;> by_cases h2 : b = d <;> simp [h, h2]
theorem eqvP : ∀ (ps qs : List Pr), PyData.eqvAll (ps.map fun q => .tuple [.str q.1, dO q.2]) (qs.map fun q => .tuple [.str q.1, dO q.2]) = decide (ps = qs)
  | [], [] => rfl
  | [], _ :: _ => rfl
  | _ :: _, [] => rfl
  | x :: r, y :: t => by
    rw [List.map_cons, List.map_cons]
    unfold PyData.eqvAll
    rw [eqvP r t, eqv_pair]
    by_cases h : x = y <;> by_cases h2 : r = t <;> simp [h, h2]
theorem Dp_optV {K : PySem.W.Frag} {H : Hp} : ∀ (o : Option Str), Dp K H (optV o) (dO o)
  | none => .non
  | some x => .str x
theorem DpAll_tups {K : PySem.W.Frag} {H : Hp} {as : List Addr} {ps : List Pr} (h : TupsAt H as ps) : DpAll K H (as.map V.ref) (ps.map fun q => .tuple [.str q.1, dO q.2]) := by
  unfold TupsAt at h
  induction h with
  | nil => exact .nil
  | cons h _ ih => exact .cons (.tup (.of h) (.cons (.str _) (.cons (Dp_optV _) .nil))) ih
theorem PairsAt.dp {K : PySem.W.Frag} {H : Hp} {a : Addr} {ps : List Pr} (h : PairsAt H a ps) : Dp K H (.ref a) (dP ps) := by
  obtain ⟨as, e, t⟩ := h
  exact .lst (.of e) (DpAll_tups t)
theorem eqv_dS (ns ms : List Str) : PyData.eqv (dS ns) (dS ms) = decide (ns = ms) := by
  unfold dS PyData.eqv
  exact eqvS ns ms
theorem eqv_dP (ps qs : List Pr) : PyData.eqv (dP ps) (dP qs) = decide (ps = qs) := by
  unfold dP PyData.eqv
  exact eqvP ps qs
end TX
namespace TX
open PySem L2 PyProof.Rows TM
/-- a method of a class, ready to be called -/
structure Mt (K : PySem.W.Frag) (C : Addr) (m qual : Str) (st : Stmt) (ps : List Str) (f : Addr) (fd : FuncData) : Prop where
  F : Fun K m qual st f fd
  me : Meth K C m f
  b : Binds K fd ps []
theorem TupsAt.app {H : Hp} {as bs : List Addr} {ps qs : List Pr} (h : TupsAt H as ps) (k : TupsAt H bs qs) : TupsAt H (as ++ bs) (ps ++ qs) := by
  unfold TupsAt at *
  induction h with
  | nil => exact k
  | cons h _ ih => exact .cons h ih
/-- an error class of our own that is raised with a text -/
structure Ec (K : PySem.W.Frag) (mg : Str → Option Value) (x : Str) (C : Addr) : Prop where
  ex : PySem.W.excIn K C [.type "ValueError", .type "Exception", .type "BaseException", .type "object"] "ValueError.__new__" = true
  g : mg x = some (.ref C)
  k : PySem.W.keepIn K (.ref C) = true
  b : PySem.W.subIn K (.ref C) (.type "BaseException") = some true
  t : PySem.W.typeIn K (.ref C) = some (.type "type")
theorem FoOk.app {f g : Fo} (hf : FoOk f) (hg : FoOk g) (hd : ∀ x ∈ names f, x ∉ names g) (hl : (names f).length + (names g).length ≤ 8) : FoOk (app f g) := by
  refine ⟨?_, ?_, fun x hx => ?_⟩
  · rw [names_app, List.nodup_append]
    exact ⟨hf.nd, hg.nd, fun a ha b hb e => hd a ha (e ▸ hb)⟩
  · rw [names_app, List.length_append]
    exact hl
  · rw [names_app] at hx
    rcases List.mem_append.mp hx with hx | hx
    · exact hf.ok x hx
    · exact hg.ok x hx
theorem inV_str (x : Str) (ns : List Str) : inV (.str x) (ns.map V.str) = decide (x ∈ ns) := by
  unfold inV
  induction ns with
  | nil => rfl
  | cons y r ih =>
    rw [List.map_cons, List.any_cons, ih]
    show ((y == x) || decide (x ∈ r)) = _
    by_cases h : x = y
    · simp [h]
    · have h' : ¬ y = x := fun e => h e.symm
      simp [h, h']
theorem flat_strs (ns : List Str) : (ns.map V.str).all flatV = true := by
  rw [List.all_map, List.all_eq_true]
  intro x _
  rfl
end TX
namespace TX
open PySem L2 PyProof.Rows TM
theorem merge_kvs : ∀ (qs pre : List Pr), ((pre ++ qs).map Prod.fst).Nodup → mergeK (kvsOf pre) (kvsOf qs) = kvsOf (pre ++ qs)
  | [], pre, _ => by rw [List.append_nil]; rfl
  | (c, o) :: r, pre, h => by
    have hc : c ∉ pre.map Prod.fst := by
      rw [List.map_append, List.nodup_append] at h
      intro hm
      exact h.2.2 c hm c (by simp) rfl
    show mergeK (putK (kvsOf pre) (Sum.inr c : Key) (optV o)) (kvsOf r) = _
    rw [kvs_put hc, merge_kvs r (pre ++ [(c, o)]) (by simpa using h)]
    simp
theorem merge_nil {ps : List Pr} (h : (ps.map Prod.fst).Nodup) : mergeK [] (kvsOf ps) = kvsOf ps := by
  have := merge_kvs ps [] (by simpa using h)
  rw [List.nil_append] at this
  exact this
theorem kvs_isSome {ps : List Pr} (h : (ps.map Prod.fst).Nodup) (x : Str) : (valV (kvsOf ps) (Sum.inr x : Key)).isSome = decide (x ∈ ps.map Prod.fst) := by
  by_cases hx : x ∈ ps.map Prod.fst
  · obtain ⟨⟨x', o⟩, hm, rfl⟩ := List.mem_map.mp hx
    rw [kvs_some h hm, decide_eq_true hx]
    rfl
  · rw [kvs_none hx, decide_eq_false hx]
    rfl
theorem cut_strs (ns : List Str) (lo hi : Option Int) : ∃ ms : List Str, cutV (ns.map V.str) lo hi = ms.map V.str ∧ ms.Sublist ns ∧ ms.length ≤ HT.sIx ns.length ns.length hi - HT.sIx ns.length 0 lo := by
  refine ⟨(ns.drop (HT.sIx ns.length 0 lo)).take (HT.sIx ns.length ns.length hi - HT.sIx ns.length 0 lo), ?_, ?_, ?_⟩
  · unfold cutV
    rw [List.length_map, List.map_take, List.map_drop]
  · exact (List.take_sublist _ _).trans (List.drop_sublist _ _)
  · rw [List.length_take]
    exact Nat.min_le_left _ _
/-- dict(pairs) -/
def rDP (K : PySem.W.Frag) : List V → Hp → VK → Prop := fun vs H Q => ∃ (L : Addr) (as : List Addr) (es : List (Key × V)), vs = [.ref L] ∧ SqL K H L (as.map V.ref) ∧
  Paired (fun a e => SqT K H a [kV e.1, e.2]) as es ∧ ∀ d, H d = none → Q (.ref d) (upd H d (.dK (mergeK [] es)))
theorem call_dP {X : Cx} (hc : X.calm = true) : CallR X (.type "dict") (rDP X.K) := call_dictP hc
theorem pairs_es {K : PySem.W.Frag} {H : Hp} {as : List Addr} {ps : List Pr} (h : TupsAt H as ps) : Paired (fun a (e : Key × V) => SqT K H a [kV e.1, e.2]) as (kvsOf ps) := by
  unfold TupsAt at h
  induction h with
  | nil => exact .nil
  | cons h _ ih => exact .cons (.of h) ih
theorem PairsAt.nil {H : Hp} {p : Addr} (h : H p = some (.lst [])) : PairsAt H p [] := ⟨[], h, .nil⟩
theorem ord_len {ps : List Pr} (va : Valid [] ps) : (names (mk ps none)).length = ps.length := by
  have := (ord_perm va).length_eq
  rw [List.length_map] at this
  exact this
theorem foOk_nil : FoOk .nil := ⟨List.nodup_nil, Nat.zero_le _, fun _ h => nomatch h⟩
theorem PairsAt.app {H H' : Hp} {a b p : Addr} {ps qs : List Pr} {as bs : List Addr} (h : TupsAt H as ps) (k : TupsAt H bs qs) (s : Same H H') (e : H' p = some (.lst (as.map V.ref ++ bs.map V.ref))) : PairsAt H' p (ps ++ qs) :=
  ⟨as ++ bs, by rw [e, List.map_append], (h.app k).same s⟩
theorem PsOk.app {ps qs : List Pr} (h : PsOk ps) (k : PsOk qs) : PsOk (ps ++ qs) := fun q hq => (List.mem_append.mp hq).elim (h q) (k q)
/-- [pairs, pairs] -/
theorem sh2 {ps qs : List Pr} (h : PsOk ps) (k : PsOk qs) : SeqAt.shaped (.list [dP ps, dP qs]) = true := by
  unfold SeqAt.shaped
  have a1 : PyData.canLay0 (dP ps) = true := (Bool.and_eq_true_iff.mp (shP h)).1
  have a2 : PyData.canLay0 (dP qs) = true := (Bool.and_eq_true_iff.mp (shP k)).1
  have b1 : PyData.depth (dP ps) ≤ 2 := by unfold dP PyData.depth; have := depP ps; omega
  have b2 : PyData.depth (dP qs) ≤ 2 := by unfold dP PyData.depth; have := depP qs; omega
  have h1 : PyData.canLay0 (.list [dP ps, dP qs]) = true := by
    unfold PyData.canLay0 PyData.canLayAll0 PyData.canLayAll0 PyData.canLayAll0
    rw [a1, a2]
    rfl
  have h2 : PyData.depth (.list [dP ps, dP qs]) ≤ 64 := by
    unfold PyData.depth PyData.depthAll PyData.depthAll PyData.depthAll
    omega
  rw [h1, decide_eq_true h2]
  rfl
theorem eqv_refl2 (ps qs : List Pr) : PyData.eqv (.list [dP ps, dP qs]) (.list [dP ps, dP qs]) = true := by
  unfold PyData.eqv PyData.eqvAll PyData.eqvAll PyData.eqvAll
  rw [eqv_dP, eqv_dP, decide_eq_true rfl, decide_eq_true rfl]
  rfl
theorem Dp2 {K : PySem.W.Frag} {H : Hp} {p a b : Addr} {ps qs : List Pr} (h : H p = some (.lst [.ref a, .ref b])) (ha : PairsAt H a ps) (hb : PairsAt H b qs) : Dp K H (.ref p) (.list [dP ps, dP qs]) :=
  .lst (.of h) (.cons ha.dp (.cons hb.dp .nil))
end TX
namespace TX
open PySem L2 PyProof.Rows TM
theorem optV_ne_none {o : Option Str} : decide (optV o = .non) = o.isNone := by
  cases o with
  | none => rfl
  | some x => rfl
/-- the over of a name, found in the dict -/
theorem over_get {f : Fo} (ok : FoOk f) {c : Str} {a : List Str} {q : Fo} (h : loc f c = some (a, q)) : valV (kvsOf (flat f none)) (Sum.inr c : Key) = some (optV (lastOr a none)) :=
  kvs_some (by rw [flat_names]; exact ok.nd) (loc_flat none h)
end TX
namespace TX
open PySem L2 PyProof.Rows TM
/-- an expression that is v whatever is asked behind, and only makes objects -/
def Ee (te : TE) (s : L2.St) (H : Hp) (v : V) : Prop := ∀ h, Same H h → ∀ Q : VK, (∀ h', Same h h' → Q v h') → te s h Q
def Et (tt : TT) (s : L2.St) (H : Hp) (b : Bool) : Prop := ∀ h, Same H h → ∀ Q : Bool → Hp → Prop, (∀ h', Same h h' → Q b h') → tt s h Q
theorem et_yes {s : L2.St} {H : Hp} : Et tYes s H true := fun h _ Q q => q h (fun _ _ e => e)
theorem ee_var {i : Nat} {s : L2.St} {H : Hp} {v : V} (e : s[i]? = some (some v)) : Ee (tVar i) s H v := fun h _ Q q => ⟨v, e, q h (fun _ _ e => e)⟩
/-- [e for x in l if t], the items of the list l -/
theorem lc_all {K : PySem.W.Frag} {l : Addr} {i : Nat} {tt : TT} {te : TE} {s : L2.St} {H : Hp} {xs : List V} {g : V → V} {p : V → Bool} {Q : VK} {ti : TE} (hi : ti s H fun v h => v = .ref l ∧ Same H h) (mono : ∀ Q1 Q2 : VK, (∀ v h, Q1 v h → Q2 v h) → ti s H Q1 → ti s H Q2)
    (hl : SqL K H l xs) (hn : xs.length ≤ 1000) (ht : ∀ x ∈ xs, ∀ h, Same H h → Et tt ((wipe s [i]).set i (some x)) h (p x)) (he : ∀ x ∈ xs, p x = true → ∀ h, Same H h → Ee te ((wipe s [i]).set i (some x)) h (g x))
    (q : ∀ L h, Same H h → H L = none → h L = some (.lst ((xs.filter p).map g)) → Q (.ref L) h) : tLc (iList K ti) (gName i) tt te [i] s H Q := by
  refine mono _ _ (fun v H1 => ?_) hi
  rintro ⟨rfl, s1⟩
  refine ⟨l, rfl, ⟨xs, s1.seq hl⟩, fun D nD => ?_⟩
  refine lc_it (walk_list (xs := xs)) (fun j h => h D = some (.lst (((xs.take j).filter p).map g)) ∧ Same H1 h) ⟨upd_same, Same.new nD⟩ (fun j h _ ⟨_, s2⟩ => s2.seq (s1.seq hl)) ?_ ?_
  · rintro j x h h' hj ⟨e, s2⟩ ⟨rfl, hx⟩
    have hm : x ∈ xs := List.mem_of_getElem? hx
    have htk : xs.take (j + 1) = xs.take j ++ [x] := by rw [List.take_add_one, hx]; rfl
    have s3 := s1.trans s2
    refine ⟨?_, ?_⟩
    · show (((wipe s [i]).set i (some x)).set i none) = wipe s [i]
      show (((s.set i none).set i (some x)).set i none) = s.set i none
      rw [List.set_set, List.set_set]
    refine ht x hm h' s3 h' (fun _ _ e => e) _ fun h4 s4 => ?_
    have e4 := s4 _ _ e
    cases hp : p x with
    | true =>
      refine he x hm hp h4 (s3.trans s4) h4 (fun _ _ e => e) _ fun h5 s5 => ?_
      refine ⟨_, s5 _ _ e4, ?_, ?_, Same.mut ((s2.trans s4).trans s5) nD⟩
      · rw [List.length_map]
        have h1 := List.length_filter_le p (xs.take j)
        rw [List.length_take] at h1
        exact line100' (by omega)
      · rw [upd_same, htk, List.filter_append, List.filter_cons_of_pos hp, List.map_append]
        rfl
    | false =>
      refine ⟨?_, s2.trans s4⟩
      rw [htk, List.filter_append, List.filter_cons_of_neg (by rw [hp]; exact Bool.false_ne_true), List.filter_nil, List.append_nil]
      exact e4
  · rintro h ⟨e, s2⟩
    rw [List.take_length] at e
    exact q D h (s1.trans s2) (s1.free nD) e
theorem mono_var {i : Nat} {s : L2.St} {H : Hp} : ∀ Q1 Q2 : VK, (∀ v h, Q1 v h → Q2 v h) → tVar i s H Q1 → tVar i s H Q2 := fun Q1 Q2 k ⟨v, e, h⟩ => ⟨v, e, k v H h⟩
theorem mono_fld {K : PySem.W.Frag} {i : Nat} {f : Str} {s : L2.St} {H : Hp} : ∀ Q1 Q2 : VK, (∀ v h, Q1 v h → Q2 v h) → tFld K (tVar i) f s H Q1 → tFld K (tVar i) f s H Q2 :=
  fun Q1 Q2 k ⟨v, e, a, C, dx, fs, w, h1, h2, h3, h4, h5, h⟩ => ⟨v, e, a, C, dx, fs, w, h1, h2, h3, h4, h5, k w H h⟩
theorem filter_strs (ns : List Str) (p : Str → Bool) (r : V → Bool) (h : ∀ n ∈ ns, r (.str n) = p n) : (ns.map V.str).filter r = (ns.filter p).map V.str := by
  induction ns with
  | nil => rfl
  | cons n t ih =>
    rw [List.map_cons, List.filter_cons, List.filter_cons, h n List.mem_cons_self, ih fun m hm => h m (List.mem_cons_of_mem _ hm)]
    cases p n <;> rfl
end TX
namespace TX
open PySem L2 PyProof.Rows TM
/-- an if whose test is false, whatever was made -/
theorem sq_no {tc : TT} {t B : TS} {D : Ends} {s : L2.St} {H : Hp} (h : Et tc s H false) (k : ∀ h', Same H h' → B D s h') : tSeq (tIfS tc t tNext) B D s H := h H (fun _ _ e => e) _ k
theorem et_or {t u : TT} {s : L2.St} {H : Hp} (h : Et t s H false) (k : ∀ h', Same H h' → Et u s h' false) : Et (tOr t u) s H false := fun h1 s1 Q q =>
  h h1 s1 _ fun h2 s2 => k h2 (s1.trans s2) h2 (fun _ _ e => e) Q fun h3 s3 => q h3 (s2.trans s3)
theorem kids_take {q : Fo} {ks : List Str} {i : Nat} {c : Str} (h : ks[i]? = some c) : (ks.take (i + 1)).flatMap (kidsOf q) = (ks.take i).flatMap (kidsOf q) ++ kidsOf q c := by
  rw [List.take_add_one, h, List.flatMap_append]
  show _ ++ (kidsOf q c ++ []) = _
  rw [List.append_nil]
theorem bool_data (bs : List Bool) : SeqAt.shaped (.list (bs.map PyData.bool)) = true := by
  have h1 : PyData.canLayAll0 (bs.map PyData.bool) = true := by
    induction bs with
    | nil => rfl
    | cons b r ih => rw [List.map_cons]; unfold PyData.canLayAll0; rw [ih]; rfl
  have h2 : PyData.depthAll (bs.map PyData.bool) = 0 := by
    clear h1
    induction bs with
    | nil => rfl
    | cons b r ih => rw [List.map_cons]; unfold PyData.depthAll; rw [ih]; rfl
  unfold SeqAt.shaped
  have a1 : PyData.canLay0 (.list (bs.map PyData.bool)) = true := by unfold PyData.canLay0; exact h1
  have a2 : PyData.depth (.list (bs.map PyData.bool)) ≤ 64 := by unfold PyData.depth; rw [h2]; decide
  rw [a1, decide_eq_true a2]
  rfl
theorem bool_refl (bs : List Bool) : PyData.eqv (.list (bs.map PyData.bool)) (.list (bs.map PyData.bool)) = true := by
  unfold PyData.eqv
  induction bs with
  | nil => rfl
  | cons b r ih =>
    rw [List.map_cons]
    unfold PyData.eqvAll
    rw [ih]
    show (b == b && true) = true
    simp
theorem Dp_bools {K : PySem.W.Frag} {H : Hp} {a : Addr} {bs : List Bool} (h : H a = some (.lst (bs.map V.bl))) : Dp K H (.ref a) (.list (bs.map PyData.bool)) := by
  refine .lst (.of h) ?_
  clear h
  induction bs with
  | nil => exact .nil
  | cons b r ih => exact .cons (.bl b) ih
theorem filter_yes {xs : List V} : xs.filter (fun _ => true) = xs := by
  induction xs with
  | nil => rfl
  | cons x r ih => rw [List.filter_cons_of_pos rfl, ih]
theorem dec_strs (n : Str) (ks : List Str) : decide (V.str n ∈ ks.map V.str) = decide (n ∈ ks) := by
  by_cases hm : n ∈ ks
  · rw [decide_eq_true hm, decide_eq_true (List.mem_map.mpr ⟨n, hm, rfl⟩)]
  · rw [decide_eq_false hm, decide_eq_false]
    intro z
    obtain ⟨m, hm2, e2⟩ := List.mem_map.mp z
    exact hm (V.str.inj e2 ▸ hm2)
theorem same_rfl {H : Hp} : Same H H := fun _ _ e => e
end TX
namespace TX
open PySem L2 PyProof.Rows TM
theorem lt_anti : ∀ {a b : List Nat}, PySem.Spec.ltCps a b = false → PySem.Spec.ltCps b a = false → a = b
  | [], [], _, _ => rfl
  | [], _ :: _, h, _ => by cases h
  | _ :: _, [], _, h => by cases h
  | x :: a, y :: b, h1, h2 => by
    have g1 : (decide (x < y) || (x == y && PySem.Spec.ltCps a b)) = false := h1
    have g2 : (decide (y < x) || (y == x && PySem.Spec.ltCps b a)) = false := h2
    have e : x = y := by
      have a1 : ¬ x < y := fun z => by rw [decide_eq_true z] at g1; cases g1
      have a2 : ¬ y < x := fun z => by rw [decide_eq_true z] at g2; cases g2
      omega
    subst e
    simp at g1 g2
    rw [lt_anti g1 g2]
theorem lt_trans' : ∀ {a b c : List Nat}, PySem.Spec.ltCps b a = false → PySem.Spec.ltCps c b = false → PySem.Spec.ltCps c a = false
  | [], _, [], _, _ => rfl
  | [], [], _ :: _, _, h => rfl
  | [], _ :: _, _ :: _, _, _ => rfl
  | _ :: _, [], _, h, _ => by cases h
  | x :: a, y :: b, [], _, h => by cases h
  | x :: a, y :: b, z :: c, h1, h2 => by
    have g1 : (decide (y < x) || (y == x && PySem.Spec.ltCps b a)) = false := h1
    have g2 : (decide (z < y) || (z == y && PySem.Spec.ltCps c b)) = false := h2
    show (decide (z < x) || (z == x && PySem.Spec.ltCps c a)) = false
    have a1 : ¬ y < x := fun w => by rw [decide_eq_true w] at g1; cases g1
    have a2 : ¬ z < y := fun w => by rw [decide_eq_true w] at g2; cases g2
    have a3 : ¬ z < x := by omega
    rw [decide_eq_false a3, Bool.false_or]
    by_cases e : z = x
    · have e1 : y = x := by omega
      subst e
      subst e1
      simp at g1 g2
      rw [lt_trans' g1 g2]
      simp
    · have : (z == x) = false := by simpa using e
      rw [this]
      rfl
theorem sorted_pair : ∀ {l : List Str}, PyProof.Rows.sortedS l = true → l.Pairwise fun a b => PySem.Spec.ltCps b.cps.toList a.cps.toList = false
  | [], _ => List.Pairwise.nil
  | [x], _ => List.pairwise_singleton _ _
  | x :: y :: r, h => by
    have h' : (!PySem.Spec.ltCps y.cps.toList x.cps.toList && PyProof.Rows.risingS y r) = true := h
    rw [Bool.and_eq_true] at h'
    have ih : (y :: r).Pairwise fun a b => PySem.Spec.ltCps b.cps.toList a.cps.toList = false := sorted_pair h'.2
    have h1 : PySem.Spec.ltCps y.cps.toList x.cps.toList = false := by simpa using h'.1
    refine List.pairwise_cons.mpr ⟨fun z hz => ?_, ih⟩
    rcases List.mem_cons.mp hz with e | hz
    · rw [e]
      exact h1
    · exact lt_trans' h1 ((List.pairwise_cons.mp ih).1 z hz)
theorem sorted_same {l m : List Str} (h : l.Perm m) (h1 : PyProof.Rows.sortedS l = true) (h2 : PyProof.Rows.sortedS m = true) : l = m := by
  refine perm_eq (fun a b r1 r2 => ?_) h (sorted_pair h1) (sorted_pair h2)
  rw [S_eta a, S_eta b, lt_anti r2 r1]
theorem mono_c {v : V} {s : L2.St} {H : Hp} : ∀ Q1 Q2 : VK, (∀ v h, Q1 v h → Q2 v h) → tC v s H Q1 → tC v s H Q2 := fun _ _ k h => k _ _ h
end TX

set_option maxHeartbeats 2000000
/-! Rules of our own: the length of an own instance; isinstance of a caught error, one class or several. -/
namespace TY
open PySem L2 PyProof.Rows TX
section
variable {X : Cx}
/-- len(o) by an own __len__ -/
def rLenO (C : Addr) (sp : Sp) (E : XK) : List V → Hp → VK → Prop := fun xs H Q => ∃ a dx fs, xs = [.ref a] ∧ H a = some (.ins C dx fs) ∧ sp [.ref a] H (fun v H' => ∃ k : Nat, v = .int k ∧ k ≤ 1000000 ∧ Q (.int k) H') E
theorem call_lenO {CX : CXT} {C f : Addr} {fd : FuncData} {ps : List Str} {sp : Sp} {E : XK} {n : Nat} (F : FnOk X.prog X.w X.K X.mg X.base CX n f fd ps sp) (hs : PySem.W.findIn X.K (.ref C) "__len__" = some (some (.ref f)))
    (hf : PySem.W.isFn X.K (.ref f) = true) (hb : Binds X.K fd ps []) (hx : Passes CX X E) (hr : Room (n + 1) X.A) : CallR X (.builtin "len") (rLenO C sp E) := by
  intro pins s σ H xs us Q I r h
  obtain ⟨a, dx, fs, rfl, ha, hsp⟩ := h
  obtain ⟨u, rfl, rx⟩ := vals1 r
  cases rx
  obtain ⟨mA, J, _⟩ := ins_get I.hok ha
  obtain ⟨od, J, _⟩ := J.look
  obtain ⟨m, hF⟩ := I.fr
  refine PySem.W.len_K hF I.ok.mod.kin J hs hf ?_
  have e0 : Env0 X.prog X.w X.K X.mg X.base X.A.in1 X.stack s H := by
    have e := I.env0
    exact ⟨e.frames, e.mod, e.bs, e.bsz, e.funs, e.frf, e.hok, e.bare⟩
  have hl := F.len _ _ _ _ hsp
  refine wpAny_call (codeAny_mono (F.run X.A.in1 X.stack s H ⟨[.ref a], []⟩ [.ref a] [.ref a] _ E hr.in1 e0 (by
    have := hb s [.ref a] I.kIn (by simpa using hl)
    simpa using this) (.cons rfl .nil) hsp) fun r s' hq => ?_)
  cases r with
  | error e => exact hx pins σ H s e s' I hq
  | ok fl =>
    cases fl with
    | ret u =>
      obtain ⟨z, H', I', rz, k, ez, hk, q⟩ := I.after hq
      subst ez
      obtain ⟨t, rfl⟩ := rz
      show PySem.W.LenBack _ (.int (k : Int) t) s'
      exact ⟨by omega, ⟨.int k, H', I'.tok _, ⟨_, rfl⟩, q⟩⟩
    | next => exact False.elim hq
    | brk => exact False.elim hq
    | cont => exact False.elim hq
/-- isinstance of the error that the suite holds: one class, or a tuple of classes that was just laid -/
def rIsX (K : PySem.W.Frag) (a : Addr) (cls : Value) (d : Option Addr) : List V → Hp → VK → Prop := fun xs H Q => ∃ (D : Addr) (c : V) (b : Bool), cls = .ref D ∧ d = none ∧ ExcC K D ∧ xs = [.ref a, c] ∧
  ((∃ cv, ClsV c cv ∧ PySem.W.kitOne K (.ref D) cv = some b) ∨ (∃ tp cs us, c = .ref tp ∧ H tp = some (.tup cs) ∧ Paired ClsV cs us ∧ PySem.W.kitAny K (.ref D) us = some b)) ∧ Q (.bl b) H
theorem call_isX {a : Addr} {oe : Obj} {cls : Value} {d : Option Addr} {pn : List (Addr × Obj)} (hz : Zc cls d oe) (hf : ∃ vs, oe.data = .fields vs) : CallR (X.suite a ((a, oe) :: pn)) (.builtin "isinstance") (rIsX X.K a cls d) := by
  intro pins s σ H xs us Q I r h
  obtain ⟨D, c, b, rfl, rfl, C, rfl, hc, q⟩ := h
  obtain ⟨u1, u2, rfl, r1, r2⟩ := vals2 r
  cases r1
  obtain ⟨hget, _⟩ := I.pin (a, oe) (List.mem_append.mpr (.inl List.mem_cons_self))
  obtain ⟨vs, hv⟩ := hf
  have J : PySem.W.InstAt s.heap a oe D none := by
    obtain ⟨oc, od, oda, osl⟩ := oe
    obtain ⟨h1, h2⟩ := hz
    dsimp only at h1 h2 hv
    subst h1 h2 hv
    exact ⟨hget, rfl, rfl, trivial⟩
  have Z := PySem.W.handS_kitx_exc (x := a) (ox := oe) C.hg C.hk C.hs C.hd C.ha C.hn C.ht C.hm
  rcases hc with ⟨cv, hcv, e⟩ | ⟨tp, cs, ws, rfl, hT, k, e⟩
  · have e2 := hcv.eq r2
    subst e2
    exact PySem.W.kia_one Z I.kIn J e (fun z => nomatch z) fun tk => ⟨.bl b, H, I.kept (t' := tk) fun _ _ z => z, rfl, q⟩
  · cases (show u2 = Value.ref tp from r2)
    obtain ⟨_, its, rv, o, h1, h2, n, h3⟩ := (show ObjOk X.prog X.w H s.heap tp (.tup cs) from I.hok tp _ hT)
    have e3 := ClsV.all k rv
    subst e3
    obtain ⟨oc, od, dt, sl⟩ := o
    simp only at h2 h3
    subst h2 h3
    exact PySem.W.kia_tup Z I.kIn J h1 e (fun z => nomatch z) fun tk => ⟨.bl b, H, I.kept (t' := tk) fun _ _ z => z, rfl, q⟩
end
end TY

set_option maxHeartbeats 2000000
/-! Rules of our own: a made instance whose __init__ may raise; isinstance of a caught error that has a dict; two lists of the same items. -/
namespace TY
open PySem L2 PyProof.Rows TX
section
variable {X : Cx} {CX : CXT} {k : Nat} {f C : Addr} {fd : FuncData} {ps : List Str} {sp : Sp} {E : L2.St → XK} {x : Str} {p pos : Pos} {e : Expr} {es : List Expr} {t : TA}
theorem run_makeS {pins : List (Addr × Obj)} {σ : L2.St} {H : Hp} {s : Shared} {Q : VK} {us : List Value} {vs : List V} (M : Mk X.K C f) (F : FnOk X.prog X.w X.K X.mg X.base CX k f fd ps sp) (hr : Room (k + 1) X.A) (hb : Binds X.K fd ps [])
    (hx : PassesAt CX X σ (E σ)) (I : Inv X pins σ H s) (r : Vals vs us)
    (h : ∀ x dx, H x = none → H dx = none → dx ≠ x → sp (.ref x :: vs) (upd (upd H dx (.own x)) x (.ins C dx [])) (fun v H2 => v = .non ∧ Q (.ref x) H2) (E σ)) :
    wpAny (model X.prog X.w) X.A (call (.ref C) us) (EP X pins σ Q) X.xe s := by
  have hq := h (s.heap.objs.size + 1) s.heap.objs.size (I.hok.fresh (Nat.le_succ _)) (I.hok.fresh (Nat.le_refl _)) (Nat.ne_of_lt (Nat.lt_succ_self _))
  have I2 := Inv.made (C := C) I
  have r2 : Vals (V.ref (s.heap.objs.size + 1) :: vs) (Value.ref (s.heap.objs.size + 1) :: us) := .cons rfl r
  have hl : (Value.ref (s.heap.objs.size + 1) :: us).length = ps.length := by
    have e := r2.length
    rw [F.len _ _ _ _ hq] at e
    exact e.symm
  have b := hb _ (Value.ref (s.heap.objs.size + 1) :: us) I2.kIn (by rw [List.append_nil]; exact hl)
  rw [List.append_nil] at b
  refine wpAny_call (make_map (f := f) I.kIn M.makes M.init (beq_iff_eq.mp M.fn) (codeAny_mono (F.run _ X.stack _ _ ⟨Value.ref (s.heap.objs.size + 1) :: us, []⟩ (Value.ref (s.heap.objs.size + 1) :: us) _ _ (E σ) (hr.make C us [])
    (I2.env0.make C us []) b r2 hq) fun r s' hq' => ?_))
  cases r with
  | error e => exact hx pins _ _ e s' I2 hq'
  | ok fl =>
    cases fl with
    | ret u =>
      obtain ⟨v, H', I3, rv, ev, q3⟩ := I2.after hq'
      subst ev
      exact ⟨rv, ⟨V.ref (s.heap.objs.size + 1), H', I3, rfl, q3⟩⟩
    | next => exact False.elim hq'
    | brk => exact False.elim hq'
    | cont => exact False.elim hq'
/-- C(..), whose __init__ may raise -/
def tMakeS (C : Addr) (sp : Sp) (E : L2.St → XK) (t : TA) : TE := fun σ H Q => t σ H fun vs H1 => ∀ x dx, H1 x = none → H1 dx = none → dx ≠ x →
  sp (.ref x :: vs) (upd (upd H1 dx (.own x)) x (.ins C dx [])) (fun v H2 => v = .non ∧ Q (.ref x) H2) (E σ)
theorem pe_makeS (M : Mk X.K C f) (F : FnOk X.prog X.w X.K X.mg X.base CX k f fd ps sp) (hr : Room (k + 1) X.A) (hg : Gl X x) (hm : X.mg x = some (.ref C)) (hb : Binds X.K fd ps []) (hx : ∀ σ, PassesAt CX X σ (E σ))
    (ha : PA X (e :: es) t) (hdb : (x == ("__debug__" : Str)) = false := by decide) (he : starEach (e :: es) X.env = (false, eval e X.env) :: starEach es X.env := by rfl) (hpl : (backTo pos (starEach es X.env)).any (·.1) = false := by rfl) :
    PE X (.Call (.Name x p) (e :: es) [] pos) (tMakeS C sp E t) := by
  refine ⟨fun pins s σ H Q I h => ?_⟩
  refine wpAny_Call_Name_kw (ld_glob I hg hm ?_ hdb)
  refine PySem.W.callWith_K (h₀ := X.base) I.ok.mod.kin M.kp (thn (ha.run pos pins s σ H _ I h) fun us s1 ⟨vs, H1, I1, r, q⟩ => ⟨I1.kIn, ?_⟩) he hpl
  exact run_makeS M F hr hb (hx σ) I1 r q
/-- isinstance of the error that the suite holds, which has a dict -/
def rIsXd (K : PySem.W.Frag) (a : Addr) (cls : Value) (d : Option Addr) : List V → Hp → VK → Prop := fun xs H Q => ∃ (D : Addr) (c : V) (b : Bool), cls = .ref D ∧ ExcC K D ∧ (∃ (dd : Addr) (fs : List (Str × V)), d = some dd ∧ H dd = some (.xd fs)) ∧ xs = [.ref a, c] ∧
  ((∃ cv, ClsV c cv ∧ PySem.W.kitOne K (.ref D) cv = some b) ∨ (∃ tp cs us, c = .ref tp ∧ H tp = some (.tup cs) ∧ Paired ClsV cs us ∧ PySem.W.kitAny K (.ref D) us = some b)) ∧ Q (.bl b) H
theorem call_isXd {a : Addr} {oe : Obj} {cls : Value} {d : Option Addr} {pn : List (Addr × Obj)} (hz : Zc cls d oe) (hf : ∃ vs, oe.data = .fields vs) : CallR (X.suite a ((a, oe) :: pn)) (.builtin "isinstance") (rIsXd X.K a cls d) := by
  intro pins s σ H xs us Q I r h
  obtain ⟨D, c, b, rfl, C, ⟨dd, fs, rfl, hdd⟩, rfl, hc, q⟩ := h
  obtain ⟨u1, u2, rfl, r1, r2⟩ := vals2 r
  cases r1
  obtain ⟨hget, _⟩ := I.pin (a, oe) (List.mem_append.mpr (.inl List.mem_cons_self))
  obtain ⟨vs, hv⟩ := hf
  have hx : ObjOk X.prog X.w H s.heap dd (.xd fs) := I.hok dd _ hdd
  obtain ⟨mA, hns, hr⟩ := hx
  obtain ⟨od, ho, hl⟩ := lookIn_ns hns
  have J : PySem.W.InstAt s.heap a oe D (some od) := ⟨hget, hz.1, by unfold PySem.W.notCls; rw [hv] <;> rfl, by rw [hz.2]; exact ho⟩
  have hcl : (PySem.W.clsIn X.K D).isSome = true := by
    obtain ⟨cd, hc', _⟩ := PySem.W.any_some C.hd
    rw [hc']
    rfl
  have Z := PySem.W.kitx_exc (x := a) (ox := oe) (od := some od) hcl C.hg C.hk C.hs C.ha C.hn C.ht C.hm
  rcases hc with ⟨cv, hcv, e⟩ | ⟨tp, cs, ws, rfl, hT, k, e⟩
  · have e2 := hcv.eq r2
    subst e2
    exact PySem.W.kia_one Z I.kIn J e (fun z => nomatch z) fun tk => ⟨.bl b, H, I.kept (t' := tk) fun _ _ z => z, rfl, q⟩
  · cases (show u2 = Value.ref tp from r2)
    obtain ⟨_, its, rv, o, h1, h2, n, h3⟩ := (show ObjOk X.prog X.w H s.heap tp (.tup cs) from I.hok tp _ hT)
    have e3 := ClsV.all k rv
    subst e3
    obtain ⟨oc, od', dt, sl⟩ := o
    simp only at h2 h3
    subst h2 h3
    exact PySem.W.kia_tup Z I.kIn J h1 e (fun z => nomatch z) fun tk => ⟨.bl b, H, I.kept (t' := tk) fun _ _ z => z, rfl, q⟩
/-- two lists of the same items: != is False -/
def itemV : V → Bool
  | .non => true
  | .bl _ => true
  | .int _ => true
  | .str _ => true
  | .ref _ => true
  | _ => false
theorem eqAt_item {A : Around} {s : Shared} {x : V} {u v : Value} (rx : RelV x u) (ry : RelV x v) (h : itemV x = true) : SeqAt.EqAt A s u v true := by
  cases x with
  | ref a =>
    cases (show u = Value.ref a from rx)
    cases (show v = Value.ref a from ry)
    intro prog w E Q hq
    unfold eqBool
    refine wpAny_holding ?_
    refine wpAny_ite_split (fun _ => ?_) (fun hab => absurd (by simp) hab)
    wp_walk
    exact hq
  | non => exact (eqAt_V rx ry rfl rfl : _)
  | bl b => have q := eqAt_V (A := A) (s := s) rx ry rfl rfl; rw [show eqV (.bl b) (.bl b) = true by simp [eqV]] at q; exact q
  | int i => have q := eqAt_V (A := A) (s := s) rx ry rfl rfl; rw [show eqV (.int i) (.int i) = true by simp [eqV]] at q; exact q
  | str z => have q := eqAt_V (A := A) (s := s) rx ry rfl rfl; rw [show eqV (.str z) (.str z) = true by simp [eqV]] at q; exact q
  | _ => cases h
def rNeSame (K : PySem.W.Frag) : R2 := fun x y H Q => ∃ a b xs, x = .ref a ∧ y = .ref b ∧ SqL K H a xs ∧ SqL K H b xs ∧ xs.all itemV = true ∧ Q (.bl false) H
theorem op_neSame (hu : X.A.units < cLine) : OpR X (compareOp .NotEq) (rNeSame X.K) := by
  intro pins s σ H x y v u Q I rx ry h
  obtain ⟨a, b, xs, rfl, rfl, ha, hb, hi, q⟩ := h
  cases rx
  cases ry
  obtain ⟨its, r, hl, _⟩ := I.list ha
  obtain ⟨its2, r2, hl2, _⟩ := I.list hb
  have hsz : its.toArray.size = its2.toArray.size := by rw [List.size_toArray, List.size_toArray, ← r.length, ← r2.length]
  have he : ∀ j (h1 : j < its.toArray.size) (h2 : j < its2.toArray.size), SeqAt.EqAt X.A.in1 s its.toArray[j] its2.toArray[j] ((fun _ => true) j) := by
    intro j h1 h2
    have k1 : j < xs.length := by rw [r.length]; simpa using h1
    obtain ⟨u1, e1, r1⟩ := r.get (List.getElem?_eq_getElem k1)
    obtain ⟨u2, e2, r3⟩ := r2.get (List.getElem?_eq_getElem k1)
    have g1 : its.toArray[j] = u1 := by
      have h1' : j < its.length := by simpa using h1
      rw [List.getElem?_eq_getElem h1'] at e1
      simpa using Option.some.inj e1
    have g2 : its2.toArray[j] = u2 := by
      have h2' : j < its2.length := by simpa using h2
      rw [List.getElem?_eq_getElem h2'] at e2
      simpa using Option.some.inj e2
    rw [g1, g2]
    exact eqAt_item r1 r3 (List.all_eq_true.mp hi _ (List.getElem_mem k1))
  have z := SeqAt.RcNeAt.lists hl.isList hl2.isList hsz hu he
  have e : (List.range its.toArray.size).all (fun _ => true) = true := by simp
  rw [e] at z
  exact z X.prog X.w X.xe _ ⟨.bl false, H, I, rfl, q⟩
/-- a list == [] -/
def rEqNil (K : PySem.W.Frag) : R2 := fun x y H Q => ∃ a b xs, x = .ref a ∧ y = .ref b ∧ SqL K H a xs ∧ SqL K H b [] ∧ Q (.bl xs.isEmpty) H
theorem op_eqNil (hu : X.A.units < cLine) : OpR X (compareOp .Eq) (rEqNil X.K) := by
  intro pins s σ H x y v u Q I rx ry h
  obtain ⟨a, b, xs, rfl, rfl, ha, hb, q⟩ := h
  cases rx
  cases ry
  obtain ⟨its, r, hl, _⟩ := I.list ha
  obtain ⟨its2, r2, hl2, _⟩ := I.list hb
  have h2 : its2 = [] := by
    cases r2
    rfl
  subst h2
  cases xs with
  | nil =>
    cases r
    have z := SeqAt.RcAt.lists (e := fun _ => true) hl.isList hl2.isList rfl hu (fun j h1 h2 => absurd h1 (by simp))
    exact z X.prog X.w X.xe _ ⟨.bl true, H, I, rfl, q⟩
  | cons z zs =>
    have hsz : (its.toArray.size != ([] : List Value).toArray.size) = true := by
      have : its.length = (z :: zs).length := r.length.symm
      simp [this]
    have z := SeqAt.RcAt.lists_lengths hl.isList hl2.isList hsz hu
    exact z X.prog X.w X.xe _ ⟨.bl false, H, I, rfl, q⟩
/-- one sign of a text -/
theorem found_sign (x : Str) (c : Nat) : (!(Builtin.Str.occurrences x ⟨#[c]⟩ 0 x.length 1).isEmpty) = decide (c ∈ x.cps.toList) := StrLaws.found_one x c
end
end TY

set_option maxHeartbeats 2000000
/-! Rules of our own: sets of rows (tuples of ints, below 64): made by a comprehension, sorted whatever the ints. -/
namespace TB
open PySem L2 PyProof.Rows
/-! ### the order of rows -/
def ltI : List Int → List Int → Bool
  | [], [] => false
  | [], _ :: _ => true
  | _ :: _, [] => false
  | x :: a, y :: b => if x = y then ltI a b else decide (x < y)
theorem ltI_asym : ∀ {a b : List Int}, ltI a b = true → ltI b a = false
  | [], [], h => by cases h
  | [], _ :: _, _ => rfl
  | _ :: _, [], h => by cases h
  | x :: a, y :: b, h => by
    unfold ltI at h ⊢
    by_cases e : x = y
    · subst e
      rw [if_pos rfl] at h ⊢
      exact ltI_asym h
    · rw [if_neg e] at h
      rw [if_neg (fun z => e z.symm)]
      have := of_decide_eq_true h
      exact decide_eq_false (by omega)
theorem ltI_anti : ∀ {a b : List Int}, ltI a b = false → ltI b a = false → a = b
  | [], [], _, _ => rfl
  | [], _ :: _, h, _ => by cases h
  | _ :: _, [], _, h => by cases h
  | x :: a, y :: b, h, k => by
    unfold ltI at h k
    by_cases e : x = y
    · subst e
      rw [if_pos rfl] at h k
      rw [ltI_anti h k]
    · rw [if_neg e] at h
      rw [if_neg (fun z => e z.symm)] at k
      have h1 := of_decide_eq_false h
      have h2 := of_decide_eq_false k
      omega
theorem ltI_le : ∀ {a b c : List Int}, ltI b a = false → ltI c b = false → ltI c a = false
  | [], [], [], _, _ => rfl
  | [], [], _ :: _, _, h => by cases h <;> rfl
  | [], _ :: _, [], h, _ => by first | rfl | cases h
  | [], _ :: _, _ :: _, h, _ => by first | rfl | cases h
  | _ :: _, [], _, h, _ => by cases h
  | _ :: _, _ :: _, [], _, h => by cases h
  | x :: a, y :: b, z :: c, h, k => by
    unfold ltI at h k ⊢
    by_cases e : y = x
    · subst e
      rw [if_pos rfl] at h
      by_cases e2 : z = y
      · subst e2
        rw [if_pos rfl] at k ⊢
        exact ltI_le h k
      · rw [if_neg e2] at k ⊢
        exact k
    · rw [if_neg e] at h
      have h1 := of_decide_eq_false h
      by_cases e2 : z = y
      · subst e2
        rw [if_neg e]
        exact h
      · rw [if_neg e2] at k
        have h2 := of_decide_eq_false k
        rw [if_neg (by omega)]
        exact decide_eq_false (by omega)
theorem ltI_swo {α : Type} (k : α → List Int) : SrtO.Swo fun v u => ltI (k v) (k u) := ⟨fun _ _ => ltI_asym, fun _ _ _ => ltI_le⟩
/-! ### rows held against one another by the sort -/
theorem lex_all {prog : Program} {w : World} {A : Around} {s : Shared} {Q : Bool → Shared → Prop} : ∀ {xs ys : List Value} {ns ms : List Int} {i : Nat} {fin : Bool}, IntsAre xs ns → IntsAre ys ms → (ns.length = ms.length → fin = false) → ns.length = ms.length → Q (ltI ns ms) s →
    W.KatLex prog w A true fin Q (xs.zip ys) i s := by
  intro xs ys ns ms i fin h
  induction h generalizing ys ms i with
  | nil =>
    intro k hf hl q
    cases k with
    | nil =>
      have e := hf hl
      subst e
      exact W.kat_nil q
    | cons n t k => cases hl
  | @cons n t vs ns h ih =>
    intro k hf hl q
    cases k with
    | nil => cases hl
    | @cons m u ws ms k =>
      have hl' : ns.length = ms.length := by simpa using hl
      refine W.kat_cons (SeqAt.EqAt.int_int n t m u prog w _ _ ?_)
      refine W.kat_go (fun e => ?_) fun e => ?_
      · have e : n = m := by simpa using e
        subst e
        refine W.kat_yes (ih k (fun _ => hf hl) hl' ?_)
        have : ltI (n :: ns) (n :: ms) = ltI ns ms := by conv => lhs; unfold ltI; rw [if_pos rfl]
        rwa [this] at q
      · have e : ¬ n = m := by simpa using e
        have : ltI (n :: ns) (m :: ms) = decide (n < m) := by unfold ltI; rw [if_neg e]
        rw [this] at q
        refine W.kat_no ?_
        by_cases hi : i = 0
        · subst hi
          exact oneLt_int q
        · have : (true && i == 0) = false := by simp [hi]
          rw [this]
          exact W.kat_one _ _ (lt_int q)
theorem tups_cmp {prog : Program} {w : World} {A : Around} {s : Shared} {vs : List Value} {k : Value → List Int} {d : Nat} (hk : ∀ v ∈ vs, TS.TupInts s.heap v (k v) ∧ (k v).length = d) : SrtO.Cmp prog w A s (tuples' true) (fun p => p.1 ∈ vs) (SrtO.lt2 fun v u => ltI (k v) (k u)) := by
  intro p q hp hq
  obtain ⟨⟨a, xs, ea, ⟨o, ho, hc, n, hd⟩, ia⟩, la⟩ := hk p.1 hp
  obtain ⟨⟨b, ys, eb, ⟨o', ho', hc', n', hd'⟩, ib⟩, lb⟩ := hk q.1 hq
  have l1 : xs.size = d := by
    have : ∀ {xs ns}, IntsAre xs ns → xs.length = ns.length := fun h => by induction h <;> simp_all
    rw [← la, ← this ia, Array.length_toList]
  have l2 : ys.size = d := by
    have : ∀ {xs ns}, IntsAre xs ns → xs.length = ns.length := fun h => by induction h <;> simp_all
    rw [← lb, ← this ib, Array.length_toList]
  rw [ea, eb]
  refine W.kat_lt ho hd ho' hd' (lex_all ia ib (fun _ => by rw [l1, l2]; simp) (by rw [la, lb]) ⟨rfl, ?_⟩)
  show ltI _ _ = ltI (k p.1) (k q.1)
  rw [ea, eb]
theorem firsts {h : Heap} {k : Value → List Int} : ∀ {vs : List Value}, (∀ v ∈ vs, TS.TupInts h v (k v) ∧ k v ≠ []) → ∃ fs : List Value, W.KatTups h vs fs ∧ fs.length = vs.length ∧ ∀ f ∈ fs, ∃ x t, f = Value.int x t
  | [], _ => ⟨[], by first | trivial | exact .nil | rfl, rfl, fun _ h => nomatch h⟩
  | v :: vs, hv => by
    obtain ⟨fs, h1, h2, h3⟩ := firsts fun u hu => hv u (List.mem_cons_of_mem _ hu)
    obtain ⟨⟨a, xs, ea, ⟨o, ho, hc, n, hd⟩, ia⟩, ne⟩ := hv v List.mem_cons_self
    generalize hns : k v = ns at ia ne
    generalize hl : xs.toList = l at ia
    cases ia with
    | nil => exact absurd rfl ne
    | @cons m t l' ns' ia =>
      subst ea
      refine ⟨.int m t :: fs, W.KatTups.cons ho hc hd ?_ h1, by rw [List.length_cons, List.length_cons, h2], fun f hf => ?_⟩
      · rw [← Array.getElem?_toList, hl]
        rfl
      · rcases List.mem_cons.mp hf with e | hf
        · exact ⟨m, t, e⟩
        · exact h3 f hf
theorem tupInts_keep {h h' : Heap} {v : Value} {ns : List Int} (t : TS.TupInts h v ns) (keep : ∀ b o, h.get? b = some o → o.cls = .type "tuple" → h'.get? b = some o) : TS.TupInts h' v ns := by
  obtain ⟨a, xs, ea, ⟨o, ho, hc, n, hd⟩, ia⟩ := t
  exact ⟨a, xs, ea, ⟨o, keep _ _ ho hc, hc, n, hd⟩, ia⟩
theorem rows_sortable {prog : Program} {w : World} {A : Around} {s : Shared} {a : Addr} {vs : List Value} {k : Value → List Int} {d : Nat} (h0 : 0 < vs.length) (hk : ∀ v ∈ vs, TS.TupInts s.heap v (k v) ∧ (k v).length = d) (hne : ∀ v ∈ vs, k v ≠ [])
    (ha : ∀ o, s.heap.get? a = some o → o.cls ≠ .type "tuple") : SrtO.SortableO prog w A s a vs fun v u => ltI (k v) (k u) := by
  intro h' keep
  have hk' : ∀ v ∈ vs, TS.TupInts h' v (k v) ∧ (k v).length = d := fun v hv => ⟨tupInts_keep (hk v hv).1 fun b o e hc => keep b o (fun z => ha o (z ▸ e) hc) e, (hk v hv).2⟩
  obtain ⟨fs, h1, h2, h3⟩ := firsts fun v hv => ⟨(hk' v hv).1, hne v hv⟩
  refine ⟨tuples' true, fun Q E hq => ?_, tups_cmp hk'⟩
  refine W.kat_kind (T := .type "int") h1 (by omega) (fun f hf => ?_) (by rfl) ?_
  · obtain ⟨x, t, rfl⟩ := h3 f hf
    exact W.Looks.now
  · have e : (Value.type "int" != Value.type "tuple") = true := by decide +kernel
    rw [e]
    exact hq
/-! ### a set of rows sorted -/
/-- what stands at an address -/
theorem rowsV {P : Program} {w : World} {h : Heap} {L : List (Addr × List Int)} (nd : (L.map (·.2)).Nodup) (tup : ∀ p ∈ L, L2.IsT P w h p.2 p.1) : ∃ k : Value → List Int, ∀ p ∈ L, k (.ref p.1) = p.2 := by
  refine ⟨fun v => match v with
    | .ref a => (match L.find? fun p => p.1 == a with
      | some p => p.2
      | none => [])
    | _ => [], fun p hp => ?_⟩
  show (match L.find? fun q => q.1 == p.1 with | some q => q.2 | none => []) = p.2
  cases hf : L.find? fun q => q.1 == p.1 with
  | none =>
    have := List.find?_eq_none.mp hf p hp
    simp at this
  | some q =>
    have hq := List.mem_of_find?_eq_some hf
    have he : q.1 = p.1 := by simpa using List.find?_some hf
    have a1 := tup q hq
    rw [he] at a1
    exact IsTupleKey.inj a1 (tup p hp)
theorem sorted_rows {P : Program} {w : World} {A : Around} {E : Value → Shared → Prop} {s : Shared} {a : Addr} {L : List (Addr × List Int)} {es : Array (Int × Value)} {ep : Nat} {t : SetTable} {Q : Value → Shared → Prop} {d : Nat}
    (R : SetTR P w s.heap a L es ep t) (hh : A.handled = none) (hd : ∀ p ∈ L, p.2.length = d)
    (hQ : ∀ (s' : Shared) (p : Nat) (out : Array Value) (c : Nat) (L' : List (Addr × List Int)), (∀ b o, s.heap.get? b = some o → s'.heap.get? b = some o) → s'.gens = s.gens → s'.os = s.os → s.heap.objs.size ≤ p →
      s'.heap.get? p = some (seqObj "list" out c) → out.toList = L'.map (fun q => Value.ref q.1) → L'.Perm L → L'.Pairwise (fun q r => ltI r.2 q.2 = false) → Q (.ref p) s') :
    wpAny (model P w) A (call (.builtin "sorted") [.ref a]) Q E s := by
  obtain ⟨o, ho, hex, hdat⟩ := R.ob
  have hsz := R.size
  have hfew := R.few
  obtain ⟨k, hk⟩ := rowsV R.nd R.tup
  refine Calls.call_function_entry kind_sorted plain_sorted entry_sorted (args_sorted1 (.ref a)) ?_
  refine wpAny_bind (wpAny_pure (wpAny_bind (collect_set hh ⟨o, ho, ⟨hex.1, hdat⟩⟩ R.fits (Nat.lt_of_lt_of_le (by omega) (by decide : 64 ≤ scanBound)) R.tab.ris R.led fun s1 vs k1 hz g1 o1 pm => ?_)))
  have hes : es.toList.map (·.2) = L.map fun q => Value.ref q.1 := by
    rw [R.rows]
    show ((L.map fun p => (thash P w p.2, Value.ref p.1)).map (·.2)) = _
    rw [List.map_map]
    rfl
  rw [hes] at pm
  have hvl : vs.length < 64 := by
    rw [pm.length_eq, List.length_map]
    exact hfew
  refine wpAny_bind (wpAny_newList ?_)
  have hoL := Heap.get?_push_size s1.heap (o := seqObj "list" vs.toArray 0) rfl
  have tk : ∀ q ∈ L, TS.TupInts (s1.heap.push (seqObj "list" vs.toArray 0)) (.ref q.1) q.2 := fun q hq =>
    tupInts_of (isT_keep (R.tup q hq) fun b u e => Heap.get?_push_of_some (seqObj "list" vs.toArray 0) (k1 b u e))
  have of_vs : ∀ v ∈ vs, ∃ q ∈ L, v = .ref q.1 := fun v hv => by
    obtain ⟨q, hq, e⟩ := List.mem_map.mp (pm.mem_iff.mp hv)
    exact ⟨q, hq, e.symm⟩
  have hkv : ∀ v ∈ vs, TS.TupInts (s1.heap.push (seqObj "list" vs.toArray 0)) v (k v) ∧ (k v).length = d := fun v hv => by
    obtain ⟨q, hq, rfl⟩ := of_vs v hv
    rw [hk q hq]
    exact ⟨tk q hq, hd q hq⟩
  refine wpAny_bind (wpAny_holding ?_)
  have ord : ∀ {l : List Value}, (∀ v ∈ l, ∃ q ∈ L, v = .ref q.1) → ∃ L1 : List (Addr × List Int), l = L1.map (fun q => Value.ref q.1) ∧ ∀ q ∈ L1, q ∈ L := by
    intro l
    induction l with
    | nil => exact fun _ => ⟨[], rfl, fun _ h => nomatch h⟩
    | cons v r ih =>
      intro hv
      obtain ⟨q, hq, e⟩ := hv v List.mem_cons_self
      obtain ⟨L1, e1, hs⟩ := ih fun u hu => hv u (List.mem_cons_of_mem _ hu)
      exact ⟨q :: L1, by rw [List.map_cons, e, e1], fun z hz => (List.mem_cons.mp hz).elim (fun e => e ▸ hq) (hs z)⟩
  have one : ∀ q ∈ L, ∀ r ∈ L, q.1 = r.1 → q = r := fun q hq r hr e => by
    have a1 := R.tup q hq
    rw [e] at a1
    exact Prod.ext e (IsTupleKey.inj a1 (R.tup r hr))
  have perm_of : ∀ {L1 : List (Addr × List Int)}, (∀ q ∈ L1, q ∈ L) → (L1.map fun q => Value.ref q.1).Perm (L.map fun q => Value.ref q.1) → L1.Perm L := by
    intro L1 hs p1
    have nL := nodup_of_map R.nd
    have nref : (L.map fun q => Value.ref q.1).Nodup := List.pairwise_map.mpr (List.Pairwise.imp_of_mem (fun {q r} hq hr hne e => hne (one q hq r hr (Value.ref.inj e))) nL)
    have n1 : L1.Nodup := nodup_of_map ((List.Perm.nodup_iff p1).mpr nref)
    refine (List.perm_ext_iff_of_nodup n1 nL).mpr fun q => ⟨hs q, fun hq => ?_⟩
    obtain ⟨r, hr, e⟩ := List.mem_map.mp (p1.mem_iff.mpr (List.mem_map.mpr ⟨q, hq, rfl⟩))
    rw [← one r (hs r hr) q hq (Value.ref.inj e)]
    exact hr
  have cmp2 : ∀ {L1 : List (Addr × List Int)} {out : List Value}, out = L1.map (fun q => Value.ref q.1) → (∀ q ∈ L1, q ∈ L) → SrtO.Srtd (fun v u => ltI (k v) (k u)) out → L1.Pairwise fun q r => ltI r.2 q.2 = false := by
    intro L1 out e hs h
    rw [e] at h
    refine List.Pairwise.imp_of_mem (fun {q r} hq hr z => ?_) (List.pairwise_map.mp h)
    have z : ltI (k (.ref r.1)) (k (.ref q.1)) = false := z
    rwa [hk q (hs q hq), hk r (hs r hr)] at z
  refine wpAny_call_entry slot_list_sort ⟨_, hoL, rfl⟩ entry_list_sort ?_ (args_list_sort _)
  refine SrtO.list_sort_ord (ltI_swo k) hoL (Nat.le_trans (Nat.le_of_lt hvl) (by decide)) (fun h2 => rows_sortable (by omega) hkv (fun v hv e => ?_) fun o e => ?_) fun out hs st => ?_
  · -- unlike rows of no values can't be two
    have d0 : d = 0 := by rw [← (hkv v hv).2, e]; rfl
    obtain ⟨L1, e1, h1⟩ := ord of_vs
    have pL := perm_of h1 (e1 ▸ pm)
    have nd1 : (L1.map (·.2)).Nodup := (List.Perm.nodup_iff (pL.map _)).mpr R.nd
    rw [e1, List.length_map] at h2
    match L1, h2, nd1, h1 with
    | q :: r :: _, _, nd1, h1 =>
      rw [List.map_cons, List.map_cons, List.nodup_cons] at nd1
      have eq : q.2 = [] := List.length_eq_zero_iff.mp (by rw [hd q (h1 q List.mem_cons_self), d0])
      have er : r.2 = [] := List.length_eq_zero_iff.mp (by rw [hd r (h1 r (List.mem_cons_of_mem _ List.mem_cons_self)), d0])
      exact absurd (by rw [eq, er]; exact List.mem_cons_self) nd1.1
  · rw [hoL] at e
    cases e
    show Value.type "list" ≠ Value.type "tuple"
    decide +kernel
  · obtain ⟨L', e', hs'⟩ := ord (l := out) fun v hv => of_vs v (st.perm.mem_iff.mp hv)
    obtain ⟨c, hc⟩ := sortedHeap_at (out := out.toArray) hoL
    refine ⟨_, rfl, wpAny_pure ⟨_, rfl, ?_⟩⟩
    refine hQ _ s1.heap.objs.size out.toArray c L' (fun b u e => ?_) g1 o1 hz hc e' (perm_of hs' (e' ▸ st.perm.trans pm)) (cmp2 e' hs' hs)
    have hb := k1 b u e
    have hlt := Heap.lt_size hb
    show (sortedHeap (s1.heap.push (seqObj "list" vs.toArray 0)) s1.heap.objs.size vs out.toArray).get? b = some u
    rw [sortedHeap_old (Nat.ne_of_lt hlt) (by rw [Heap.size_push]; exact Nat.lt_succ_of_lt hlt)]
    exact Heap.get?_push_of_some _ hb
/-- sorted(rows), a set of rows -/
def rSortedS (K : W.Frag) (P : Program) (w : World) : List V → Hp → VK → Prop := fun vs H Q => ∃ a L d, vs = [.ref a] ∧ H a = some (SetTO P w a L) ∧ (∀ p ∈ L, SqT K H p.1 (p.2.map V.int)) ∧ (∀ p ∈ L, p.2.length = d) ∧
  ∀ (L' : List (Addr × List Int)) (p : Addr), L'.Perm L → (L'.map (·.2)).Nodup → L'.length < 64 → L'.Pairwise (fun q r => ltI r.2 q.2 = false) → H p = none → Q (.ref p) (upd H p (.lst (L'.map fun q => V.ref q.1)))
theorem cr_sortedS {X : Cx} (hc : X.calm = true) : CallR X (.builtin "sorted") (rSortedS X.K X.prog X.w) := by
  intro pins s σ H vs us Q I r h
  obtain ⟨a, L, d, rfl, ha, hk, hd, q⟩ := h
  have R0 : SetT0 X.prog X.w s.heap a L := (I.hok a _ ha).1
  obtain ⟨es, ep, t, R⟩ := R0.full fun p hp => I.isT (hk p hp)
  rw [Vals.ref1 r]
  refine sorted_rows R (I.ok.hd hc) hd fun s' p out c L' k g o hp hg hout pm pw => ?_
  have hfew : L'.length < 64 := by rw [pm.length_eq]; exact R.few
  have hn : H p = none := HOk.fresh I.hok hp
  have hv : Vals (L'.map fun q => V.ref q.1) out.toList := by rw [hout]; exact vals_of_refs L'
  have hlen : (L'.map fun q => V.ref q.1).length ≤ sizeLine := by rw [List.length_map]; exact TX.line100 (by omega)
  have J : Inv X pins σ (upd H p (.lst (L'.map fun q => V.ref q.1))) { heap := s'.heap, gens := s'.gens, drawn := s'.drawn, toks := s'.toks, os := s.os } := by
    refine Inv.call (ch := []) I (Un.laid k hp hn) (HOk.laid I.hok k hp ⟨hlen, _, c, hv, hg⟩) ?_ ?_
    · rw [g]
      exact I.bare
    · exact fun x z => nomatch z
  have e : s' = { heap := s'.heap, gens := s'.gens, drawn := s'.drawn, toks := s'.toks, os := s.os } := by
    cases s'
    cases s
    cases o
    rfl
  rw [e]
  exact ⟨.ref p, _, J, rfl, q L' p pm ((List.Perm.nodup_iff (pm.map _)).mpr R.nd) hfew pw hn⟩
/-! ### a row put into a set -/
theorem add_row {P : Program} {w : World} {A : Around} {E : Value → Shared → Prop} {s : Shared} {a : Addr} {L : List (Addr × List Int)} {es : Array (Int × Value)} {ep : Nat} {t : SetTable} {x : Addr} {k : List Int} {Q : Value → Shared → Prop}
    (R : SetTR P w s.heap a L es ep t) (hx : L2.IsT P w s.heap k x) (hu : A.units + 1 < cLine) (hl : L.length + 1 < 64)
    (hQ : ∀ (h' : Heap) (tk : Nat) (L' : List (Addr × List Int)) (es' : Array (Int × Value)) (ep' : Nat) (t' : SetTable), Heap.SameBut a s.heap h' → SetTR P w h' a L' es' ep' t' →
      (k ∈ L.map (·.2) → L' = L) → (k ∉ L.map (·.2) → L'.Perm ((x, k) :: L)) → Q .none { heap := h', gens := s.gens, drawn := s.drawn, toks := tk, os := s.os }) :
    wpAny (model P w) A (call (.builtin "set.add") [.ref a, .ref x]) Q E s := by
  obtain ⟨o, ho, hex, hd⟩ := id R.ob
  refine wpAny_call_entry F.slot_set_add ⟨o, ho, hex.1⟩ F.entry_set_add ?_ (F.args_set_add_2 _ _)
  show wpAny _ _ ((do let y ← setAdd a (.ref x); ret .none : Sem Fin)) _ _ _
  refine wpAny_bind (wpAny_holding (wpAny_bind (wpAny_pyHash_tuple hu hx ?_)))
  refine add_at (s := { heap := s.heap, gens := s.gens, drawn := s.drawn, toks := s.toks + (k.length + 1), os := s.os }) R hx hu hl fun b h' L' es' ep' t' sb R' h1 h2 => ?_
  exact wpAny_pure ⟨_, rfl, hQ h' _ L' es' ep' t' sb R' h1 h2⟩
theorem addT_ok {X : Cx} {pins : List (Addr × Obj)} {σ : L2.St} {H : Hp} {s : Shared} {E : Value → Shared → Prop} {D x : Addr} {L : List (Addr × List Int)} {k : List Int} {Q : Value → Shared → Prop} (hu : X.A.units + 1 < cLine) (I : Inv X pins σ H s)
    (hD : H D = some (SetTO X.prog X.w D L)) (hk : ∀ p ∈ L, SqT X.K H p.1 (p.2.map V.int)) (hx : SqT X.K H x (k.map V.int)) (room : L.length + 1 < 64)
    (h : ∀ (s' : Shared) (L' : List (Addr × List Int)), (k ∈ L.map (·.2) → L' = L) → (k ∉ L.map (·.2) → L'.Perm ((x, k) :: L)) → Inv X pins σ (upd H D (SetTO X.prog X.w D L')) s' → Q .none s') :
    wpAny (model X.prog X.w) X.A (call (.builtin "set.add") [.ref D, .ref x]) Q E s := by
  have R0 : SetT0 X.prog X.w s.heap D L := (I.hok D _ hD).1
  obtain ⟨es, ep, t, R⟩ := R0.full fun p hp => I.isT (hk p hp)
  refine add_row R (I.isT hx) hu room fun h' tk L' es' ep' t' sb R' h1 h2 => ?_
  refine h _ L' h1 h2 (Inv.write (e := D) I ?_ (.inl rfl) (fun b u hb hu => (sb.2 b hb).trans hu) ?_ (setTO_new R'.t0))
  · rw [hD]
    trivial
  · obtain ⟨o, ho, _⟩ := R'.ob
    exact ⟨o, ho⟩
/-! ### {row for .. in ..} -/
def tScT (K : W.Frag) (P : Program) (w : World) (wi : TI) (g : TG) (tt : TT) (te : TE) (vs : List Nat) : TE := fun σ H Q => wi σ H fun J H1 => ∀ D, H1 D = none → ∃ Wt : Nat → Nat → Hp → Prop, (∃ m, Wt 0 m (upd H1 D (SetTO P w D []))) ∧
  ∀ i m H, Wt i m H → (J.stop i H ∧ Q (.ref D) H) ∨ (J.go i H ∧ ∃ Nx : Hp → Prop, (∀ H', Nx H' → ∃ m', m' < m ∧ Wt (i + 1) m' H') ∧ ∀ x H', J.yld i H x H' → g x (wipe σ vs) H' fun σ2 H2 => wipe σ2 vs = wipe σ vs ∧
    tt σ2 H2 fun b H3 => if b = true then te σ2 H3 fun y H4 => ∃ (t : Addr) (k : List Int) (L : List (Addr × List Int)), y = .ref t ∧ SqT K H4 t (k.map V.int) ∧ H4 D = some (SetTO P w D L) ∧ (∀ p ∈ L, SqT K H4 p.1 (p.2.map V.int)) ∧ L.length + 1 < 64 ∧
      ∀ L' : List (Addr × List Int), (k ∈ L.map (·.2) → L' = L) → (k ∉ L.map (·.2) → L'.Perm ((t, k) :: L)) → Nx (upd H4 D (SetTO P w D L')) else Nx H3)
theorem sc_rows {X : Cx} {pins : List (Addr × Obj)} {s : Shared} {σ : L2.St} {H : Hp} {Q : VK} {elt tg iter : Expr} {ifs : List Expr} {scope : Scope} {own : List (Str × Nat)} {pos pos' : Pos} {wi : TI} {g : TG} {tt : TT} {te : TE} {use : Option (Value → Sem Unit)} {Qf : Value → Shared → Prop}
    (hu : X.A.units + 1 < cLine) (hc : X.calm = true) (hN : X.N.Nodup) (I : L2.Inv X pins σ H s) (hi : PI X tg iter wi) (ok : BlkOk X.N X.env.scope scope own)
    (hg : ∀ (s : Shared) (H : Hp) (C : Addr) (cl : List (Str × Addr)) (fp : List Addr), PG (X.blk s H scope (compEnvC scope cl C X.env) fp) tg g)
    (ht : ∀ (s : Shared) (H : Hp) (C : Addr) (cl : List (Str × Addr)) (fp : List Addr), PTs (X.blk s H scope (compEnvC scope cl C X.env) fp) ifs tt)
    (he : ∀ (s : Shared) (H : Hp) (C : Addr) (cl : List (Str × Addr)) (fp : List Addr), PE (X.blk s H scope (compEnvC scope cl C X.env) fp) elt te)
    (hs : ∀ x : Value, foldedSetIterable iter X.env x = pure x) (h : tScT X.K X.prog X.w wi g tt te (own.map (·.2)) σ H Q)
    (hRR : ∀ (D C : Addr) (s' : Shared) (m : Str → Option Value) (H' : Hp), L2.Inv X pins σ H' s' → Q (.ref D) H' → s'.heap.Ns C m → FpOk X pins H' C → compPost (model X.prog X.w) X.A X.xe use Qf (.ref D) C (.ok .next) s') :
    wpAny (model X.prog X.w) X.A (comprehension (elt.SetComp [⟨tg, iter, ifs, 0⟩] scope pos) scope X.env pos' (newSet (.type "set")) false (eval iter X.env) use) Qf X.xe s := by
  have hfree : ∀ y ∈ scope.names, y.2 = .free → ∃ c, List.lookup y.1 X.env.cells = some c := fun y hy e => (ok.free y hy e).elim (fun k => I.ok.has _ (.inl k)) fun k => I.ok.has _ (.inr k)
  refine wpAny_comprehension_free rfl hs (closure_ok hfree) ok.kind (fun y hy e => by rw [ok.uniq y hy, e]) ?_
  refine thn (hi.run pins s σ H _ I h) fun xv s1 hx => thn hx fun itv s2 h2 => ?_
  obtain ⟨it, fp, tn, J, H2, rfl, I2, T, st2, f2, q⟩ := h2
  refine PpSet.newSet_ok (newEnv_comp ?_)
  have hDn : H2 s2.heap.objs.size = none := HOk.fresh I2.hok (Nat.le_refl _)
  obtain ⟨Wt, ⟨m0, w0⟩, turn⟩ := q _ hDn
  have I3 : L2.Inv X pins σ (upd H2 s2.heap.objs.size (SetTO X.prog X.w s2.heap.objs.size [])) { heap := s2.heap.push { cls := .type "set", data := .set #[] 0 (SetTable.fresh 0 0 !X.w.params.followText "set-order") }, gens := s2.gens, drawn := s2.drawn, toks := s2.toks, os := s2.os } :=
    Inv.laid I2 (fun b o e => Heap.get?_push_of_some _ e) (Nat.le_refl _) (setTO_new (setTR_fresh (Heap.get?_push_size _ rfl)).t0)
  have sz : ∀ b ∈ fp, b < s2.heap.objs.size := fun b hb => by
    obtain ⟨o, e, _⟩ := T.obj 0 s2.heap st2 b hb
    exact Heap.lt_size e
  have k3 : ∀ (b : Addr) (o : Obj), s2.heap.get? b = some o → (s2.heap.push { cls := .type "set", data := .set #[] 0 (SetTable.fresh 0 0 !X.w.params.followText "set-order") }).get? b = some o := fun b o e => Heap.get?_push_of_some _ e
  have z3 : (s2.heap.push { cls := .type "set", data := .set #[] 0 (SetTable.fresh 0 0 !X.w.params.followText "set-order") }).objs.size = s2.heap.objs.size + 1 := Heap.size_push _ _
  generalize hs3 : ({ heap := s2.heap.push { cls := .type "set", data := .set #[] 0 (SetTable.fresh 0 0 !X.w.params.followText "set-order") }, gens := s2.gens, drawn := s2.drawn, toks := s2.toks, os := s2.os } : Shared) = s3 at I3 ⊢
  have k3' : ∀ (b : Addr) (o : Obj), s2.heap.get? b = some o → s3.heap.get? b = some o := by rw [← hs3]; exact k3
  have z3' : s3.heap.objs.size = s2.heap.objs.size + 1 := by rw [← hs3]; exact z3
  have f3 : ∀ b ∈ fp, FpOk X pins (upd H2 s2.heap.objs.size (SetTO X.prog X.w s2.heap.objs.size [])) b ∧ b < s3.heap.objs.size := fun b hb =>
    ⟨⟨by rw [upd_ne (Nat.ne_of_lt (sz b hb))]; exact (f2 b hb).1, (f2 b hb).2⟩, by rw [z3']; exact Nat.lt_succ_of_lt (sz b hb)⟩
  have st3 : tn 0 s3.heap := T.keep 0 _ _ st2 fun b _ o e => k3' b o e
  have I4 := block_start I3 ok hN f3
  have pg := hg s3 (upd H2 s2.heap.objs.size (SetTO X.prog X.w s2.heap.objs.size [])) s3.heap.objs.size (cellsFrom (s3.heap.objs.size + 1) scope.names (cloFrom X.env.cells scope.names [])) fp
  have pt := ht s3 (upd H2 s2.heap.objs.size (SetTO X.prog X.w s2.heap.objs.size [])) s3.heap.objs.size (cellsFrom (s3.heap.objs.size + 1) scope.names (cloFrom X.env.cells scope.names [])) fp
  have pe := he s3 (upd H2 s2.heap.objs.size (SetTO X.prog X.w s2.heap.objs.size [])) s3.heap.objs.size (cellsFrom (s3.heap.objs.size + 1) scope.names (cloFrom X.env.cells scope.names [])) fp
  show codeAny _ _ (Code.compStart _ 0 _ _ (compEnvC scope (cellsFrom (s3.heap.objs.size + 1) scope.names (cloFrom X.env.cells scope.names [])) s3.heap.objs.size X.env)) (compPost (model X.prog X.w) X.A X.xe use Qf (.ref s2.heap.objs.size) s3.heap.objs.size) _
  have cL : (compEnvC scope (cellsFrom (s3.heap.objs.size + 1) scope.names (cloFrom X.env.cells scope.names [])) s3.heap.objs.size X.env).locals = s3.heap.objs.size := rfl
  have hs4 : ∀ (b : Addr) (o : Obj), s3.heap.get? b = some o → (pushCells (s3.heap.push { cls := .type "dict", data := .dict #[] }) scope.names).get? b = some o := fun b o e => pushCells_keeps scope.names _ b o (Heap.get?_push_of_some _ e)
  generalize hce : compEnvC scope (cellsFrom (s3.heap.objs.size + 1) scope.names (cloFrom X.env.cells scope.names [])) s3.heap.objs.size X.env = ce at I4 pg pt pe cL ⊢
  have st4 : tn 0 (pushCells (s3.heap.push { cls := .type "dict", data := .dict #[] }) scope.names) := T.keep 0 _ _ st3 fun b _ o e => hs4 b o e
  have nfp : ∀ b ∈ fp, upd H2 s2.heap.objs.size (SetTO X.prog X.w s2.heap.objs.size []) b = none := fun b hb => (f3 b hb).1.1
  generalize upd H2 s2.heap.objs.size (SetTO X.prog X.w s2.heap.objs.size []) = H3 at w0 I3 f3 I4 pg pt pe nfp
  generalize hs4' : ({ heap := pushCells (s3.heap.push { cls := .type "dict", data := .dict #[] }) scope.names, gens := s3.gens, drawn := s3.drawn, toks := s3.toks, os := s3.os } : Shared) = s4 at I4 ⊢
  have st4' : tn 0 s4.heap := by rw [← hs4']; exact st4
  have stat : ∀ {σ' : L2.St} {H' : Hp} {s' : Shared}, L2.Inv (X.blk s3 H3 scope ce fp) [] σ' H' s' → (∀ b ∈ fp, H' b = none) → ∀ b ∈ fp, FpOk (X.blk s3 H3 scope ce fp) [] H' b := fun I' hn b hb =>
    ⟨hn b hb, (I'.ok.exf b hb).1, I'.ok.exfs b hb, .inl hb, (I'.ok.exf b hb).2, fun p hp => by simp [Cx.blk] at hp⟩
  have loop : codeAny (model X.prog X.w) X.A (Code.compLoop (elt.SetComp [⟨tg, iter, ifs, 0⟩] scope pos) 0 (.ref it) (.ref s2.heap.objs.size) ce) (compPost (model X.prog X.w) X.A X.xe use Qf (.ref s2.heap.objs.size) s3.heap.objs.size) s4 := by
    refine PpSet.compLoopS_any (fun n s' => ∃ i H', L2.Inv (X.blk s3 H3 scope ce fp) [] (wipe σ (own.map (·.2))) H' s' ∧ tn i s'.heap ∧ (∀ b ∈ fp, H' b = none) ∧ Wt i n H') ?_ m0 ⟨0, H3, I4, st4', nfp, w0⟩
    rintro n s5 ⟨i, H5, I5, st5, n5, w5⟩
    rcases turn i n H5 w5 with ⟨stop, qq⟩ | ⟨go, Nx, hNx, step⟩
    · refine thnF (T.done (X.blk s3 H3 scope ce fp) rfl rfl rfl hc i [] s5 _ H5 _ I5 (stat I5 n5) st5 stop) fun r s6 x => ?_
      obtain ⟨rfl, I6⟩ := x
      have I7 : L2.Inv X pins σ H5 s6 := Inv.call' (ch := fp) I3 I6.os I6.base I6.hok I6.bare fun b hb => ⟨(f3 b hb).1.2.2.2.1, (f3 b hb).1.2.1, (f3 b hb).1.2.2.2.2.1, (f3 b hb).1.2.2.2.2.2⟩
      have nC : H5 s3.heap.objs.size = none := by
        have z : H5 ce.locals = none := I6.free
        rwa [cL] at z
      obtain ⟨m, hn, _⟩ := I6.loc
      have hn : s6.heap.Ns ce.locals m := hn
      rw [cL] at hn
      exact hRR _ _ s6 m H5 I7 qq hn (I3.fpOk (Nat.le_refl _) nC)
    · refine thnF (T.item (X.blk s3 H3 scope ce fp) rfl rfl rfl hc i [] s5 _ H5 _ I5 (stat I5 n5) st5 go) fun r s6 x => ?_
      obtain ⟨u, rfl, h6⟩ := x
      refine thnF h6 fun _ s7 x => ?_
      obtain ⟨x, H7, I7, r7, y7, st7, n7⟩ := x
      have I7' := I7.pinned (stat I7 n7) (T.obj _ _ st7)
      refine thnF (pg.run _ s7 _ H7 x u _ I7' r7 (step x H7 y7)) fun _ s8 x => ?_
      obtain ⟨σ8, H8, I8, hw8, q8⟩ := x
      refine thnF (pt.run _ s8 σ8 H8 _ I8 q8) fun b s9 x => ?_
      obtain ⟨H9, I9, q9⟩ := x
      have fin : ∀ {s' : Shared} {H' : Hp}, L2.Inv (X.blk s3 H3 scope ce fp) ([] ++ pinsAt fp s7.heap) σ8 H' s' → Nx H' → ∃ m, m < n ∧ ∃ i H', L2.Inv (X.blk s3 H3 scope ce fp) [] (wipe σ (own.map (·.2))) H' s' ∧ tn i s'.heap ∧ (∀ b ∈ fp, H' b = none) ∧ Wt i m H' := by
        intro s' H' I' nx
        obtain ⟨m', hm, w'⟩ := hNx H' nx
        have pin' : ∀ b ∈ fp, ∀ o, s7.heap.get? b = some o → s'.heap.get? b = some o ∧ H' b = none := fun b hb o e => by
          have z := I'.pin (b, o) (List.mem_append_right _ (List.mem_append_right _ (mem_pinsAt hb e)))
          exact ⟨z.1, z.2.1⟩
        have hl : (wipe σ (own.map (·.2))).length = σ8.length := by
          rw [← hw8, wipe_length]
        refine ⟨m', hm, i + 1, H', I'.unpinned.weak hl (fun j v e => (wipe_some (hw8 ▸ e)).1), T.keep _ _ _ st7 (fun b hb o e => (pin' b hb o e).1), fun b hb => ?_, w'⟩
        obtain ⟨o, e, _⟩ := T.obj _ _ st7 b hb
        exact (pin' b hb o e).2
      cases b with
      | false =>
        rw [if_neg Bool.false_ne_true] at q9 ⊢
        exact fin I9 q9
      | true =>
        rw [if_pos rfl] at q9 ⊢
        refine thnF (pe.run _ s9 σ8 H9 _ I9 q9) fun z s10 x => ?_
        obtain ⟨y, H10, I10, ry, tt', k, L, rfl, hk, hD, hL, room, nx⟩ := x
        cases (show z = Value.ref tt' from ry)
        exact addT_ok (X := X.blk s3 H3 scope ce fp) hu I10 hD hL hk room fun s' L' h1 h2 I' => fin I' (nx L' h1 h2)
  exact PpSet.codeAny_compStart_set loop (T.self _ 0 _ _ _ st4' loop)
theorem pe_scT {X : Cx} {elt tg iter : Expr} {ifs : List Expr} {scope : Scope} {own : List (Str × Nat)} {pos : Pos} {wi : TI} {g : TG} {tt : TT} {te : TE} (hu : X.A.units + 1 < cLine) (hc : X.calm = true) (hN : X.N.Nodup) (hi : PI X tg iter wi) (ok : BlkOk X.N X.env.scope scope own)
    (hg : ∀ (s : Shared) (H : Hp) (C : Addr) (cl : List (Str × Addr)) (fp : List Addr), PG (X.blk s H scope (compEnvC scope cl C X.env) fp) tg g)
    (ht : ∀ (s : Shared) (H : Hp) (C : Addr) (cl : List (Str × Addr)) (fp : List Addr), PTs (X.blk s H scope (compEnvC scope cl C X.env) fp) ifs tt)
    (he : ∀ (s : Shared) (H : Hp) (C : Addr) (cl : List (Str × Addr)) (fp : List Addr), PE (X.blk s H scope (compEnvC scope cl C X.env) fp) elt te)
    (hs : ∀ x : Value, foldedSetIterable iter X.env x = pure x := by intros; rfl) : PE X (elt.SetComp [⟨tg, iter, ifs, 0⟩] scope pos) (tScT X.K X.prog X.w wi g tt te (own.map (·.2))) :=
  ⟨fun pins s σ H Q I h => by
    rw [PpSet.eval_SetComp]
    refine sc_rows hu hc hN I hi ok hg ht he hs h fun D C s' m H' I' q hn f => ?_
    obtain ⟨f0, f1, f2, f3, f4, f5⟩ := f
    exact ⟨m, hn, fun h'' sb => ⟨.ref D, H', Inv.turned I' (fun b o hb e => (sb.2 b hb).trans e) f0 f1 f3 f4 f5, rfl, q⟩⟩⟩
/-- a set of rows, the things walked one by one -/
theorem sc_walk {K : W.Frag} {P : Program} {w : World} {J : It} {n : Nat} {G : Hp → Prop} {Y : Nat → Hp → V → Hp → Prop} (wk : Walk J n G Y) {tgt : TG} {cond : TT} {te : TE} {own : List Nat} {slots : L2.St} {Hs : Hp} {D : Addr} {Qf : Hp → Prop}
    (Pw : Nat → Hp → Prop) (start : Pw 0 (upd Hs D (SetTO P w D []))) (good : ∀ i h, i ≤ n → Pw i h → G h)
    (turn : ∀ i v h h', i < n → Pw i h → Y i h v h' → tgt v (wipe slots own) h' fun s2 h2 => wipe s2 own = wipe slots own ∧ cond s2 h2 fun b h3 =>
      (if b = true then te s2 h3 fun y h4 => ∃ (t : Addr) (k : List Int) (L : List (Addr × List Int)), y = .ref t ∧ SqT K h4 t (k.map V.int) ∧ h4 D = some (SetTO P w D L) ∧ (∀ p ∈ L, SqT K h4 p.1 (p.2.map V.int)) ∧ L.length + 1 < 64 ∧
        ∀ L' : List (Addr × List Int), (k ∈ L.map (·.2) → L' = L) → (k ∉ L.map (·.2) → L'.Perm ((t, k) :: L)) → Pw (i + 1) (upd h4 D (SetTO P w D L')) else Pw (i + 1) h3))
    (fin : ∀ h, Pw n h → Qf h) :
    ∃ Wt : Nat → Nat → Hp → Prop, (∃ m, Wt 0 m (upd Hs D (SetTO P w D []))) ∧ ∀ i m h, Wt i m h → (J.stop i h ∧ Qf h) ∨ (J.go i h ∧ ∃ Nx : Hp → Prop, (∀ h', Nx h' → ∃ m', m' < m ∧ Wt (i + 1) m' h') ∧
      ∀ v h', J.yld i h v h' → tgt v (wipe slots own) h' fun s2 h2 => wipe s2 own = wipe slots own ∧ cond s2 h2 fun b h3 =>
        if b = true then te s2 h3 fun y h4 => ∃ (t : Addr) (k : List Int) (L : List (Addr × List Int)), y = .ref t ∧ SqT K h4 t (k.map V.int) ∧ h4 D = some (SetTO P w D L) ∧ (∀ p ∈ L, SqT K h4 p.1 (p.2.map V.int)) ∧ L.length + 1 < 64 ∧
          ∀ L' : List (Addr × List Int), (k ∈ L.map (·.2) → L' = L) → (k ∉ L.map (·.2) → L'.Perm ((t, k) :: L)) → Nx (upd h4 D (SetTO P w D L')) else Nx h3) := by
  refine ⟨fun i m h => i ≤ n ∧ m = n - i ∧ Pw i h, ⟨n, Nat.zero_le _, by simp, start⟩, ?_⟩
  rintro i m h ⟨hi, rfl, pw⟩
  have g := good i h hi pw
  rcases Nat.lt_or_ge i n with hlt | hge
  · exact .inr ⟨wk.goes i h hlt g, Pw (i + 1), fun h' p' => ⟨n - (i + 1), by omega, hlt, rfl, p'⟩, fun v h' y => turn i v h h' hlt pw (wk.yields i h v h' hlt g y)⟩
  · obtain rfl : i = n := by omega
    exact .inl ⟨wk.stops h g, fin h pw⟩
end TB

set_option maxHeartbeats 1000000
/-! Tuples: slices and sums of any kind read once; rows of whole numbers. -/
namespace TW
open PySem L2 PyProof.Rows TX
section
variable {K : PySem.W.Frag}
theorem cutV_whole {xs : List V} {lo hi : Option Int} (h : HT.sIx xs.length 0 lo = 0 ∧ HT.sIx xs.length xs.length hi = xs.length) : cutV xs lo hi = xs := by
  unfold cutV
  rw [h.1, h.2]
  simp
/-- t[lo:hi] -/
theorem sl_both {xs : List V} {lo hi : Option Int} {a : Addr} {H : Hp} {Q : VK} (h : H a = some (.tup xs)) (q : ∀ p H', Same H H' → H' p = some (.tup (cutV xs lo hi)) → Q (.ref p) H') : rSlA K (.ref a) lo hi H Q := by
  refine ⟨a, xs, rfl, .of h, fun w => q a H same_rfl ?_, fun _ p np => q p _ (Same.new np) upd_same⟩
  rw [h, cutV_whole w]
/-- t + u -/
theorem cat_both {xs ys : List V} {a b : Addr} {H : Hp} {Q : VK} (h : H a = some (.tup xs)) (k : H b = some (.tup ys)) (hl : xs.length + ys.length ≤ 1000) (q : ∀ p H', Same H H' → H' p = some (.tup (xs ++ ys)) → Q (.ref p) H') : rCatA K (.ref a) (.ref b) H Q := by
  refine ⟨a, b, xs, ys, rfl, rfl, .of h, .of k, line100 hl, fun e => ?_, fun _ e => ?_, fun _ _ p np => q p _ (Same.new np) upd_same⟩
  · subst e
    exact q b H same_rfl k
  · subst e
    refine q a H same_rfl ?_
    rw [h, List.append_nil]
theorem cut_take {xs : List V} {n : Nat} : cutV xs none (some (n : Int)) = xs.take n := by
  unfold cutV
  rw [HT.sIx_none, HT.sIx_nat, List.drop_zero, Nat.sub_zero]
  rcases Nat.le_total n xs.length with h | h
  · rw [Nat.min_eq_left h]
  · rw [Nat.min_eq_right h, List.take_of_length_le h, List.take_of_length_le (Nat.le_refl _)]
theorem cut_drop {xs : List V} {n : Nat} : cutV xs (some (n : Int)) none = xs.drop n := by
  unfold cutV
  rw [HT.sIx_none, HT.sIx_nat]
  rcases Nat.le_total n xs.length with h | h
  · rw [Nat.min_eq_left h, List.take_of_length_le (by rw [List.length_drop]; omega)]
  · rw [Nat.min_eq_right h, List.drop_of_length_le h, List.drop_of_length_le (Nat.le_refl _), List.take_nil]
theorem cut_mid {xs : List V} {n m : Nat} : cutV xs (some (n : Int)) (some (m : Int)) = (xs.drop n).take (m - n) := by
  unfold cutV
  rw [HT.sIx_nat, HT.sIx_nat]
  rcases Nat.le_total n xs.length with h | h
  · rw [Nat.min_eq_left h]
    rcases Nat.le_total m xs.length with h2 | h2
    · rw [Nat.min_eq_left h2]
    · rw [Nat.min_eq_right h2, List.take_of_length_le (Nat.le_of_eq List.length_drop), List.take_of_length_le (by rw [List.length_drop]; omega)]
  · rw [Nat.min_eq_right h, List.drop_of_length_le h, List.drop_of_length_le (Nat.le_refl _)]
    simp
end
/-- what a draw leaves as it was -/
theorem well_strs {H : Hp} {W l : Addr} {ns : List Str} (w : ∃ n, WellAt n H W) (h : H l = some (.lst (ns.map V.str))) : l ≠ W := by
  rintro rfl
  obtain ⟨n, a, b, c, e, _⟩ := w
  rw [h] at e
  cases ns with
  | nil => cases e
  | cons x r =>
    have e2 := Option.some.inj e
    injection e2 with e3
    rw [List.map_cons] at e3
    injection e3 with e4 _
    cases e4
theorem well_no {H : Hp} {W l : Addr} {o : HO} (w : ∃ n, WellAt n H W) (h : H l = some o) (k : ∀ xs, o ≠ .lst xs) : l ≠ W := by
  rintro rfl
  obtain ⟨n, a, b, c, e, _⟩ := w
  rw [h] at e
  exact k _ (Option.some.inj e)
theorem _root_.TX.TreeAt.sm {C W : Addr} {H H' : Hp} {p : Addr} {f : TM.Fo} (t : TreeAt C H p f) (s : Sm W H H') (w : ∃ n, WellAt n H W) : TreeAt C H' p f := by
  obtain ⟨dx, l, d, h1, h2, h3⟩ := t
  exact ⟨dx, l, d, s _ _ (well_no w h1 fun _ z => by cases z) h1, s _ _ (well_strs w h2) h2, s _ _ (well_no w h3 fun _ z => by cases z) h3⟩
theorem tup_sm {W : Addr} {H H' : Hp} {p : Addr} {xs : List V} (h : H p = some (.tup xs)) (s : Sm W H H') (w : ∃ n, WellAt n H W) : H' p = some (.tup xs) := s _ _ (well_no w h fun _ z => by cases z) h
/-- a whole number -/
def wholeV : V → Bool
  | .int _ => true
  | _ => false
/-- a value that no memory is asked for -/
def plainV : V → Bool
  | .int _ => true
  | .bl _ => true
  | .non => true
  | .str _ => true
  | _ => false
def numV : V → Bool
  | .int _ => true
  | .bl _ => true
  | _ => false
def truthV : V → Bool
  | .bl _ => true
  | _ => false
theorem whole_num (v : V) : wholeV v = (numV v && !truthV v) := by cases v <;> rfl
theorem plain_ty {K : PySem.W.Frag} {H : Hp} {v : V} (h : plainV v = true) : ∃ t, TyOf K H v (.type t) ∧ kitB t "int" = some (numV v) ∧ kitB t "bool" = some (truthV v) := by
  cases v with
  | int i => exact ⟨_, .int i, (by decide +kernel : kitB "int" "int" = some true), (by decide +kernel : kitB "int" "bool" = some false)⟩
  | bl b => exact ⟨_, .bl b, (by decide +kernel : kitB "bool" "int" = some true), (by decide +kernel : kitB "bool" "bool" = some true)⟩
  | non => exact ⟨_, .non, (by decide +kernel : kitB "NoneType" "int" = some false), (by decide +kernel : kitB "NoneType" "bool" = some false)⟩
  | str s => exact ⟨_, .str s, (by decide +kernel : kitB "str" "int" = some false), (by decide +kernel : kitB "str" "bool" = some false)⟩
  | _ => cases h
/-- a thing that may be a row of so many values; whether it is one -/
def RowLike (H : Hp) (v : V) (many : Nat) (b : Bool) : Prop :=
  (∃ a xs, v = .ref a ∧ H a = some (.tup xs) ∧ xs.length ≤ 100 ∧ xs.all plainV = true ∧ b = (decide (xs.length = many) && xs.all wholeV)) ∨
  (b = false ∧ (v = .non ∨ (∃ s, v = .str s) ∨ (∃ i, v = .int i) ∨ ∃ a xs, v = .ref a ∧ H a = some (.lst xs)))
theorem RowLike.same {H H' : Hp} {v : V} {many : Nat} {b : Bool} (h : RowLike H v many b) (s : Same H H') : RowLike H' v many b := by
  rcases h with ⟨a, xs, e1, e2, e3⟩ | ⟨e1, e2 | e2 | e2 | ⟨a, xs, e2, e3⟩⟩
  · exact .inl ⟨a, xs, e1, s _ _ e2, e3⟩
  · exact .inr ⟨e1, .inl e2⟩
  · exact .inr ⟨e1, .inr (.inl e2)⟩
  · exact .inr ⟨e1, .inr (.inr (.inl e2))⟩
  · exact .inr ⟨e1, .inr (.inr (.inr ⟨a, xs, e2, s _ _ e3⟩))⟩
/-- a row of whole numbers -/
theorem row_like {H : Hp} {a : Addr} {xs : List V} {n : Nat} (h : H a = some (.tup xs)) (hl : xs.length = n) (hn : n ≤ 100) (hw : xs.all wholeV = true) : RowLike H (.ref a) n true := by
  refine .inl ⟨a, xs, rfl, h, by omega, ?_, ?_⟩
  · rw [List.all_eq_true] at hw ⊢
    intro x hx
    have := hw x hx
    cases x <;> first | rfl | cases this
  · rw [decide_eq_true hl, hw]
    rfl
theorem row_of {H : Hp} {v : V} {n : Nat} (h : RowLike H v n true) : ∃ a xs, v = .ref a ∧ H a = some (.tup xs) ∧ xs.length = n ∧ xs.all wholeV = true := by
  rcases h with ⟨a, xs, e1, e2, e3, e4, e5⟩ | ⟨e1, _⟩
  · have := e5.symm
    rw [Bool.and_eq_true, decide_eq_true_iff] at this
    exact ⟨a, xs, e1, e2, this.1, this.2⟩
  · cases e1
end TW
namespace TM
open PySem L2
/-- beneath a name there is its part of the forest -/
theorem mk_loc : ∀ {t : List Pr} {seen : List Str} {u : Option Str} {c : Str} {a : List Str} {k : Fo}, Valid seen t → (∀ x, u = some x → x ∈ seen) → loc (mk t u) c = some (a, k) → mk t (some c) = k
  | [], _, u, c, a, k, _, _, h => by
    have h' : loc Fo.nil c = some (a, k) := h
    unfold loc at h'
    cases h'
  | (d, o) :: r, seen, u, c, a, k, ⟨h1, h2, h3⟩, hu, h => by
    have hin : ∀ {v : Option Str} {a' : List Str} {k' : Fo}, loc (mk r v) c = some (a', k') → c ∈ r.map Prod.fst := fun {v a' k'} g => by
      have := loc_mem g
      rw [← flat_names _ v] at this
      obtain ⟨p, hp, rfl⟩ := List.mem_map.mp this
      exact List.mem_map.mpr ⟨p, mk_sub hp, rfl⟩
    have out : c ∈ r.map Prod.fst → o ≠ some c := fun hc e => valid_notin h3 (List.mem_append_left _ (h2 c e)) hc
    have skip : o ≠ some c → mk ((d, o) :: r) (some c) = mk r (some c) := fun e => if_neg e
    by_cases ho : o = u
    · have e0 : mk ((d, o) :: r) u = .cons d (mk r (some d)) (mk r u) := if_pos ho
      rw [e0] at h
      rcases loc_cases h with ⟨rfl, rfl, rfl⟩ | ⟨_, b, rfl, g⟩ | ⟨_, _, g⟩
      · exact skip fun e => h1 (h2 d e)
      · rw [skip (out (hin g))]
        exact mk_loc h3 (fun x e => by cases e; simp) g
      · rw [skip (out (hin g))]
        exact mk_loc h3 (fun x e => List.mem_append_left _ (hu x e)) g
    · have e0 : mk ((d, o) :: r) u = mk r u := if_neg ho
      rw [e0] at h
      rw [skip (out (hin h))]
      exact mk_loc h3 (fun x e => List.mem_append_left _ (hu x e)) h
theorem ord_loc {ps : List Pr} {c : Str} {a : List Str} {k : Fo} (va : Valid [] ps) (h : loc (mk ps none) c = some (a, k)) : ord ps (some c) = names k := by
  unfold ord
  rw [mk_loc (u := none) va (fun _ e => by cases e) h]
end TM

set_option maxHeartbeats 1000000
/-! Things as data: equal to themselves. -/
namespace TD
open PySem L2 PyProof.Rows TX TW
/-- a plain value as data -/
def dV : V → PyData
  | .int i => .int i
  | .bl b => .bool b
  | .str s => .str s
  | _ => .none
theorem Dp_plain {K : PySem.W.Frag} {H : Hp} {v : V} (h : plainV v = true) : Dp K H v (dV v) := by
  cases v with
  | int i => exact .int i
  | bl b => exact .bl b
  | str s => exact .str s
  | non => exact .non
  | _ => cases h
theorem DpAll_plain {K : PySem.W.Frag} {H : Hp} : ∀ {xs : List V}, xs.all plainV = true → DpAll K H xs (xs.map dV)
  | [], _ => .nil
  | x :: r, h => by
    rw [List.all_cons, Bool.and_eq_true] at h
    exact .cons (Dp_plain h.1) (DpAll_plain h.2)
theorem Dp_tup {K : PySem.W.Frag} {H : Hp} {a : Addr} {xs : List V} (h : H a = some (.tup xs)) (p : xs.all plainV = true) : Dp K H (.ref a) (.tuple (xs.map dV)) := .tup (.of h) (DpAll_plain p)
theorem whole_plain {xs : List V} (h : xs.all wholeV = true) : xs.all plainV = true := by
  rw [List.all_eq_true] at h ⊢
  intro x hx
  have := h x hx
  cases x <;> first | rfl | cases this
/-- whole numbers alone -/
theorem can_whole {xs : List V} (h : xs.all wholeV = true) : PyData.canLayAll0 (xs.map dV) = true := by
  induction xs with
  | nil => rfl
  | cons x r ih =>
    rw [List.all_cons, Bool.and_eq_true] at h
    rw [List.map_cons]
    unfold PyData.canLayAll0
    rw [ih h.2]
    cases x <;> first | rfl | cases h.1
theorem dep_plain (xs : List V) : PyData.depthAll (xs.map dV) = 0 := by
  induction xs with
  | nil => rfl
  | cons x r ih =>
    rw [List.map_cons]
    unfold PyData.depthAll
    rw [ih]
    cases x <;> rfl
theorem can_tup {xs : List V} (h : xs.all wholeV = true) : PyData.canLay0 (.tuple (xs.map dV)) = true := by unfold PyData.canLay0; exact can_whole h
theorem dep_tup (xs : List V) : PyData.depth (.tuple (xs.map dV)) = 1 := by unfold PyData.depth; rw [dep_plain]
theorem shaped_of {d : PyData} (h : PyData.canLay0 d = true) (k : PyData.depth d ≤ 64) : SeqAt.shaped d = true := by
  unfold SeqAt.shaped
  rw [h, decide_eq_true k]
  rfl
theorem can2 {a b : PyData} (h : PyData.canLay0 a = true) (k : PyData.canLay0 b = true) : PyData.canLay0 (.tuple [a, b]) = true := by
  unfold PyData.canLay0 PyData.canLayAll0 PyData.canLayAll0 PyData.canLayAll0
  rw [h, k]
  rfl
theorem dep2 (a b : PyData) : PyData.depth (.tuple [a, b]) = 1 + max (PyData.depth a) (PyData.depth b) := by
  show PyData.depthAll [a, b] + 1 = _
  show max (PyData.depth a) (max (PyData.depth b) 0) + 1 = _
  omega
theorem canL {xs : List PyData} (h : ∀ x ∈ xs, PyData.canLay0 x = true) : PyData.canLay0 (.list xs) = true := by
  unfold PyData.canLay0
  induction xs with
  | nil => rfl
  | cons x r ih =>
    unfold PyData.canLayAll0
    rw [h x List.mem_cons_self, ih fun y hy => h y (List.mem_cons_of_mem _ hy)]
    rfl
theorem depL {xs : List PyData} {n : Nat} (h : ∀ x ∈ xs, PyData.depth x ≤ n) : PyData.depth (.list xs) ≤ n + 1 := by
  have : PyData.depthAll xs ≤ n := by
    induction xs with
    | nil => exact Nat.zero_le _
    | cons x r ih =>
      unfold PyData.depthAll
      have h1 := h x List.mem_cons_self
      have h2 := ih fun y hy => h y (List.mem_cons_of_mem _ hy)
      omega
  unfold PyData.depth
  omega
theorem eqv_same {d e : PyData} (h : PyData.canLay0 d = true) (k : d = e) : PyData.eqv d e = true := by
  subst k
  exact SeqAt.eqv_refl d h
end TD

set_option maxHeartbeats 2000000
/-! Rows, each once, rising; where tables stand. -/
namespace TG
open PySem L2 PyProof.Rows TX TB TD TW
theorem ltI_irr (a : List Int) : ltI a a = false := by
  cases h : ltI a a with
  | false => rfl
  | true => rw [ltI_asym h] at h; cases h
theorem ltI_trans {a b c : List Int} (h : ltI a b = true) (k : ltI b c = true) : ltI a c = true := by
  cases e : ltI a c with
  | true => rfl
  | false =>
    have := ltI_le (ltI_asym k) e
    rw [h] at this
    cases this
abbrev Rise (l : List (List Int)) : Prop := l.Pairwise fun a b => ltI a b = true
theorem Rise.nodup {l : List (List Int)} (h : Rise l) : l.Nodup := h.imp fun {a b} z e => by rw [e, ltI_irr] at z; cases z
theorem rise_of {l : List (List Int)} (n : l.Nodup) (h : l.Pairwise fun a b => ltI b a = false) : Rise l := by
  refine List.Pairwise.imp₂ (R := fun a b => a ≠ b) (S := fun a b => ltI b a = false) (fun a b hne hb => ?_) n h
  cases e : ltI a b with
  | true => rfl
  | false => exact absurd (ltI_anti e hb) hne
theorem rise_unique : ∀ {l m : List (List Int)}, Rise l → Rise m → (∀ x, x ∈ l ↔ x ∈ m) → l = m := by
  intro l m hl hm h
  refine TM.perm_eq (R := fun a b => ltI a b = true) (fun a b h1 h2 => ?_) ((List.perm_ext_iff_of_nodup hl.nodup hm.nodup).mpr h) hl hm
  rw [ltI_asym h1] at h2
  cases h2
def ins (x : List Int) : List (List Int) → List (List Int)
  | [] => [x]
  | y :: l => if x = y then y :: l else if ltI x y = true then x :: y :: l else y :: ins x l
theorem mem_ins {x z : List Int} : ∀ {l : List (List Int)}, z ∈ ins x l ↔ z = x ∨ z ∈ l
  | [] => by simp [ins]
  | y :: l => by
    unfold ins
    by_cases e : x = y
    · rw [if_pos e]
      subst e
      simp
    · rw [if_neg e]
      by_cases h : ltI x y = true
      · rw [if_pos h]
        simp
      · rw [if_neg h, List.mem_cons, mem_ins (l := l), List.mem_cons]
        constructor
        · rintro (h | h | h)
          · exact .inr (.inl h)
          · exact .inl h
          · exact .inr (.inr h)
        · rintro (h | h | h)
          · exact .inr (.inl h)
          · exact .inl h
          · exact .inr (.inr h)
theorem rise_ins {x : List Int} : ∀ {l : List (List Int)}, Rise l → Rise (ins x l)
  | [], _ => List.pairwise_singleton _ _
  | y :: l, h => by
    unfold ins
    have h' := List.pairwise_cons.mp h
    by_cases e : x = y
    · rw [if_pos e]
      exact h
    · rw [if_neg e]
      by_cases k : ltI x y = true
      · rw [if_pos k]
        refine List.pairwise_cons.mpr ⟨fun z hz => ?_, h⟩
        rcases List.mem_cons.mp hz with e | hz
        · rw [e]
          exact k
        · exact ltI_trans k (h'.1 z hz)
      · rw [if_neg k]
        refine List.pairwise_cons.mpr ⟨fun z hz => ?_, rise_ins h'.2⟩
        rcases mem_ins.mp hz with e2 | hz
        · rw [e2]
          cases k2 : ltI y x with
          | true => rfl
          | false => exact absurd (ltI_anti (by simpa using k) k2) e
        · exact h'.1 z hz
/-- rows, each once, rising -/
def norm (rs : List (List Int)) : List (List Int) := rs.foldr ins []
theorem mem_norm {rs : List (List Int)} {x : List Int} : x ∈ norm rs ↔ x ∈ rs := by
  unfold norm
  induction rs with
  | nil => simp
  | cons r rs ih => rw [List.foldr_cons, mem_ins, ih, List.mem_cons]
theorem rise_norm (rs : List (List Int)) : Rise (norm rs) := by
  unfold norm
  induction rs with
  | nil => exact List.Pairwise.nil
  | cons r rs ih => exact rise_ins ih
theorem norm_of {l rs : List (List Int)} (h : Rise l) (k : ∀ x, x ∈ l ↔ x ∈ rs) : l = norm rs := rise_unique h (rise_norm rs) fun x => (k x).trans mem_norm.symm
theorem norm_len (rs : List (List Int)) : (norm rs).length ≤ rs.length := by
  unfold norm
  have : ∀ (x : List Int) (l : List (List Int)), (ins x l).length ≤ l.length + 1 := by
    intro x l
    induction l with
    | nil => exact Nat.le_refl _
    | cons y l ih =>
      unfold ins
      split
      · exact Nat.le_succ _
      · split
        · exact Nat.le_refl _
        · rw [List.length_cons, List.length_cons]
          omega
  induction rs with
  | nil => exact Nat.le_refl _
  | cons r rs ih =>
    rw [List.foldr_cons, List.length_cons]
    have := this r (rs.foldr ins [])
    omega
theorem norm_filter (rs : List (List Int)) (p : List Int → Bool) : (norm rs).filter p = norm (rs.filter p) := norm_of ((rise_norm rs).filter p) fun x => by rw [List.mem_filter, List.mem_filter, mem_norm]
theorem norm_idem {l : List (List Int)} (h : Rise l) : norm l = l := (norm_of h fun _ => Iff.rfl).symm
theorem norm_norm (rs : List (List Int)) : norm (norm rs) = norm rs := norm_idem (rise_norm rs)
/-! ### where rows stand -/
abbrev RowsAt (H : Hp) : List Addr → List (List Int) → Prop := Paired fun a r => H a = some (.tup (r.map V.int))
theorem RowsAt.same {H H' : Hp} {as : List Addr} {rs : List (List Int)} (h : RowsAt H as rs) (s : Same H H') : RowsAt H' as rs := Paired.mapP h fun a q e => s a _ e
theorem RowsAt.put {H : Hp} {as : List Addr} {rs : List (List Int)} {p : Addr} {xs : List V} {o : HO} (h : RowsAt H as rs) (hp : H p = some (.lst xs)) : RowsAt (upd H p o) as rs :=
  Paired.mapP h fun a q e => by rw [upd_ne (ne_of e hp (by intro z; cases z))]; exact e
theorem RowsAt.sm {W : Addr} {H H' : Hp} {as : List Addr} {rs : List (List Int)} (h : RowsAt H as rs) (s : Sm W H H') (w : ∃ n, WellAt n H W) : RowsAt H' as rs := Paired.mapP h fun a q e => tup_sm e s w
theorem RowsAt.len {H : Hp} {as : List Addr} {rs : List (List Int)} (h : RowsAt H as rs) : as.length = rs.length := Paired.length h
theorem pr_snoc {α β : Type} {R : α → β → Prop} {as : List α} {bs : List β} {a : α} {b : β} (h : Paired R as bs) (r : R a b) : Paired R (as ++ [a]) (bs ++ [b]) := by
  induction h with
  | nil => exact .cons r .nil
  | cons h _ ih => exact .cons h ih
theorem pr_at {α β : Type} {R : α → β → Prop} {as : List α} {bs : List β} (h : Paired R as bs) : ∀ {i : Nat} {a : α}, as[i]? = some a → ∃ b, bs[i]? = some b ∧ R a b := by
  induction h with
  | nil => intro i a h; simp at h
  | cons hd _ ih =>
    intro i a h
    cases i with
    | zero =>
      rw [List.getElem?_cons_zero] at h
      cases h
      exact ⟨_, rfl, hd⟩
    | succ i => exact ih (by simpa using h)
theorem pr_by {α β : Type} {R : α → β → Prop} {as : List α} {bs : List β} (h : Paired R as bs) : ∀ {i : Nat} {b : β}, bs[i]? = some b → ∃ a, as[i]? = some a ∧ R a b := by
  induction h with
  | nil => intro i a h; simp at h
  | cons hd _ ih =>
    intro i a h
    cases i with
    | zero =>
      rw [List.getElem?_cons_zero] at h
      cases h
      exact ⟨_, rfl, hd⟩
    | succ i => exact ih (by simpa using h)
theorem pr_app {α β : Type} {R : α → β → Prop} {as as' : List α} {bs bs' : List β} (h : Paired R as bs) (k : Paired R as' bs') : Paired R (as ++ as') (bs ++ bs') := by
  induction h with
  | nil => exact k
  | cons h _ ih => exact .cons h ih
theorem pr_zip {α β : Type} {R : α → β → Prop} {as : List α} {bs : List β} (h : Paired R as bs) : ∀ p ∈ as.zip bs, R p.1 p.2 := by
  induction h with
  | nil => intro p hp; cases hp
  | cons hd _ ih =>
    intro p hp
    rcases List.mem_cons.mp hp with e | hp
    · rw [e]
      exact hd
    · exact ih p hp
theorem zip_fst {α β : Type} : ∀ {as : List α} {bs : List β}, as.length = bs.length → (as.zip bs).map (·.1) = as ∧ (as.zip bs).map (·.2) = bs
  | [], [], _ => ⟨rfl, rfl⟩
  | [], _ :: _, h => by cases h
  | _ :: _, [], h => by cases h
  | a :: as, b :: bs, h => by
    have := zip_fst (as := as) (bs := bs) (by simpa using h)
    rw [List.zip_cons_cons, List.map_cons, List.map_cons, this.1, this.2]
    exact ⟨rfl, rfl⟩
theorem of_zip {H : Hp} {L : List (Addr × List Int)} (h : ∀ p ∈ L, H p.1 = some (.tup (p.2.map V.int))) : RowsAt H (L.map (·.1)) (L.map (·.2)) := by
  induction L with
  | nil => exact .nil
  | cons p L ih => exact .cons (h p List.mem_cons_self) (ih fun q hq => h q (List.mem_cons_of_mem _ hq))
/-! ### rows as data -/
def dR (rs : List (List Int)) : PyData := .list (rs.map fun r => .tuple ((r.map V.int).map dV))
theorem whole_ints (r : List Int) : (r.map V.int).all wholeV = true := by
  rw [List.all_eq_true]
  intro v hv
  obtain ⟨i, _, rfl⟩ := List.mem_map.mp hv
  rfl
theorem DpRow {K : PySem.W.Frag} {H : Hp} {a : Addr} {r : List Int} (h : H a = some (.tup (r.map V.int))) : Dp K H (.ref a) (.tuple ((r.map V.int).map dV)) := Dp_tup h (whole_plain (whole_ints r))
theorem DpRows {K : PySem.W.Frag} {H : Hp} {a : Addr} {as : List Addr} {rs : List (List Int)} (h : H a = some (.lst (as.map V.ref))) (k : RowsAt H as rs) : Dp K H (.ref a) (dR rs) := by
  refine .lst (.of h) ?_
  clear h
  induction k with
  | nil => exact .nil
  | cons h _ ih => exact .cons (DpRow h) ih
theorem canRows (rs : List (List Int)) : PyData.canLay0 (dR rs) = true := canL fun d hd => by
  obtain ⟨r, _, rfl⟩ := List.mem_map.mp hd
  exact can_tup (whole_ints r)
theorem shRows (rs : List (List Int)) : SeqAt.shaped (dR rs) = true := by
  refine shaped_of (canRows rs) ?_
  have : PyData.depth (dR rs) ≤ 1 + 1 := depL fun d hd => by
    obtain ⟨r, _, rfl⟩ := List.mem_map.mp hd
    rw [dep_tup]
    exact Nat.le_refl _
  omega
theorem eqv_ints : ∀ (r q : List Int), PyData.eqvAll ((r.map V.int).map dV) ((q.map V.int).map dV) = decide (r = q)
  | [], [] => rfl
  | [], _ :: _ => rfl
  | _ :: _, [] => rfl
  | x :: r, y :: q => by
    rw [List.map_cons, List.map_cons, List.map_cons, List.map_cons]
    unfold PyData.eqvAll
    rw [eqv_ints r q]
    have : PyData.eqv (dV (V.int x)) (dV (V.int y)) = decide (x = y) := by
      show PyData.eqv (.int x) (.int y) = _
      unfold PyData.eqv
      by_cases h : x = y <;> simp [h]
    rw [this]
    by_cases h : x = y <;> by_cases h2 : r = q <;> simp [h, h2]
theorem eqv_row (r q : List Int) : PyData.eqv (.tuple ((r.map V.int).map dV)) (.tuple ((q.map V.int).map dV)) = decide (r = q) := by
  unfold PyData.eqv
  exact eqv_ints r q
theorem eqv_dR (rs qs : List (List Int)) : PyData.eqv (dR rs) (dR qs) = decide (rs = qs) := by
  unfold dR PyData.eqv
  induction rs generalizing qs with
  | nil => cases qs <;> rfl
  | cons r rs ih =>
    cases qs with
    | nil => rfl
    | cons q qs =>
      rw [List.map_cons, List.map_cons]
      unfold PyData.eqvAll
      rw [ih qs, eqv_row]
      by_cases h : r = q <;> by_cases h2 : rs = qs <;> simp [h, h2]
/-! ### where tables stand -/
def bflds (l r : Addr) : List (Str × V) := putF "_rows" (.ref r) (putF "_columns" (.ref l) [])
theorem kbc : ¬ (("_columns" : Str) = "_rows") := by decide +kernel
theorem bflds_col (l r : Addr) : (bflds l r).lookup ("_columns" : Str) = some (.ref l) := by
  unfold bflds
  rw [lookup_putF, if_neg kbc, lookup_putF, if_pos rfl]
theorem bflds_rows (l r : Addr) : (bflds l r).lookup ("_rows" : Str) = some (.ref r) := by
  unfold bflds
  rw [lookup_putF, if_pos rfl]
theorem bflds_no (l r : Addr) {m : Str} (h1 : ¬ m = "_rows") (h2 : ¬ m = "_columns") : (bflds l r).lookup m = none := by
  unfold bflds
  rw [lookup_putF, if_neg h1, lookup_putF, if_neg h2]
  rfl
/-- unlike names, not too many -/
structure Cs (cs : List Str) : Prop where
  nd : cs.Nodup
  le : cs.length ≤ 8
  ok : ∀ x ∈ cs, TM.NameOk x
/-- a table of these columns and rows -/
def TabAt (C : Addr) (H : Hp) (p : Addr) (cs : List Str) (rs : List (List Int)) : Prop := ∃ dx l r as, H p = some (.ins C dx (bflds l r)) ∧ H l = some (.lst (cs.map V.str)) ∧ H r = some (.lst (as.map V.ref)) ∧ RowsAt H as rs
theorem TabAt.same {C : Addr} {H H' : Hp} {p : Addr} {cs : List Str} {rs : List (List Int)} (t : TabAt C H p cs rs) (s : Same H H') : TabAt C H' p cs rs := by
  obtain ⟨dx, l, r, as, h1, h2, h3, h4⟩ := t
  exact ⟨dx, l, r, as, s _ _ h1, s _ _ h2, s _ _ h3, h4.same s⟩
/-- the class of tables -/
structure Bc (K : PySem.W.Frag) (mg : Str → Option Value) (C : Addr) : Prop where
  cl : Cls K C
  nC : NoAttr K C "_columns"
  nR : NoAttr K C "_rows"
  g : mg "Table" = some (.ref C)
  ins : Ic K C
end TG

namespace T03
open PySem L2
def top (i : Nat) : Stmt := PySem.Challenge.pw_foldbough_k03_rows_put_in_and_taken_out.main.body.getD i (.Pass ⟨0, 0, 0, 0⟩)
abbrev s_norow : Stmt := inClass (top 3) 0
abbrev s_is_whole : Stmt := top 8
abbrev s_is_name : Stmt := top 9
abbrev s_are : Stmt := top 10
abbrev s_is_row : Stmt := top 11
abbrev s_binit : Stmt := inClass (top 13) 0
abbrev s_bcolumns : Stmt := inClass (top 13) 1
abbrev s_brows : Stmt := inClass (top 13) 2
abbrev s_bhas : Stmt := inClass (top 13) 3
abbrev s_bwith : Stmt := inClass (top 13) 4
abbrev s_bwout : Stmt := inClass (top 13) 5
abbrev s_bcheck : Stmt := inClass (top 13) 7
abbrev s_blen : Stmt := inClass (top 13) 8
abbrev s_beq : Stmt := inClass (top 13) 9
abbrev s_cc : Stmt := top 14
abbrev s_sorted : Stmt := top 15
abbrev s_well : Stmt := top 19
abbrev s_draw : Stmt := top 20
abbrev s_names : Stmt := top 21
abbrev s_base : Stmt := top 22
abbrev s_refused : Stmt := top 23
abbrev s_odd : Stmt := top 24
abbrev s_right : Stmt := top 25
abbrev s_law : Stmt := top 26
end T03

set_option maxHeartbeats 1000000
local macro_rules | `(tactic| walk_at "z") => `(tactic| ((try dsimp only); first | assumption | omega | decide | (simp only [List.length_cons, List.length_nil]; first | decide | omega)))
namespace T03
open PySem L2 PyProof.Rows TX
section
variable {P : Program} {w : World} {K : PySem.W.Frag} {mg : Str → Option Value} {base : Heap}
theorem sc_well : FnScope ["_law_cell", "_law_k"] ["_law_cell", "_law_k"] (defScope s_well) := ⟨rfl, rfl, rfl, by decide +kernel, rfl, by decide +kernel, by decide +kernel⟩
def sp_well : Sp := fun vs H Q _ => ∃ (cell k : Int), vs = [.int cell, .int k] ∧ 0 ≤ k ∧ k ≤ 1000 ∧ ∀ H' p, Same H H' → H p = none → WellAt 100000 H' p → Q (.ref p) H'
theorem ok_well {f : Addr} {fd : FuncData} (F : Fn K mg "_law_well" s_well ["_law_cell", "_law_k"] f fd) (B : Bn mg) : FnOk P w K mg base CX0 1 f fd ["_law_cell", "_law_k"] sp_well := by
  refine F.F.ok sc_well (fun vs H Q E h => ?_) (fun cdv A outer s H vs Q E hr h => ?_)
  · obtain ⟨cell, k, rfl, _⟩ := h
    rfl
  · obtain ⟨cell, k, rfl, h0, h1, q⟩ := h
    refine ⟨_, pss_one (ps_ret (pe_lst (pa_cons (pe_op op_mul (pv 0) (pe_callTy call_int1 (by rfl) B.int boot_int (pa_cons (pe_cmpR op_ge (pv 0) (pe_op op_pow pe_int pe_int) (nomark _)) pa_nil)))
      (pa_cons (pe_op op_mod (pe_op op_add (pe_op op_mod (pv 0) pe_int) (pe_op op_mul pe_int (pv 1))) pe_int) (pa_cons pe_int pa_nil))))), ?_⟩
    refine ⟨_, rfl, _, rfl, _, _, rfl, rfl, ⟨by decide, by decide, by decide⟩, _, _, rfl, rfl, .inr ⟨_, rfl, _, _, rfl, rfl, .inr (by split <;> decide), ?_⟩⟩
    refine ⟨_, rfl, _, _, rfl, rfl, by walk_at "z", _, rfl, _, _, rfl, rfl, .inl (by decide), _, _, rfl, rfl, _, _, rfl, rfl, by walk_at "z", by walk_at "z", fun p hp => ?_⟩
    refine q _ p (Same.new hp) hp ⟨_, _, _, upd_same, ?_, ?_, by decide, by decide⟩
    · exact Int.emod_nonneg _ (by decide)
    · have := Int.emod_lt_of_pos (cell % 2147483647 + 104729 * k) (show (0 : Int) < 2147483647 by decide)
      omega
theorem sc_draw : FnScope ["_law_well_here", "_law_top", "_law_found", "_law_prime", "_law_twist"] ["_law_well_here", "_law_top"] (defScope s_draw) := ⟨rfl, rfl, rfl, by decide +kernel, rfl, by decide +kernel, by decide +kernel⟩
/-- a draw: one below top; the well may be drawn from once less -/
def sp_draw : Sp := fun vs H Q _ => ∃ (W : Addr) (t n : Nat), vs = [.ref W, .int t] ∧ 0 < t ∧ t < 1073741824 ∧ WellAt (n + 1) H W ∧ ∀ (H' : Hp) (r : Nat), r < t → Sm W H H' → WellAt n H' W → Q (.int r) H'
theorem ok_draw {f : Addr} {fd : FuncData} (F : Fn K mg "_law_draw" s_draw ["_law_well_here", "_law_top"] f fd) : FnOk P w K mg base CX0 1 f fd ["_law_well_here", "_law_top"] sp_draw := by
  refine F.F.ok sc_draw (fun vs H Q E h => ?_) (fun cdv A outer s H vs Q E hr h => ?_)
  · obtain ⟨W, t, n, rfl, _⟩ := h
    rfl
  · obtain ⟨W, t, n, rfl, h0, h1, ⟨a, b, c, hW, b0, b1, c0, c1⟩, q⟩ := h
    have hu := hu_of hr
    have t0 : (0 : Int) < (t : Int) := by omega
    have aI0 : ∀ x y z : V, atI [x, y, z] (0 : Int) = some x := fun _ _ _ => rfl
    have aI1 : ∀ x y z : V, atI [x, y, z] (1 : Int) = some y := fun _ _ _ => rfl
    have aI2 : ∀ x y z : V, atI [x, y, z] (2 : Int) = some z := fun _ _ _ => rfl
    refine ⟨_, pss_cons (ps_if (pt_cmpR op_gt (pe_ix ix_list (pv 0) pe_int (fun _ _ => rfl)) pe_int (nomark _))
        (pss_cons (ps_set (i := 2) sc_draw.nd rfl (Or.inl rfl) (pe_op op_mod (pe_ix ix_list (pv 0) pe_int (fun _ _ => rfl)) (pv 1)))
        (pss_cons (ps_asg (pe_op op_fdiv (pe_ix ix_list (pv 0) pe_int (fun _ _ => rfl)) (pv 1)) (pg_sub (pv 0) pe_int set_list))
        (pss_one (ps_ret (pv 2))))) pss_nil)
      (pss_cons (ps_asg (pe_op op_add (pe_ix ix_list (pv 0) pe_int (fun _ _ => rfl)) pe_int) (pg_sub (pv 0) pe_int set_list))
      (pss_cons (ps_set (i := 3) sc_draw.nd rfl (Or.inl rfl) (pe_ix ix_list (pe_lst (pa_cons pe_int (pa_cons pe_int (pa_cons pe_int (pa_cons pe_int (pa_cons pe_int pa_nil))))))
          (pe_op op_mod (pe_ix ix_list (pv 0) pe_int (fun _ _ => rfl)) pe_int) (fun _ _ => rfl)))
      (pss_cons (ps_set (i := 4) sc_draw.nd rfl (Or.inl rfl) (pe_op op_mod (pe_op op_pow (pe_op op_add (pe_op op_add (pe_ix ix_list (pv 0) pe_int (fun _ _ => rfl)) (pe_op op_mul pe_int (pe_ix ix_list (pv 0) pe_int (fun _ _ => rfl)))) pe_int) pe_int) (pv 3)))
      (pss_cons (ps_set (i := 4) sc_draw.nd rfl (Or.inl rfl) (pe_op op_mod (pe_op op_mul (pe_op op_add (pv 4) (pe_ix ix_list (pv 0) pe_int (fun _ _ => rfl))) (pe_op op_add (pe_op op_fdiv (pv 4) pe_int) pe_int)) (pv 3)))
      (pss_one (ps_ret (pe_op op_mod (pe_op op_fdiv (pv 4) pe_int) (pv 1)))))))), ?_⟩
    refine ⟨_, rfl, W, _, _, _, rfl, rfl, .of hW, aI0 _ _ _, _, _, rfl, rfl, _, rfl, ite2 (fun ha => ?_) (fun ha => ?_)⟩
    · refine ⟨_, rfl, W, _, _, _, rfl, rfl, .of hW, aI0 _ _ _, _, rfl, _, _, rfl, rfl, by walk_at "z", ?_⟩
      refine ⟨_, rfl, W, _, _, _, rfl, rfl, .of hW, aI0 _ _ _, _, rfl, _, _, rfl, rfl, by constructor <;> omega, ?_⟩
      refine ⟨_, rfl, W, _, _, 0, rfl, rfl, hW, rfl, _, rfl, ?_⟩
      have hm := Int.emod_nonneg a (show (t : Int) ≠ 0 by omega)
      have hl := Int.emod_lt_of_pos a t0
      have e : a % (t : Int) = ((a % (t : Int)).toNat : Int) := by omega
      show Q (.int (a % (t : Int))) _
      rw [e]
      exact q _ _ (by omega) (Sm.put .rfl') ⟨_, _, _, upd_same, b0, b1, c0, by omega⟩
    · refine ⟨_, rfl, W, _, _, _, rfl, rfl, .of hW, aI2 _ _ _, _, _, rfl, rfl, ?_⟩
      refine ⟨_, rfl, W, _, _, 2, rfl, rfl, hW, rfl, ?_⟩
      refine ⟨by decide, fun p np => ?_⟩
      have nW : W ≠ p := ne_of_none upd_same np
      have hW1 : ∀ o, upd (upd H W (.lst [.int a, .int b, .int (c + 1)])) p o W = some (.lst [.int a, .int b, .int (c + 1)]) := fun o => by rw [upd_ne nW, upd_same]
      refine ⟨_, rfl, W, _, _, _, rfl, rfl, .of (hW1 _), aI2 _ _ _, _, _, rfl, rfl, by walk_at "z", ?_⟩
      obtain ⟨pr, hpr, p0, p1⟩ : ∃ pr : Int, atI [V.int 2147483629, V.int 2147483587, V.int 2147483579, V.int 2147483563, V.int 2147483549] ((c + 1) % 5) = some (V.int pr) ∧ 1 ≤ pr ∧ pr < 2147483648 := by
        have h5 := Int.emod_nonneg (c + 1) (show (5 : Int) ≠ 0 by decide)
        have h6 := Int.emod_lt_of_pos (c + 1) (show (0 : Int) < 5 by decide)
        have : (c + 1) % 5 = 0 ∨ (c + 1) % 5 = 1 ∨ (c + 1) % 5 = 2 ∨ (c + 1) % 5 = 3 ∨ (c + 1) % 5 = 4 := by omega
        rcases this with e | e | e | e | e <;> rw [e]
        · exact ⟨2147483629, rfl, by decide, by decide⟩
        · exact ⟨2147483587, rfl, by decide, by decide⟩
        · exact ⟨2147483579, rfl, by decide, by decide⟩
        · exact ⟨2147483563, rfl, by decide, by decide⟩
        · exact ⟨2147483549, rfl, by decide, by decide⟩
      refine ⟨p, _, _, _, rfl, rfl, .of upd_same, hpr, ?_⟩
      refine ⟨_, rfl, W, _, _, _, rfl, rfl, .of (hW1 _), aI1 _ _ _, _, rfl, W, _, _, _, rfl, rfl, .of (hW1 _), aI2 _ _ _, _, _, rfl, rfl, .inl (by decide), ?_⟩
      refine ⟨_, _, rfl, rfl, _, _, rfl, rfl, _, _, rfl, rfl, ⟨by decide, by decide, by omega⟩, _, rfl, _, _, rfl, rfl, by walk_at "z", ?_⟩
      -- the twist, below the prime
      dsimp only
      generalize hx : (b + 6701 * (c + 1) + 3) ^ Int.toNat 5 % pr = x
      have x0 : 0 ≤ x := by rw [← hx]; exact Int.emod_nonneg _ (by omega)
      have x1 : x < pr := by rw [← hx]; exact Int.emod_lt_of_pos _ (by omega)
      refine ⟨_, rfl, _, rfl, W, _, _, _, rfl, rfl, .of (hW1 _), aI2 _ _ _, _, _, rfl, rfl, _, rfl, _, _, rfl, rfl, ⟨by decide, by decide⟩, _, _, rfl, rfl, _, _, rfl, rfl, .inr ?_, _, rfl, _, _, rfl, rfl, by walk_at "z", ?_⟩
      · have := Int.ediv_le_self 1013 x0
        have := Int.ediv_nonneg x0 (show (0 : Int) ≤ 1013 by decide)
        try dsimp only
        omega
      dsimp only
      generalize hy : (x + (c + 1)) * (x / 1013 + 40693) % pr = y
      have y0 : 0 ≤ y := by rw [← hy]; exact Int.emod_nonneg _ (by omega)
      refine ⟨_, rfl, _, _, rfl, rfl, ⟨by decide, by decide⟩, _, rfl, _, _, rfl, rfl, by walk_at "z", ?_⟩
      have hm := Int.emod_nonneg (y / 11) (show (t : Int) ≠ 0 by omega)
      have hl := Int.emod_lt_of_pos (y / 11) t0
      have e : y / 11 % (t : Int) = ((y / 11 % (t : Int)).toNat : Int) := by omega
      show Q (.int (y / 11 % (t : Int))) _
      rw [e]
      refine q _ _ (by omega) (Sm.new (Sm.put .rfl') np) ⟨_, _, _, hW1 _, b0, b1, by omega, by omega⟩
end
end T03

set_option maxHeartbeats 1000000
local macro_rules | `(tactic| walk_at "z") => `(tactic| ((try dsimp only); first | assumption | omega | decide | (simp only [List.length_cons, List.length_nil]; first | decide | omega)))
namespace T03
open PySem L2 PyProof.Rows TX
section
variable {P : Program} {w : World} {K : PySem.W.Frag} {mg : Str → Option Value} {base : Heap}
abbrev N_names : List Str := ["_law_well_here", "_law_count", "_law_letters", "_law_begin", "_law_apart", "_law_base_here", "_law_spot", "_law_more", "_law_found", "_law_k", "_law_letter"]
theorem sc_names : FnScope N_names ["_law_well_here", "_law_count"] (defScope s_names) := ⟨rfl, rfl, rfl, by decide +kernel, rfl, by decide +kernel, by decide +kernel⟩
/-- names: as many unlike names as are asked for, up to 26 -/
def sp_names : Sp := fun vs H Q _ => ∃ (W : Addr) (t n : Nat), vs = [.ref W, .int t] ∧ t ≤ 26 ∧ WellAt (n + 11) H W ∧
  ∀ (H' : Hp) (p : Addr) (ns : List Str), Sm W H H' → WellAt n H' W → H p = none → p ≠ W → H' p = some (.lst (ns.map V.str)) → ns.length = t → ns.Nodup → (∀ s ∈ ns, TM.NameOk s) → Q (.ref p) H'
theorem ok_names {f fD : Addr} {fd fdD : FuncData} (F : Fn K mg "_law_names" s_names ["_law_well_here", "_law_count"] f fd) (B : Bn mg) (D : Fn K mg "_law_draw" s_draw ["_law_well_here", "_law_top"] fD fdD) :
    FnOk P w K mg base CX0 2 f fd ["_law_well_here", "_law_count"] sp_names := by
  have GD : FnOk P w K mg base CX0 1 fD fdD ["_law_well_here", "_law_top"] sp_draw := ok_draw D
  refine F.F.ok sc_names (fun vs H Q E h => ?_) (fun cdv A outer s H vs Q E hr h => ?_)
  · obtain ⟨W, t, n, rfl, _⟩ := h
    rfl
  · obtain ⟨W, t, n, rfl, h0, hW, q⟩ := h
    have hu := hu_of hr
    refine ⟨_, pss_cons (ps_set (i := 2) sc_names.nd rfl (Or.inr rfl) pe_str)
      (pss_cons (ps_set (i := 3) sc_names.nd rfl (Or.inl rfl) (pe_call GD hr rfl D.g D.F.kp D.b .nil pass0 (pa_cons (pv 0) (pa_cons pe_int pa_nil))))
      (pss_cons (ps_set (i := 4) sc_names.nd rfl (Or.inl rfl) (pe_ix ix_list (pe_lst (pa_cons pe_int (pa_cons pe_int (pa_cons pe_int (pa_cons pe_int (pa_cons pe_int (pa_cons pe_int (pa_cons pe_int (pa_cons pe_int pa_nil)))))))))
          (pe_call GD hr rfl D.g D.F.kp D.b .nil pass0 (pa_cons (pv 0) (pa_cons pe_int pa_nil))) (fun _ _ => rfl)))
      (pss_cons (ps_set (i := 5) sc_names.nd rfl (Or.inl rfl) (pe_join pe_str (pe_lc (own := [("_law_k", 9)]) (g := gName 9) (tt := tYes) rfl sc_names.nd (pi_range1 rfl B.range (pa_cons pe_int pa_nil)) (blkOk_by (N := N_names) (sc := defScope s_names) (by decide +kernel))
          (fun _ _ _ _ _ => pg_name (i := 9) sc_names.nd rfl (Or.inl rfl)) (fun _ _ _ _ _ => pts_nil)
          (fun _ _ _ _ _ => pe_ix ix_str (pv 2) (pe_call GD hr rfl D.g D.F.kp D.b .nil pass0 (pa_cons (pv 0) (pa_cons pe_int pa_nil))) (fun _ _ => rfl)))))
      (pss_cons (ps_set (i := 6) sc_names.nd rfl (Or.inl rfl) (pe_call GD hr rfl D.g D.F.kp D.b .nil pass0 (pa_cons (pv 0) (pa_cons pe_int pa_nil))))
      (pss_cons (ps_set (i := 7) sc_names.nd rfl (Or.inl rfl) (pe_call GD hr rfl D.g D.F.kp D.b .nil pass0 (pa_cons (pv 0) (pa_cons (pe_op op_sub pe_int (pv 6)) pa_nil))))
      (pss_cons (ps_set (i := 8) sc_names.nd rfl (Or.inl rfl) (pe_lst pa_nil))
      (pss_cons (ps_for PassesOwn.never rfl (pi_range1 rfl B.range (pa_cons (pv 1) pa_nil)) (pg_name (i := 9) sc_names.nd rfl (Or.inl rfl))
        (pss_cons (ps_set (i := 10) sc_names.nd rfl (Or.inl rfl) (pe_ix ix_str (pv 2) (pe_op op_mod (pe_op op_add (pv 3) (pe_op op_mul (pv 4) (pv 9))) pe_int) (fun _ _ => rfl)))
        (pss_one (ps_expr (pe_bm PySem.F.plainAttrs_list PySem.F.slot_list_append PySem.F.type_list_append mt_append (pv 8)
          (pa_cons (pe_op op_add_str (pe_op op_add_str (pe_slice sl_str (pv 5) po_none (po_some (pv 6))) (pv 10)) (pe_slice sl_str (pv 5) (po_some (pv 6)) (po_some (pe_op op_add (pv 6) (pv 7))))) pa_nil))))))
      (pss_one (ps_ret (pv 8)))))))))), ?_⟩
    refine ⟨_, rfl, W, 26, n + 10, rfl, by decide, by decide, hW, fun H1 bg hbg s1 w1 => ?_⟩
    -- apart
    refine ⟨by decide, fun p1 n1 => ?_⟩
    have w1' : WellAt (n + 10) (upd H1 p1 (.lst [.int 1, .int 3, .int 5, .int 7, .int 9, .int 11, .int 15, .int 17])) W := w1.new n1
    have pW1 : p1 ≠ W := (w1.ne n1).symm
    refine ⟨_, rfl, W, 8, n + 9, rfl, by decide, by decide, w1', fun H2 j hj s2 w2 => ?_⟩
    have e2 : H2 p1 = some (.lst [.int 1, .int 3, .int 5, .int 7, .int 9, .int 11, .int 15, .int 17]) := s2 _ _ pW1 upd_same
    obtain ⟨ap, hap, hap2⟩ : ∃ ap : Nat, ap ∈ [1, 3, 5, 7, 9, 11, 15, 17] ∧ atI [V.int 1, .int 3, .int 5, .int 7, .int 9, .int 11, .int 15, .int 17] (j : Int) = some (V.int (ap : Int)) := by
      have : j = 0 ∨ j = 1 ∨ j = 2 ∨ j = 3 ∨ j = 4 ∨ j = 5 ∨ j = 6 ∨ j = 7 := by omega
      rcases this with e | e | e | e | e | e | e | e <;> subst e
      · exact ⟨1, by decide, rfl⟩
      · exact ⟨3, by decide, rfl⟩
      · exact ⟨5, by decide, rfl⟩
      · exact ⟨7, by decide, rfl⟩
      · exact ⟨9, by decide, rfl⟩
      · exact ⟨11, by decide, rfl⟩
      · exact ⟨15, by decide, rfl⟩
      · exact ⟨17, by decide, rfl⟩
    refine ⟨p1, _, _, _, rfl, rfl, .of e2, hap2, ?_⟩
    have sm2 : Sm W H H2 := (s1.new n1).trans s2
    -- base
    refine ⟨⟨_, rfl⟩, 7, rfl, by decide, by decide, fun L nL => ?_⟩
    refine lc_it (walk_range (lo := 0) (n := (7 : Int).toNat)) (fun i H' => ∃ cs : List Nat, H' L = some (.lst (cs.map fun c => V.str (S [c]))) ∧ cs.length = i ∧ (∀ c ∈ cs, 97 ≤ c ∧ c ≤ 122) ∧ Sm W H2 H' ∧ WellAt (n + 2 + (7 - i)) H' W)
      ⟨[], upd_same, rfl, by simp, Sm.new .rfl' nL, w2.new nL⟩ (fun _ _ _ _ => trivial) ?_ ?_
    · rintro i x H3 H3' hi ⟨cs, eL, hcs, hc, s3, w3⟩ ⟨rfl, rfl⟩
      have hi7 : i < 7 := hi
      refine ⟨rfl, ?_⟩
      refine ⟨_, rfl, _, rfl, W, 26, n + 2 + (7 - (i + 1)), rfl, by decide, by decide, w3.mono (by omega), fun H4 c hc4 s4 w4 => ?_⟩
      have LW : L ≠ W := (w2.ne nL).symm
      refine ⟨_, _, _, rfl, rfl, abc_len, abc_at hc4, _, s4 _ _ LW eL, ?_, cs ++ [97 + c], ?_, ?_, ?_, ?_, ?_⟩
      · rw [List.length_map, hcs]
        exact Nat.lt_trans hi7 (by decide)
      · rw [upd_same, List.map_append]
        rfl
      · rw [List.length_append, hcs]
        rfl
      · intro x hx
        rcases List.mem_append.mp hx with hx | hx
        · exact hc x hx
        · rw [List.mem_singleton.mp hx]
          omega
      · exact (s3.trans s4).mut nL
      · exact w4.upd LW.symm
    · rintro H3 ⟨cs, eL, hcs, hc, s3, w3⟩
      refine ⟨_, L, cs.map (fun c => S [c]), rfl, rfl, .inl (.of (by rw [eL, List.map_map]; rfl)), ?_, ?_⟩
      · have e7 : cs.length = 7 := hcs
        rw [List.length_map, sum_signs, e7, len_empty]
        decide
      rw [join_signs]
      have sm3 : Sm W H H3 := sm2.trans s3
      have hcs7 : cs.length = 7 := hcs
      have w3' : WellAt (n + 2) H3 W := w3.mono (by omega)
      -- spot, more
      refine ⟨_, rfl, W, 8, n + 1, rfl, by decide, by decide, w3', fun H4 sp hsp s4 w4 => ?_⟩
      refine ⟨_, rfl, _, rfl, _, _, rfl, rfl, W, 8 - sp, n, ?_, by omega, by omega, w4, fun H5 mo hmo s5 w5 => ?_⟩
      · show [V.ref W, V.int (8 - (sp : Int))] = [V.ref W, V.int ((8 - sp : Nat) : Int)]
        rw [show ((8 - sp : Nat) : Int) = 8 - (sp : Int) by omega]
      have sm5 : Sm W H H5 := (sm3.trans s4).trans s5
      -- found = []
      refine ⟨by decide, fun p np => ?_⟩
      have npH : H p = none := sm5.free hW np ⟨n, w5⟩
      have pW : p ≠ W := (w5.ne np).symm
      refine ⟨_, rfl, (t : Int), rfl, by omega, by omega, ?_⟩
      rw [show ((t : Int)).toNat = t by omega]
      refine for_range (lo := 0) (n := t) (fun i σ H' => ∃ v1 v2 : Option V, σ = [some (.ref W), some (.int t), some (.str abc), some (.int bg), some (.int ap), some (.str (S cs)), some (.int sp), some (.int mo), some (.ref p), v1, v2] ∧
          H' p = some (.lst (((List.range i).map (nmOf cs sp mo bg ap)).map V.str)) ∧ Sm W H5 H' ∧ WellAt n H' W)
        ⟨none, none, rfl, upd_same, Sm.new .rfl' np, w5.new np⟩ ?_ ?_
      · rintro i σ H6 hi ⟨v1, v2, rfl, e6, s6, w6⟩
        have hm : (bg + ap * i) % 26 < 26 := Nat.mod_lt _ (by decide)
        have ez : ((bg : Int) + (ap : Int) * (0 + (i : Int))) % 26 = (((bg + ap * i) % 26 : Nat) : Int) := by
          rw [Int.zero_add]
          omega
        have hap17 : ap ≤ 17 := by
          simp only [List.mem_cons, List.not_mem_nil, or_false] at hap
          omega
        refine ⟨_, rfl, _, rfl, _, rfl, _, rfl, _, _, rfl, rfl, .inl ⟨by omega, by omega⟩, _, _, rfl, rfl, _, _, rfl, rfl, by walk_at "z", ?_⟩
        refine ⟨_, _, _, rfl, rfl, abc_len, by rw [ez]; exact abc_at hm, ?_⟩
        have hcut1 : (cutS (S cs) none (some (sp : Int))) = S (cs.take sp) := by
          rw [cutS_S, hcs7, HT.sIx_none, HT.sIx_nat, List.drop_zero, Nat.min_eq_left (by omega), Nat.sub_zero]
        have hcut2 : (cutS (S cs) (some (sp : Int)) (some ((sp : Int) + (mo : Int)))) = S ((cs.drop sp).take mo) := by
          rw [show ((sp : Int) + (mo : Int)) = ((sp + mo : Nat) : Int) by omega, cutS_S, hcs7, HT.sIx_nat, HT.sIx_nat, Nat.min_eq_left (by omega), Nat.min_eq_left (by omega), Nat.add_sub_cancel_left]
        have hl7 : (S cs).length ≤ sizeLine := by rw [S_len, hcs7]; decide
        have hL : ∀ m : List Nat, m.length ≤ 100 → m.length ≤ sizeLine := fun m h => Nat.le_trans h (by decide)
        refine ⟨_, rfl, .inl ⟨rfl, _, .inl (.inl e6)⟩, _, rfl, _, rfl, _, rfl, _, rfl, hl7, _, rfl, _, _, rfl, rfl, ?_, _, rfl, _, rfl, _, rfl, _, rfl, _, rfl, _, _, rfl, rfl, _, rfl, _, rfl, hl7, _, _, rfl, rfl, ?_, _, _, _, rfl, rfl, e6, ?_, _, _, rfl, ?_, ?_, ?_⟩
        · rw [hcut1, S_len]
          refine line100 ?_
          have : (cs.take sp).length ≤ 7 := by rw [List.length_take, hcs7]; omega
          show _ + 1 ≤ 1000
          omega
        · rw [hcut1, hcut2, sapp_len, S_len, S_len]
          refine line100 ?_
          have h1 : (cs.take sp).length ≤ 7 := by rw [List.length_take, hcs7]; omega
          have h2 : ((cs.drop sp).take mo).length ≤ 7 := by rw [List.length_take, List.length_drop, hcs7]; omega
          show _ + 1 + _ ≤ 1000
          omega
        · rw [List.length_map, List.length_map, List.length_range]
          exact line100' (by omega)
        · rw [upd_same, hcut1, hcut2, List.range_succ, List.map_append, List.map_append]
          have : S (cs.take sp) ++ (⟨#[97 + (bg + ap * i) % 26]⟩ : Str) ++ S ((cs.drop sp).take mo) = nmOf cs sp mo bg ap i := by
            show S (cs.take sp) ++ S [97 + (bg + ap * i) % 26] ++ S ((cs.drop sp).take mo) = _
            rw [S_app, S_app]
            unfold nmOf
            rw [List.append_assoc]
            rfl
          rw [this]
          rfl
        · exact s6.mut np
        · exact w6.upd pW.symm
      · rintro σ H6 ⟨v1, v2, rfl, e6, s6, w6⟩
        refine ⟨_, rfl, q H6 p ((List.range t).map (nmOf cs sp mo bg ap)) (sm5.trans s6) w6 npH pW e6 (by simp) (nm_nodup hap h0) ?_⟩
        intro s hs
        obtain ⟨k, _, rfl⟩ := List.mem_map.mp hs
        exact nm_ok hcs7 hc (by omega)
end
end T03

set_option maxHeartbeats 2000000
/-! Rules of our own: != of an instance whose class has an own __eq__ alone; == of one, whatever it says. -/
namespace TY
open PySem L2 PyProof.Rows TX
section
variable {prog : Program} {w : World} {A : Around} {E : Value → Shared → Prop} {s : Shared} {K : PySem.W.Frag} {x C f : Addr} {ox : Obj} {od : Option Obj} {b tb : Value}
theorem ifBound_B {M : Model} {id : String} {name : Str} {args : List Value} {Q : Option Value → Shared → Prop} (X : K.In s.heap) (I : PySem.W.InstAt s.heap x ox C od) (hs : PySem.W.findIn K (.ref C) name = some (some (.builtin id)))
    (hb : ∀ self, bindSpecial (.builtin id) self = pure (.builtin id, [self])) (h : wpAny M A (call (.builtin id) (.ref x :: args)) (fun v => Q (some v)) E s) : wpAny M A (callSpecialIfBound? (.ref x) name args) Q E s := by
  simp only [callSpecialIfBound?, bindSpecialIfBound?]
  refine wpAny_holding (wpAny_bind (wpAny_bind (wpAny_bind (I.type.here ((PySem.W.looks_findIn X hs).here ?_)))))
  refine wpAny_bind (wpAny_askSetting (wpAny_ite ?_))
  have fin : wpAny M A (call (.builtin id) ([.ref x] ++ args) >>= fun v => pure (some v)) Q E s := wpAny_bind (wpAny_mono h (fun v s' h' => wpAny_pure h') fun _ _ h' => h')
  rw [hb]
  split
  · exact wpAny_bind (wpAny_pure (wpAny_pure (by exact fin)))
  · exact wpAny_tryCatch (wpAny_bind (wpAny_pure (wpAny_pure (by exact fin))))
theorem objNe_own (hu : A.units < cLine) (X : K.In s.heap) (I : PySem.W.InstAt s.heap x ox C od) (hs : PySem.W.findIn K (.ref C) "__eq__" = some (some (.ref f))) (hf : PySem.W.isFn K (.ref f) = true) {Q : Fin → Shared → Prop}
    (h : wpAny (model prog w) A (call (.ref f) [.ref x, b]) (fun v s' => ∃ r, v = .bool r ∧ Q (.done (.ret (.bool (!r)))) s') E s) : wpAny (model prog w) A (Builtin.«object.__ne__» ⟨[.ref x, b], []⟩) Q E s := by
  have step : ∀ {Q' : Option Value → Shared → Prop}, (∀ r s', Q (.done (.ret (.bool (!r)))) s' → Q' (some (.bool r)) s') → wpAny (model prog w) A (callSpecialIfBound? (.ref x) "__eq__" [b]) Q' E s := fun hq =>
    PySem.W.ifBound_K X I hs hf (wpAny_mono h (fun v s' ⟨r, e, q⟩ => by subst e; exact hq r s' q) fun _ _ e => e)
  unfold Builtin.«object.__ne__»
  repeat (first | with_reducible refine wpAny_cRoomFor hu ?_ | with_reducible refine step (fun r s' q => ?_) | wp_step)
  exact q
theorem looks_obj {M : Model} (X : K.In s.heap) (I : PySem.W.InstAt s.heap x ox C od) (hm : PySem.W.mroIn K C (.type "object") = some true) : PySem.W.Looks M s.heap (isInstance (.ref x) (.type "object")) true := I.type.andThen (PySem.W.looks_mroIn X hm)
/-- x != b, the class having an own __eq__ alone -/
theorem ne_own {Q : Value → Shared → Prop} (hu : A.units + 1 < cLine) (X : K.In s.heap) (I : PySem.W.InstAt s.heap x ox C od) (hm : PySem.W.mroIn K C (.type "object") = some true) (hb : PySem.W.Looks (model prog w) s.heap (typeOf b) tb) (hn : PySem.W.notFirst K C tb = true)
    (hne : PySem.W.findIn K (.ref C) "__ne__" = some (some (.builtin "object.__ne__"))) (hs : PySem.W.findIn K (.ref C) "__eq__" = some (some (.ref f))) (hf : PySem.W.isFn K (.ref f) = true)
    (h : wpAny (model prog w) A.in1 (call (.ref f) [.ref x, b]) (fun v s' => ∃ r, v = .bool r ∧ Q (.bool (!r)) s') E s) : wpAny (model prog w) A (richCompare .NotEq (.ref x) b) Q E s := by
  have one : wpAny (model prog w) A (tryCompare (.ref x) (cmpInfo .NotEq).2.1 b) (fun r s' => ∃ v, r = some v ∧ Q v s') E s := by
    unfold tryCompare
    refine wpAny_bind (ifBound_B X I hne F.slot_tuple_iterator_ne.bind (wpAny_call (codeAny_call_builtin F.slot_tuple_iterator_ne.plain F.cmpEntry_ne ?_)))
    refine @PySem.W.check_slot (model prog w) _ _ s "object.__ne__" "object" "__ne__" (.ref x) [b] [] _ F.cmpKind_ne F.cmpSplit_ne (looks_obj X I hm) (F.cmpArgs_ne _ _) ?_
    refine objNe_own (by show A.in1.units < cLine; have : A.in1.units = A.units + 1 := rfl; omega) X I hs hf (wpAny_mono h (fun v s' ⟨r, e, q⟩ => ⟨r, e, ?_⟩) fun _ _ e => e)
    exact wpAny_pure ⟨_, rfl, q⟩
  unfold richCompare
  simp only [oneThing_ref]
  refine wpAny_holding (wpAny_bind (wpAny_cRoomFor (Nat.lt_of_succ_lt hu) ?_))
  refine wpAny_bind (I.type.here (wpAny_bind (hb.here ?_)))
  split
  · rename_i q
    have e : PySem.W.subIn K tb (.ref C) = some false := by
      rcases Bool.or_eq_true_iff.mp hn with e | e
      · rw [beq_iff_eq.mp e] at q; simp at q
      · exact beq_iff_eq.mp e
    refine wpAny_bind ((PySem.W.looks_subIn X e).here ?_)
    simp only [Bool.false_eq_true, if_false]
    refine wpAny_bind (wpAny_mono one (fun r s' z => ?_) fun _ _ e => e)
    obtain ⟨v, rfl, hq⟩ := z
    exact wpAny_pure hq
  · refine wpAny_bind (wpAny_pure ?_)
    simp only [Bool.false_eq_true, if_false]
    refine wpAny_bind (wpAny_mono one (fun r s' z => ?_) fun _ _ e => e)
    obtain ⟨v, rfl, hq⟩ := z
    exact wpAny_pure hq
end
/-! ### as expressions -/
section
variable {X : Cx} {CX : CXT} {n : Nat} {C f : Addr} {fd : FuncData} {ps : List Str} {sp : Sp} {E : XK}
/-- x == y and x != y by an own __eq__ -/
def rOwnEq (K : PySem.W.Frag) (C : Addr) (sp : Sp) (E : XK) (neg : Bool) : R2 := fun x y H Q => ∃ (a dx : Addr) (fs : List (Str × V)) (t : Value), x = .ref a ∧ H a = some (.ins C dx fs) ∧ TyX K H y t ∧ PySem.W.notFirst K C t = true ∧
  sp [x, y] H (fun v H' => ∃ r, v = .bl r ∧ Q (.bl (if neg = true then !r else r)) H') E
theorem run_own {A : Around} {pins : List (Addr × Obj)} {s : Shared} {σ : L2.St} {H : Hp} {x y : V} {v u : Value} {Q : VK} (F : FnOk X.prog X.w X.K X.mg X.base CX n f fd ps sp) (hb : Binds X.K fd ps []) (hx : Passes CX X E) (hr : Room n A) (hf : A.frames = X.A.frames)
    (I : Inv X pins σ H s) (rx : RelV x v) (ry : RelV y u) (h : sp [x, y] H Q E) : wpAny (model X.prog X.w) A (call (.ref f) [v, u]) (EP X pins σ Q) X.xe s := by
  have e0 : Env0 X.prog X.w X.K X.mg X.base A X.stack s H := by
    have e := I.env0
    exact ⟨by rw [hf]; exact e.frames, e.mod, e.bs, e.bsz, e.funs, e.frf, e.hok, e.bare⟩
  have hl := F.len _ _ _ _ h
  have r2 : Vals [x, y] [v, u] := .cons rx (.cons ry .nil)
  refine wpAny_call (codeAny_mono (F.run A X.stack s H ⟨[v, u], []⟩ [v, u] [x, y] _ E hr e0 (by
    have := hb s [v, u] I.kIn (by simpa using hl)
    simpa using this) r2 h) fun r s' hq => ?_)
  cases r with
  | error e => exact hx pins σ H s e s' I hq
  | ok fl =>
    cases fl with
    | ret w => exact I.after hq
    | next => exact False.elim hq
    | brk => exact False.elim hq
    | cont => exact False.elim hq
theorem op_eqOwn (F : FnOk X.prog X.w X.K X.mg X.base CX n f fd ps sp) (hs : PySem.W.findIn X.K (.ref C) "__eq__" = some (some (.ref f))) (hf : PySem.W.isFn X.K (.ref f) = true) (hb : Binds X.K fd ps []) (hx : Passes CX X E) (hr : Room n X.A) :
    OpR X (compareOp .Eq) (rOwnEq X.K C sp E false) := by
  intro pins s σ H x y v u Q I rx ry h
  obtain ⟨a, dx, fs, t, rfl, ha, ty, hn, q⟩ := h
  cases (show v = Value.ref a from rx)
  obtain ⟨mA, J, _⟩ := ins_get I.hok ha
  obtain ⟨od, J, _⟩ := J.look
  obtain ⟨P, Z, p, _⟩ := kit_of I ry ty
  obtain ⟨m, hF⟩ := I.fr
  refine PySem.W.cmp_ofEq (PySem.W.cmp_K (op := .Eq) (tb := t) hr.units0 hF I.ok.mod.kin J (Z.ty _ _ I.kIn p) hn hs hf ?_)
  refine wpAny_mono (run_own F hb hx hr rfl I rx ry q) (fun w s' z => ?_) fun _ _ e => e
  obtain ⟨z', H', I', rz, r, ez, qz⟩ := z
  subst ez
  cases (show w = Value.bool r from rz)
  exact ⟨.bl r, H', I', rfl, qz⟩
theorem op_neOwn (F : FnOk X.prog X.w X.K X.mg X.base CX n f fd ps sp) (hm : PySem.W.mroIn X.K C (.type "object") = some true) (hne : PySem.W.findIn X.K (.ref C) "__ne__" = some (some (.builtin "object.__ne__")))
    (hs : PySem.W.findIn X.K (.ref C) "__eq__" = some (some (.ref f))) (hf : PySem.W.isFn X.K (.ref f) = true) (hb : Binds X.K fd ps []) (hx : Passes CX X E) (hr : Room (n + 1) X.A) : OpR X (compareOp .NotEq) (rOwnEq X.K C sp E true) := by
  intro pins s σ H x y v u Q I rx ry h
  obtain ⟨a, dx, fs, t, rfl, ha, ty, hn, q⟩ := h
  cases (show v = Value.ref a from rx)
  obtain ⟨mA, J, _⟩ := ins_get I.hok ha
  obtain ⟨od, J, _⟩ := J.look
  obtain ⟨P, Z, p, _⟩ := kit_of I ry ty
  have hr1 : Room n X.A.in1 := hr.in1
  have hu : X.A.units + 1 < cLine := by
    have := hr1.units0
    exact this
  refine PySem.W.cmp_ofNotEq (ne_own hu I.kIn J hm (Z.ty _ _ I.kIn p) hn hne hs hf ?_)
  refine wpAny_mono (run_own F hb hx hr1 rfl I rx ry q) (fun w s' z => ?_) fun _ _ e => e
  obtain ⟨z', H', I', rz, r, ez, qz⟩ := z
  subst ez
  cases (show w = Value.bool r from rz)
  exact ⟨r, rfl, .bl (!r), H', I', rfl, qz⟩
end
end TY

set_option maxHeartbeats 4000000
/-! A rule of our own: len(set(xs)) of texts, some alike or not. -/
namespace TUD
open PySem PySem.Spec PyProof.Rows SS
section
variable {prog : Program} {w : World} {A : Around} {R : Result → Shared → Prop} {I : Addr} {fp wr : List Addr} {G : Array GenState → Array GenState → Prop} {n : Nat} {P : Nat → Value → Prop} {St : Nat → Shared → Prop}
/-- the texts met ahead of the i-th -/
def met (ks : Nat → Str) (i : Nat) (k : Str) : Bool := ((List.range i).map ks).any (· == k)
/-- how many unlike ones ahead of the i-th -/
def cnt (ks : Nat → Str) : Nat → Nat
  | 0 => 0
  | i + 1 => if met ks i (ks i) = true then cnt ks i else cnt ks i + 1
theorem cnt_le (ks : Nat → Str) : ∀ i, cnt ks i ≤ i
  | 0 => Nat.le_refl _
  | i + 1 => by
    have := cnt_le ks i
    unfold cnt
    split <;> omega
theorem met_new {ks : Nat → Str} {i : Nat} (hd : ∀ j, j < i → ks j ≠ ks i) : met ks i (ks i) = false := by
  unfold met
  rw [List.any_eq_false]
  intro y hy
  obtain ⟨j, hj, rfl⟩ := List.mem_map.mp hy
  simpa using hd j (List.mem_range.mp hj)
theorem met_next {ks : Nat → Str} {i : Nat} (k : Str) : (met ks i k || decide (k = ks i)) = met ks (i + 1) k := by
  unfold met
  rw [List.range_succ, List.map_append, List.any_append]
  have e : decide (k = ks i) = ([i].map ks).any (· == k) := by
    by_cases h : k = ks i
    · rw [decide_eq_true h, h]
      simp
    · rw [decide_eq_false h]
      have : (ks i == k) = false := by simpa using fun z => h z.symm
      simp [this]
  rw [e]
theorem loopD (Wk : WalksS prog w A.in1 I fp wr G n P St) (S : Addr) (nS : S ∉ fp) (ks : Nat → Str) (hb : n + 1 < scanBound) (hv : ∀ i v, P i v → ∃ t, v = .str (ks i) t) :
    ∀ (m i : Nat) (s : Shared), n - i = m → i ≤ n → St i s → s.heap.SetOf (PySem.strKind prog w) S (met ks i) (cnt ks i) →
      (∀ s', Moved (S :: wr) G s s' → s'.heap.SetOf (PySem.strKind prog w) S (met ks n) (cnt ks n) → R (.ok (.ret .none)) s') → codeAny (model prog w) A (.builtin "set.update.loop" ⟨[.ref S, .ref I], []⟩) R s := by
  have nW : S ∉ wr := fun z => nS (Wk.sub _ z)
  have up : ∀ b ∈ wr, b ∈ S :: wr := fun b z => List.mem_cons_of_mem _ z
  have keep : ∀ {s s' : Shared} {i : Nat}, Moved wr G s s' → s.heap.SetOf (PySem.strKind prog w) S (met ks i) (cnt ks i) → s'.heap.SetOf (PySem.strKind prog w) S (met ks i) (cnt ks i) := fun mv h => by
    obtain ⟨o, es, ep, t, ho, r⟩ := h
    exact ⟨o, es, ep, t, mv.heap S _ nW ho, r⟩
  intro m
  induction m with
  | zero =>
    intro i s hm hi hst hS hR
    obtain rfl : i = n := by omega
    refine codeAny_builtin PyProof.Rows.F.entry_set_update_loop ?_
    rw [Around.under_plainId PyProof.Rows.F.plain_set_update_loop _]
    show wpAny _ A.in1 (pyNext (.ref I) >>= _) _ _ s
    refine wpAny_bind (Wk.done s _ _ hst fun s' mv => ?_)
    show wpAny _ A.in1 (ret Value.none) _ _ s'
    exact wpAny_pure (hR s' (mv.mono up) (keep mv hS))
  | succ m ih =>
    intro i s hm hi hst hS hR
    have hlt : i < n := by omega
    refine codeAny_builtin PyProof.Rows.F.entry_set_update_loop ?_
    rw [Around.under_plainId PyProof.Rows.F.plain_set_update_loop _]
    show wpAny _ A.in1 (pyNext (.ref I) >>= _) _ _ s
    refine wpAny_bind (Wk.item i s _ _ hlt hst fun v s' hP hst' mv => ?_)
    obtain ⟨t, rfl⟩ := hv i v hP
    have h1 := keep mv hS
    show wpAny _ A.in1 (holding [Value.str (ks i) t] (setAdd S (.str (ks i) t)) >>= _) _ _ s'
    refine wpAny_bind (wpAny_holding ?_)
    unfold setAdd
    refine wpAny_holding ?_
    refine wpAny_bind ((PySem.strKind prog w).pyHash (k := ks i) (strKind_is _ _ _ _) ?_)
    refine wpAny_setAddHashed_of (knd := PySem.strKind prog w) (s := { s' with toks := s'.toks + 1 }) (strKind_is _ _ _ _) rfl h1 (by have := cnt_le ks i; omega) fun h' hsb h2 => ?_
    have h3 : h'.SetOf (PySem.strKind prog w) S (met ks (i + 1)) (cnt ks (i + 1)) := SetOf_congr h2 (fun k => met_next k) rfl
    refine wpAny_pure ⟨plainId_quiet PyProof.Rows.F.plain_set_update_loop _, ih (i + 1) _ (by omega) hlt (Wk.frame _ s' _ _ hst' (Nat.le_succ _) fun b hb o e => ?_) h3 fun s2 m2 h4 => ?_⟩
    · exact (hsb.2 b fun z => nS (z ▸ hb)).trans e
    · exact hR s2 (Moved.trans Wk.gtrans ((mv.mono up).then_heap (Nat.le_succ _) fun b o hb e => (hsb.2 b fun z => hb (by rw [z]; exact List.mem_cons_self)).trans e) m2) h4
end
section
variable {prog : Program} {w : World} {A : Around} {E : Value → Shared → Prop} {s : Shared}
/-- a set that was just begun -/
abbrev bare (led : Bool) : Obj := { cls := .type "set", dict := none, data := .set #[] 0 (.fresh 0 0 led) }
set_option maxHeartbeats 3200000 in
theorem set_texts {l : Addr} {items : Array Value} {xs : List Str} {Q : Value → Shared → Prop} (hh : A.handled = none) (hl : s.heap.IsList l items) (hi : PyProof.Rows.StrsAre items.toList xs) (h64 : xs.length < 64)
    (h : ∀ (h' : Heap) (tk : Nat), h'.SetOf (PySem.strKind prog w) s.heap.objs.size (met (fun i => xs.getD i Str.empty) items.size) (cnt (fun i => xs.getD i Str.empty) items.size) → (∀ b o, b < s.heap.objs.size → s.heap.get? b = some o → h'.get? b = some o) → Q (.ref s.heap.objs.size) { s with heap := h', toks := tk }) :
    wpAny (model prog w) A (call (.type "set") [.ref l]) Q E s := by
  obtain ⟨c, tl, hmro⟩ := PySem.F.called_set.mro
  have g1 := PySem.F.called_set.made
  have g2 := PySem.F.called_set.sub
  have g3 := PySem.F.called_set.notType
  have g4 := PySem.F.called_set.canCreate
  have g5 := PySem.F.typeCall_set_1 (.ref l)
  refine wpAny_call (codeAny_of_tree ?_)
  show wpAny _ _ (callAny (.type "set") _) _ _ _
  refine wpAny_pure ⟨Code.quiet_builtin _ (by decide +kernel), codeAny_builtin PySem.F.entry_type_call ?_⟩
  rw [Around.under_plain (weight_type_call_type "set" [.ref l] []) rfl]
  repeat (any_goals (first | assumption | wp_step))
  refine codeAny_mono (code_set_new_1 (.ref l) (E := E) (Q₁ := fun u s1 => ∃ led : Bool, u = .ref s.heap.objs.size ∧ s1 = { s with heap := s.heap.push (bare led) }) fun led => ⟨led, rfl, rfl⟩) fun r s1 hr => ?_
  cases r with
  | error e => exact hr
  | ok fl =>
   cases fl with
   | ret u =>
    obtain ⟨led, rfl, rfl⟩ := hr
    have at0 : (s.heap.push (bare led)).get? s.heap.objs.size = some (bare led) := Heap.get?_push_size _ rfl
    have ty0 : Shared.TypeIs { s with heap := s.heap.push (bare led) } (.ref s.heap.objs.size) "set" := ⟨_, at0, rfl⟩
    have g6 := PySem.F.called_set.init.lookup
    have g7 := PySem.F.called_set.init.bind (.ref s.heap.objs.size)
    repeat (any_goals (first | assumption | wp_step))
    refine codeAny_mono (codeAny_call_builtin (R := wants (fun r s2 => r = .none ∧ ∃ h' tk, s2 = { s with heap := h', toks := tk } ∧ h'.SetOf (PySem.strKind prog w) s.heap.objs.size (met (fun i => xs.getD i Str.empty) items.size) (cnt (fun i => xs.getD i Str.empty) items.size) ∧
        (∀ b o, b < s.heap.objs.size → s.heap.get? b = some o → h'.get? b = some o)) E) PySem.F.called_set.init.plain PySem.F.entry_set_init (check_set_init_1 ty0 ?_)) fun r2 s2 hr2 => ?_
    · obtain ⟨ol, hol, hcl, nl, hdl⟩ := hl
      obtain ⟨oc, od, odata, osl⟩ := ol
      simp only at hcl hdl
      subst hcl hdl
      have at1 : (s.heap.push (bare led)).get? l = some { cls := .type "list", dict := od, data := .seq items nl, slots := osl } := Heap.get?_push_of_some _ hol
      have g8 := PySem.F.sub_list_set
      have g9 := PySem.F.sub_list_frozenset
      have g10 : (Value.type "list" == Value.type "dict") = false := by decide
      have il : (s.heap.push (bare led)).IsList l items := ⟨_, at1, rfl, nl, rfl⟩
      unfold Builtin.«set.__init__» noKeywords Builtin.Frozenset.updateFrom
      generalize hPI : pyIter = PI
      wp_walk
      subst hPI
      refine wpAny_pyIter_list il ?_
      refine wpAny_bind (wpAny_runValue ?_)
      have lS : l < s.heap.objs.size := Heap.lt_size hol
      have sz : (s.heap.push (bare led)).objs.size = s.heap.objs.size + 1 := Heap.size_push _ _
      have hn3 : A.in1.in1.in1.handled = none := by simp [hh]
      have lI : l ≠ (s.heap.push (bare led)).objs.size := by
        rw [sz]
        exact Nat.ne_of_lt (Nat.lt_succ_of_lt lS)
      have nS : s.heap.objs.size ∉ [(s.heap.push (bare led)).objs.size, l] := by
        rw [sz]
        simp only [List.mem_cons, List.not_mem_nil, or_false, not_or]
        exact ⟨Nat.ne_of_lt (Nat.lt_succ_self _), Nat.ne_of_gt lS⟩
      have hsz : xs.length = items.size := by rw [← StrsAre.len_eq hi, Array.length_toList]
      have hv : ∀ (i : Nat) (v : Value), items[i]? = some v → ∃ t, v = .str (xs.getD i Str.empty) t := fun i v e => strs_at hi i v (by rw [Array.getElem?_toList]; exact e)
      refine loopD ((Walks.list hn3 _ l lI items).toS) s.heap.objs.size nS (fun i => xs.getD i Str.empty) (by unfold scanBound; omega) hv (items.size - 0) 0 _ (by omega) (Nat.zero_le _) ⟨⟨_, Heap.get?_push_size _ rfl, rfl, rfl⟩, (il.push _)⟩ ?begun ?ended
      case begun =>
        have at2 : ((s.heap.push (bare led)).push { cls := .type "list_iterator", data := .fields #[.ref l, .int 0 0] }).get? s.heap.objs.size = some (bare led) := Heap.get?_push_of_some _ at0
        exact PyProof.Rows.SetOf_congr ((PyProof.Rows.setObjOf_fresh (knd := PySem.strKind prog w) led).setOf at2 (by unfold scanBound; omega)) (fun _ => rfl) rfl
      case ended =>
        intro s3 mv hS3
        obtain ⟨h', g', d', tk', os'⟩ := s3
        obtain rfl : g' = s.gens := mv.gens
        obtain rfl : d' = s.drawn := mv.drawn
        obtain rfl : os' = s.os := mv.os
        show wpAny _ _ _ _ _ _
        refine wpAny_pure ?_
        show wpAny _ _ (ret Value.none) _ _ _
        refine wpAny_pure ⟨rfl, h', tk', rfl, hS3, fun b o hb e => ?_⟩
        refine mv.heap b o ?_ (Heap.get?_push_of_some _ (Heap.get?_push_of_some _ e))
        rw [sz]
        simp only [List.mem_cons, List.not_mem_nil, or_false, not_or]
        exact ⟨Nat.ne_of_lt hb, Nat.ne_of_lt (Nat.lt_succ_of_lt hb)⟩
    · cases r2 with
      | error e => exact hr2
      | ok f2 =>
        cases f2 with
        | ret r =>
          obtain ⟨rfl, h', tk, rfl, h1, h2⟩ := hr2
          repeat (any_goals (first | assumption | wp_step))
          exact h _ _ h1 h2
        | _ => exact hr2.elim
   | _ => exact hr.elim
end
end TUD

set_option maxHeartbeats 2000000
namespace TUD
open PySem L2 PyProof.Rows TX TY
/-- how many unlike texts -/
def unl (xs : List Str) : Nat := cnt (fun i => xs.getD i Str.empty) xs.length
theorem met_old {ks : Nat → Str} {i : Nat} : met ks i (ks i) = true ↔ ∃ j, j < i ∧ ks j = ks i := by
  unfold met
  rw [List.any_eq_true]
  constructor
  · rintro ⟨y, hy, e⟩
    obtain ⟨j, hj, rfl⟩ := List.mem_map.mp hy
    exact ⟨j, List.mem_range.mp hj, by simpa using e⟩
  · rintro ⟨j, hj, e⟩
    exact ⟨ks j, List.mem_map.mpr ⟨j, List.mem_range.mpr hj, rfl⟩, by simpa using e⟩
theorem cnt_eq {ks : Nat → Str} : ∀ {i : Nat}, cnt ks i = i ↔ ∀ b, b < i → ∀ a, a < b → ks a ≠ ks b
  | 0 => ⟨fun _ b hb => absurd hb (Nat.not_lt_zero _), fun _ => rfl⟩
  | i + 1 => by
    have ih := cnt_eq (ks := ks) (i := i)
    have le := cnt_le ks i
    unfold cnt
    constructor
    · intro h b hb a ha e
      split at h
      · omega
      · rename_i hm
        have h' : cnt ks i = i := by omega
        by_cases hbi : b = i
        · subst hbi
          exact hm (met_old.mpr ⟨a, ha, e⟩)
        · exact ih.mp h' b (by omega) a ha e
    · intro h
      have h1 := ih.mpr fun b hb a ha => h b (by omega) a ha
      rw [if_neg]
      · omega
      · intro z
        obtain ⟨j, hj, e⟩ := met_old.mp z
        exact h i (Nat.lt_succ_self _) j hj e
theorem unl_eq {xs : List Str} : unl xs = xs.length ↔ xs.Nodup := by
  unfold unl
  rw [cnt_eq]
  constructor
  · intro h
    rw [List.nodup_iff_pairwise_ne, List.pairwise_iff_getElem]
    intro i j hi hj hij e
    refine h j hj i hij ?_
    rw [List.getD_eq_getElem?_getD, List.getD_eq_getElem?_getD, List.getElem?_eq_getElem hi, List.getElem?_eq_getElem hj]
    exact e
  · intro h b hb a ha e
    have ha' : a < xs.length := by omega
    rw [List.getD_eq_getElem?_getD, List.getD_eq_getElem?_getD, List.getElem?_eq_getElem ha', List.getElem?_eq_getElem hb] at e
    have := (List.getElem_inj h).mp e
    omega
section
variable {X : Cx}
/-- len(set(xs)), xs texts -/
def tLenD (K : PySem.W.Frag) (ta : TE) : TE := fun σ H Q => ta σ H fun x H1 => ∃ (l : Addr) (xs : List Str), x = .ref l ∧ SqL K H1 l (xs.map V.str) ∧ xs.length < 64 ∧ Q (.int (unl xs)) H1
theorem vals_strs : ∀ {xs : List Str} {us : List Value}, Vals (xs.map V.str) us → StrsAre us xs
  | [], _, h => by
    cases h
    exact .nil
  | x :: r, _, h => by
    cases h with
    | cons h t =>
      obtain ⟨k, e⟩ := (show ∃ k, _ = Value.str x k from h)
      subst e
      exact .cons x k (vals_strs t)
theorem pe_lenD {a : Expr} {ta : TE} {p p2 q pos : Pos} (hc : X.calm = true) (hg : Gl X "len") (hm : X.mg "len" = none) (hg2 : Gl X "set") (hm2 : X.mg "set" = none) (ha : PE X a ta)
    (na : starEach [a] X.env = (false, eval a X.env) :: starEach [] X.env := by rfl) : PE X (.Call (.Name "len" p) [.Call (.Name "set" p2) [a] [] q] [] pos) (tLenD X.K ta) := by
  refine ⟨fun pins s σ H Q I h => ?_⟩
  refine Call_ (ld_blt I hg hm boot_len (PyProof.Rows.callWith_builtin1 (PyProof.Rows.args_cons ?_ rfl) rfl rfl))
  refine Call_ (ld_blt I hg2 hm2 boot_set (PyProof.Rows.callWith_type1 (PyProof.Rows.args_cons (thn (ha.run pins s σ H _ I h) fun v s1 ⟨x, H1, I1, r1, q1⟩ => PyProof.Rows.args_nil ?_) na) na rfl))
  obtain ⟨l, xs, rfl, hq, h64, q2⟩ := q1
  cases r1
  obtain ⟨its, r, pl, hz⟩ := I1.list hq
  have hl : its.toArray.size = xs.length := by rw [List.size_toArray, ← r.length, List.length_map]
  refine set_texts (I1.ok.hd hc) pl.isList (by simpa using vals_strs r) h64 fun h' tk hS hk => ?_
  refine PyProof.Rows.args_nil ?_
  rw [hl] at hS
  have hle := cnt_le (fun i => xs.getD i Str.empty) xs.length
  obtain ⟨o, es, ep, t, ho, hex, hd', _, _, _, hf, hn⟩ := hS
  have I2 : Inv X pins σ H1 { s1 with heap := h', toks := tk } := I1.kept fun b o e => hk b o (Heap.lt_size e) e
  exact call_len_set ho hex hd' hf (by rw [hn]; omega) ⟨.int (unl xs), H1, I2.tok _, ⟨_, by rw [hn]; rfl⟩, q2⟩
end
end TUD

set_option maxHeartbeats 1000000
/-! Refusals with a field of their own: made, raised, caught. -/
namespace TE
open PySem L2 PyProof.Rows TX TY
/-- an own class over ValueError, read off the written part -/
def oexB (K : PySem.W.Frag) (C : Addr) : Bool := match K.lookup C with
  | some ⟨.type "type", _, .cls cd, sl⟩ => (match cd.mro, sl.toList with
    | .ref D :: bm, [_, _, _, _, some (.builtin n), _] => D == C && (n == "ValueError.__new__" && (!cd.hasDel && (cd.hasDict && PySem.HandSPX.refsVE bm)))
    | _, _ => false)
  | _ => false
theorem oexB_ok {K : PySem.W.Frag} {C : Addr} (q : oexB K C = true) : ∃ nm q N bs bm sn sub ab col dd k0 k1 k2 k3 k5, K.lookup C = some (excClassObj nm q C N bs bm true sn sub ab col dd k0 k1 k2 k3 k5 "ValueError.__new__") ∧ PySem.HandSPX.refsVE bm = true := by
  unfold oexB at q
  split at q
  · rename_i dd cd sl ho
    split at q
    · rename_i D bm k0 k1 k2 k3 n k5 hm hs
      simp only [Bool.and_eq_true, beq_iff_eq, Bool.not_eq_true'] at q
      obtain ⟨rfl, rfl, hdel, hdict, ht⟩ := q
      obtain ⟨nm, bs, mro, ns, qn, hd, sn, sub, ab, col, del⟩ := cd
      dsimp only at hm hdel hdict
      subst hm hdel hdict
      have hsl : sl = #[k0, k1, k2, k3, some (.builtin "ValueError.__new__"), k5] := by
        obtain ⟨l⟩ := sl
        simp only at hs
        rw [hs]
      subst hsl
      exact ⟨nm, qn, ns, bs, bm, sn, sub, ab, col, dd, k0, k1, k2, k3, k5, ho, ht⟩
    · cases q
  · cases q
section
variable {K : PySem.W.Frag} {mg : Str → Option Value}
/-- a class that is raised, with its own field -/
structure Nt (K : PySem.W.Frag) (mg : Str → Option Value) (x fld qual : Str) (st : Stmt) (Ct fi : Addr) (di : FuncData) : Prop where
  T : OexC K Ct
  i : PySem.W.findIn K (.ref Ct) "__init__" = some (some (.ref fi))
  t : PySem.W.typeIn K (.ref fi) = some (.type "function")
  F : Fun K "__init__" qual st fi di
  b : Binds K di ["self", fld] []
  g : mg x = some (.ref Ct)
  no : PySem.W.findIn K (.ref Ct) fld = some none
def sp_efld (C : Addr) (fld : Str) : Sp := fun vs H Q _ => ∃ (a : Addr) (v : V), vs = [.ref a, v] ∧ H a = some (exo a C none) ∧ ∀ dx, H dx = none → dx ≠ a → Q .non (upd (upd H dx (exd dx [(fld, v)])) a (exo a C (some dx)))
/-- raise C(v) -/
theorem rd_efld {C : Addr} {fld : Str} {H : Hp} {v : V} {Q : XK} (q : ∀ H' d, Same H H' → H' d = some (.xd [(fld, v)]) → Q (.ref C) (some d) H') : ∀ a, H a = none → sp_efld C fld [.ref a, v] (upd H a (exo a C none))
    (fun u H2 => u = .non ∧ ∃ (d : Addr) (fs : List (Str × V)), H2 a = some (exo a C (some d)) ∧ H2 d = some (exd d fs) ∧ H d = none ∧ Q (.ref C) (some d) (upd (del H2 a) d (.xd fs))) (fun _ _ _ => False) := by
  intro a na
  refine ⟨a, v, rfl, upd_same, fun dx nx hne => ⟨rfl, dx, [(fld, v)], upd_same, by rw [upd_ne hne, upd_same], ?_, ?_⟩⟩
  · rw [upd_ne hne] at nx
    exact nx
  · rw [upd_ne hne] at nx
    refine q _ dx (fun b o e => ?_) upd_same
    have hb1 : b ≠ dx := ne_of_none e nx
    have hb2 : b ≠ a := ne_of_none e na
    rw [upd_ne hb1, del_ne hb2, upd_ne hb2, upd_ne hb1, upd_ne hb2]
    exact e
end
end TE

set_option maxHeartbeats 1000000
/-! A rule of our own: f(k = v, ..), no argument by place. -/
namespace TK
open PySem L2 PyProof.Rows
theorem pe_callK0 {X : Cx} {CX : CXT} {k : Nat} {f : Addr} {fd : FuncData} {ps ks : List Str} {sp : Sp} {E : XK} {x : Str} {p pos : Pos} {kws : List Keyword} {tk : TA} {g : List Value → List Value → List Value} {gV : List V → List V → List V}
    (F : FnOk X.prog X.w X.K X.mg X.base CX k f fd ps sp) (hr : Room k X.A) (hg : Gl X x) (hm : X.mg x = some (.ref f)) (hk : PySem.W.keepIn X.K (.ref f) = true) (hb : KBn X.K fd ps 0 ks g gV) (hx : Passes CX X E) (hkw : PK X kws tk)
    (hall : ((backToKw pos (keywordEach kws X.env)).all (·.1.isSome)) = true := by rfl) (hks : (backToKw pos (keywordEach kws X.env)).filterMap (·.1) = ks := by rfl) (hdb : (x == Str.ofString "__debug__") = false := by decide +kernel)
    (hpl : (((backTo pos (starEach [] X.env)).any (·.1)) || (backToKw pos (keywordEach kws X.env)).any (·.1.isNone)) = false := by rfl) : PE X (.Call (.Name x p) [] kws pos) (tCallN 0 ks.length sp gV E tNil tk) :=
  ⟨fun pins s σ H Q I h => wpAny_Call_Name_kw (ld_glob I hg hm (by
    refine PySem.W.callWith_KW0 I.ok.mod.kin hk hall ?_ hpl
    refine thn (hkw.run pos pins s σ H _ I h) fun ws s2 x => ?_
    obtain ⟨zs, H2, I2, rz, l1, l2, q2⟩ := x
    refine ⟨I2.kIn, ?_⟩
    rw [hks]
    exact run_fnN F hr hb hx I2 .nil rz rfl l2 q2) hdb)⟩
theorem kbn0 {K : PySem.W.Frag} {x qual : Str} {st : Stmt} {f : Addr} {fd : FuncData} {ps ks : List Str} (F : Fun K x qual st f fd) (g : {α : Type} → List α → List α) (hrel : ∀ {zs : List V} {ws : List Value}, Vals zs ws → Vals (g zs) (g ws))
    (h : ∀ (kV doc pm : Value) (an : Option Addr) (cdv ct : Value) (ws : List Value), ws.length = ks.length → bindArgs (PySem.W.fnOf x qual (defArgs st) (defBody st) (defScope st) .none kV doc pm an cdv ct) { pos := [], kw := ks.zip ws } = pure (ps.zip (g ws))) :
    KBn K fd ps 0 ks (fun _ ws => g ws) (fun _ zs => g zs) := by
  obtain ⟨oc, od, kV, doc, pm, an, cdv, ct, osl, rfl, lk, hcd⟩ := F.ex
  refine ⟨fun s us ws hK hu hw => ?_, fun _ r => hrel r⟩
  have : us = [] := List.length_eq_zero_iff.mp hu
  subst this
  exact .of_eq (h kV doc pm an cdv ct ws hw)
theorem vals_rev {zs : List V} {ws : List Value} (h : Vals zs ws) : Vals zs.reverse ws.reverse := by
  have app : ∀ {a b : List V} {c d : List Value}, Vals a c → Vals b d → Vals (a ++ b) (c ++ d) := by
    intro a b c d h k
    induction h with
    | nil => exact k
    | cons r _ ih => exact .cons r ih
  induction h with
  | nil => exact .nil
  | cons r _ ih =>
    rw [List.reverse_cons, List.reverse_cons]
    exact app ih (.cons r .nil)
end TK

set_option maxHeartbeats 1000000
/-! Rules of our own: a method that may raise what the caller's slots say; a method called by names alone. -/
namespace TK
open PySem L2 PyProof.Rows
section
variable {X : Cx} {CX : CXT} {k : Nat} {f C : Addr} {fd : FuncData} {ps : List Str} {sp : Sp} {m : Str} {pos apos : Pos} {o : Expr} {ta : TE} {pl : Sem Bool}
def tMethE (C : Addr) (m : Str) (sp : Sp) (E : L2.St → XK) (ta : TE) (t : TA) : TE := fun σ H Q => ta σ H fun x H1 => ∃ (a dx : Addr) (fs : List (Str × V)), x = .ref a ∧ H1 a = some (.ins C dx fs) ∧ fs.lookup m = none ∧ t σ H1 fun vs H2 => sp (x :: vs) H2 Q (E σ)
theorem pe_methE {E : L2.St → XK} {e : Expr} {es : List Expr} {t : TA} (he : PE X o ta) (c : Cls X.K C) (hm : Meth X.K C m f) (F : FnOk X.prog X.w X.K X.mg X.base CX k f fd ps sp) (hr : Room k X.A) (hb : Binds X.K fd ps []) (hx : ∀ σ, PassesAt CX X σ (E σ)) (ha : PA X (e :: es) t)
    (hst : starEach (e :: es) X.env = (false, eval e X.env) :: starEach es X.env := by rfl) (hpl : (backTo pos (starEach es X.env)).any (·.1) = false := by rfl)
    (ht : eval (.Call (.Attribute o m apos) (e :: es) [] pos) X.env = (do
      let ov ← eval o X.env
      standAt apos.atName
      let (f, first) ← holding [ov] (getMethod ov m pl)
      callWith pos f first (backTo pos (starEach (e :: es) X.env)) (backToKw pos (keywordEach [] X.env))) := by rfl) : PE X (.Call (.Attribute o m apos) (e :: es) [] pos) (tMethE C m sp E ta t) := by
  refine ⟨fun pins s σ H Q I h => PySem.W.methodCall_KW (thn (he.run pins s σ H _ I h) fun u s1 x => ?_) ht⟩
  obtain ⟨x, H1, I1, rx, a, dx, fs, rfl, ea, l, q⟩ := x
  cases (show u = Value.ref a from rx)
  refine getmeth_ok I1 ea c hm l (PySem.W.callWith_K (h₀ := X.base) I.ok.mod.kin hm.kp (thn (ha.run pos pins s1 σ H1 _ I1 q) fun us s2 x => ?_) hst hpl)
  obtain ⟨vs, H2, I2, r, q2⟩ := x
  exact ⟨I2.kIn, run_fnS F hr hb (hx σ) I2 (.cons (show RelV (V.ref a) (Value.ref a) from rfl) r) q2⟩
def tMethK0 (C : Addr) (m : Str) (n : Nat) (sp : Sp) (gV : List V → List V → List V) (E : XK) (ta : TE) (tk : TA) : TE := fun σ H Q => ta σ H fun x H1 => ∃ (a dx : Addr) (fs : List (Str × V)), x = .ref a ∧ H1 a = some (.ins C dx fs) ∧ fs.lookup m = none ∧ tk σ H1 fun zs H2 => zs.length = n ∧ sp (gV [x] zs) H2 Q E
theorem pe_methK0 {E : XK} {kws : List Keyword} {ks : List Str} {tk : TA} {g : List Value → List Value → List Value} {gV : List V → List V → List V} (he : PE X o ta) (c : Cls X.K C) (hm : Meth X.K C m f) (F : FnOk X.prog X.w X.K X.mg X.base CX k f fd ps sp) (hr : Room k X.A) (hb : KBn X.K fd ps 1 ks g gV) (hx : Passes CX X E) (hkw : PK X kws tk)
    (hall : ((backToKw pos (keywordEach kws X.env)).all (·.1.isSome)) = true := by rfl) (hks : (backToKw pos (keywordEach kws X.env)).filterMap (·.1) = ks := by rfl)
    (hpl : (((backTo pos (starEach [] X.env)).any (·.1)) || (backToKw pos (keywordEach kws X.env)).any (·.1.isNone)) = false := by rfl)
    (ht : eval (.Call (.Attribute o m apos) [] kws pos) X.env = (do
      let ov ← eval o X.env
      standAt apos.atName
      let (f, first) ← holding [ov] (getMethod ov m pl)
      callWith pos f first (backTo pos (starEach [] X.env)) (backToKw pos (keywordEach kws X.env))) := by rfl) : PE X (.Call (.Attribute o m apos) [] kws pos) (tMethK0 C m ks.length sp gV E ta tk) := by
  refine ⟨fun pins s σ H Q I h => PySem.W.methodCall_KW (thn (he.run pins s σ H _ I h) fun u s1 x => ?_) ht⟩
  obtain ⟨x, H1, I1, rx, a, dx, fs, rfl, ea, l, q⟩ := x
  cases (show u = Value.ref a from rx)
  refine getmeth_ok I1 ea c hm l (PySem.W.callWith_KW0 I.ok.mod.kin hm.kp hall ?_ hpl)
  refine thn (hkw.run pos pins s1 σ H1 _ I1 q) fun ws s2 x => ?_
  obtain ⟨zs, H2, I2, rz, l2, q2⟩ := x
  refine ⟨I2.kIn, ?_⟩
  rw [hks]
  exact run_fnN F hr hb hx I2 (.cons (show RelV (V.ref a) (Value.ref a) from rfl) .nil) rz rfl l2 q2
theorem kbn1 {K : PySem.W.Frag} {x qual : Str} {st : Stmt} {f : Addr} {fd : FuncData} {ps ks : List Str} (F : Fun K x qual st f fd) (g : {α : Type} → List α → List α → List α) (hrel : ∀ {vs : List V} {us : List Value} {zs : List V} {ws : List Value}, Vals vs us → Vals zs ws → Vals (g vs zs) (g us ws)) (n : Nat)
    (h : ∀ (kV doc pm : Value) (an : Option Addr) (cdv ct : Value) (us ws : List Value), us.length = n → ws.length = ks.length → bindArgs (PySem.W.fnOf x qual (defArgs st) (defBody st) (defScope st) .none kV doc pm an cdv ct) { pos := us, kw := ks.zip ws } = pure (ps.zip (g us ws))) :
    KBn K fd ps n ks (fun us ws => g us ws) (fun vs zs => g vs zs) := by
  obtain ⟨oc, od, kV, doc, pm, an, cdv, ct, osl, rfl, lk, hcd⟩ := F.ex
  exact ⟨fun s us ws hK hu hw => .of_eq (h kV doc pm an cdv ct us ws hu hw), fun r1 r2 => hrel r1 r2⟩
end
end TK

set_option maxHeartbeats 2000000
/-! Rules of our own: dict == dict that may be False; str(o) by an own __str__. -/
namespace TQ
open PySem L2 PyProof.Rows TX TY
section
variable {κ : Type} [DecidableEq κ]
/-- whether each entry has its like -/
def likes (ls : List (κ × V)) (p : κ × V) : Bool := match valV ls p.1 with
  | some y => eqV p.2 y
  | none => false
theorem hits_any {A : Around} {s : Shared} {ls : List (κ × V)} {vb : List (κ × Value)} (rb : KV ls vb) (fb : ∀ p ∈ ls, flatV p.2 = true) : ∀ {ks : List (κ × V)} {va : List (κ × Value)}, KV ks va → (∀ p ∈ ks, flatV p.2 = true) → PySem.W.KeqHits A s vb va (ks.all (likes ls)) := by
  intro ks va ra
  unfold KV at ra
  induction ra with
  | nil => intro _; exact .nil
  | @cons p q ps qs h t ih =>
    intro hp
    obtain ⟨k, v⟩ := q
    obtain ⟨h1, h2⟩ := h
    have h1' : p.1 = k := h1
    subst h1'
    have rr := rb.val p.1
    rw [List.all_cons]
    cases e : valV ls p.1 with
    | none =>
      have e2 : likes ls p = false := by unfold likes; rw [e]
      rw [e] at rr
      rw [e2, Bool.false_and]
      refine .miss ?_
      cases hv : valueAt vb p.1 with
      | none => rfl
      | some y => rw [hv] at rr; cases rr
    | some y =>
      have e2 : likes ls p = eqV p.2 y := by unfold likes; rw [e]
      rw [e] at rr
      rw [e2]
      obtain ⟨u, hu, ru⟩ := rr.some_of
      have fy : flatV y = true := by
        unfold valV at e
        rw [Option.map_eq_some_iff] at e
        obtain ⟨q, hq, rfl⟩ := e
        exact fb q (List.mem_of_find?_eq_some hq)
      exact .hit hu (eqAt_V h2 ru (hp p List.mem_cons_self) fy) (ih fun q hq => hp q (List.mem_cons_of_mem _ hq))
end
section
variable {X : Cx}
/-- d == e -/
def rEqDB : R2 := fun x y H Q => ∃ a b ks ls, x = .ref a ∧ y = .ref b ∧ H a = some (.dK ks) ∧ H b = some (.dK ls) ∧ (∀ p ∈ ks, flatV p.2 = true) ∧ (∀ p ∈ ls, flatV p.2 = true) ∧ Q (.bl (ks.length == ls.length && ks.all (likes ls))) H
theorem op_eqDB (hu : X.A.units < cLine) : OpR X (compareOp .Eq) rEqDB := by
  intro pins s σ H x y v u Q I rx ry h
  obtain ⟨a, b, ks, ls, rfl, rfl, ea, eb, fa, fb, q⟩ := h
  cases (show v = Value.ref a from rx)
  cases (show u = Value.ref b from ry)
  obtain ⟨_, ya, va, ra, da⟩ := (show ObjOk X.prog X.w H s.heap a (.dK ks) from I.hok a _ ea)
  obtain ⟨_, yb, vb, rb, db⟩ := (show ObjOk X.prog X.w H s.heap b (.dK ls) from I.hok b _ eb)
  have la : va.length = ks.length := ra.length.symm
  have lb : vb.length = ls.length := rb.length.symm
  refine PySem.W.keq_eq (knd := mixKind X.prog X.w) (r := ks.all (likes ls)) ya yb da db hu (fun _ => hits_any rb fb ra fa) (fin_bl I q ?_)
  rw [la, lb]
theorem mi_str {P : Program} {w : World} {v : Value} {S : PySem.Spec} (hs : ∀ (A : Around) (R : Result → Shared → Prop) (s : Shared), S A R s → wpAny (model P w) A.in1 (Builtin.Str.strOf v) (fun r s' => R (.ok (.ret r)) s') (fun e s' => R (.error e) s') s) :
    MeetsIn P w (Builtin.«str.__new__» ⟨[.type "str", v], []⟩) S := MeetsIn.of_wp fun A R s h => by
  rw [str_new_tree v]
  exact wpAny_bind (wpAny_pure (wpAny_bind (wpAny_of_eq isSubtype_str_str (wpAny_bind (wpAny_mono (hs A R s h) (fun r s' h' => wpAny_pure ⟨_, rfl, h'⟩) fun _ _ e => e)))))
/-- str(o) by an own __str__ -/
def rStrO (C : Addr) (sp : Sp) (E : XK) : List V → Hp → VK → Prop := fun xs H Q => ∃ a dx fs, xs = [.ref a] ∧ H a = some (.ins C dx fs) ∧ sp [.ref a] H (fun v H' => ∃ y : Str, v = .str y ∧ Q (.str y) H') E
theorem call_strO {CX : CXT} {C f : Addr} {fd : FuncData} {ps : List Str} {sp : Sp} {E : XK} {n : Nat} (G : FnOk X.prog X.w X.K X.mg X.base CX n f fd ps sp) (hs : PySem.W.findIn X.K (.ref C) "__str__" = some (some (.ref f)))
    (hf : PySem.W.isFn X.K (.ref f) = true) (hb : Binds X.K fd ps []) (hx : Passes CX X E) (hr : Room (n + 2) X.A) : CallR X (.type "str") (rStrO C sp E) := by
  intro pins s σ H xs us Q I r h
  obtain ⟨a, dx, fs, rfl, ha, hsp⟩ := h
  obtain ⟨u, rfl, rx⟩ := vals1 r
  cases rx
  obtain ⟨mA, J, _⟩ := ins_get I.hok ha
  obtain ⟨od, J, _⟩ := J.look
  obtain ⟨m, hF⟩ := I.fr
  have hin : Room (n + 1) X.A.in1 := hr.in1
  have h1 : Room n X.A.in1.in1 := hin.in1
  refine callType_newIn (T := "str") (S := fun A' R s' => wpAny (model X.prog X.w) A'.in1 (Builtin.Str.strOf (.ref a)) (fun r s' => R (.ok (.ret r)) s') (fun e s' => R (.error e) s') s') F.called_str (by decide) (F.typeCall_str_1 _) (F.newCall_str_1 _) (fun obj => F.args_object_init_2 obj _) F.entry_str_new
    (mi_str fun A' R s' h => h) ?_
  show wpAny _ X.A.in1.in1 (Builtin.Str.strOf (.ref a)) _ _ s
  unfold Builtin.Str.strOf
  refine wpAny_bind (m := cRoomFor "str" _) (wpAny_cRoomFor h1.units0 ?_)
  refine wpAny_bind (m := callSpecial? (.ref a) (PySem.Str.ofString "__str__")) (PySem.W.special_fn I.kIn J hs (beq_iff_eq.mp hf) ?_)
  have e0 : Env0 X.prog X.w X.K X.mg X.base X.A.in1.in1 X.stack s H := by
    have e := I.env0
    exact ⟨e.frames, e.mod, e.bs, e.bsz, e.funs, e.frf, e.hok, e.bare⟩
  have hl := G.len _ _ _ _ hsp
  refine wpAny_call (codeAny_mono (G.run X.A.in1.in1 X.stack s H ⟨[.ref a], []⟩ [.ref a] [.ref a] _ E h1 e0 (by
    have := hb s [.ref a] I.kIn (by simpa using hl)
    simpa using this) (.cons rfl .nil) hsp) fun r s' hq => ?_)
  cases r with
  | error e => exact hx pins σ H s e s' I hq
  | ok fl =>
    cases fl with
    | ret u =>
      obtain ⟨z, H', I', rz, y, ez, q⟩ := I.after hq
      subst ez
      obtain ⟨t, rfl⟩ := rz
      refine wpAny_bind (wpAny_pure ?_)
      exact wpAny_pure ⟨typeIs_str _ _ _, .str y, H', I', ⟨t, rfl⟩, q⟩
    | next => exact False.elim hq
    | brk => exact False.elim hq
    | cont => exact False.elim hq
end
end TQ

set_option maxHeartbeats 2000000
/-! Lambdas that are kept, handed on and called. -/
namespace TLC
open PySem PySem.Spec PyProof.Rows L2 LamX NdefX
/-- the object at f is the lambda F with this body -/
def LamO (f : Addr) (F : NF) (b : Expr) : HO := .ext fun h => ∃ pm ctv, h.get? f = some (PySem.W.kla_obj F.name F.qual F.params b F.scope F.cl pm F.c ctv)
theorem lamO_tbl {f : Addr} {F : NF} {b : Expr} (ps : Array Value) : LamO f F b ≠ .tbl ps := fun z => by
  unfold LamO at z
  cases z
theorem lamO_get {P : Program} {w : World} {H : Hp} {h : Heap} {f : Addr} {F : NF} {b : Expr} (k : HOk P w H h) (e : H f = some (LamO f F b)) : ∃ pm ctv, h.get? f = some (PySem.W.kla_obj F.name F.qual F.params b F.scope F.cl pm F.c ctv) := (k f _ e).1
section
variable {X : Cx} {pins : List (Addr × Obj)} {σ : L2.St} {H : Hp} {s : Shared}
/-- known as soon as it is laid -/
theorem inv_lam {h' : Heap} {t' : Nat} {F : NF} {b : Expr} {pm ctv : Value} (I : Inv X pins σ H { s with heap := h', toks := t' }) :
    Inv X pins σ (upd H h'.objs.size (LamO h'.objs.size F b)) { s with heap := h'.push (PySem.W.kla_obj F.name F.qual F.params b F.scope F.cl pm F.c ctv), toks := t' } := by
  have e := Heap.get?_push_size h' (o := PySem.W.kla_obj F.name F.qual F.params b F.scope F.cl pm F.c ctv) rfl
  exact I.laid (h' := h'.push (PySem.W.kla_obj F.name F.qual F.params b F.scope F.cl pm F.c ctv)) (t' := t') (fun c u z => Heap.get?_push_of_some _ z) (Nat.le_refl _) ⟨⟨pm, ctv, e⟩, ⟨_, e⟩, fun g1 g2 ⟨p, c, z⟩ k => ⟨p, c, k _ z⟩⟩
end
/-- what one more code object leaves of the tables -/
theorem tabs_more {T : List (Addr × Str)} {H : Hp} {P c : Addr} {q : Str} {pos : Pos} {ps : Array Value} (hT : Tabs T H) (hu : ∀ p ∈ T, p.1 = P → p.2 = q) (hP : H P = some (.tbl ps)) (tr : TriplesOk ps.toList)
    (al : ∀ (pos : Pos) (cv : Value), codeAmong pos ps.toList = some cv → ∃ c, cv = .ref c ∧ H c = some (CodeO c q)) (nC : H c = none) :
    ExtN H (upd (upd H P (.tbl (ps ++ #[rawInt pos.line, rawInt pos.col, .ref c]))) c (CodeO c q)) ∧ Tabs T (upd (upd H P (.tbl (ps ++ #[rawInt pos.line, rawInt pos.col, .ref c]))) c (CodeO c q)) := by
  have ne : P ≠ c := ne_of_none hP nC
  have ex : ExtN H (upd (upd H P (.tbl (ps ++ #[rawInt pos.line, rawInt pos.col, .ref c]))) c (CodeO c q)) := by
    intro a o e n
    have h1 : a ≠ c := ne_of_none e nC
    have h2 : a ≠ P := by
      rintro rfl
      rw [hP] at e
      exact n _ (Option.some.inj e).symm
    rw [upd_ne h1, upd_ne h2, e]
  refine ⟨ex, fun p hp => ?_⟩
  by_cases hb : p.1 = P
  · have l : (ps ++ #[rawInt pos.line, rawInt pos.col, .ref c]).toList = ps.toList ++ [rawInt pos.line, rawInt pos.col, .ref c] := by simp
    rw [hb, hu p hp hb]
    refine ⟨ps ++ #[rawInt pos.line, rawInt pos.col, .ref c], ?_, ?_, ?_⟩
    · rw [upd_ne ne, upd_same]
    · rw [l]
      exact TriplesOk_snoc _ _ _ _ tr
    · intro pos' cv e
      rw [l] at e
      cases among_app _ tr e with
      | inl z =>
        obtain ⟨c0, k1, k2⟩ := al _ _ z
        exact ⟨c0, k1, ex _ _ k2 codeO_ne⟩
      | inr z => exact ⟨c, z, upd_same⟩
  · obtain ⟨qs, k1, k2, k3⟩ := hT p hp
    refine ⟨qs, ?_, k2, fun pos' cv e => ?_⟩
    · rw [upd_ne (ne_of_none k1 nC), upd_ne hb, k1]
    · obtain ⟨c0, j1, j2⟩ := k3 pos' cv e
      exact ⟨c0, j1, ex _ _ j2 codeO_ne⟩
/-- a lambda as a value -/
def tLamV (T : List (Addr × Str)) (mk : Addr → NF) (b : Expr) : TE := fun σ H Q => Tabs T H ∧ ∀ (f c : Addr) (H1 : Hp), ExtN H H1 → (∀ a, H1 a = none → H a = none) → Tabs T H1 → H f = none → H1 f = some (LamO f (mk c) b) → H1 c = some (CodeO c (mk c).qual) → Q (.ref f) H1
section
variable {X : Cx}
theorem pe_lamV {T : List (Addr × Str)} {c P : Addr} {params : Arguments} {body : Expr} {scope : Scope} {pos : Pos} (TB : TabB X.base X.mg c P) (hcode : X.env.code = .ref c) (hm : (P, X.env.qual ++ "<lambda>") ∈ T) (hu : ∀ p ∈ T, p.1 = P → p.2 = X.env.qual ++ "<lambda>")
    (L : LamS X.env.scope scope) (hdef : defaultsOf params X.env = ([], [])) :
    PE X (.Lambda params body scope pos) (tLamV T (fun c => ⟨"<lambda>", X.env.qual ++ "<lambda>", params, [], scope, cloFrom X.env.cells scope.names [], c⟩) body) := by
  refine ⟨fun pins s σ H Q I ⟨hT, h⟩ => PySem.W.kla_eval hdef ?_⟩
  obtain ⟨ps, hP, tr, al⟩ := hT _ hm
  have tab : s.heap.get? P = some { cls := .none, data := .fields ps } := I.hok P _ hP
  have clo := closure_ok (env := X.env) (L.has I.ok)
  cases among : codeAmong pos ps.toList with
  | some cv =>
    obtain ⟨c1, rfl, e1⟩ := al _ _ among
    refine PySem.W.kla_makeFunctionHit (mg := X.mg) (c := c) (P := P) (ps := ps) clo I.ok.glob (I.mod.glob.keeps I.bk) hcode (TB.code.keeps I.bk) tab tr among (TB.bm.keeps I.bk) fun ctv h' tk keep _ => ?_
    have I1 : Inv X pins σ H { s with heap := h', toks := tk } := I.kept keep
    have nF : H h'.objs.size = none := I1.hok.fresh (Nat.le_refl _)
    refine ⟨.ref h'.objs.size, _, inv_lam (F := ⟨"<lambda>", X.env.qual ++ "<lambda>", params, [], scope, cloFrom X.env.cells scope.names [], c1⟩) (b := body) I1, rfl, h _ c1 _ ?_ (fun a => upd_none) ?_ nF upd_same ?_⟩
    · intro a o e _
      rw [upd_ne (ne_of_none e nF), e]
    · exact hT.ext fun a o e => by rw [upd_ne (ne_of_none e nF), e]
    · rw [upd_ne (ne_of_none e1 nF), e1]
  | none =>
    refine PySem.W.kla_makeFunction (mg := X.mg) (c := c) (P := P) (ps := ps) clo I.ok.glob (I.mod.glob.keeps I.bk) hcode (TB.code.keeps I.bk) tab tr among TB.gP (TB.bm.keeps I.bk) fun c1 ctv h' tk but lo hi rec_ tab' => ?_
    obtain ⟨_, oc, vs, t, e2, g1, g2, g3⟩ := rec_
    cases e2
    have nC : H c1 = none := I.hok.fresh lo
    obtain ⟨ex, T1⟩ := tabs_more (pos := pos) hT hu hP tr al nC
    have I1 := inv_table (t' := tk) (more := #[rawInt pos.line, rawInt pos.col, .ref c1]) (h' := h') I hP (fun a o n e => but a o n e) tab' lo ⟨oc, vs, t, g1, g2, g3⟩
    have e1 : upd (upd H P (.tbl (ps ++ #[rawInt pos.line, rawInt pos.col, .ref c1]))) c1 (CodeO c1 (X.env.qual ++ "<lambda>")) c1 = some (CodeO c1 (X.env.qual ++ "<lambda>")) := upd_same
    have fr : H h'.objs.size = none := I.hok.fresh (Nat.le_trans lo (Nat.le_of_lt hi))
    have back : ∀ a, upd (upd H P (.tbl (ps ++ #[rawInt pos.line, rawInt pos.col, .ref c1]))) c1 (CodeO c1 (X.env.qual ++ "<lambda>")) a = none → H a = none := fun a z => upd_none (upd_none z)
    generalize upd (upd H P (.tbl (ps ++ #[rawInt pos.line, rawInt pos.col, .ref c1]))) c1 (CodeO c1 (X.env.qual ++ "<lambda>")) = H1 at ex T1 I1 e1 back
    have nF : H1 h'.objs.size = none := I1.hok.fresh (Nat.le_refl _)
    refine ⟨.ref h'.objs.size, _, inv_lam (F := ⟨"<lambda>", X.env.qual ++ "<lambda>", params, [], scope, cloFrom X.env.cells scope.names [], c1⟩) (b := body) I1, rfl, h _ c1 _ ?_ (fun a z => back a (upd_none z)) ?_ fr upd_same ?_⟩
    · intro a o e n
      have := ex _ _ e n
      rw [upd_ne (ne_of_none this nF), this]
    · exact T1.ext fun a o e => by rw [upd_ne (ne_of_none e nF), e]
    · rw [upd_ne (ne_of_none e1 nF), e1]
end
end TLC

set_option maxHeartbeats 2000000
namespace TLC
open PySem PySem.Spec PyProof.Rows L2 LamX NdefX
/-- what the cells hold they hold later, where the frames above are not theirs -/
theorem cells_un {cl : List (Str × Addr)} {fr : List Str} {ws : List (Option V)} {fs ex : List Addr} {H H' : Hp} {h h' : Heap} (C : CellsAt cl fr ws h H) (u : Un fs ex H H' h h') (hx : ∀ y c, cl.lookup y = some c → c ∉ ex) : CellsAt cl fr ws h' H' := by
  have mv : ∀ y c, cl.lookup y = some c → ∀ v, h.IsCell c v → h'.IsCell c v := by
    rintro y c e v ⟨o, ho, hd⟩
    obtain ⟨sl, z⟩ := u.any ho (C.all y c e).1 (hx y c e)
    exact ⟨_, z, hd⟩
  constructor
  · exact C.len
  · intro y c e
    obtain ⟨n, v, k⟩ := C.all y c e
    exact ⟨u.free c k.choose k.choose_spec.1 n (hx y c e), v, mv y c e v k⟩
  · exact C.inj
  · intro i y e
    obtain ⟨c, hc, hv⟩ := C.has i y e
    refine ⟨c, hc, fun v ev => ?_⟩
    obtain ⟨u', r, k⟩ := hv v ev
    exact ⟨u', r, mv y c hc _ k⟩
/-- the promise of a lambda: what it asks of what its cells hold, of the heap, of the two ends -/
abbrev LSp := List (Option V) → Hp → VK → XK → Prop
structure LOk (P : Program) (w : World) (K : PySem.W.Frag) (mg : Str → Option Value) (base : Heap) (CX : CXT) (k : Nat) (f : Addr) (F : NF) (b : Expr) (fr : List Str) (sp : LSp) : Prop where
  run : ∀ (A : Around) (outer : List Env) (s : Shared) (H : Hp) (ws : List (Option V)) (Q : VK) (E : XK), Room k A → Env0 P w K mg base A outer s H → H f = some (LamO f F b) → H F.c = some (CodeO F.c F.qual) → CellsAt F.cl fr ws s.heap H → sp ws H Q E →
    codeAny (model P w) A (.call (.ref f) ⟨[], []⟩) (CR CX outer P w H s Q E) s
section
variable {CX : CXT} {P : Program} {w : World} {K : PySem.W.Frag} {mg : Str → Option Value} {base : Heap} {N fr : List Str} {F : NF} {f : Addr} {k j : Nat} {b : Expr} {sp : LSp}
/-- a lambda by its body -/
theorem lok_of (S : NScope N [] fr F.scope) (hb : ∀ pm ctv : Value, bindArgs (PySem.W.kla_fn F.name F.qual F.params b F.scope F.cl pm (.ref F.c) ctv) ⟨[], []⟩ = pure [])
    (body : ∀ (A : Around) (outer : List Env) (s : Shared) (H : Hp) (ws : List (Option V)) (Q : VK) (E : XK), Room k (A.deeper (envF F f s.heap.objs.size)) → ws.length = fr.length → sp ws H Q E → ∃ t, PE (ncx CX P w K mg base N F f A outer s H E) b t ∧ t (startF N [] ws) H Q) :
    LOk P w K mg base CX (k + 1) f F b fr sp := by
  refine ⟨fun A outer s H ws Q E hr e0 hf hc C h => ?_⟩
  obtain ⟨pm, ctv, ob⟩ := lamO_get e0.hok hf
  refine PySem.W.kla_callFunE hr.depth ob rfl S.co S.gen rfl (codeO_at e0.hok hc) ?_
  rw [hb pm ctv]
  have lim : s.heap.NoLimit := e0.mod.nolimit.keeps fun a o e => (e0.bs a o e).1
  refine wpAny_pure (wpAny_newFunctionEnv S.nocell (fun y hy => absurd hy (by simp)) (fun g ns sb => ⟨lim.fresh _ sb, ?_⟩) S.kind)
  show codeAny (model P w) A (.expr b (envF F f s.heap.objs.size)) _ _
  obtain ⟨t, ht, q⟩ := body A outer s H ws Q E (hr.deeper _) C.len h
  have J : Inv (ncx CX P w K mg base N F f A outer s H E) [] (startF N [] ws) H { s with heap := g, toks := s.toks + ([] : List (Str × Value)).length } :=
    inv_startN (us := []) S hr.hd e0 rfl .nil C ns fun a o e => sb.extBut a o (Nat.ne_of_lt (Heap.lt_size e)) (Heap.get?_push_of_some _ e)
  refine PySem.W.kla_codeExpr (wpAny_mono (ht.run [] _ _ H Q J q) (fun u s' hq => ?_) fun _ _ z => z)
  obtain ⟨v, H', J', r, q'⟩ := hq
  exact ⟨v, H', J'.os, J'.bare, J'.base, J'.hok, r, q'⟩
theorem LOk.mono (o : LOk P w K mg base CX j f F b fr sp) (h : j ≤ k) : LOk P w K mg base CX k f F b fr sp := ⟨fun A outer s H ws Q E hr => o.run A outer s H ws Q E (hr.mono h)⟩
end
/-- x(), x the parameter that holds the lambda: C tells the cells as they were at the frame's beginning -/
def tLamCall (i : Nat) (f : Addr) (F : NF) (b : Expr) (ws : List (Option V)) (sp : LSp) (E : XK) : TE := fun σ H Q => σ[i]? = some (some (.ref f)) ∧ H f = some (LamO f F b) ∧ H F.c = some (CodeO F.c F.qual) ∧ sp ws H Q E
section
variable {X : Cx} {CX : CXT} {k i : Nat} {f : Addr} {F : NF} {b : Expr} {fr : List Str} {ws : List (Option V)} {sp : LSp} {E : XK} {x : Str} {p pos : Pos}
theorem lam_at {pins : List (Addr × Obj)} {σ : L2.St} {H : Hp} {s : Shared} (I : Inv X pins σ H s) (e : H f = some (LamO f F b)) : PySem.W.FnAt f s.heap := by
  obtain ⟨pm, ctv, z⟩ := lamO_get I.hok e
  exact ⟨_, _, _, _, z⟩
theorem pe_lamCall (O : LOk X.prog X.w X.K X.mg X.base CX k f F b fr sp) (C : CellsAt F.cl fr ws X.s_0.heap X.H_0) (hex : ∀ y c, F.cl.lookup y = some c → c ∉ X.ex) (hr : Room k X.A) (hx : Passes CX X E) (hN : X.N[i]? = some x) (hv : Vis X.env.scope x)
    (hd : (x == ("__debug__" : Str)) = false := by decide) (hcd : (x == ("__classdict__" : Str)) = false := by decide) : PE X (.Call (.Name x p) [] [] pos) (tLamCall i f F b ws sp E) := by
  refine ⟨fun pins s σ H Q I ⟨h1, h2, h3, h4⟩ => ?_⟩
  refine wpAny_Call_Name_kw (thn ((pe_var (pos := p) hN hv hd hcd).run pins s σ H (fun v H1 => v = .ref f ∧ H1 = H) I ⟨.ref f, h1, rfl, rfl⟩) fun u s1 ⟨v, H1, I1, r1, q1⟩ => ?_)
  obtain ⟨rfl, rfl⟩ := q1
  obtain rfl : u = Value.ref f := r1
  refine PySem.W.callWith_F0 (first := []) (lam_at I1 h2) (wpAny_call (codeAny_mono (O.run X.A X.stack s1 H1 ws Q E hr I1.env0 h2 h3 (cells_un C I1.base hex) h4) fun r s' hq => ?_))
  match r, hq with
  | .error e, hq => exact hx pins σ H1 s1 e s' I1 hq
  | .ok (.ret u), hq => exact I1.after hq
end
/-- a def that calls the lambda that it got: lw is what the lambda asks -/
structure COk (P : Program) (w : World) (K : PySem.W.Frag) (mg : Str → Option Value) (base : Heap) (k j : Nat) (g : Addr) (csp : (Hp → VK → XK → Prop) → Hp → VK → Prop) : Prop where
  run : ∀ (A : Around) (outer : List Env) (s : Shared) (H : Hp) (f : Addr) (F : NF) (b : Expr) (fr : List Str) (ws : List (Option V)) (sp : LSp) (Q : VK), Room k A → Env0 P w K mg base A outer s H → LOk P w K mg base (L2.CX P w) j f F b fr sp →
    H f = some (LamO f F b) → H F.c = some (CodeO F.c F.qual) → CellsAt F.cl fr ws s.heap H → csp (sp ws) H Q → codeAny (model P w) A (.call (.ref g) ⟨[.ref f], []⟩) (CR L2.CX0 outer P w H s Q L2.E0) s
/-- g(e), e a lambda: kn is what is known of cells there -/
def tCallC (P : Program) (w : World) (K : PySem.W.Frag) (mg : Str → Option Value) (base : Heap) (j : Nat) (kn : L2.St → List (Str × Addr) → List Str → List (Option V) → Prop) (csp : (Hp → VK → XK → Prop) → Hp → VK → Prop) (te : TE) : TE := fun σ H Q =>
  te σ H fun v H1 => ∃ f F b fr ws sp, v = .ref f ∧ H1 f = some (LamO f F b) ∧ H1 F.c = some (CodeO F.c F.qual) ∧ LOk P w K mg base (L2.CX P w) j f F b fr sp ∧ kn σ F.cl fr ws ∧ csp (sp ws) H1 Q
section
variable {X : Cx} {k j : Nat} {g : Addr} {csp : (Hp → VK → XK → Prop) → Hp → VK → Prop} {kn : L2.St → List (Str × Addr) → List Str → List (Option V) → Prop} {x : Str} {p pos : Pos} {e : Expr} {te : TE}
theorem pe_callC (G : COk X.prog X.w X.K X.mg X.base k j g csp) (hk : ∀ pins s σ H, Inv X pins σ H s → ∀ cl fr ws, kn σ cl fr ws → CellsAt cl fr ws s.heap H) (hr : Room k X.A) (hg : Gl X x) (hm : X.mg x = some (.ref g)) (hkp : PySem.W.keepIn X.K (.ref g) = true) (he : PE X e te)
    (hdb : (x == ("__debug__" : Str)) = false := by decide) (hst : starEach [e] X.env = (false, eval e X.env) :: starEach [] X.env := by rfl) (hpl : (backTo pos (starEach [] X.env)).any (·.1) = false := by rfl) :
    PE X (.Call (.Name x p) [e] [] pos) (tCallC X.prog X.w X.K X.mg X.base j kn csp te) := by
  refine ⟨fun pins s σ H Q I h => wpAny_Call_Name_kw (ld_glob I hg hm ?_ hdb)⟩
  have one := (pa_cons he pa_nil hst : PA X [e] (tCons te tNil)).run pos pins s σ H (fun vs H1 => match vs with
    | [v] => ∃ f F b fr ws sp, v = .ref f ∧ H1 f = some (LamO f F b) ∧ H1 F.c = some (CodeO F.c F.qual) ∧ LOk X.prog X.w X.K X.mg X.base (L2.CX X.prog X.w) j f F b fr sp ∧ kn σ F.cl fr ws ∧ csp (sp ws) H1 Q
    | _ => False) I h
  refine PySem.W.callWith_K (h₀ := X.base) I.ok.mod.kin hkp (thn one fun us s1 ⟨vs, H1, I1, r, q⟩ => ⟨I1.kIn, ?_⟩) hst hpl
  match vs, r, q with
  | [v], r, q =>
  obtain ⟨f, F, b, fr, ws, sp, rfl, h1, h2, O, kn1, q⟩ := q
  cases r with
  | cons r0 rn =>
    cases rn
    cases r0
    refine wpAny_call (codeAny_mono (G.run X.A X.stack s1 H1 f F b fr ws sp Q hr I1.env0 O h1 h2 (hk _ _ _ _ I1 _ _ _ kn1) q) fun r s' hq => ?_)
    match r, hq with
    | .error _, hq => exact False.elim hq
    | .ok (.ret u), hq => exact I1.after hq
end
end TLC

set_option maxHeartbeats 2000000
/-! [f(x) for x in xs] where what is known of the def's own cells at the block's beginning may be used of the element. -/
namespace TLC
open PySem PySem.Spec PyProof.Rows L2 LamX NdefX
section
variable {X : Cx}
/-- the promise of the element, told how the def stood when the block began -/
def Elt (X : Cx) (scope : Scope) (elt : Expr) (te : L2.St → TE) : Prop :=
  ∀ (pins : List (Addr × Obj)) (σ : L2.St) (s : Shared) (H : Hp) (C : Addr) (cl : List (Str × Addr)) (fp : List Addr), Inv X pins σ H s → (∀ b ∈ fp, ∀ x c, X.env.cells.lookup x = some c → c ≠ b) → PE (X.blk s H scope (compEnvC scope cl C X.env) fp) elt (te σ)
/-- the loop within the block -/
theorem blk_loop {σ : L2.St} {H : Hp} {s s0 : Shared} {elt tg iter : Expr} {scope : Scope} {pos : Pos} {vs : List Nat} {g : TG} {te : TE} {ce : Env} {fp : List Addr} {it D : Addr} {tn : Nat → Heap → Prop} {J : It} {Q : VK} {W : Nat → Nat → Hp → Prop} {R : Result → Shared → Prop} {n : Nat}
    (hc : X.calm = true) (T : Turn X.prog X.w X.K tg J fp it tn) (pg : PG (X.blk s H scope ce fp) tg g) (pe : PE (X.blk s H scope ce fp) elt te)
    (step : ∀ i m H1, W i m H1 → (J.stop i H1 ∧ Q (.ref D) H1) ∨ (J.go i H1 ∧ ∃ Nx : Hp → Prop, (∀ H', Nx H' → ∃ m', m' < m ∧ W (i + 1) m' H') ∧ ∀ x H', J.yld i H1 x H' → g x (wipe σ vs) H' fun σ2 H2 => wipe σ2 vs = wipe σ vs ∧
      te σ2 H2 fun y H4 => ∃ acc, H4 D = some (.lst acc) ∧ acc.length < sizeLine ∧ Nx (upd H4 D (.lst (acc ++ [y])))))
    (out : ∀ s' H', Inv (X.blk s H scope ce fp) [] (wipe σ vs) H' s' → Q (.ref D) H' → R (.ok .next) s')
    (start : Inv (X.blk s H scope ce fp) [] (wipe σ vs) H s0 ∧ tn 0 s0.heap ∧ (∀ b ∈ fp, H b = none) ∧ W 0 n H) :
    codeAny (model X.prog X.w) X.A (.compLoop (.ListComp elt [⟨tg, iter, [], 0⟩] scope pos) 0 (.ref it) (.ref D) ce) R s0 := by
  -- an iterator's objects stand apart from all that the block knows
  have apart : ∀ {σ' H' s'}, Inv (X.blk s H scope ce fp) [] σ' H' s' → (∀ b ∈ fp, H' b = none) → ∀ b ∈ fp, FpOk (X.blk s H scope ce fp) [] H' b := by
    intro σ' H' s' I' no b hb
    obtain ⟨k1, k2⟩ := I'.ok.exf b hb
    exact ⟨no b hb, k1, I'.ok.exfs b hb, .inl hb, k2, fun p hp => absurd (show p ∈ ([] : List (Addr × Obj)) ++ [] from hp) (by simp)⟩
  refine compLoop_any (fun m s' => ∃ i H', (Inv (X.blk s H scope ce fp) [] (wipe σ vs) H' s' ∧ tn i s'.heap ∧ ∀ b ∈ fp, H' b = none) ∧ W i m H') ?_ n ⟨0, H, ⟨start.1, start.2.1, start.2.2.1⟩, start.2.2.2⟩
  rintro m s1 ⟨i, H1, ⟨I1, t1, no1⟩, w1⟩
  cases step i m H1 w1 with
  | inl e =>
    refine thnF (T.done (X.blk s H scope ce fp) rfl rfl rfl hc i [] s1 (wipe σ vs) H1 (fun _ _ => False) I1 (apart I1 no1) t1 e.1) ?_
    rintro r s2 ⟨rfl, I2⟩
    exact out s2 H1 I2 e.2
  | inr e =>
    obtain ⟨go, Nx, nx, each⟩ := e
    refine thnF (T.item (X.blk s H scope ce fp) rfl rfl rfl hc i [] s1 (wipe σ vs) H1 (fun _ _ => False) I1 (apart I1 no1) t1 go) ?_
    rintro r s2 ⟨u, rfl, k2⟩
    refine thnF k2 ?_
    rintro _ s3 ⟨x, H3, I3, r3, y3, t3, no3⟩
    have P3 := I3.pinned (apart I3 no3) (T.obj _ _ t3)
    refine thnF (pg.run _ s3 _ H3 x u _ P3 r3 (each x H3 y3)) ?_
    rintro _ s4 ⟨σ4, H4, P4, same, q4⟩
    refine wpAny_tests_nil ?_
    rw [if_pos rfl]
    refine thnF (pe.run _ s4 σ4 H4 _ P4 q4) ?_
    rintro z s5 ⟨y, H5, P5, r5, acc, hD, hz, n5⟩
    refine app_ok (X := X.blk s H scope ce fp) P5 hD hz r5 fun s6 P6 => ?_
    obtain ⟨m', lt, w6⟩ := nx _ n5
    have kept : ∀ b ∈ fp, ∀ o, s3.heap.get? b = some o → s6.heap.get? b = some o ∧ (upd H5 D (.lst (acc ++ [y]))) b = none := fun b hb o e =>
      have k := P6.pin (b, o) (List.mem_append_right _ (List.mem_append_right _ (mem_pinsAt hb e)))
      ⟨k.1, k.2.1⟩
    have len : (wipe σ vs).length = σ4.length := by rw [← same, wipe_length]
    refine ⟨m', lt, i + 1, _, ⟨(P6.unpinned (pins := [])).weak len fun j v e => ?_, T.keep _ _ _ t3 fun b hb o e => (kept b hb o e).1, fun b hb => ?_⟩, w6⟩
    · rw [← same] at e
      exact (wipe_some e).1
    · obtain ⟨o, e, _⟩ := T.obj _ _ t3 b hb
      exact (kept b hb o e).2
theorem pe_lcW {elt tg iter : Expr} {scope : Scope} {own : List (Str × Nat)} {pos : Pos} {wi : TI} {g : TG} {te : L2.St → TE} (hc : X.calm = true) (hN : X.N.Nodup) (hi : PI X tg iter wi) (ok : BlkOk X.N X.env.scope scope own)
    (hg : ∀ (s : Shared) (H : Hp) (C : Addr) (cl : List (Str × Addr)) (fp : List Addr), PG (X.blk s H scope (compEnvC scope cl C X.env) fp) tg g) (he : Elt X scope elt te) (hs : ∀ x, foldedSetIterable iter X.env x = pure x := by intro _; rfl) :
    PE X (.ListComp elt [⟨tg, iter, [], 0⟩] scope pos) (fun σ H Q => tLc wi g tYes (te σ) (own.map (·.2)) σ H Q) := by
  refine ⟨fun pins s σ H Q I h => ?_⟩
  have cap : ∀ y ∈ scope.names, y.2 = .free → ∃ c, X.env.cells.lookup y.1 = some c := fun y hy e => I.ok.has _ (ok.free y hy e)
  rw [eval_ListComp]
  refine wpAny_comprehension_free (use := none) rfl hs (closure_ok cap) ok.kind (fun y hy e => e ▸ ok.uniq y hy) (thn (hi.run pins s σ H _ I h) fun _ _ k => thn k ?_)
  rintro _ s2 ⟨it, fp, tn, J, H2, rfl, I2, T, t2, f2, q⟩
  refine wpAny_newObj_type (newEnv_comp ?_) (Nat.zero_le _)
  have nD : H2 s2.heap.objs.size = none := I2.hok.fresh (Nat.le_refl _)
  obtain ⟨W, ⟨n, w0⟩, step⟩ := q _ nD
  generalize eD : s2.heap.objs.size = D at nD w0 step ⊢
  -- the new list
  obtain ⟨s3, e3⟩ : ∃ s3 : Shared, s3 = { s2 with heap := s2.heap.push { cls := .type "list", data := .seq ([] : List Value).toArray } } := ⟨_, rfl⟩
  have old : ∀ b o, s2.heap.get? b = some o → s3.heap.get? b = some o := fun b o e => by rw [e3]; exact Heap.get?_push_of_some _ e
  have I3 : Inv X pins σ (upd H2 D (.lst [])) s3 := by
    have lay : s3.heap.get? D = some { cls := .type "list", data := .seq ([] : List Value).toArray } := by rw [e3, ← eD]; exact Heap.get?_push_size _ rfl
    have z := I2.laid (a := D) (o := .lst []) (t' := s2.toks) old (Nat.le_of_eq eD) ⟨Nat.zero_le _, [], 0, .nil, lay⟩
    rw [e3] at z ⊢
    exact z
  have t3 : tn 0 s3.heap := T.keep _ _ _ t2 fun b _ o e => old b o e
  have f3 : ∀ b ∈ fp, FpOk X pins (upd H2 D (.lst [])) b ∧ b < s3.heap.objs.size := fun b hb => by
    obtain ⟨o, e, _⟩ := T.obj _ _ t2 b hb
    have lt := Heap.lt_size e
    have ne : b ≠ D := by rw [← eD]; exact Nat.ne_of_lt lt
    exact ⟨⟨by rw [upd_ne ne]; exact (f2 b hb).1, (f2 b hb).2⟩, Heap.lt_size (old b o e)⟩
  rw [← e3]
  generalize upd H2 D (.lst []) = H3 at I3 f3 w0
  have J0 := block_start I3 ok hN f3
  have sz : (s3.heap.push { cls := .type "dict", data := .dict #[] }).objs.size = s3.heap.objs.size + 1 := Heap.size_push ..
  show codeAny _ _ (.compStart (.ListComp elt [⟨tg, iter, [], 0⟩] scope pos) 0 (.ref it) (.ref D) (compEnvC scope (cellsFrom (s3.heap.objs.size + 1) scope.names (cloFrom X.env.cells scope.names [])) s3.heap.objs.size X.env)) _ _
  have pg := hg s3 H3 s3.heap.objs.size (cellsFrom (s3.heap.objs.size + 1) scope.names (cloFrom X.env.cells scope.names [])) fp
  have pe := he pins σ s3 H3 s3.heap.objs.size (cellsFrom (s3.heap.objs.size + 1) scope.names (cloFrom X.env.cells scope.names [])) fp I3 fun b hb x c e => (f3 b hb).1.2.2.2.2.1 x c e
  have loc : (compEnvC scope (cellsFrom (s3.heap.objs.size + 1) scope.names (cloFrom X.env.cells scope.names [])) s3.heap.objs.size X.env).locals = s3.heap.objs.size := rfl
  generalize compEnvC scope (cellsFrom (s3.heap.objs.size + 1) scope.names (cloFrom X.env.cells scope.names [])) s3.heap.objs.size X.env = ce at J0 pg pe loc ⊢
  have t4 : tn 0 (pushCells (s3.heap.push { cls := .type "dict", data := .dict #[] }) scope.names) := T.keep _ _ _ t3 fun b _ o e => pushCells_keeps _ _ _ _ (Heap.get?_push_of_some _ e)
  have run : codeAny (model X.prog X.w) X.A (.compLoop (.ListComp elt [⟨tg, iter, [], 0⟩] scope pos) 0 (.ref it) (.ref D) ce) (compPost (model X.prog X.w) X.A X.xe none (EP X pins σ Q) (.ref D) s3.heap.objs.size) { s3 with heap := pushCells (s3.heap.push { cls := .type "dict", data := .dict #[] }) scope.names } := by
    refine blk_loop (Q := Q) (W := W) (n := n) (vs := own.map (·.2)) hc T pg pe (fun i m H1 w1 => ?_) (fun s' H' I' qq => ?_) ⟨J0, t4, fun b hb => (f3 b hb).1.1, w0⟩
    · rcases step i m H1 w1 with z | ⟨go, Nx, hn, each⟩
      · exact .inl z
      · exact .inr ⟨go, Nx, hn, fun x H' y => each x H' y⟩
    · obtain ⟨m, hm, _⟩ := I'.loc
      have no : H' s3.heap.objs.size = none := loc ▸ I'.free
      have K := I3.call' (ch := fp) I'.os I'.base I'.hok I'.bare fun b hb => ⟨(f3 b hb).1.2.2.2.1, (f3 b hb).1.2.1, (f3 b hb).1.2.2.2.2.1, (f3 b hb).1.2.2.2.2.2⟩
      obtain ⟨_, k1, _, k3, k4, k5⟩ := I3.fpOk (H' := H') (Nat.le_refl _) no
      have hm : s'.heap.Ns ce.locals m := hm
      rw [loc] at hm
      exact ⟨m, hm, fun h' sb => ⟨.ref D, H', K.turned (t' := s'.toks) (fun b o hb e => (sb.2 b hb).trans e) no k1 k3 k4 k5, rfl, qq⟩⟩
  exact codeAny_compStart_list run (T.self X.A 0 _ _ _ t4 run)
/-- what is known, in the def itself, of the cells that a lambda took -/
def Kn (X : Cx) (σ : L2.St) (cl : List (Str × Addr)) (fr : List Str) (ws : List (Option V)) : Prop := ∃ js, (X.Ok → Caps X cl fr js) ∧ ws = js.map (slotAt σ)
theorem kn_here : ∀ (pins : List (Addr × Obj)) (s : Shared) (σ : L2.St) (H : Hp), Inv X pins σ H s → ∀ cl fr ws, Kn X σ cl fr ws → CellsAt cl fr ws s.heap H := by
  rintro pins s σ H I cl fr ws ⟨js, c, rfl⟩
  exact cells_of I (c I.ok)
/-- .. and within a block -/
theorem kn_blk {pins : List (Addr × Obj)} {σ : L2.St} {s : Shared} {H : Hp} {scope : Scope} {ce : Env} {fp : List Addr} (I : Inv X pins σ H s) (nf : ∀ b ∈ fp, ∀ x c, X.env.cells.lookup x = some c → c ≠ b) :
    ∀ (pins' : List (Addr × Obj)) (s' : Shared) (σ' : L2.St) (H' : Hp), Inv (X.blk s H scope ce fp) pins' σ' H' s' → ∀ cl fr ws, Kn X σ cl fr ws → CellsAt cl fr ws s'.heap H' := by
  rintro pins' s' σ' H' I' cl fr ws ⟨js, c, rfl⟩
  exact cells_un (cells_of I (c I.ok)) I'.base fun y a e hb => nf a hb y a ((c I.ok).sub y a e) rfl
end
end TLC

set_option maxHeartbeats 2000000
namespace TLC
open PySem PySem.Spec PyProof.Rows L2 LamX NdefX
section
variable {X : Cx} {CX : CXT} {k i : Nat} {f : Addr} {F : NF} {b : Expr} {fr : List Str} {ws : List (Option V)} {sp : LSp} {E : L2.St → XK} {x : Str} {p pos : Pos}
/-- x() within a try: what is let out may speak of the slots -/
theorem pe_lamCallS (O : LOk X.prog X.w X.K X.mg X.base CX k f F b fr sp) (C : CellsAt F.cl fr ws X.s_0.heap X.H_0) (hex : ∀ y c, F.cl.lookup y = some c → c ∉ X.ex) (hr : Room k X.A) (hx : ∀ σ, PassesAt CX X σ (E σ)) (hN : X.N[i]? = some x) (hv : Vis X.env.scope x)
    (hd : (x == ("__debug__" : Str)) = false := by decide) (hcd : (x == ("__classdict__" : Str)) = false := by decide) : PE X (.Call (.Name x p) [] [] pos) (fun σ H Q => tLamCall i f F b ws sp (E σ) σ H Q) := by
  refine ⟨fun pins s σ H Q I ⟨h1, h2, h3, h4⟩ => ?_⟩
  refine wpAny_Call_Name_kw (thn ((pe_var (pos := p) hN hv hd hcd).run pins s σ H (fun v H1 => v = .ref f ∧ H1 = H) I ⟨.ref f, h1, rfl, rfl⟩) fun u s1 ⟨v, H1, I1, r1, q1⟩ => ?_)
  obtain ⟨rfl, rfl⟩ := q1
  obtain rfl : u = Value.ref f := r1
  refine PySem.W.callWith_F0 (first := []) (lam_at I1 h2) (wpAny_call (codeAny_mono (O.run X.A X.stack s1 H1 ws Q (E σ) hr I1.env0 h2 h3 (cells_un C I1.base hex) h4) fun r s' hq => ?_))
  match r, hq with
  | .error e, hq => exact hx σ pins H1 s1 e s' I1 hq
  | .ok (.ret u), hq => exact I1.after hq
end
/-- a def that calls the lambda handed in, by its body -/
theorem cok_of {P : Program} {w : World} {K : PySem.W.Frag} {mg : Str → Option Value} {base : Heap} {k j : Nat} {g : Addr} {gd : FuncData} {x a : Str} {st : Stmt} {N : List Str} {csp : (Hp → VK → XK → Prop) → Hp → VK → Prop} (G : TX.Fn K mg x st [a] g gd) (S : FnScope N [a] (defScope st))
    (body : ∀ (cdv : Value) (A : Around) (outer : List Env) (s : Shared) (H : Hp) (f : Addr) (F : NF) (b : Expr) (fr : List Str) (ws : List (Option V)) (sp : LSp) (Q : VK), Room k (A.deeper (envOfC x (defScope st) s.heap.objs.size g cdv)) → LOk P w K mg base (L2.CX P w) j f F b fr sp →
      CellsAt F.cl fr ws s.heap H → H f = some (LamO f F b) → H F.c = some (CodeO F.c F.qual) → csp (sp ws) H Q →
      ∃ t, PSs (cxOf L2.CX0 P w K mg base N x (defScope st) g cdv A outer s H L2.E0).nox (defBody st) t ∧ t { nx := fun _ H' => Q .non H', rt := Q } (L2.start N [.ref f]) H) :
    COk P w K mg base (k + 1) j g csp := by
  obtain ⟨oc, od, kV, doc, pm, an, cdv, ct, osl, e, lk, hcd⟩ := G.F.ex
  subst e
  refine ⟨fun A outer s H f F b fr ws sp Q hr e0 O hf hc C h => ?_⟩
  have kin : K.In s.heap := e0.mod.kin.keeps fun a o e => (e0.bs a o e).1
  refine run_ofS (N := N) (ps := [a]) (us := [.ref f]) (vs := [.ref f]) lk hcd S hr e0 (G.b s [.ref f] kin rfl) (.cons rfl .nil) rfl fun hr' => ?_
  obtain ⟨t, ht, q⟩ := body cdv A outer s H f F b fr ws sp Q hr' O C hf hc h
  exact ⟨t, ht.nox, q⟩
end TLC
namespace TLC
open PySem PySem.Spec PyProof.Rows L2 LamX NdefX
/-- a def whose code object is known -/
structure FunC (K : PySem.W.Frag) (x qual : Str) (st : Stmt) (f : Addr) (fd : FuncData) (c : Addr) : Prop where
  ex : ∃ (oc : Value) (od : Option Addr) (kV doc pm : Value) (an : Option Addr) (ct : Value) (osl : Array (Option Value)),
    fd = PySem.W.fnOf x qual (defArgs st) (defBody st) (defScope st) .none kV doc pm an (.ref c) ct ∧ K.lookup f = some ⟨oc, od, .func fd, osl⟩ ∧ PySem.W.codeIn K (.ref c) qual = true
  kp : PySem.W.keepIn K (.ref f) = true
theorem FunC.ok {P : Program} {w : World} {K : PySem.W.Frag} {mg : Str → Option Value} {base : Heap} {x qual : Str} {st : Stmt} {f c : Addr} {fd : FuncData} {N ps : List Str} {k : Nat} {sp : Sp} (F : FunC K x qual st f fd c) (S : FnScope N ps (defScope st)) (len : ∀ vs H Q E, sp vs H Q E → vs.length = ps.length)
    (hbody : ∀ (A : Around) (outer : List Env) (s : Shared) (H : Hp) (vs : List V) (Q : VK) (E : XK), Room k (A.deeper (envOfC qual (defScope st) s.heap.objs.size f (.ref c))) → sp vs H Q E →
      ∃ t, PSs (cxOf L2.CX0 P w K mg base N qual (defScope st) f (.ref c) A outer s H E).nox (defBody st) t ∧ t { nx := fun _ H' => Q .non H', rt := Q } (L2.start N vs) H) : FnOk P w K mg base L2.CX0 (k + 1) f fd ps sp := by
  obtain ⟨oc, od, kV, doc, pm, an, ct, osl, e, lk, hcd⟩ := F.ex
  subst e
  refine fn_of lk hcd S len fun A outer s H vs Q E hr hsp => ?_
  obtain ⟨t, h, q⟩ := hbody A outer s H vs Q E hr hsp
  exact ⟨t, h.nox, q⟩
/-- such a def of the module, ready to be called -/
structure FnC (K : PySem.W.Frag) (mg : Str → Option Value) (x : Str) (st : Stmt) (ps : List Str) (f : Addr) (fd : FuncData) (c : Addr) : Prop where
  F : FunC K x x st f fd c
  g : mg x = some (.ref f)
  b : Binds K fd ps []
end TLC

set_option maxHeartbeats 2000000
namespace T03
open PySem L2 PyProof.Rows TX TY TW TD TB TG TUD TE TK
/-! Whatever may be handed in, seen from the heap; what stands but at the well and in instances, stays. -/
def Kp (W : Addr) (H H' : Hp) : Prop := ∀ a o, a ≠ W → (∀ C dx fs, o ≠ .ins C dx fs) → (∀ ps, o ≠ .tbl ps) → H a = some o → H' a = some o
theorem Kp.sm {W : Addr} {H H' : Hp} (s : Sm W H H') : Kp W H H' := fun a o n _ _ e => s a o n e
theorem Kp.of {W : Addr} {H H' : Hp} (s : Same H H') : Kp W H H' := fun a o _ _ _ e => s a o e
theorem Kp.ext {W : Addr} {H H' : Hp} (s : LamX.ExtN H H') : Kp W H H' := fun a o _ _ t e => s a o e t
theorem Kp.but {W : Addr} {H H' : Hp} {p C dx : Addr} {fs : List (Str × V)} (hp : H p = some (.ins C dx fs)) (k : ∀ b o, b ≠ p → H b = some o → H' b = some o) : Kp W H H' := fun a o _ no _ e =>
  k a o (fun z => by rw [z, hp] at e; exact no C dx fs (Option.some.inj e).symm) e
inductive Lf (W : Addr) (H : Hp) : V → Prop
  | non : Lf W H .non
  | bl (b : Bool) : Lf W H (.bl b)
  | int (i : Int) : Lf W H (.int i)
  | str (x : Str) (h : x.length ≤ 100) : Lf W H (.str x)
  | tup {a : Addr} {xs : List V} (n : a ≠ W) (h : H a = some (.tup xs)) : Lf W H (.ref a)
  | lst {a : Addr} {xs : List V} (n : a ≠ W) (h : H a = some (.lst xs)) : Lf W H (.ref a)
  | dK {a : Addr} {kvs : List (Key × V)} (n : a ≠ W) (h : H a = some (.dK kvs)) : Lf W H (.ref a)
theorem Lf.kp {W : Addr} {H H' : Hp} {v : V} (h : Lf W H v) (s : Kp W H H') : Lf W H' v := by
  cases h with
  | non => exact .non
  | bl b => exact .bl b
  | int i => exact .int i
  | str x h => exact .str x h
  | tup n h => exact .tup n (s _ _ n (fun _ _ _ z => by cases z) (fun _ z => by cases z) h)
  | lst n h => exact .lst n (s _ _ n (fun _ _ _ z => by cases z) (fun _ z => by cases z) h)
  | dK n h => exact .dK n (s _ _ n (fun _ _ _ z => by cases z) (fun _ z => by cases z) h)
def isS : V → Bool
  | .str _ => true
  | _ => false
theorem Lf.ty {K : PySem.W.Frag} {W : Addr} {H : Hp} {v : V} (h : Lf W H v) : ∃ t, TyX K H v (.type t) ∧ kitB t "str" = some (isS v) ∧ kitB t "int" = some (numV v) ∧ kitB t "bool" = some (truthV v) := by
  cases h with
  | non => exact ⟨_, .base .non, by decide +kernel, by decide +kernel, by decide +kernel⟩
  | bl b => exact ⟨_, .base (.bl b), (show kitB "bool" "str" = some false by decide +kernel), (show kitB "bool" "int" = some true by decide +kernel), (show kitB "bool" "bool" = some true by decide +kernel)⟩
  | int i => exact ⟨_, .base (.int i), (show kitB "int" "str" = some false by decide +kernel), (show kitB "int" "int" = some true by decide +kernel), (show kitB "int" "bool" = some false by decide +kernel)⟩
  | str x _ => exact ⟨_, .base (.str x), (show kitB "str" "str" = some true by decide +kernel), (show kitB "str" "int" = some false by decide +kernel), (show kitB "str" "bool" = some false by decide +kernel)⟩
  | tup _ h => exact ⟨_, .base (.tup h), (show kitB "tuple" "str" = some false by decide +kernel), (show kitB "tuple" "int" = some false by decide +kernel), (show kitB "tuple" "bool" = some false by decide +kernel)⟩
  | lst _ h => exact ⟨_, .base (.lst h), (show kitB "list" "str" = some false by decide +kernel), (show kitB "list" "int" = some false by decide +kernel), (show kitB "list" "bool" = some false by decide +kernel)⟩
  | dK _ h => exact ⟨_, .base (.dK h), (show kitB "dict" "str" = some false by decide +kernel), (show kitB "dict" "int" = some false by decide +kernel), (show kitB "dict" "bool" = some false by decide +kernel)⟩
/-- what is neither list nor tuple -/
inductive Ob (W : Addr) (H : Hp) : V → Prop
  | int (i : Int) : Ob W H (.int i)
  | str (x : Str) : Ob W H (.str x)
  | dK {a : Addr} {kvs : List (Key × V)} (n : a ≠ W) (h : H a = some (.dK kvs)) : Ob W H (.ref a)
theorem Ob.kp {W : Addr} {H H' : Hp} {v : V} (h : Ob W H v) (s : Kp W H H') : Ob W H' v := by
  cases h with
  | int i => exact .int i
  | str x => exact .str x
  | dK n h => exact .dK n (s _ _ n (fun _ _ _ z => by cases z) (fun _ z => by cases z) h)
/-- what may be a row: its values, where it is a tuple -/
def RowT (W : Addr) (H : Hp) (v : V) (d : Option (List V)) : Prop := (∃ a ys, v = .ref a ∧ a ≠ W ∧ H a = some (.tup ys) ∧ ys.length ≤ 20 ∧ (∀ y ∈ ys, Lf W H y) ∧ d = some ys) ∨ (d = none ∧ (v = .non ∨ (∃ a xs, v = .ref a ∧ a ≠ W ∧ H a = some (.lst xs)) ∨ Ob W H v))
theorem RowT.kp {W : Addr} {H H' : Hp} {v : V} {d : Option (List V)} (h : RowT W H v d) (s : Kp W H H') : RowT W H' v d := by
  rcases h with ⟨a, ys, e, n, h1, h2, h3, h4⟩ | ⟨e, h | ⟨a, xs, h, n, h1⟩ | h⟩
  · exact .inl ⟨a, ys, e, n, s _ _ n (fun _ _ _ z => by cases z) (fun _ z => by cases z) h1, h2, fun y hy => (h3 y hy).kp s, h4⟩
  · exact .inr ⟨e, .inl h⟩
  · exact .inr ⟨e, .inr (.inl ⟨a, xs, h, n, s _ _ n (fun _ _ _ z => by cases z) (fun _ z => by cases z) h1⟩)⟩
  · exact .inr ⟨e, .inr (.inr (h.kp s))⟩
theorem RowT.ty {K : PySem.W.Frag} {W : Addr} {H : Hp} {v : V} {d : Option (List V)} (h : RowT W H v d) : ∃ t, TyX K H v (.type t) ∧ kitB t "tuple" = some d.isSome := by
  rcases h with ⟨a, ys, rfl, n, h1, h2, h3, rfl⟩ | ⟨rfl, rfl | ⟨a, xs, rfl, n, h1⟩ | h⟩
  · exact ⟨_, .base (.tup h1), (show kitB "tuple" "tuple" = some true by decide +kernel)⟩
  · exact ⟨_, .base .non, (show kitB "NoneType" "tuple" = some false by decide +kernel)⟩
  · exact ⟨_, .base (.lst h1), (show kitB "list" "tuple" = some false by decide +kernel)⟩
  · cases h with
    | int i => exact ⟨_, .base (.int i), (show kitB "int" "tuple" = some false by decide +kernel)⟩
    | str x => exact ⟨_, .base (.str x), (show kitB "str" "tuple" = some false by decide +kernel)⟩
    | dK n h => exact ⟨_, .base (.dK h), (show kitB "dict" "tuple" = some false by decide +kernel)⟩
/-- what may be rows -/
def RowsT (W : Addr) (H : Hp) (v : V) (o : Option (List (Option (List V)))) : Prop := (∃ L xs ds, v = .ref L ∧ L ≠ W ∧ H L = some (.lst xs) ∧ Paired (RowT W H) xs ds ∧ xs.length ≤ 20 ∧ o = some ds) ∨ (o = none ∧ ((∃ a xs, v = .ref a ∧ a ≠ W ∧ H a = some (.tup xs)) ∨ Ob W H v))
theorem RowsT.kp {W : Addr} {H H' : Hp} {v : V} {o : Option (List (Option (List V)))} (h : RowsT W H v o) (s : Kp W H H') : RowsT W H' v o := by
  rcases h with ⟨L, xs, ds, e, n, h1, h2, h3, h4⟩ | ⟨e, ⟨a, xs, h, n, h1⟩ | h⟩
  · exact .inl ⟨L, xs, ds, e, n, s _ _ n (fun _ _ _ z => by cases z) (fun _ z => by cases z) h1, Paired.mapP h2 fun a d e => e.kp s, h3, h4⟩
  · exact .inr ⟨e, .inl ⟨a, xs, h, n, s _ _ n (fun _ _ _ z => by cases z) (fun _ z => by cases z) h1⟩⟩
  · exact .inr ⟨e, .inr (h.kp s)⟩
theorem RowsT.ty {K : PySem.W.Frag} {W : Addr} {H : Hp} {v : V} {o : Option (List (Option (List V)))} (h : RowsT W H v o) : v ≠ .non ∧ ∃ t, TyX K H v (.type t) ∧ kitB t "list" = some o.isSome := by
  rcases h with ⟨L, xs, ds, rfl, n, h1, h2, h3, rfl⟩ | ⟨rfl, ⟨a, xs, rfl, n, h1⟩ | h⟩
  · exact ⟨(fun z => by cases z), _, .base (.lst h1), (show kitB "list" "list" = some true by decide +kernel)⟩
  · exact ⟨(fun z => by cases z), _, .base (.tup h1), (show kitB "tuple" "list" = some false by decide +kernel)⟩
  · cases h with
    | int i => exact ⟨(fun z => by cases z), _, .base (.int i), (show kitB "int" "list" = some false by decide +kernel)⟩
    | str x => exact ⟨(fun z => by cases z), _, .base (.str x), (show kitB "str" "list" = some false by decide +kernel)⟩
    | dK n h => exact ⟨(fun z => by cases z), _, .base (.dK h), (show kitB "dict" "list" = some false by decide +kernel)⟩
/-- what a name is -/
def okc (c : Nat) : Bool := !decide ([c] < (Str.ofString "a").cps.toList) && !decide ((Str.ofString "z").cps.toList < [c])
theorem okc_iff (c : Nat) : okc c = true ↔ 97 ≤ c ∧ c ≤ 122 := by
  unfold okc
  rw [str_a, str_z, S_cps, S_cps, Bool.and_eq_true, Bool.not_eq_true', Bool.not_eq_true', decide_eq_false_iff_not, decide_eq_false_iff_not, lt_sign, lt_sign]
  omega
def nameB (x : Str) : Bool := decide (1 ≤ x.length) && (decide (x.length ≤ 8) && x.cps.toList.all okc)
theorem nameB_iff (x : Str) : nameB x = true ↔ TM.NameOk x := by
  unfold nameB TM.NameOk
  rw [Bool.and_eq_true, Bool.and_eq_true, decide_eq_true_iff, decide_eq_true_iff, List.all_eq_true]
  constructor
  · rintro ⟨h1, h2, h3⟩
    exact ⟨h1, h2, fun c hc => (okc_iff c).mp (h3 c hc)⟩
  · rintro ⟨h1, h2, h3⟩
    exact ⟨h1, h2, fun c hc => (okc_iff c).mpr (h3 c hc)⟩
def isNm : V → Bool
  | .str x => nameB x
  | _ => false
def colsV (xs : List V) : Bool := decide (xs.length ≤ 8) && (xs.all isNm && decide xs.Nodup)
/-- what may be columns; whether it is -/
def ColsT (W : Addr) (H : Hp) (v : V) (b : Bool) : Prop := (∃ L xs, v = .ref L ∧ L ≠ W ∧ H L = some (.lst xs) ∧ xs.length ≤ 20 ∧ (∀ x ∈ xs, Lf W H x) ∧ b = colsV xs) ∨ (b = false ∧ (v = .non ∨ (∃ a xs, v = .ref a ∧ a ≠ W ∧ H a = some (.tup xs)) ∨ Ob W H v))
theorem ColsT.kp {W : Addr} {H H' : Hp} {v : V} {b : Bool} (h : ColsT W H v b) (s : Kp W H H') : ColsT W H' v b := by
  rcases h with ⟨L, xs, e, n, h1, h2, h3, h4⟩ | ⟨e, h | ⟨a, xs, h, n, h1⟩ | h⟩
  · exact .inl ⟨L, xs, e, n, s _ _ n (fun _ _ _ z => by cases z) (fun _ z => by cases z) h1, h2, fun x hx => (h3 x hx).kp s, h4⟩
  · exact .inr ⟨e, .inl h⟩
  · exact .inr ⟨e, .inr (.inl ⟨a, xs, h, n, s _ _ n (fun _ _ _ z => by cases z) (fun _ z => by cases z) h1⟩)⟩
  · exact .inr ⟨e, .inr (.inr (h.kp s))⟩
theorem all_names {xs : List V} (k : xs.all isNm = true) : ∃ ns : List Str, xs = ns.map V.str ∧ ∀ n ∈ ns, TM.NameOk n := by
  induction xs with
  | nil => exact ⟨[], rfl, fun _ h => nomatch h⟩
  | cons x xs ih =>
    rw [List.all_cons, Bool.and_eq_true] at k
    obtain ⟨ns, e, ok⟩ := ih k.2
    cases x with
    | str s => exact ⟨s :: ns, by rw [List.map_cons, e], fun n hn => (List.mem_cons.mp hn).elim (fun e => e ▸ (nameB_iff s).mp k.1) (ok n)⟩
    | _ => cases k.1
theorem nd_strs {ns : List Str} : (ns.map V.str).Nodup ↔ ns.Nodup := by
  constructor
  · intro h
    exact List.Pairwise.of_map V.str (fun a b hab e => hab (by rw [e])) h
  · intro h
    refine List.pairwise_map.mpr (h.imp fun {a b} hab e => hab (V.str.inj e))
/-! ### rows -/
def okRow (wide : Nat) : Option (List V) → Bool
  | some ys => decide (ys.length = wide) && ys.all wholeV
  | none => false
/-- the first that is no row -/
def firstB (wide : Nat) : List (Option (List V)) → Option Nat
  | [] => none
  | d :: ds => if okRow wide d then (firstB wide ds).map (· + 1) else some 0
def dueR (wide : Nat) : Option (List (Option (List V))) → Option Nat
  | none => some 0
  | some ds => firstB wide ds
theorem firstB_at {wide : Nat} : ∀ {ds : List (Option (List V))} {i : Nat} {d : Option (List V)}, (∀ d' ∈ ds.take i, okRow wide d' = true) → ds[i]? = some d → okRow wide d = false → firstB wide ds = some i := by
  intro ds
  induction ds with
  | nil => intro i d _ h; simp at h
  | cons c ds ih =>
    intro i d ha hd hb
    cases i with
    | zero =>
      have : c = d := by simpa using hd
      subst this
      unfold firstB
      rw [hb]
      rfl
    | succ i =>
      have hc : okRow wide c = true := ha c (by rw [List.take_succ_cons]; exact List.mem_cons_self)
      unfold firstB
      rw [hc, if_pos rfl, ih (fun d' hd' => ha d' (by rw [List.take_succ_cons]; exact List.mem_cons_of_mem _ hd')) (by simpa using hd) hb]
      rfl
theorem firstB_none {wide : Nat} : ∀ {ds : List (Option (List V))}, (∀ d ∈ ds, okRow wide d = true) → firstB wide ds = none := by
  intro ds
  induction ds with
  | nil => intro _; rfl
  | cons c ds ih =>
    intro ha
    unfold firstB
    rw [ha c List.mem_cons_self, if_pos rfl, ih fun d hd => ha d (List.mem_cons_of_mem _ hd)]
    rfl
theorem whole_vals {ys : List V} (h : ys.all wholeV = true) : ∃ r : List Int, ys = r.map V.int := by
  induction ys with
  | nil => exact ⟨[], rfl⟩
  | cons y ys ih =>
    rw [List.all_cons, Bool.and_eq_true] at h
    obtain ⟨r, e⟩ := ih h.2
    cases y with
    | int i => exact ⟨i :: r, by rw [List.map_cons, e]⟩
    | _ => cases h.1
/-- rows that are all right, as they stand -/
theorem rows_of {W : Addr} {H : Hp} {wide : Nat} {xs : List V} {ds : List (Option (List V))} (h : Paired (RowT W H) xs ds) (ok : ∀ d ∈ ds, okRow wide d = true) : ∃ (as : List Addr) (rs : List (List Int)), xs = as.map V.ref ∧ RowsAt H as rs ∧ (∀ r ∈ rs, r.length = wide) ∧ rs.length = xs.length := by
  induction h with
  | nil => exact ⟨[], [], rfl, .nil, (fun _ h => nomatch h), rfl⟩
  | cons x _ ih =>
    obtain ⟨as, rs, e, h1, h2, h3⟩ := ih fun d hd => ok d (List.mem_cons_of_mem _ hd)
    have k := ok _ List.mem_cons_self
    rcases x with ⟨a, ys, rfl, n, e1, _, _, rfl⟩ | ⟨rfl, _⟩
    · unfold okRow at k
      rw [Bool.and_eq_true, decide_eq_true_iff] at k
      obtain ⟨r, rfl⟩ := whole_vals k.2
      refine ⟨a :: as, r :: rs, by rw [List.map_cons, e], .cons e1 h1, fun q hq => ?_, by rw [List.length_cons, List.length_cons, h3]⟩
      rcases List.mem_cons.mp hq with e | hq
      · rw [e]
        simpa using k.1
      · exact h2 q hq
    · cases k
def optI : Option Nat → V
  | none => .non
  | some k => .int k
end T03

set_option maxHeartbeats 2000000
namespace T03
open PySem L2 PyProof.Rows TX TY TW TD TB TG TUD TE TK
section
variable {P : Program} {w : World} {K : PySem.W.Frag} {mg : Str → Option Value} {base : Heap}
/-- the constants of the module -/
structure Cn (mg : Str → Option Value) : Prop where
  longest : ∃ t, mg "LONGEST_NAME" = some (.int 8 t)
  most : ∃ t, mg "MOST_COLUMNS" = some (.int 8 t)
theorem sc_is_name : FnScope ["thing", "sign"] ["thing"] (defScope s_is_name) := ⟨rfl, rfl, rfl, by decide +kernel, rfl, by decide +kernel, by decide +kernel⟩
def sp_is_name : Sp := fun vs H Q _ => ∃ (W : Addr) (v : V), vs = [v] ∧ Lf W H v ∧ ∀ H', Same H H' → Q (.bl (isNm v)) H'
theorem ok_is_name {f : Addr} {fd : FuncData} (F : Fn K mg "is_name" s_is_name ["thing"] f fd) (B : Bn mg) (C : Cn mg) : FnOk P w K mg base CX0 1 f fd ["thing"] sp_is_name := by
  refine F.F.ok sc_is_name (fun vs H Q E h => ?_) (fun cdv A outer s H vs Q E hr h => ?_)
  · obtain ⟨W, x, rfl, _⟩ := h
    rfl
  · obtain ⟨W, v, rfl, hv, q⟩ := h
    have hu := hu_of hr
    obtain ⟨tl, hlg⟩ := C.longest
    refine ⟨_, pss_cons (ps_if (PW.pt (pw_or (pt_not (pt_val (pe_callB call_isi (by rfl) B.isi boot_isinstance (pa_cons (pv 0) (pa_cons (pe_bltn (v := .ty "str") (by rfl) B.str boot_str rfl) pa_nil)))))
        (pw_or1 (pt_not (pt_chain op_le op_le pe_int (pe_callB call_len_str (by rfl) B.len PySem.boot_len (pa_cons (pv 0) pa_nil)) (pe_glob (v := .int 8) (by rfl) hlg ⟨_, rfl⟩)))))) (pss_one (ps_ret pe_bl)) pss_nil)
      (pss_one (ps_ret (pe_callB (cr_all rfl) (by rfl) B.all boot_all (pa_cons (pe_lc (own := [("sign", 1)]) (g := gName 1) (tt := tYes) rfl sc_is_name.nd (pi_str (pv 0)) (blkOk_by (N := ["thing", "sign"]) (sc := defScope s_is_name) (by decide +kernel))
          (fun _ _ _ _ _ => pg_name (i := 1) sc_is_name.nd rfl (Or.inl rfl)) (fun _ _ _ _ _ => pts_nil)
          (fun _ _ _ _ _ => pe_chain op_le_str op_le_str pe_str (pv 1) pe_str)) pa_nil)))), ?_⟩
    obtain ⟨t, ty, hk, _, _⟩ := hv.ty (K := K)
    refine ⟨_, rfl, _, _, _, _, isS v, rfl, .ty _, ty, kit_ty hk, _, rfl, ?_⟩
    have q0 := q H same_rfl
    cases hv with
    | str x hx =>
      have e0 : isNm (.str x) = nameB x := rfl
      rw [e0] at q0
      have q' : ∀ H', Same H H' → Q (.bl (nameB x)) H' := q
      clear q
      by_cases h1 : 1 ≤ x.length
      · by_cases h2 : x.length ≤ 8
        · refine ⟨_, rfl, x, rfl, line100 (by omega), _, _, rfl, rfl, true, ?_, _, _, rfl, rfl, true, ?_, ?_⟩
          · exact congrArg V.bl (decide_eq_true (show (1 : Int) ≤ (x.length : Int) by omega))
          · exact congrArg V.bl (decide_eq_true (show (x.length : Int) ≤ 8 by omega))
          refine ⟨_, rfl, x, rfl, fun L nL => ?_⟩
          refine lc_it walk_str (fun i H' => H' L = some (.lst (((x.cps.toList.take i).map okc).map V.bl)) ∧ Same H H') ⟨upd_same, Same.new nL⟩ (fun _ _ _ _ => trivial) ?_ ?_
          · rintro i v H1 H1' hi ⟨e1, s1⟩ ⟨rfl, c, hc, rfl⟩
            refine ⟨rfl, ?_⟩
            have hc' : x.cps.toList[i]? = some c := by rw [Array.getElem?_toList]; exact hc
            have key : ∀ b : Bool, okc c = b → ∃ xs, H1' L = some (.lst xs) ∧ xs.length < sizeLine ∧ (upd H1' L (.lst (xs ++ [V.bl b])) L = some (.lst (((x.cps.toList.take (i + 1)).map okc).map V.bl)) ∧ Same H (upd H1' L (.lst (xs ++ [V.bl b])))) := by
              intro b hb
              refine ⟨_, e1, ?_, ?_, Same.mut s1 nL⟩
              · rw [List.length_map, List.length_map, List.length_take]
                have : x.cps.toList.length ≤ 8 := by rw [Array.length_toList]; exact h2
                exact line100' (by omega)
              · rw [upd_same, List.take_add_one, hc', List.map_append, List.map_append, ← hb]
                rfl
            refine ⟨_, rfl, _, _, rfl, rfl, !decide ([c] < (Str.ofString "a").cps.toList), rfl, ?_⟩
            cases ha : !decide ([c] < (Str.ofString "a").cps.toList) with
            | true =>
              refine ⟨_, _, rfl, rfl, ?_⟩
              exact key _ (by unfold okc; rw [ha, Bool.true_and])
            | false => exact key false (by unfold okc; rw [ha, Bool.false_and])
          · rintro H1 ⟨e1, s1⟩
            rw [show x.cps.size = x.cps.toList.length by rw [Array.length_toList], List.take_length] at e1
            refine ⟨L, x.cps.toList.map okc, rfl, .of e1, ?_⟩
            have e2 : (x.cps.toList.map okc).all id = nameB x := by
              unfold nameB
              rw [decide_eq_true h1, decide_eq_true h2, Bool.true_and, Bool.true_and, List.all_map]
              rfl
            rw [e2]
            exact q' _ s1
        · have e1 : nameB x = false := by unfold nameB; rw [decide_eq_false h2, Bool.false_and, Bool.and_false]
          rw [e1] at q0
          refine ⟨_, rfl, x, rfl, line100 (by omega), _, _, rfl, rfl, true, ?_, _, _, rfl, rfl, false, ?_, ?_⟩
          · exact congrArg V.bl (decide_eq_true (show (1 : Int) ≤ (x.length : Int) by omega))
          · exact congrArg V.bl (decide_eq_false (show ¬ (x.length : Int) ≤ 8 by omega))
          exact q0
      · have e1 : nameB x = false := by unfold nameB; rw [decide_eq_false h1, Bool.false_and]
        rw [e1] at q0
        refine ⟨_, rfl, x, rfl, line100 (by omega), _, _, rfl, rfl, false, ?_, false, rfl, ?_⟩
        · exact congrArg V.bl (decide_eq_false (show ¬ (1 : Int) ≤ (x.length : Int) by omega))
        exact q0
    | _ => exact q0
/-- the defs of the program that are called -/
structure Kt (K : PySem.W.Frag) (mg : Str → Option Value) (fW fN fA fR fK fS : Addr) (dW dN dA dR dK dS : FuncData) : Prop where
  B : Bn mg
  C : Cn mg
  set : mg "set" = none
  bool : mg "bool" = none
  whole : Fn K mg "is_whole" s_is_whole ["thing"] fW dW
  isn : Fn K mg "is_name" s_is_name ["thing"] fN dN
  are : Fn K mg "are_columns" s_are ["thing"] fA dA
  row : Fn K mg "is_row" s_is_row ["thing", "many"] fR dR
  chk : Fn K mg "_check_columns" s_cc ["columns"] fK dK
  srt : Fn K mg "_sorted_rows" s_sorted ["rows", "many"] fS dS
variable {fW fN fA fR fK fS : Addr} {dW dN dA dR dK dS : FuncData}
theorem sc_is_whole : FnScope ["thing"] ["thing"] (defScope s_is_whole) := ⟨rfl, rfl, rfl, by decide +kernel, rfl, by decide +kernel, by decide +kernel⟩
def sp_is_whole : Sp := fun vs H Q _ => ∃ (W : Addr) (v : V), vs = [v] ∧ Lf W H v ∧ Q (.bl (wholeV v)) H
theorem ok_is_whole (T : Kt K mg fW fN fA fR fK fS dW dN dA dR dK dS) : FnOk P w K mg base CX0 1 fW dW ["thing"] sp_is_whole := by
  have B := T.B
  refine T.whole.F.ok sc_is_whole (fun vs H Q E h => ?_) (fun cdv A outer s H vs Q E hr h => ?_)
  · obtain ⟨W, v, rfl, _⟩ := h
    rfl
  · obtain ⟨W, v, rfl, hv, q⟩ := h
    refine ⟨_, pss_one (ps_ret (pe_and (pe_callB call_isi (by rfl) B.isi boot_isinstance (pa_cons (pv 0) (pa_cons (pe_bltn (v := .ty "int") (by rfl) B.int boot_int rfl) pa_nil)))
      (pe_one (pe_not (pe_callB call_isi (by rfl) B.isi boot_isinstance (pa_cons (pv 0) (pa_cons (pe_bltn (v := .ty "bool") (by rfl) T.bool boot_bool rfl) pa_nil))))))), ?_⟩
    obtain ⟨t, h1, _, h2, h3⟩ := hv.ty (K := K)
    refine ⟨_, rfl, _, _, _, _, _, rfl, .ty _, h1, kit_ty h2, _, rfl, ?_⟩
    rw [whole_num] at q
    cases hn : numV v with
    | false =>
      rw [hn] at q
      exact q
    | true =>
      rw [hn] at q
      refine ⟨_, rfl, _, _, _, _, _, rfl, .ty _, h1, kit_ty h3, _, rfl, ?_⟩
      simpa using q
theorem sc_is_row : FnScope ["thing", "many", "value"] ["thing", "many"] (defScope s_is_row) := ⟨rfl, rfl, rfl, by decide +kernel, rfl, by decide +kernel, by decide +kernel⟩
def sp_is_row : Sp := fun vs H Q _ => ∃ (W : Addr) (v : V) (d : Option (List V)) (many : Nat), vs = [v, .int many] ∧ RowT W H v d ∧ ∀ H', Same H H' → Q (.bl (okRow many d)) H'
theorem ok_is_row (T : Kt K mg fW fN fA fR fK fS dW dN dA dR dK dS) : FnOk P w K mg base CX0 2 fR dR ["thing", "many"] sp_is_row := by
  have B := T.B
  have GW : FnOk P w K mg base CX0 1 fW dW ["thing"] sp_is_whole := ok_is_whole T
  refine T.row.F.ok sc_is_row (fun vs H Q E h => ?_) (fun cdv A outer s H vs Q E hr h => ?_)
  · obtain ⟨W, v, d, many, rfl, _⟩ := h
    rfl
  · obtain ⟨W, v, d, many, rfl, hd, q⟩ := h
    have nd := sc_is_row.nd
    refine ⟨_, pss_cons (ps_if (PW.pt (pw_or (pt_not (pt_val (pe_callB call_isi (by rfl) B.isi boot_isinstance (pa_cons (pv 0) (pa_cons (pe_bltn (v := .ty "tuple") (by rfl) B.tuple boot_tuple rfl) pa_nil)))))
        (pw_or1 (pt_cmpR op_ne (pe_callB call_len_seq (by rfl) B.len PySem.boot_len (pa_cons (pv 0) pa_nil)) (pv 1) (nomark _))))) (pss_one (ps_ret pe_bl)) pss_nil)
      (pss_one (ps_ret (pe_callB (cr_all rfl) (by rfl) B.all boot_all (pa_cons (pe_lc (own := [("value", 2)]) (g := gName 2) (tt := tYes) (te := tCall sp_is_whole [] E0 (tCons (tVar 2) tNil)) rfl nd (pi_tup (pv 0)) (blkOk_by (N := ["thing", "many", "value"]) (sc := defScope s_is_row) (by decide +kernel))
          (fun _ _ _ _ _ => pg_name (i := 2) nd rfl (Or.inl rfl)) (fun _ _ _ _ _ => pts_nil)
          (fun _ _ _ _ _ => pe_call GW hr rfl T.whole.g T.whole.F.kp T.whole.b .nil pass0 (pa_cons (pv 2) pa_nil))) pa_nil)))), ?_⟩
    obtain ⟨t, h1, h2⟩ := hd.ty (K := K)
    refine ⟨_, rfl, _, _, _, _, _, rfl, .ty _, h1, kit_ty h2, _, rfl, ?_⟩
    rcases hd with ⟨a, ys, rfl, n, ha, hl, hy, rfl⟩ | ⟨rfl, _⟩
    · refine ⟨_, rfl, a, _, rfl, .inr (.of ha), _, rfl, rfl, _, rfl, ?_⟩
      by_cases hlen : ys.length = many
      · rw [decide_eq_true (show V.int (ys.length : Int) = V.int (many : Int) by rw [hlen])]
        refine ⟨_, rfl, a, rfl, ⟨_, .of ha⟩, fun L nL => ?_⟩
        refine lc_it (walk_tup (xs := ys)) (fun i h => h L = some (.lst (((ys.take i).map wholeV).map V.bl)) ∧ Same H h)
          ⟨upd_same, Same.new nL⟩ (fun i h _ ⟨_, s⟩ => .of (s _ _ ha)) ?_ ?_
        · rintro i x h h' hi ⟨e4, s4⟩ ⟨rfl, hx⟩
          refine ⟨rfl, ?_⟩
          refine ⟨_, rfl, W, _, rfl, (hy x (List.mem_of_getElem? hx)).kp (.of s4), ?_⟩
          refine ⟨_, e4, ?_, ?_, Same.mut s4 nL⟩
          · rw [List.length_map, List.length_map, List.length_take]
            exact line100' (by omega)
          · rw [upd_same, List.take_add_one, hx, List.map_append, List.map_append]
            rfl
        · rintro h ⟨e4, s4⟩
          rw [List.take_length] at e4
          refine ⟨L, ys.map wholeV, rfl, .of e4, ?_⟩
          have e : (ys.map wholeV).all id = okRow many (some ys) := by
            show _ = (decide (ys.length = many) && ys.all wholeV)
            rw [decide_eq_true hlen, Bool.true_and, List.all_map]
            rfl
          rw [e]
          exact q h s4
      · rw [decide_eq_false (show ¬ V.int (ys.length : Int) = V.int (many : Int) by intro z; injection z with z; omega)]
        have e : okRow many (some ys) = false := by
          show (decide (ys.length = many) && ys.all wholeV) = false
          rw [decide_eq_false hlen, Bool.false_and]
        have q' := q H same_rfl
        rw [e] at q'
        exact q'
    · exact q H same_rfl
theorem sc_are : FnScope ["thing", "name"] ["thing"] (defScope s_are) := ⟨rfl, rfl, rfl, by decide +kernel, rfl, by decide +kernel, by decide +kernel⟩
theorem ColsT.ty {K : PySem.W.Frag} {W : Addr} {H : Hp} {v : V} {b : Bool} (h : ColsT W H v b) : (∃ L xs, v = .ref L ∧ L ≠ W ∧ H L = some (.lst xs) ∧ xs.length ≤ 20 ∧ (∀ x ∈ xs, Lf W H x) ∧ b = colsV xs) ∨ (b = false ∧ ∃ t, TyX K H v (.type t) ∧ kitB t "list" = some false) := by
  rcases h with h | ⟨rfl, rfl | ⟨a, xs, rfl, n, h1⟩ | h⟩
  · exact .inl h
  · exact .inr ⟨rfl, _, .base .non, (show kitB "NoneType" "list" = some false by decide +kernel)⟩
  · exact .inr ⟨rfl, _, .base (.tup h1), (show kitB "tuple" "list" = some false by decide +kernel)⟩
  · cases h with
    | int i => exact .inr ⟨rfl, _, .base (.int i), (show kitB "int" "list" = some false by decide +kernel)⟩
    | str x => exact .inr ⟨rfl, _, .base (.str x), (show kitB "str" "list" = some false by decide +kernel)⟩
    | dK n h => exact .inr ⟨rfl, _, .base (.dK h), (show kitB "dict" "list" = some false by decide +kernel)⟩
def sp_are : Sp := fun vs H Q _ => ∃ (W : Addr) (v : V) (b : Bool), vs = [v] ∧ ColsT W H v b ∧ ∀ H', Same H H' → Q (.bl b) H'
theorem ok_are (T : Kt K mg fW fN fA fR fK fS dW dN dA dR dK dS) : FnOk P w K mg base CX0 2 fA dA ["thing"] sp_are := by
  have B := T.B
  have GN : FnOk P w K mg base CX0 1 fN dN ["thing"] sp_is_name := ok_is_name T.isn B T.C
  refine T.are.F.ok sc_are (fun vs H Q E h => ?_) (fun cdv A outer s H vs Q E hr h => ?_)
  · obtain ⟨W, v, b, rfl, _⟩ := h
    rfl
  · obtain ⟨W, v, b, rfl, hv, q⟩ := h
    obtain ⟨tl, hmo⟩ := T.C.most
    refine ⟨_, pss_cons (ps_if (PW.pt (pw_or (pt_not (pt_val (pe_callB call_isi (by rfl) B.isi boot_isinstance (pa_cons (pv 0) (pa_cons (pe_bltn (v := .ty "list") (by rfl) B.list boot_list rfl) pa_nil)))))
        (pw_or1 (pt_cmpR op_gt (pe_callB call_len_seq (by rfl) B.len PySem.boot_len (pa_cons (pv 0) pa_nil)) (pe_glob (v := .int 8) (by rfl) hmo ⟨_, rfl⟩) (nomark _))))) (pss_one (ps_ret pe_bl)) pss_nil)
      (pss_one (ps_ret (pe_and (pe_callB (cr_all rfl) (by rfl) B.all boot_all (pa_cons (pe_lc (own := [("name", 1)]) (g := gName 1) (tt := tYes) (te := tCall sp_is_name [] E0 (tCons (tVar 1) tNil)) rfl sc_are.nd (pi_list (pv 0))
            (blkOk_by (N := ["thing", "name"]) (sc := defScope s_are) (by decide +kernel)) (fun _ _ _ _ _ => pg_name (i := 1) sc_are.nd rfl (Or.inl rfl)) (fun _ _ _ _ _ => pts_nil)
            (fun _ _ _ _ _ => pe_call GN hr rfl T.isn.g T.isn.F.kp T.isn.b .nil pass0 (pa_cons (pv 1) pa_nil))) pa_nil))
        (pe_one (pe_cmpR op_eq (pe_lenD rfl (by rfl) B.len (by rfl) T.set (pv 0)) (pe_callB call_len_seq (by rfl) B.len PySem.boot_len (pa_cons (pv 0) pa_nil)) (nomark _)))))), ?_⟩
    rcases hv.ty (K := K) with ⟨L, xs, rfl, n, hL, hle, hxs, hb⟩ | ⟨rfl, t, h1, h2⟩
    · refine ⟨_, rfl, _, _, _, _, true, rfl, .ty _, .base (.lst hL), kit_ty (by decide +kernel), _, rfl, ?_⟩
      refine ⟨_, rfl, L, _, rfl, .inl (.of hL), _, _, rfl, rfl, _, rfl, ite2 (fun hf => ?_) (fun hf => ?_)⟩
      · have := of_decide_eq_true hf
        have hb' : b = false := by
          rw [hb]
          unfold colsV
          rw [decide_eq_false (by omega)]
          rfl
        exact hb' ▸ q H same_rfl
      have h8 : xs.length ≤ 8 := by
        have : ¬ (8 : Int) < (xs.length : Int) := fun z => hf (decide_eq_true z)
        omega
      dsimp only [tNext, tRet, tAndV, tCB, tCons, List.map]
      refine lc_all (K := K) (s := [some (.ref L), none]) (ti := tVar 0) (i := 1) (tt := tYes) (te := tCall sp_is_name [] E0 (tCons (tVar 1) tNil)) (l := L) (xs := xs) (g := fun v => V.bl (isNm v)) (p := fun _ => true) ⟨_, rfl, rfl, same_rfl⟩ mono_var (.of hL) (by omega) (fun v hv h5 s5 => et_yes) ?_ ?_
      · intro v hv _ h8 s8 h9 s9 Q6 q6
        exact ⟨_, rfl, W, v, rfl, (hxs v hv).kp (.of (s8.trans s9)), fun h10 s10 => q6 h10 s10⟩
      · intro La h8' s8 nLa eLa
        refine ⟨La, xs.map isNm, rfl, .of (by rw [eLa, filter_yes, List.map_map]; rfl), ?_⟩
        have eall : (xs.map isNm).all id = xs.all isNm := by rw [List.all_map]; rfl
        rw [eall]
        refine ⟨_, rfl, ?_⟩
        cases ha : xs.all isNm with
        | false =>
          have hb' : b = false := by
            rw [hb]
            unfold colsV
            rw [ha]
            simp
          rw [if_neg Bool.false_ne_true]
          exact hb' ▸ q h8' s8
        | true =>
          rw [if_pos rfl]
          obtain ⟨ns, rfl, ok⟩ := all_names ha
          rw [List.length_map] at h8 hle
          refine ⟨_, rfl, L, ns, rfl, .of (s8 _ _ hL), by omega, _, rfl, L, _, rfl, .inl (.of (s8 _ _ hL)), rfl, ?_⟩
          have e : decide (V.int (unl ns : Int) = V.int ((ns.map V.str).length : Int)) = b := by
            rw [hb]
            unfold colsV
            rw [ha, List.length_map, decide_eq_true h8, Bool.true_and, Bool.true_and]
            refine decide_eq_decide.mpr ?_
            rw [nd_strs, ← unl_eq]
            constructor
            · intro z
              injection z with z
              omega
            · intro z
              rw [z]
          rw [e]
          exact q h8' s8
    · exact ⟨_, rfl, _, _, _, _, false, rfl, .ty _, h1, kit_ty h2, _, rfl, q H same_rfl⟩
theorem sc_cc : FnScope ["columns"] ["columns"] (defScope s_cc) := ⟨rfl, rfl, rfl, by decide +kernel, rfl, by decide +kernel, by decide +kernel⟩
def sp_cc (Cn : Addr) : Sp := fun vs H Q E => ∃ (W : Addr) (v : V) (b : Bool), vs = [v] ∧ ColsT W H v b ∧ (b = false → ∀ H', Same H H' → E (.ref Cn) none H') ∧ (b = true → ∀ H', Same H H' → Q .non H')
theorem ok_cc {Cn : Addr} (T : Kt K mg fW fN fA fR fK fS dW dN dA dR dK dS) (N : Ec K mg "NoColumns" Cn) : FnOk P w K mg base (L2.CX P w) 3 fK dK ["columns"] (sp_cc Cn) := by
  have GA : FnOk P w K mg base CX0 2 fA dA ["thing"] sp_are := ok_are T
  refine T.chk.F.okX sc_cc (fun vs H Q E h => ?_) (fun cdv A outer s H vs Q E hr h => ?_)
  · obtain ⟨W, v, b, rfl, _⟩ := h
    rfl
  · obtain ⟨W, v, b, rfl, hv, q0, q1⟩ := h
    refine ⟨_, pss_one (ps_if (pt_not (pt_val (pe_call GA hr rfl T.are.g T.are.F.kp T.are.b .nil pass0 (pa_cons (pv 0) pa_nil)))) (pss_one (ps_raise rfl (takes_of rfl rfl rfl rfl) (pmk_own PySem.F.excBase_ValueError N.ex N.g N.k (raises_own N.b N.t) (by exact rfl)))) pss_nil), ?_⟩
    refine ⟨_, rfl, W, v, b, rfl, hv, fun H1 s1 => ⟨b, rfl, ?_⟩⟩
    cases b with
    | false => exact q0 rfl H1 s1
    | true => exact q1 rfl H1 s1
end
end T03

set_option maxHeartbeats 2000000
namespace T03
open PySem L2 PyProof.Rows TX TY TW TD TB TG TUD TE TK
def rTu (K : PySem.W.Frag) : List V → Hp → VK → Prop := fun xs H Q => ∃ p ys, xs = [.ref p] ∧ ((SqL K H p ys ∧ ∀ l, H l = none → Q (.ref l) (upd H l (.tup ys))) ∨ (SqT K H p ys ∧ Q (.ref p) H))
theorem call_tu {X : Cx} : CallR X (.type "tuple") (rTu X.K) := call_tuple_of
section
variable {P : Program} {w : World} {K : PySem.W.Frag} {mg : Str → Option Value} {base : Heap}
variable {fW fN fA fR fK fS : Addr} {dW dN dA dR dK dS : FuncData}
/-- columns and rows that are right, as the general words see them -/
theorem cols_ok {ns : List Str} (h : Cs ns) : colsV (ns.map V.str) = true := by
  unfold colsV
  rw [decide_eq_true (show (ns.map V.str).length ≤ 8 by rw [List.length_map]; exact h.le), decide_eq_true (nd_strs.mpr h.nd)]
  have : (ns.map V.str).all isNm = true := by
    rw [List.all_eq_true]
    intro v hv
    obtain ⟨n, hn, rfl⟩ := List.mem_map.mp hv
    exact (nameB_iff n).mpr (h.ok n hn)
  rw [this]
  rfl
theorem colsT_ok {H : Hp} {L : Addr} {ns : List Str} (h : Cs ns) (e : H L = some (.lst (ns.map V.str))) : ColsT (L + 1) H (.ref L) true :=
  .inl ⟨L, _, rfl, Nat.ne_of_lt (Nat.lt_succ_self L), e, by rw [List.length_map]; have := h.le; omega, fun v hv => by obtain ⟨n, hn, rfl⟩ := List.mem_map.mp hv; exact .str n (by have := (h.ok n hn).2.1; omega), (cols_ok h).symm⟩
theorem rowT_int {H : Hp} {a : Addr} {r : List Int} (h : H a = some (.tup (r.map V.int))) (hl : r.length ≤ 20) : RowT (a + 1) H (.ref a) (some (r.map V.int)) :=
  .inl ⟨a, _, rfl, Nat.ne_of_lt (Nat.lt_succ_self a), h, by rw [List.length_map]; exact hl, fun y hy => by obtain ⟨n, hn, rfl⟩ := List.mem_map.mp hy; exact .int n, rfl⟩
theorem okRow_int {n : Nat} {r : List Int} (h : r.length = n) : okRow n (some (r.map V.int)) = true := by
  show (decide ((r.map V.int).length = n) && (r.map V.int).all wholeV) = true
  rw [List.length_map, decide_eq_true h, Bool.true_and]
  exact whole_ints r
theorem sc_cc' : FnScope ["columns"] ["columns"] (defScope s_cc) := sc_cc
def sp_ccV : Sp := fun vs H Q _ => ∃ (L : Addr) (cs : List Str), vs = [.ref L] ∧ H L = some (.lst (cs.map V.str)) ∧ Cs cs ∧ ∀ H', Same H H' → Q .non H'
theorem ok_ccV (T : Kt K mg fW fN fA fR fK fS dW dN dA dR dK dS) : FnOk P w K mg base CX0 3 fK dK ["columns"] sp_ccV := by
  have GA : FnOk P w K mg base CX0 2 fA dA ["thing"] sp_are := ok_are T
  refine T.chk.F.ok sc_cc (fun vs H Q E h => ?_) (fun cdv A outer s H vs Q E hr h => ?_)
  · obtain ⟨L, cs, rfl, _⟩ := h
    rfl
  · obtain ⟨L, cs, rfl, hL, hc, q⟩ := h
    refine ⟨_, pss_one (ps_if (pt_not (pt_val (pe_call GA hr rfl T.are.g T.are.F.kp T.are.b .nil pass0 (pa_cons (pv 0) pa_nil)))) (pss_one ps_never) pss_nil), ?_⟩
    exact ⟨_, rfl, L + 1, _, true, rfl, colsT_ok hc hL, fun H1 s1 => ⟨true, rfl, q H1 s1⟩⟩
/-- rows, or nothing -/
def RowsV (H : Hp) (v : V) (as : List Addr) (rs : List (List Int)) : Prop := (v = .non ∧ as = [] ∧ rs = []) ∨ ∃ L, v = .ref L ∧ H L = some (.lst (as.map V.ref)) ∧ RowsAt H as rs
/-- rows that may be handed in -/
structure Rs (n : Nat) (rs : List (List Int)) : Prop where
  len : ∀ r ∈ rs, r.length = n
  few : rs.length ≤ 60
theorem sc_sorted : FnScope ["rows", "many", "at", "row"] ["rows", "many"] (defScope s_sorted) := ⟨rfl, rfl, rfl, by decide +kernel, rfl, by decide +kernel, by decide +kernel⟩
def sp_sorted : Sp := fun vs H Q _ => ∃ (v : V) (as : List Addr) (rs : List (List Int)) (many : Nat), vs = [v, .int many] ∧ RowsV H v as rs ∧ (∀ r ∈ rs, r.length = many) ∧ many ≤ 20 ∧ rs.length ≤ 60 ∧
  ∀ H' p as', Same H H' → H p = none → H' p = some (.lst (as'.map V.ref)) → RowsAt H' as' (norm rs) → Q (.ref p) H'
theorem ok_sorted (T : Kt K mg fW fN fA fR fK fS dW dN dA dR dK dS) : FnOk P w K mg base CX0 3 fS dS ["rows", "many"] sp_sorted := by
  have B := T.B
  have GR : FnOk P w K mg base CX0 2 fR dR ["thing", "many"] sp_is_row := ok_is_row T
  refine T.srt.F.ok sc_sorted (fun vs H Q E h => ?_) (fun cdv A outer s H vs Q E hr h => ?_)
  · obtain ⟨v, as, rs, many, rfl, _⟩ := h
    rfl
  · obtain ⟨v, as, rs, many, rfl, hv, hm, hm8, h60, q⟩ := h
    have hu := hu_of hr
    have nd := sc_sorted.nd
    refine ⟨_, pss_cons (ps_if (pt_cmp (pc_isN (pv 0))) (pss_one (ps_ret (pe_lst pa_nil))) pss_nil)
      (pss_cons (ps_if (pt_not (pt_val (pe_callB call_isi (by rfl) B.isi boot_isinstance (pa_cons (pv 0) (pa_cons (pe_bltn (v := .ty "list") (by rfl) B.list boot_list rfl) pa_nil))))) (pss_one ps_never) pss_nil)
      (pss_cons (ps_for PassesOwn.never rfl (pi_enum rfl B.enum (pa_cons (pv 0) pa_nil)) (pg_tup rfl (pgs_cons (pg_name (i := 2) nd rfl (Or.inl rfl)) (pgs_cons (pg_name (i := 3) nd rfl (Or.inl rfl)) pgs_nil)))
        (pss_one (ps_if (pt_not (pt_val (pe_call GR hr rfl T.row.g T.row.F.kp T.row.b .nil pass0 (pa_cons (pv 3) (pa_cons (pv 1) pa_nil))))) (pss_one ps_never) pss_nil)))
      (pss_one (ps_ret (pe_callB (cr_sortedS rfl) (by rfl) B.sorted boot_sorted (pa_cons (pe_scT (own := [("row", 3)]) (g := gName 3) (tt := tYes) (te := tCB (rTu K) (tCons (tVar 3) tNil)) hu rfl nd (pi_list (pv 0)) (blkOk_by (N := ["rows", "many", "at", "row"]) (sc := defScope s_sorted) (by decide +kernel))
          (fun _ _ _ _ _ => pg_name (i := 3) nd rfl (Or.inl rfl)) (fun _ _ _ _ _ => pts_nil) (fun _ _ _ _ _ => pe_callTy call_tu (by rfl) B.tuple boot_tuple (pa_cons (pv 3) pa_nil))) pa_nil)))))), ?_⟩
    rcases hv with ⟨rfl, rfl, rfl⟩ | ⟨L, rfl, hL, hR⟩
    · refine ⟨_, rfl, _, rfl, by show 0 ≤ sizeLine; decide, fun p np => ?_⟩
      exact q _ p [] (Same.new np) np upd_same .nil
    have hal := hR.len
    refine ⟨_, rfl, _, rfl, ?_⟩
    refine ⟨_, rfl, _, _, _, _, true, rfl, .ty _, .base (.lst hL), kit_ty (by decide +kernel), _, rfl, ?_⟩
    refine ⟨_, rfl, L, _, rfl, .of hL, ?_⟩
    refine for_it (walk_enum (xs := as.map V.ref)) (fun i σ h => ∃ v2 v3 : Option V, σ = [some (.ref L), some (.int many), v2, v3] ∧ Same H h)
      ⟨none, none, rfl, same_rfl⟩ (fun i σ h _ ⟨_, _, _, s⟩ => .of (s _ _ hL)) ?_ ?_
    · rintro i x σ h h' hi ⟨v2, v3, rfl, s1⟩ ⟨T', x1, x2, rfl, nT, rfl, hx1, hx2⟩
      rw [List.length_map] at hi
      obtain rfl : V.int (i : Int) = x1 := Option.some.inj hx1
      obtain ⟨a, ha, rfl⟩ : ∃ a, as[i]? = some a ∧ x2 = V.ref a := by
        have h2 : (as.map V.ref)[i]? = some x2 := hx2
        rw [List.getElem?_map, List.getElem?_eq_getElem hi] at h2
        exact ⟨_, List.getElem?_eq_getElem hi, (Option.some.inj h2).symm⟩
      obtain ⟨r, hr', hta⟩ := pr_at hR ha
      have sT : Same H (upd h T' (.tup [.int (i : Int), .ref a])) := s1.trans (Same.new nT)
      refine ⟨T', _, rfl, .of upd_same, rfl, _, _, rfl, _, _, rfl, rfl, ?_⟩
      generalize upd h T' (.tup [.int (i : Int), .ref a]) = h2 at sT ⊢
      refine ⟨_, rfl, _, rfl, a + 1, .ref a, some (r.map V.int), many, rfl, rowT_int (sT _ _ hta) (by rw [hm r (List.mem_of_getElem? hr')]; exact hm8), fun h3 s3 => ⟨_, rfl, ?_⟩⟩
      rw [okRow_int (hm r (List.mem_of_getElem? hr'))]
      exact ⟨_, _, rfl, sT.trans s3⟩
    · rintro σ h0 ⟨v2, v3, rfl, s0⟩
      have hL0 := s0 _ _ hL
      have hR0 := hR.same s0
      refine ⟨_, rfl, L, rfl, ⟨_, .of hL0⟩, fun D nD => ?_⟩
      obtain ⟨zs, hzs⟩ : ∃ zs, zs = as.zip rs := ⟨_, rfl⟩
      have zl : zs.length = as.length := by rw [hzs, List.length_zip]; omega
      have z1 := (zip_fst hal).1
      have z2 := (zip_fst hal).2
      rw [← hzs] at z1 z2
      have zr : ∀ p ∈ zs, h0 p.1 = some (.tup (p.2.map V.int)) := by rw [hzs]; exact pr_zip hR0
      refine sc_walk (K := K) (P := P) (w := w) (walk_list (xs := as.map V.ref)) (fun i h => ∃ Ls : List (Addr × List Int), h D = some (SetTO P w D Ls) ∧ (∀ p ∈ Ls, p ∈ zs.take i) ∧ (∀ p ∈ zs.take i, p.2 ∈ Ls.map (·.2)) ∧ Ls.length ≤ i ∧ Same h0 h)
        ⟨[], upd_same, (fun _ h => nomatch h), (fun _ h => by simp at h), Nat.le_refl _, Same.new nD⟩ (fun i h _ ⟨_, _, _, _, _, s⟩ => .of (s _ _ hL0)) ?_ ?_
      · rintro i x h h' hi ⟨Ls, e1, i1, i2, i3, s1⟩ ⟨rfl, hx⟩
        rw [List.length_map] at hi
        have hz : i < zs.length := by omega
        obtain ⟨pr, hpr⟩ : ∃ pr, zs[i]? = some pr := ⟨_, List.getElem?_eq_getElem hz⟩
        have hmem : pr ∈ zs := List.mem_of_getElem? hpr
        have hxa : x = V.ref pr.1 := by
          have e2 : as[i]? = some pr.1 := by rw [← z1, List.getElem?_map, hpr]; rfl
          rw [List.getElem?_map, e2] at hx
          exact (Option.some.inj hx).symm
        subst hxa
        have htk : zs.take (i + 1) = zs.take i ++ [pr] := by rw [List.take_add_one, hpr]; rfl
        have ea := s1 _ _ (zr pr hmem)
        refine ⟨rfl, ?_⟩
        refine ⟨_, rfl, pr.1, _, rfl, .inr ⟨.of ea, pr.1, pr.2, Ls, rfl, .of ea, e1, fun p hp => .of (s1 _ _ (zr p (List.mem_of_mem_take (i1 p hp)))), by omega, fun L' h1 h2 => ?_⟩⟩
        refine ⟨L', upd_same, ?_⟩
        by_cases hin : pr.2 ∈ Ls.map (·.2)
        · rw [h1 hin]
          refine ⟨fun p hp => by rw [htk]; exact List.mem_append_left _ (i1 p hp), fun p hp => ?_, by omega, Same.mut s1 nD⟩
          rw [htk] at hp
          rcases List.mem_append.mp hp with hp | hp
          · exact i2 p hp
          · rw [List.mem_singleton.mp hp]
            exact hin
        · have pm := h2 hin
          refine ⟨fun p hp => ?_, fun p hp => ?_, by rw [pm.length_eq, List.length_cons]; omega, Same.mut s1 nD⟩
          · rw [htk]
            rcases List.mem_cons.mp (pm.mem_iff.mp hp) with e | hp
            · rw [e]
              exact List.mem_append_right _ (List.mem_singleton.mpr rfl)
            · exact List.mem_append_left _ (i1 p hp)
          · rw [htk] at hp
            refine (pm.map (·.2)).mem_iff.mpr ?_
            rw [List.map_cons]
            rcases List.mem_append.mp hp with hp | hp
            · exact List.mem_cons_of_mem _ (i2 p hp)
            · rw [List.mem_singleton.mp hp]
              exact List.mem_cons_self
      · rintro h ⟨Ls, e1, i1, i2, i3, s1⟩
        rw [List.length_map, ← zl, List.take_length] at i1 i2
        have lsr : ∀ p ∈ Ls, h p.1 = some (.tup (p.2.map V.int)) := fun p hp => s1 _ _ (zr p (i1 p hp))
        have inr : ∀ p ∈ zs, p.2 ∈ rs := fun p hp => z2 ▸ List.mem_map.mpr ⟨p, hp, rfl⟩
        refine ⟨D, Ls, many, rfl, e1, fun p hp => .of (lsr p hp), fun p hp => hm _ (inr p (i1 p hp)), fun L' p pm ndL few pw np => ?_⟩
        have sp : Same h (upd h p (.lst (L'.map fun q => V.ref q.1))) := Same.new np
        refine q _ p (L'.map (·.1)) ((s0.trans s1).trans sp) ((s0.trans s1).free np) ?_ ?_
        · rw [upd_same, List.map_map]
          rfl
        · have en : L'.map (·.2) = norm rs := by
            refine norm_of (rise_of ndL (List.pairwise_map.mpr pw)) fun x => ?_
            constructor
            · intro hx
              obtain ⟨pq, hp, rfl⟩ := List.mem_map.mp hx
              exact inr _ (i1 _ (pm.mem_iff.mp hp))
            · intro hx
              rw [← z2] at hx
              obtain ⟨pq, hp, rfl⟩ := List.mem_map.mp hx
              exact (pm.map (·.2)).mem_iff.mpr (i2 pq hp)
          rw [← en]
          exact of_zip fun pq hp => sp _ _ (lsr pq (pm.mem_iff.mp hp))
theorem sc_binit : FnScope ["self", "columns", "rows"] ["self", "columns", "rows"] (defScope s_binit) := ⟨rfl, rfl, rfl, by decide +kernel, rfl, by decide +kernel, by decide +kernel⟩
def sp_binit (C : Addr) : Sp := fun vs H Q _ => ∃ (p L dx : Addr) (v : V) (cs : List Str) (as : List Addr) (rs : List (List Int)), vs = [.ref p, .ref L, v] ∧ H p = some (.ins C dx []) ∧ H L = some (.lst (cs.map V.str)) ∧ Cs cs ∧ RowsV H v as rs ∧ Rs cs.length rs ∧
  ∀ H', TabAt C H' p cs (norm rs) → (∀ b o, b ≠ p → H b = some o → H' b = some o) → Q .non H'
theorem ok_binit {C fi : Addr} {di : FuncData} (F : FunD K "__init__" "Table.__init__" (defArgs s_binit) (defBody s_binit) (defScope s_binit) [.non] [] fi di) (T : Kt K mg fW fN fA fR fK fS dW dN dA dR dK dS) (c : Bc K mg C) :
    FnOk P w K mg base CX0 4 fi di ["self", "columns", "rows"] (sp_binit C) := by
  have B := T.B
  have GK : FnOk P w K mg base CX0 3 fK dK ["columns"] sp_ccV := ok_ccV T
  have GS : FnOk P w K mg base CX0 3 fS dS ["rows", "many"] sp_sorted := ok_sorted T
  refine F.ok sc_binit (fun vs H Q E h => ?_) (fun cdv A outer s H vs Q E hr h => ?_)
  · obtain ⟨p, L, dx, v, cs, as, rs, rfl, _⟩ := h
    rfl
  · obtain ⟨p, L, dx, v, cs, as, rs, rfl, hp, hL, hc, hv, rok, q⟩ := h
    refine ⟨_, pss_cons (ps_expr (pe_call GK hr rfl T.chk.g T.chk.F.kp T.chk.b .nil pass0 (pa_cons (pv 1) pa_nil)))
      (pss_cons (ps_fld (pv 0) (pe_callTy call_list_of (by rfl) B.list boot_list (pa_cons (pv 1) pa_nil)) rfl)
      (pss_one (ps_fld (pv 0) (pe_call GS hr rfl T.srt.g T.srt.F.kp T.srt.b .nil pass0 (pa_cons (pv 2) (pa_cons (pe_callB call_len_seq (by rfl) B.len PySem.boot_len (pa_cons (pv 1) pa_nil)) pa_nil))) rfl))), ?_⟩
    refine ⟨_, rfl, L, cs, rfl, hL, hc, fun H1 s1 => ?_⟩
    refine ⟨_, rfl, L, _, rfl, .inl (.of (s1 _ _ hL)), fun l nl => ?_⟩
    have hp1 := s1 _ _ hp
    have pl : p ≠ l := ne_of_none hp1 nl
    have hL1 := s1 _ _ hL
    have pL : L ≠ p := fun z => by rw [z, hp1] at hL1; cases hL1
    refine ⟨_, rfl, p, C, dx, [], rfl, by rw [upd_ne pl]; exact hp1, c.cl, c.nC, by show 0 < 1000; decide, ?_⟩
    have keep : ∀ b o, b ≠ p → H b = some o → upd (upd H1 l (.lst (cs.map V.str))) p (.ins C dx (putF "_columns" (.ref l) [])) b = some o := fun b o hb e => by
      have e1 := s1 _ _ e
      rw [upd_ne hb, upd_ne (ne_of_none e1 nl)]
      exact e1
    have ep : upd (upd H1 l (.lst (cs.map V.str))) p (.ins C dx (putF "_columns" (.ref l) [])) p = some (.ins C dx (putF "_columns" (.ref l) [])) := upd_same
    have el : upd (upd H1 l (.lst (cs.map V.str))) p (.ins C dx (putF "_columns" (.ref l) [])) l = some (.lst (cs.map V.str)) := by rw [upd_ne pl.symm, upd_same]
    generalize upd (upd H1 l (.lst (cs.map V.str))) p (.ins C dx (putF "_columns" (.ref l) [])) = H2 at keep ep el ⊢
    have hv2 : RowsV H2 v as rs := by
      rcases hv with h | ⟨R, e1, e2, e3⟩
      · exact .inl h
      · exact .inr ⟨R, e1, keep R _ (fun z => by rw [z, hp] at e2; cases e2) e2, Paired.mapP e3 fun a r e => keep a _ (fun z => by rw [z, hp] at e; cases e) e⟩
    refine ⟨_, rfl, _, rfl, L, _, rfl, .inl (.of (keep _ _ pL hL)), v, as, rs, cs.length, ?_, hv2, rok.len, by have := hc.le; omega, rok.few, fun H3 r as' s3 nr er hr' => ?_⟩
    · rw [List.length_map]
      rfl
    refine ⟨_, rfl, p, C, dx, _, rfl, s3 _ _ ep, c.cl, c.nR, by show 1 < 1000; decide, ?_⟩
    have el3 := s3 _ _ el
    have lp : l ≠ p := pl.symm
    have rp : r ≠ p := fun z => by rw [z, ep] at nr; cases nr
    refine q _ ⟨dx, l, r, as', upd_same, by rw [upd_ne lp]; exact el3, by rw [upd_ne rp]; exact er, ?_⟩ fun b o hb e => by rw [upd_ne hb]; exact s3 _ _ (keep b o hb e)
    exact Paired.mapP hr' fun a r' e => by rw [upd_ne (fun z => by rw [z, s3 _ _ ep] at e; cases e)]; exact e
theorem sc_bcolumns : FnScope ["self"] ["self"] (defScope s_bcolumns) := ⟨rfl, rfl, rfl, by decide +kernel, rfl, by decide +kernel, by decide +kernel⟩
def sp_bcolumns (C : Addr) : Sp := fun vs H Q _ => ∃ (p : Addr) (cs : List Str) (rs : List (List Int)), vs = [.ref p] ∧ TabAt C H p cs rs ∧ ∀ H' L, Same H H' → H L = none → H' L = some (.lst (cs.map V.str)) → Q (.ref L) H'
theorem ok_bcolumns {C f : Addr} {fd : FuncData} (F : Fun K "columns" "Table.columns" s_bcolumns f fd) (B : Bn mg) (c : Bc K mg C) : FnOk P w K mg base CX0 1 f fd ["self"] (sp_bcolumns C) := by
  refine F.ok sc_bcolumns (fun vs H Q E h => ?_) (fun cdv A outer s H vs Q E hr h => ?_)
  · obtain ⟨p, cs, rs, rfl, _⟩ := h
    rfl
  · obtain ⟨p, cs, rs, rfl, ⟨dx, l, r, as, h1, h2, h3, h4⟩, q⟩ := h
    refine ⟨_, pss_one (ps_ret (pe_callTy call_list_of (by rfl) B.list boot_list (pa_cons (pe_fld (pv 0) rfl) pa_nil))), ?_⟩
    exact ⟨_, rfl, p, C, dx, _, _, rfl, h1, c.cl, c.nC, bflds_col _ _, l, _, rfl, .inl (.of h2), fun L nL => q _ L (Same.new nL) nL upd_same⟩
theorem sc_brows : FnScope ["self"] ["self"] (defScope s_brows) := ⟨rfl, rfl, rfl, by decide +kernel, rfl, by decide +kernel, by decide +kernel⟩
def sp_brows (C : Addr) : Sp := fun vs H Q _ => ∃ (p : Addr) (cs : List Str) (rs : List (List Int)), vs = [.ref p] ∧ TabAt C H p cs rs ∧ ∀ H' L as, Same H H' → H L = none → H' L = some (.lst (as.map V.ref)) → RowsAt H' as rs → Q (.ref L) H'
theorem ok_brows {C f : Addr} {fd : FuncData} (F : Fun K "rows" "Table.rows" s_brows f fd) (B : Bn mg) (c : Bc K mg C) : FnOk P w K mg base CX0 1 f fd ["self"] (sp_brows C) := by
  refine F.ok sc_brows (fun vs H Q E h => ?_) (fun cdv A outer s H vs Q E hr h => ?_)
  · obtain ⟨p, cs, rs, rfl, _⟩ := h
    rfl
  · obtain ⟨p, cs, rs, rfl, ⟨dx, l, r, as, h1, h2, h3, h4⟩, q⟩ := h
    refine ⟨_, pss_one (ps_ret (pe_callTy call_list_of (by rfl) B.list boot_list (pa_cons (pe_fld (pv 0) rfl) pa_nil))), ?_⟩
    exact ⟨_, rfl, p, C, dx, _, _, rfl, h1, c.cl, c.nR, bflds_rows _ _, r, _, rfl, .inl (.of h3), fun L nL => q _ L as (Same.new nL) nL upd_same (h4.same (Same.new nL))⟩
theorem sc_blen : FnScope ["self"] ["self"] (defScope s_blen) := ⟨rfl, rfl, rfl, by decide +kernel, rfl, by decide +kernel, by decide +kernel⟩
def sp_blen (C : Addr) : Sp := fun vs H Q _ => ∃ (p : Addr) (cs : List Str) (rs : List (List Int)), vs = [.ref p] ∧ TabAt C H p cs rs ∧ Q (.int rs.length) H
theorem ok_blen {C f : Addr} {fd : FuncData} (F : Fun K "__len__" "Table.__len__" s_blen f fd) (B : Bn mg) (c : Bc K mg C) : FnOk P w K mg base CX0 1 f fd ["self"] (sp_blen C) := by
  refine F.ok sc_blen (fun vs H Q E h => ?_) (fun cdv A outer s H vs Q E hr h => ?_)
  · obtain ⟨p, cs, rs, rfl, _⟩ := h
    rfl
  · obtain ⟨p, cs, rs, rfl, ⟨dx, l, r, as, h1, h2, h3, h4⟩, q⟩ := h
    refine ⟨_, pss_one (ps_ret (pe_callB call_len_seq (by rfl) B.len PySem.boot_len (pa_cons (pe_fld (pv 0) rfl) pa_nil))), ?_⟩
    refine ⟨_, rfl, p, C, dx, _, _, rfl, h1, c.cl, c.nR, bflds_rows _ _, r, _, rfl, .inl (.of h3), ?_⟩
    rw [List.length_map, h4.len]
    exact q
theorem sc_beq : FnScope ["self", "other"] ["self", "other"] (defScope s_beq) := ⟨rfl, rfl, rfl, by decide +kernel, rfl, by decide +kernel, by decide +kernel⟩
def sp_beq (C : Addr) : Sp := fun vs H Q _ => ∃ (a b : Addr) (cs cs' : List Str) (rs rs' : List (List Int)), vs = [.ref a, .ref b] ∧ TabAt C H a cs rs ∧ TabAt C H b cs' rs' ∧ (∀ x ∈ cs, TM.NameOk x) ∧ (∀ x ∈ cs', TM.NameOk x) ∧ ∀ H', Same H H' → Q (.bl (decide (cs = cs') && decide (rs = rs'))) H'
theorem ok_beq {C f : Addr} {fd : FuncData} (F : Fun K "__eq__" "Table.__eq__" s_beq f fd) (B : Bn mg) (c : Bc K mg C) : FnOk P w K mg base CX0 1 f fd ["self", "other"] (sp_beq C) := by
  refine F.ok sc_beq (fun vs H Q E h => ?_) (fun cdv A outer s H vs Q E hr h => ?_)
  · obtain ⟨a, b, cs, cs', rs, rs', rfl, _⟩ := h
    rfl
  · obtain ⟨a, b, cs, cs', rs, rs', rfl, ⟨dx, l, r, as, h1, h2, h3, h4⟩, ⟨dx', l', r', as', h1', h2', h3', h4'⟩, ok, ok', q⟩ := h
    have hu64 := hr.units
    refine ⟨_, pss_one (ps_ret (pe_and (pe_callB call_isi (by rfl) B.isi boot_isinstance (pa_cons (pv 1) (pa_cons (pe_glob (v := .ref C) (by rfl) c.g rfl) pa_nil)))
      (pe_and (pe_cmpR (op_eqD hu64) (pe_fld (pv 0) rfl) (pe_fld (pv 1) rfl) (nomark _)) (pe_one (pe_cmpR (op_eqD hu64) (pe_fld (pv 0) rfl) (pe_fld (pv 1) rfl) (nomark _)))))), ?_⟩
    refine ⟨_, rfl, _, _, _, _, true, rfl, .own C, .base (.ins h1' c.cl c.ins.ha c.ins.hn c.ins.htk c.ins.hm), c.ins.me, true, rfl, ?_⟩
    refine ⟨_, rfl, a, C, dx, _, _, rfl, h1, c.cl, c.nC, bflds_col _ _, _, rfl, b, C, dx', _, _, rfl, h1', c.cl, c.nC, bflds_col _ _, _, _, DpS h2, DpS h2', shS ok, shS ok', _, rfl, ?_⟩
    rw [eqv_dS]
    by_cases hn : cs = cs'
    · rw [decide_eq_true hn]
      refine ⟨_, rfl, a, C, dx, _, _, rfl, h1, c.cl, c.nR, bflds_rows _ _, _, rfl, b, C, dx', _, _, rfl, h1', c.cl, c.nR, bflds_rows _ _, _, _, DpRows h3 h4, DpRows h3' h4', shRows rs, shRows rs', ?_⟩
      rw [eqv_dR]
      have := q H same_rfl
      rwa [decide_eq_true hn, Bool.true_and] at this
    · rw [decide_eq_false hn]
      have := q H same_rfl
      rwa [decide_eq_false hn, Bool.false_and] at this
end
end T03

set_option maxHeartbeats 1000000
/-! Tuples of the same items, and lists of such, compared: of whatever kind the items are. -/
namespace TEQ
open PySem L2 PyProof.Rows TX TY
theorem vals_at {xs : List V} {us : List Value} (r : Vals xs us) {j : Nat} (h : j < us.toArray.size) : ∃ x, xs[j]? = some x ∧ RelV x us.toArray[j] := by
  have hu : j < us.length := by simpa using h
  have hx : j < xs.length := by rw [r.length]; exact hu
  obtain ⟨u, e, k⟩ := r.get (List.getElem?_eq_getElem hx)
  refine ⟨xs[j], List.getElem?_eq_getElem hx, ?_⟩
  rw [List.getElem?_eq_getElem hu] at e
  have : us.toArray[j] = u := by simpa using Option.some.inj e
  rw [this]
  exact k
section
variable {X : Cx} {pins : List (Addr × Obj)} {σ : L2.St} {H : Hp} {s : Shared}
/-- two tuples of the same items are equal -/
theorem rc_tups {A : Around} {a b : Addr} {xs : List V} (I : Inv X pins σ H s) (ha : SqT X.K H a xs) (hb : SqT X.K H b xs) (hi : xs.all itemV = true) (hu : A.units < cLine) : SeqAt.RcAt A s (.ref a) (.ref b) true := by
  obtain ⟨us, r1, t1, _⟩ := I.tuple ha
  obtain ⟨vs, r2, t2, _⟩ := I.tuple hb
  have sz : us.toArray.size = vs.toArray.size := by rw [List.size_toArray, List.size_toArray, ← r1.length, ← r2.length]
  have z := SeqAt.RcAt.tuples (A := A) (e := fun _ => true) t1 t2 hu fun j h1 h2 => by
    obtain ⟨x, e1, k1⟩ := vals_at r1 h1
    obtain ⟨y, e2, k2⟩ := vals_at r2 h2
    rw [e1] at e2
    cases e2
    exact eqAt_item k1 k2 (List.all_eq_true.mp hi _ (List.mem_of_getElem? e1))
  have e : ((List.range (min us.toArray.size vs.toArray.size)).all (fun _ => true) && us.toArray.size == vs.toArray.size) = true := by rw [sz]; simp
  rw [e] at z
  exact z
theorem eq_tups {A : Around} {a b : Addr} {xs : List V} (I : Inv X pins σ H s) (ha : SqT X.K H a xs) (hb : SqT X.K H b xs) (hi : xs.all itemV = true) (hu : A.units < cLine) : SeqAt.EqAt A s (.ref a) (.ref b) true := by
  by_cases h : a = b
  · rw [h]
    exact SeqAt.EqAt.same _
  · exact SeqAt.EqAt.of_refs h (rc_tups I ha hb hi hu)
/-- tuple == tuple, of the same items -/
def rEqTup (K : PySem.W.Frag) : R2 := fun x y H Q => ∃ a b xs, x = .ref a ∧ y = .ref b ∧ SqT K H a xs ∧ SqT K H b xs ∧ xs.all itemV = true ∧ Q (.bl true) H
theorem op_eqTup (hu : X.A.units < cLine) : OpR X (compareOp .Eq) (rEqTup X.K) := by
  intro pins s σ H x y v u Q I rx ry h
  obtain ⟨a, b, xs, rfl, rfl, ha, hb, hi, q⟩ := h
  cases rx
  cases ry
  exact rc_tups I ha hb hi hu X.prog X.w X.xe _ ⟨.bl true, H, I, rfl, q⟩
/-- lists of tuples, each of the same items as the other's: != is False -/
def rNeTups (K : PySem.W.Frag) : R2 := fun x y H Q => ∃ (a b : Addr) (as bs : List Addr), x = .ref a ∧ y = .ref b ∧ SqL K H a (as.map V.ref) ∧ SqL K H b (bs.map V.ref) ∧ as.length = bs.length ∧
  (∀ (i : Nat) (p q : Addr), as[i]? = some p → bs[i]? = some q → ∃ xs, SqT K H p xs ∧ SqT K H q xs ∧ xs.all itemV = true) ∧ Q (.bl false) H
theorem op_neTups (hu : X.A.units + 1 < cLine) : OpR X (compareOp .NotEq) (rNeTups X.K) := by
  intro pins s σ H x y v u Q I rx ry h
  obtain ⟨a, b, as, bs, rfl, rfl, ha, hb, hl, each, q⟩ := h
  cases rx
  cases ry
  obtain ⟨us, r1, t1, _⟩ := I.list ha
  obtain ⟨vs, r2, t2, _⟩ := I.list hb
  have sz : us.toArray.size = vs.toArray.size := by
    rw [List.size_toArray, List.size_toArray, ← r1.length, ← r2.length, List.length_map, List.length_map, hl]
  have z := SeqAt.RcNeAt.lists (A := X.A) (e := fun _ => true) t1.isList t2.isList sz (by omega) fun j h1 h2 => by
    obtain ⟨x, e1, k1⟩ := vals_at r1 h1
    obtain ⟨y, e2, k2⟩ := vals_at r2 h2
    rw [List.getElem?_map] at e1 e2
    cases ep : as[j]? with
    | none => rw [ep] at e1; cases e1
    | some p =>
      cases eq : bs[j]? with
      | none => rw [eq] at e2; cases e2
      | some p2 =>
        rw [ep] at e1
        rw [eq] at e2
        cases e1
        cases e2
        have g1 : us.toArray[j] = Value.ref p := k1
        have g2 : vs.toArray[j] = Value.ref p2 := k2
        rw [g1, g2]
        obtain ⟨xs, s1, s2, hi⟩ := each j p p2 ep eq
        exact eq_tups I s1 s2 hi hu
  have e : (List.range us.toArray.size).all (fun _ => true) = true := by simp
  rw [e] at z
  exact z X.prog X.w X.xe _ ⟨.bl false, H, I, rfl, q⟩
end
end TEQ

set_option maxHeartbeats 2000000
namespace T03
open PySem L2 PyProof.Rows TX TY TW TD TB TG TUD TE TK
section
variable {P : Program} {w : World} {K : PySem.W.Frag} {mg : Str → Option Value} {base : Heap}
variable {fW fN fA fR fK fS : Addr} {dW dN dA dR dK dS : FuncData}
abbrev NtR (K : PySem.W.Frag) (mg : Str → Option Value) (C fi : Addr) (di : FuncData) := Nt K mg "NoRow" "at" "NoRow.__init__" s_norow C fi di
theorem sc_norow : FnScope ["self", "at"] ["self", "at"] (defScope s_norow) := ⟨rfl, rfl, rfl, by decide +kernel, rfl, by decide +kernel, by decide +kernel⟩
theorem ok_norow {Ct fi : Addr} {di : FuncData} (N : NtR K mg Ct fi di) : FnOk P w K mg base CX0 1 fi di ["self", "at"] (sp_efld Ct "at") := by
  refine N.F.ok sc_norow (fun vs H Q E h => ?_) (fun cdv A outer s H vs Q E hr h => ?_)
  · obtain ⟨a, v, rfl, _⟩ := h
    rfl
  · obtain ⟨a, v, rfl, ha, q⟩ := h
    refine ⟨_, pss_one (ps_ost (pv 0) (pv 1)), ?_⟩
    refine ⟨_, rfl, _, rfl, a, Ct, rfl, N.T, N.no, .inl ⟨ha, fun dx h1 h2 => q dx h1 h2⟩⟩
/-- the class of tables with what is called of it -/
structure Bd (K : PySem.W.Frag) (mg : Str → Option Value) (C fI hc hr hl he hk hh hw ho Cr fr : Addr) (dI gc gr gl ge gk gh gw go dr : FuncData) : Prop where
  c : Bc K mg C
  iF : FunD K "__init__" "Table.__init__" (defArgs s_binit) (defBody s_binit) (defScope s_binit) [.non] [] fI dI
  iM : Mk K C fI
  iB : Binds K dI ["self", "columns", "rows"] []
  iB1 : ∃ ds, Vals [.non] ds ∧ Binds K dI ["self", "columns", "rows"] ds
  cols : Mt K C "columns" "Table.columns" s_bcolumns ["self"] hc gc
  rows : Mt K C "rows" "Table.rows" s_brows ["self"] hr gr
  len : Mt K C "__len__" "Table.__len__" s_blen ["self"] hl gl
  eq : Mt K C "__eq__" "Table.__eq__" s_beq ["self", "other"] he ge
  chk : Mt K C "_check_row" "Table._check_row" s_bcheck ["self", "row"] hk gk
  has : Mt K C "has" "Table.has" s_bhas ["self", "row"] hh gh
  wit : Mt K C "with_row" "Table.with_row" s_bwith ["self", "row"] hw gw
  wout : Mt K C "without_row" "Table.without_row" s_bwout ["self", "row"] ho go
  woK : KBn K go ["self", "row"] 1 ["row"] (fun us ws => us ++ ws) (fun vs zs => vs ++ zs)
  ne : PySem.W.findIn K (.ref C) "__ne__" = some (some (.builtin "object.__ne__"))
  ns : PySem.W.notFirst K C (.ref C) = true
  er : NtR K mg Cr fr dr
variable {C fI hc hr hl he hk hh hw ho Cr fr : Addr} {dI gc gr gl ge gk gh gw go dr : FuncData}
theorem nocols (l r : Addr) : (bflds l r).lookup ("columns" : Str) = none := bflds_no l r (by decide +kernel) (by decide +kernel)
theorem norows (l r : Addr) : (bflds l r).lookup ("rows" : Str) = none := bflds_no l r (by decide +kernel) (by decide +kernel)
theorem nochk (l r : Addr) : (bflds l r).lookup ("_check_row" : Str) = none := bflds_no l r (by decide +kernel) (by decide +kernel)
theorem nohas (l r : Addr) : (bflds l r).lookup ("has" : Str) = none := bflds_no l r (by decide +kernel) (by decide +kernel)
theorem nowit (l r : Addr) : (bflds l r).lookup ("with_row" : Str) = none := bflds_no l r (by decide +kernel) (by decide +kernel)
theorem nowout (l r : Addr) : (bflds l r).lookup ("without_row" : Str) = none := bflds_no l r (by decide +kernel) (by decide +kernel)
/-- refused -/
def Bar (Cr : Addr) (H : Hp) (E : XK) : Prop := ∀ H' d, Same H H' → H' d = some (.xd [("at", .int 0)]) → E (.ref Cr) (some d) H'
theorem Bar.same {H H' : Hp} {E : XK} (h : Bar Cr H E) (s : Same H H') : Bar Cr H' E := fun H2 d s2 e => h H2 d (s.trans s2) e
theorem sc_check : FnScope ["self", "row"] ["self", "row"] (defScope s_bcheck) := ⟨rfl, rfl, rfl, by decide +kernel, rfl, by decide +kernel, by decide +kernel⟩
def sp_check (C Cr : Addr) : Sp := fun vs H Q E => ∃ (t W : Addr) (v : V) (d : Option (List V)) (cs : List Str) (rs : List (List Int)), vs = [.ref t, v] ∧ TabAt C H t cs rs ∧ RowT W H v d ∧ (okRow cs.length d = false → Bar Cr H E) ∧ (okRow cs.length d = true → ∀ H', Same H H' → Q .non H')
theorem ok_check (T : Kt K mg fW fN fA fR fK fS dW dN dA dR dK dS) (D : Bd K mg C fI hc hr hl he hk hh hw ho Cr fr dI gc gr gl ge gk gh gw go dr) : FnOk P w K mg base (L2.CX P w) 3 hk gk ["self", "row"] (sp_check C Cr) := by
  have B := T.B
  have c := D.c
  have GR : FnOk P w K mg base CX0 2 fR dR ["thing", "many"] sp_is_row := ok_is_row T
  have GN : FnOk P w K mg base CX0 1 fr dr ["self", "at"] (sp_efld Cr "at") := ok_norow D.er
  refine D.chk.F.okX sc_check (fun vs H Q E h => ?_) (fun cdv A outer s H vs Q E hr h => ?_)
  · obtain ⟨t, W, v, d, cs, rs, rfl, _⟩ := h
    rfl
  · obtain ⟨t, W, v, d, cs, rs, rfl, tb, hd, q0, q1⟩ := h
    have r2 : Room 2 _ := hr.mono (by decide)
    refine ⟨_, pss_one (ps_if (pt_not (pt_val (pe_call GR r2 rfl T.row.g T.row.F.kp T.row.b .nil pass0 (pa_cons (pv 1) (pa_cons (pe_callB call_len_seq (by rfl) B.len PySem.boot_len (pa_cons (pe_fld (pv 0) rfl) pa_nil)) pa_nil)))))
      (pss_one (ps_raise rfl (takes_of rfl rfl rfl rfl) (pmk_oex D.er.T D.er.i D.er.t GN r2 D.er.b .nil pass0 rfl D.er.g (pa_cons pe_int pa_nil)))) pss_nil), ?_⟩
    obtain ⟨dx, l, r, as, h1, h2, h3, h4⟩ := id tb
    refine ⟨_, rfl, _, rfl, t, C, dx, _, _, rfl, h1, c.cl, c.nC, bflds_col _ _, l, _, rfl, .inl (.of h2), W, v, d, cs.length, ?_, hd, fun H1 s1 => ⟨_, rfl, ?_⟩⟩
    · rw [List.length_map]
      rfl
    cases hb : okRow cs.length d with
    | false =>
      refine ⟨by show 1 ≤ 1000; decide, ?_⟩
      exact rd_efld fun H' d' s' e => q0 hb H' d' (s1.trans s') e
    | true => exact q1 hb H1 s1
theorem u65 {k : Nat} {A : Around} (r : Room k A) : A.units + 65 < cLine := by
  have := r.un
  omega
theorem sc_has : FnScope ["self", "row"] ["self", "row"] (defScope s_bhas) := ⟨rfl, rfl, rfl, by decide +kernel, rfl, by decide +kernel, by decide +kernel⟩
/-- a row that is right, where it stands -/
theorem row_right {W : Addr} {H : Hp} {v : V} {d : Option (List V)} {n : Nat} (h : RowT W H v d) (k : okRow n d = true) : ∃ (a : Addr) (r : List Int), v = .ref a ∧ d = some (r.map V.int) ∧ H a = some (.tup (r.map V.int)) ∧ r.length = n := by
  rcases h with ⟨a, ys, rfl, _, h1, _, _, rfl⟩ | ⟨rfl, _⟩
  · unfold okRow at k
    rw [Bool.and_eq_true, decide_eq_true_iff] at k
    obtain ⟨r, rfl⟩ := whole_vals k.2
    exact ⟨a, r, rfl, rfl, h1, by rw [← k.1, List.length_map]⟩
  · cases k
theorem any_row (rs : List (List Int)) (r : List Int) : ((rs.map fun q => PyData.tuple ((q.map V.int).map dV)).any fun z => PyData.eqv z (.tuple ((r.map V.int).map dV))) = decide (r ∈ rs) := by
  induction rs with
  | nil => rfl
  | cons q rs ih =>
    rw [List.map_cons, List.any_cons, ih, eqv_row]
    by_cases h : q = r
    · subst h
      simp
    · rw [decide_eq_false h, Bool.false_or]
      have : r ∈ q :: rs ↔ r ∈ rs := by
        rw [List.mem_cons]
        exact ⟨fun z => z.elim (fun e => absurd e.symm h) id, .inr⟩
      exact (decide_eq_decide.mpr this).symm
theorem sh_row (r : List Int) : SeqAt.shaped (.tuple ((r.map V.int).map dV)) = true := shaped_of (can_tup (whole_ints r)) (by rw [dep_tup]; decide)
/-- a method that looks the row over first -/
def sp_has (C Cr : Addr) : Sp := fun vs H Q E => ∃ (t W : Addr) (v : V) (d : Option (List V)) (cs : List Str) (rs : List (List Int)), vs = [.ref t, v] ∧ TabAt C H t cs rs ∧ RowT W H v d ∧ (okRow cs.length d = false → Bar Cr H E) ∧ (∀ r : List Int, okRow cs.length d = true → d = some (r.map V.int) → ∀ H', Same H H' → Q (.bl (decide (r ∈ rs))) H')
theorem ok_has (T : Kt K mg fW fN fA fR fK fS dW dN dA dR dK dS) (D : Bd K mg C fI hc hr hl he hk hh hw ho Cr fr dI gc gr gl ge gk gh gw go dr) : FnOk P w K mg base (L2.CX P w) 4 hh gh ["self", "row"] (sp_has C Cr) := by
  have c := D.c
  have GK : FnOk P w K mg base (L2.CX P w) 3 hk gk ["self", "row"] (sp_check C Cr) := ok_check T D
  refine D.has.F.okX sc_has (fun vs H Q E h => ?_) (fun cdv A outer s H vs Q E hr h => ?_)
  · obtain ⟨t, W, v, d, cs, rs, rfl, _⟩ := h
    rfl
  · obtain ⟨t, W, v, d, cs, rs, rfl, tb, hd, q0, q1⟩ := h
    have hu65 := u65 hr
    refine ⟨_, pss_cons (ps_expr (pe_methE (pv 0) c.cl D.chk.me GK hr D.chk.b (fun σ => passAt (takes_of rfl rfl rfl rfl) σ) (pa_cons (pv 1) pa_nil)))
      (pss_one (ps_ret (pe_cmpR (op_inD hu65) (pv 1) (pe_fld (pv 0) rfl) rfl))), ?_⟩
    obtain ⟨dx, l, r, as, h1, h2, h3, h4⟩ := id tb
    refine ⟨_, rfl, t, dx, _, rfl, h1, nochk _ _, _, rfl, t, W, v, d, cs, rs, rfl, tb, hd, fun hb => q0 hb, fun hb H1 s1 => ?_⟩
    obtain ⟨a, r', rfl, rfl, ha, hl'⟩ := row_right hd hb
    refine ⟨_, rfl, _, rfl, t, C, dx, _, _, rfl, s1 _ _ h1, c.cl, c.nR, bflds_rows _ _, _, _, DpRow (s1 _ _ ha), DpRows (s1 _ _ h3) (h4.same s1), sh_row _, shRows rs, ?_⟩
    rw [any_row]
    exact q1 r' hb rfl H1 s1
theorem norm_add {rs : List (List Int)} {r : List Int} (h : Rise rs) (k : r ∈ rs) : norm (rs ++ [r]) = rs := by
  refine (norm_of h fun x => ?_).symm
  rw [List.mem_append, List.mem_singleton]
  exact ⟨.inl, fun z => z.elim id fun e => e ▸ k⟩
/-- without a row -/
def outR (r : List Int) (rs : List (List Int)) : List (List Int) := rs.filter fun q => !decide (q = r)
theorem out_no {rs : List (List Int)} {r : List Int} (k : r ∉ rs) : outR r rs = rs := by
  unfold outR
  rw [List.filter_eq_self]
  intro q hq
  have : ¬ q = r := fun e => k (by rw [← e]; exact hq)
  rw [decide_eq_false this]
  rfl
theorem sc_with : FnScope ["self", "row"] ["self", "row"] (defScope s_bwith) := ⟨rfl, rfl, rfl, by decide +kernel, rfl, by decide +kernel, by decide +kernel⟩
/-- a table, with what is known of it -/
structure Tb (C : Addr) (H : Hp) (t : Addr) (cs : List Str) (rs : List (List Int)) : Prop where
  at_ : TabAt C H t cs rs
  cok : Cs cs
  len : ∀ r ∈ rs, r.length = cs.length
  few : rs.length ≤ 50
  rise : Rise rs
theorem Tb.same {H H' : Hp} {t : Addr} {cs : List Str} {rs : List (List Int)} (h : Tb C H t cs rs) (s : Same H H') : Tb C H' t cs rs := ⟨h.at_.same s, h.cok, h.len, h.few, h.rise⟩
def sp_put (C Cr : Addr) (f : List Int → List (List Int) → List (List Int)) : Sp := fun vs H Q E => ∃ (t W : Addr) (v : V) (d : Option (List V)) (cs : List Str) (rs : List (List Int)), vs = [.ref t, v] ∧ Tb C H t cs rs ∧ RowT W H v d ∧ (okRow cs.length d = false → Bar Cr H E) ∧
  (∀ r : List Int, okRow cs.length d = true → d = some (r.map V.int) → ∀ H' p, Same H H' → TabAt C H' p cs (f r rs) → Q (.ref p) H')
def addR (r : List Int) (rs : List (List Int)) : List (List Int) := norm (rs ++ [r])
theorem ok_with (T : Kt K mg fW fN fA fR fK fS dW dN dA dR dK dS) (D : Bd K mg C fI hc hr hl he hk hh hw ho Cr fr dI gc gr gl ge gk gh gw go dr) : FnOk P w K mg base (L2.CX P w) 6 hw gw ["self", "row"] (sp_put C Cr addR) := by
  have c := D.c
  have GH : FnOk P w K mg base (L2.CX P w) 4 hh gh ["self", "row"] (sp_has C Cr) := ok_has T D
  have GI : FnOk P w K mg base CX0 4 fI dI ["self", "columns", "rows"] (sp_binit C) := ok_binit D.iF T c
  refine D.wit.F.okX sc_with (fun vs H Q E h => ?_) (fun cdv A outer s H vs Q E hr h => ?_)
  · obtain ⟨t, W, v, d, cs, rs, rfl, _⟩ := h
    rfl
  · obtain ⟨t, W, v, d, cs, rs, rfl, tb, hd, q0, q1⟩ := h
    have r4 : Room 4 _ := hr.mono (by decide)
    refine ⟨_, pss_cons (ps_if (pt_val (pe_methE (pv 0) c.cl D.has.me GH r4 D.has.b (fun σ => passAt (takes_of rfl rfl rfl rfl) σ) (pa_cons (pv 1) pa_nil))) (pss_one (ps_ret (pv 0))) pss_nil)
      (pss_one (ps_ret (pe_make D.iM GI hr rfl c.g D.iB .nil pass0 (pa_cons (pe_fld (pv 0) rfl) (pa_cons (pe_op op_cat (pe_fld (pv 0) rfl) (pe_lst (pa_cons (pv 1) pa_nil))) pa_nil))))), ?_⟩
    obtain ⟨dx, l, r, as, h1, h2, h3, h4⟩ := id tb.at_
    refine ⟨_, rfl, t, dx, _, rfl, h1, nohas _ _, _, rfl, t, W, v, d, cs, rs, rfl, tb.at_, hd, fun hb => q0 hb, fun r' hb ed H1 s1 => ⟨_, rfl, ?_⟩⟩
    subst ed
    obtain ⟨a, r2, rfl, er, ha, hl'⟩ := row_right hd hb
    have : r2 = r' := by
      have := Option.some.inj er
      exact ((List.map_inj_right (fun x y e => V.int.inj e)).mp this).symm
    subst this
    by_cases hin : r2 ∈ rs
    · rw [decide_eq_true hin]
      refine ⟨_, rfl, q1 r2 hb rfl H1 t s1 ?_⟩
      unfold addR
      rw [norm_add tb.rise hin]
      exact tb.at_.same s1
    · rw [decide_eq_false hin]
      have few := tb.few
      have hal := h4.len
      refine ⟨_, rfl, t, C, dx, _, _, rfl, s1 _ _ h1, c.cl, c.nC, bflds_col _ _, ?_⟩
      refine ⟨_, rfl, t, C, dx, _, _, rfl, s1 _ _ h1, c.cl, c.nR, bflds_rows _ _, _, rfl, by show 1 ≤ sizeLine; decide, fun L nL => ?_⟩
      have s2 : Same H (upd H1 L (.lst [.ref a])) := s1.trans (Same.new nL)
      refine ⟨r, L, _, _, rfl, rfl, s2 _ _ h3, upd_same, by rw [List.length_map]; show _ + 1 ≤ sizeLine; exact line100 (by omega), fun L2 nL2 => ?_⟩
      have s3 := s2.trans (Same.new (o := .lst (as.map V.ref ++ [V.ref a])) nL2)
      have e3 : upd (upd H1 L (.lst [.ref a])) L2 (.lst (as.map V.ref ++ [V.ref a])) L2 = some (.lst ((as ++ [a]).map V.ref)) := by rw [upd_same, List.map_append]; rfl
      generalize upd (upd H1 L (.lst [.ref a])) L2 (.lst (as.map V.ref ++ [V.ref a])) = H2 at s3 e3 ⊢
      intro p dp np ndp hne
      have sp : Same H2 (upd (upd H2 dp (.own p)) p (.ins C dp [])) := fun b o e => by rw [upd_ne (ne_of_none e np), upd_ne (ne_of_none e ndp)]; exact e
      have s4 := s3.trans sp
      refine ⟨p, l, dp, .ref L2, cs, as ++ [a], rs ++ [r2], rfl, upd_same, s4 _ _ h2, tb.cok, .inr ⟨L2, rfl, sp _ _ e3, pr_snoc (h4.same s4) (s4 _ _ ha)⟩, ⟨fun q hq => ?_, by rw [List.length_append]; show _ + 1 ≤ 60; omega⟩, fun H' tb' keep => ⟨rfl, ?_⟩⟩
      · rcases List.mem_append.mp hq with hq | hq
        · exact tb.len q hq
        · rw [List.mem_singleton.mp hq]
          exact hl'
      · exact q1 r2 hb rfl H' p (fun b o e => keep b o (ne_of_none (s3 _ _ e) np) (s4 _ _ e)) tb'
theorem sc_wout : FnScope ["self", "row", "kept"] ["self", "row"] (defScope s_bwout) := ⟨rfl, rfl, rfl, by decide +kernel, rfl, by decide +kernel, by decide +kernel⟩
theorem ok_wout (T : Kt K mg fW fN fA fR fK fS dW dN dA dR dK dS) (D : Bd K mg C fI hc hr hl he hk hh hw ho Cr fr dI gc gr gl ge gk gh gw go dr) : FnOk P w K mg base (L2.CX P w) 6 ho go ["self", "row"] (sp_put C Cr outR) := by
  have c := D.c
  have GH : FnOk P w K mg base (L2.CX P w) 4 hh gh ["self", "row"] (sp_has C Cr) := ok_has T D
  have GI : FnOk P w K mg base CX0 4 fI dI ["self", "columns", "rows"] (sp_binit C) := ok_binit D.iF T c
  refine D.wout.F.okX sc_wout (fun vs H Q E h => ?_) (fun cdv A outer s H vs Q E hr h => ?_)
  · obtain ⟨t, W, v, d, cs, rs, rfl, _⟩ := h
    rfl
  · obtain ⟨t, W, v, d, cs, rs, rfl, tb, hd, q0, q1⟩ := h
    have r4 : Room 4 _ := hr.mono (by decide)
    have hu64 := hr.units
    have nd := sc_wout.nd
    refine ⟨_, pss_cons (ps_if (pt_not (pt_val (pe_methE (pv 0) c.cl D.has.me GH r4 D.has.b (fun σ => passAt (takes_of rfl rfl rfl rfl) σ) (pa_cons (pv 1) pa_nil)))) (pss_one (ps_ret (pv 0))) pss_nil)
      (pss_one (ps_ret (pe_make D.iM GI hr rfl c.g D.iB .nil pass0 (pa_cons (pe_fld (pv 0) rfl) (pa_cons (pe_lc (own := [("kept", 2)]) (g := gName 2) (tt := tTest (tOp (rNeD K) (tVar 2) (tVar 1))) (te := tVar 2) rfl nd (pi_list (pe_fld (pv 0) rfl))
        (blkOk_by (N := ["self", "row", "kept"]) (sc := defScope s_bwout) (by decide +kernel)) (fun _ _ _ _ _ => pg_name (i := 2) nd rfl (Or.inl rfl)) (fun _ _ _ _ _ => pts_one (pt_cmpR (op_neD hu64) (pv 2) (pv 1) (nomark _))) (fun _ _ _ _ _ => pv 2)) pa_nil))))), ?_⟩
    obtain ⟨dx, l, r, as, h1, h2, h3, h4⟩ := id tb.at_
    refine ⟨_, rfl, t, dx, _, rfl, h1, nohas _ _, _, rfl, t, W, v, d, cs, rs, rfl, tb.at_, hd, fun hb => q0 hb, fun r' hb ed H1 s1 => ⟨_, rfl, ?_⟩⟩
    subst ed
    obtain ⟨a, r2, rfl, er, ha, hl'⟩ := row_right hd hb
    have : r2 = r' := by
      have := Option.some.inj er
      exact ((List.map_inj_right (fun x y e => V.int.inj e)).mp this).symm
    subst this
    by_cases hin : r2 ∈ rs
    · rw [decide_eq_true hin]
      have few := tb.few
      have hal := h4.len
      refine ⟨_, rfl, t, C, dx, _, _, rfl, s1 _ _ h1, c.cl, c.nC, bflds_col _ _, ?_⟩
      refine ⟨_, rfl, t, C, dx, _, _, rfl, s1 _ _ h1, c.cl, c.nR, bflds_rows _ _, r, rfl, ⟨_, .of (s1 _ _ h3)⟩, fun Dn nDn => ?_⟩
      refine lc_it (walk_list (xs := as.map V.ref)) (fun n h => ∃ bs : List Addr, h Dn = some (.lst (bs.map V.ref)) ∧ RowsAt h bs (outR r2 (rs.take n)) ∧ Same H1 h)
        ⟨[], upd_same, .nil, Same.new nDn⟩ (fun n h _ ⟨_, _, _, s⟩ => .of (s _ _ (s1 _ _ h3))) ?_ ?_
      · rintro n v h h' hn ⟨bs, e6, r6, s6⟩ ⟨rfl, hv⟩
        rw [List.length_map] at hn
        obtain ⟨b, hb', rfl⟩ : ∃ b, as[n]? = some b ∧ v = V.ref b := by
          rw [List.getElem?_map, List.getElem?_eq_getElem hn] at hv
          exact ⟨_, List.getElem?_eq_getElem hn, (Option.some.inj hv).symm⟩
        obtain ⟨row, hrow, hta⟩ := pr_at h4 hb'
        have ta' := (s1.trans s6) _ _ hta
        have htk : outR r2 (rs.take (n + 1)) = outR r2 (rs.take n) ++ outR r2 [row] := by unfold outR; rw [List.take_add_one, hrow, List.filter_append]; rfl
        refine ⟨rfl, ?_⟩
        refine ⟨_, rfl, _, rfl, _, _, DpRow ta', DpRow ((s1.trans s6) _ _ ha), sh_row _, sh_row _, _, rfl, ?_⟩
        rw [eqv_row]
        by_cases g : row = r2
        · rw [decide_eq_true g]
          refine ⟨bs, e6, ?_, s6⟩
          rw [htk]
          unfold outR at r6 ⊢
          rw [List.filter_cons_of_neg (by simpa using g), List.filter_nil, List.append_nil]
          exact r6
        · rw [decide_eq_false g]
          have hlb : bs.length ≤ n := by
            have e1 := r6.len
            have e2 := List.length_filter_le (fun q => !decide (q = r2)) (rs.take n)
            rw [List.length_take] at e2
            unfold outR at e1
            omega
          refine ⟨_, rfl, _, e6, by rw [List.length_map]; exact line100' (by omega), bs ++ [b], by rw [upd_same, List.map_append]; rfl, ?_, Same.mut s6 nDn⟩
          rw [htk]
          have e1 : outR r2 [row] = [row] := by
            unfold outR
            rw [List.filter_cons_of_pos (by simpa using g), List.filter_nil]
          rw [e1]
          exact RowsAt.put (pr_snoc r6 ta') e6
      · rintro h ⟨bs, e6, r6, s6⟩
        rw [List.length_map, hal, List.take_length] at r6
        have s3 := s1.trans s6
        intro p dp np ndp hne
        have sp : Same h (upd (upd h dp (.own p)) p (.ins C dp [])) := fun b o e => by rw [upd_ne (ne_of_none e np), upd_ne (ne_of_none e ndp)]; exact e
        have s4 := s3.trans sp
        have hf : (outR r2 rs).length ≤ rs.length := List.length_filter_le _ _
        refine ⟨p, l, dp, .ref Dn, cs, bs, outR r2 rs, rfl, upd_same, s4 _ _ h2, tb.cok, .inr ⟨Dn, rfl, sp _ _ e6, r6.same sp⟩, ⟨fun q hq => tb.len q (List.mem_filter.mp hq).1, by omega⟩, fun H' tb' keep => ⟨rfl, ?_⟩⟩
        have en : norm (outR r2 rs) = outR r2 rs := norm_idem (List.Pairwise.filter _ tb.rise)
        rw [en] at tb'
        exact q1 r2 hb rfl H' p (fun b o e => keep b o (ne_of_none (s3 _ _ e) np) (s4 _ _ e)) tb'
    · rw [decide_eq_false hin]
      refine ⟨_, rfl, q1 r2 hb rfl H1 t s1 ?_⟩
      rw [out_no hin]
      exact tb.at_.same s1
end
end T03

set_option maxHeartbeats 4000000
/-! tuple * int, from 1 on. -/
namespace TR
open PySem PySem.Spec PyProof.Rows L2 TX
theorem tuple_mul1 (l : Addr) (items : Array Value) (n : Nat) (dd : Option Addr) (sl : Array (Option Value)) (u : Tok) :
    Meets (Builtin.«tuple.__mul__» ⟨[.ref l, .int 1 u], []⟩) (fun _ R s => s.heap.get? l = some { cls := .type "tuple", dict := dd, data := .seq items n, slots := sl } ∧
      R (.ok (.ret (Value.ref l))) s) :=
  .of_wp fun prog w A R s h => by
    obtain ⟨hp, g, d, tk, os⟩ := s
    obtain ⟨hl, h⟩ := h
    have f1 := AutoSeq1.idx_int
    have c0 : (decide ((1 : Int) < -(2 ^ 63)) || decide ((1 : Int) ≥ 2 ^ 63)) = false := by decide
    have c1 : (items.isEmpty || (1 : Int) == 1) = true := by simp
    wp_walk using wpAny_loadPart' hl
    repeat (first
      | (refine wpAny_ite_false (decide_eq_false (by rw [c0]; exact Bool.false_ne_true)) ?_; wp_walk using wpAny_loadPart' hl)
      | (refine wpAny_ite_true (decide_eq_true (by rw [c1])) ?_; wp_walk using wpAny_loadPart' hl))
    all_goals exact ⟨_, rfl, h⟩
/-- t * k -/
def rRepA (K : PySem.W.Frag) : R2 := fun x y H Q => ∃ l k xs, x = .ref l ∧ y = .int k ∧ H l = some (.tup xs) ∧ xs ≠ [] ∧ 1 ≤ k ∧ k ≤ 1000 ∧ xs.length ≤ 1000 ∧ ∀ p H', Same H H' → H' p = some (.tup (List.replicate k.toNat xs).flatten) → Q (.ref p) H'
section
variable {X : Cx}
theorem op_repA : OpR X (binaryOp .Mult) (rRepA X.K) := by
  intro pins s σ H x y v u Q I rx ry h
  obtain ⟨l, k, xs, rfl, rfl, hl, hne, h1, h2, hz, q⟩ := h
  by_cases hk : k = 1
  · subst hk
    cases rx
    obtain ⟨t, rfl⟩ := ry
    obtain ⟨its, r, ⟨⟨cls, dd, data, sl⟩, ho, hc, n, hd⟩, hs⟩ := I.tuple (.of hl)
    simp only at hc hd
    subst hc hd
    refine wpAny_binaryOp_repeat_ref (T := "tuple") (U := "int") (by decide) ⟨_, ho, rfl⟩ (fun s' => typeIs_int s' 1 t) noFill_tuple_mul F.fills_int_mul F.slot_int_rmul repeat_tuple F.slot_int_index.lookup
      (call_meets F.slot_int_rmul (typeIs_int s 1 t) F.entry_int_rmul (F.args_int_rmul_2 _ _) (int_rmul_tuple 1 t l its.toArray n dd sl)
        ⟨ho, rfl, ⟨_, ho, rfl⟩, call_meets F.slot_tuple_mul ⟨_, ho, rfl⟩ F.entry_tuple_mul (F.args_tuple_mul_2 _ _) (tuple_mul1 l its.toArray n dd sl t) ⟨ho, ?_⟩⟩)
    refine ⟨.ref l, H, I, rfl, q l H same_rfl ?_⟩
    rw [hl]
    simp
  · exact op_repT pins s σ H _ _ v u Q I rx ry ⟨l, k, xs, rfl, rfl, .of hl, hne, by omega, h2, hz, fun p np => q p _ (Same.new np) upd_same⟩
end
end TR

set_option maxHeartbeats 4000000
namespace T03
open PySem L2 PyProof.Rows TX TY TW TD TB TG TUD TE TK TLC
section
variable {P : Program} {w : World} {K : PySem.W.Frag} {mg : Str → Option Value} {base : Heap}
variable {fW fN fA fR fK fS : Addr} {dW dN dA dR dK dS : FuncData}
variable {C fI hc hr hl he hk hh hw ho Cr fr : Addr} {dI gc gr gl ge gk gh gw go dr : FuncData}
/-- the errors: all refusals, no columns -/
structure Er (K : PySem.W.Frag) (mg : Str → Option Value) (CF Cr Cn : Addr) : Prop where
  gF : mg "FoldError" = some (.ref CF)
  gN : mg "NoColumns" = some (.ref Cn)
  te : PySem.W.exmOne K (.ref Cr) (.ref CF) = some true
  xr : ExcC K Cr
  rr : PySem.W.kitOne K (.ref Cr) (.ref Cr) = some true
  rn : PySem.W.kitOne K (.ref Cr) (.ref Cn) = some false
/-- what is asked of a deed that is refused at 0 -/
def cref (Cr : Addr) (lw : Hp → VK → XK → Prop) (H : Hp) (Q : VK) : Prop := ∀ (H0 : Hp) (Q1 : VK) (E1 : XK), Same H H0 → (∀ H1 dd, H1 dd = some (.xd [("at", .int 0)]) → (∀ H2, Same H1 H2 → Q (.bl true) H2) → E1 (.ref Cr) (some dd) H1) → lw H0 Q1 E1
abbrev N_refused : List Str := ["_law_deed", "_law_found", "e"]
theorem sc_refused : FnScope N_refused ["_law_deed"] (defScope s_refused) := ⟨rfl, rfl, rfl, by decide +kernel, rfl, by decide +kernel, by decide +kernel⟩
def t_refused (K : PySem.W.Frag) (Cr Cn : Addr) : Addr → Value → Option Addr → TS := fun a cls d =>
  tIfS (tAnd (tB (tCB (rIsXd K a cls d) (tCons (tVar 2) (tCons (tC (.ref Cr)) tNil)))) (tNot (tB (tCB (rIsXd K a cls d) (tCons (tVar 2) (tCons (tC (.ref Cn)) tNil))))))
    (tAsg (tAndV (tOp rEq (tXf a cls d Cr "at" (tVar 2)) (tC (.int 0))) (tNotV (tCB (rIsi K) (tCons (tXf a cls d Cr "at" (tVar 2)) (tCons (tC (.ty "bool")) tNil))))) (gName 1)) tNext
theorem ok_refused {g CF Cn : Addr} {gd : FuncData} {j : Nat} (G : Fn K mg "_law_refused" s_refused ["_law_deed"] g gd) (B : Bn mg) (hbool : mg "bool" = none) (Nr : NtR K mg Cr fr dr) (Ex : Er K mg CF Cr Cn) : COk P w K mg base (j + 1) j g (cref Cr) := by
  have Xc : XfC K Cr := ⟨Ex.xr.hg, Ex.xr.hk, Ex.xr.hs, Ex.xr.hd⟩
  refine cok_of G sc_refused fun cdv A outer s H f F b fr ws sp Q hr O C hf hc h => ?_
  have nd := sc_refused.nd
  refine ⟨_, pss_cons (ps_set (i := 1) nd rfl (Or.inl rfl) pe_bl)
    (pss_cons (ps_try_as (i := 2) (tb := fun W => tDrop (fun σ H Q => tLamCall 0 f F b ws sp (WE W σ) σ H Q)) (ts := t_refused K Cr Cn) (Wout := fun _ _ _ _ => False) rfl rfl nd rfl rfl ⟨rfl, by decide, Or.inl Ex.gF⟩ takes0
      (fun W pn xe tk _ => pss_one (ps_expr (by exact (pe_lamCallS (i := 0) O C (fun _ _ _ z => nomatch z) hr (fun σ => passAt tk σ) rfl (Or.inl rfl)))))
      (fun a oe cls d pn hz hf => pss_one (ps_if (PW.pt (pw_and (pt_val (pe_callB (call_isXd hz hf) (by rfl) B.isi boot_isinstance (pa_cons (pv 2) (pa_cons (pe_glob (v := .ref Cr) (by rfl) Nr.g rfl) pa_nil))))
          (pw_and1 (pt_not (pt_val (pe_callB (call_isXd hz hf) (by rfl) B.isi boot_isinstance (pa_cons (pv 2) (pa_cons (pe_glob (v := .ref Cn) (by rfl) Ex.gN rfl) pa_nil))))))))
          (pss_one (ps_set (i := 1) nd rfl (Or.inl rfl) (pe_and (pe_cmpR op_eq (pe_xf Xc Nr.no hz hf (pv 2)) pe_int (nomark _))
            (pe_one (pe_not (pe_callB call_isi (by rfl) B.isi boot_isinstance (pa_cons (pe_xf Xc Nr.no hz hf (pv 2)) (pa_cons (pe_bltn (v := .ty "bool") (by rfl) hbool boot_bool rfl) pa_nil)))))))) pss_nil)))
    (pss_one (ps_ret (pv 1)))), ?_⟩
  refine ⟨rfl, hf, hc, h H _ _ same_rfl fun H1 d ed q => ?_⟩
  refine ⟨true, Ex.te, fun _ e0 ne0 => ?_, fun q => Bool.noConfusion q⟩
  refine ⟨_, rfl, Cr, _, true, rfl, Ex.xr, ⟨d, _, rfl, ed⟩, rfl, .inl ⟨_, .own Cr, Ex.rr⟩, true, rfl, ?_⟩
  refine ⟨_, rfl, Cr, _, false, rfl, Ex.xr, ⟨d, _, rfl, ed⟩, rfl, .inl ⟨_, .own Cn, Ex.rn⟩, false, rfl, ?_⟩
  refine ⟨_, rfl, rfl, rfl, d, _, _, rfl, ed, rfl, ?_⟩
  refine ⟨rfl, _, rfl, ?_⟩
  rw [if_pos (decide_eq_true rfl)]
  refine ⟨_, rfl, rfl, rfl, d, _, _, rfl, ed, rfl, ?_⟩
  refine ⟨_, _, _, _, false, rfl, .ty _, .base (.int 0), kit_ty (by decide +kernel), ?_⟩
  exact ⟨_, rfl, _, rfl, q H1 same_rfl⟩
theorem cut_len {xs : List V} {lo hi : Option Int} : (cutV xs lo hi).length ≤ xs.length := by
  unfold cutV
  rw [List.length_take, List.length_drop]
  omega
theorem cut_mem {xs : List V} {lo hi : Option Int} {y : V} (h : y ∈ cutV xs lo hi) : y ∈ xs := List.mem_of_mem_drop (List.mem_of_mem_take h)
abbrev N_odd : List Str := ["_law_well_here", "_law_wide", "_law_line", "_law_at", "_law_odd_here", "_law_some"]
theorem sc_odd : FnScope N_odd ["_law_well_here", "_law_wide"] (defScope s_odd) := ⟨rfl, rfl, rfl, by decide +kernel, rfl, by decide +kernel, by decide +kernel⟩
/-- what is no row -/
def sp_odd : Sp := fun vs H Q _ => ∃ (W : Addr) (wide n : Nat), vs = [.ref W, .int wide] ∧ 1 ≤ wide ∧ wide ≤ 4 ∧ WellAt (n + 3) H W ∧ ∀ H' v d, Sm W H H' → WellAt n H' W → RowT W H' v d → okRow wide d = false → Q v H'
theorem okRow_len {wide : Nat} {ys : List V} (h : ys.length ≠ wide) : okRow wide (some ys) = false := by
  show (decide (ys.length = wide) && ys.all wholeV) = false
  rw [decide_eq_false h, Bool.false_and]
theorem okRow_odd {wide : Nat} {xs ys : List V} {v : V} (h : wholeV v = false) : okRow wide (some ((xs ++ [v]) ++ ys)) = false := by
  show (decide (_ = wide) && ((xs ++ [v]) ++ ys).all wholeV) = false
  rw [List.all_append, List.all_append, List.all_cons, h]
  simp
theorem ok_odd {f gD : Addr} {fd eD : FuncData} (F : Fn K mg "_law_odd" s_odd ["_law_well_here", "_law_wide"] f fd) (B : Bn mg) (D : Fn K mg "_law_draw" s_draw ["_law_well_here", "_law_top"] gD eD) : FnOk P w K mg base CX0 2 f fd ["_law_well_here", "_law_wide"] sp_odd := by
  have GD : FnOk P w K mg base CX0 1 gD eD ["_law_well_here", "_law_top"] sp_draw := ok_draw D
  refine F.F.ok sc_odd (fun vs H Q E h => ?_) (fun cdv A outer s H vs Q E hr h => ?_)
  · obtain ⟨W, wide, n, rfl, _⟩ := h
    rfl
  · obtain ⟨W, wide, n, rfl, h1, h4, hW, q⟩ := h
    have nd := sc_odd.nd
    refine ⟨_, pss_cons (ps_set (i := 2) nd rfl (Or.inl rfl) (pe_op TR.op_repA (pe_tup (pa_cons pe_int pa_nil)) (pv 1)))
      (pss_cons (ps_set (i := 3) nd rfl (Or.inl rfl) (pe_call GD hr rfl D.g D.F.kp D.b .nil pass0 (pa_cons (pv 0) (pa_cons (pv 1) pa_nil))))
      (pss_cons (ps_set (i := 4) nd rfl (Or.inl rfl) (pe_ix ix_list (pe_lst (pa_cons pe_bl (pa_cons pe_non (pa_cons pe_str (pa_cons (pe_tup (pa_cons pe_int pa_nil)) (pa_cons (pe_lst (pa_cons pe_int pa_nil)) pa_nil))))))
        (pe_call GD hr rfl D.g D.F.kp D.b .nil pass0 (pa_cons (pv 0) (pa_cons pe_int pa_nil))) (fun _ _ => rfl)))
      (pss_cons (ps_set (i := 5) nd rfl (Or.inl rfl) (pe_lst (pa_cons (pe_op op_catA (pe_slice sl_tupA (pv 2) po_none (po_some (pv 3))) (pe_slice sl_tupA (pv 2) (po_some (pe_op op_add (pv 3) pe_int)) po_none))
        (pa_cons (pe_op op_catA (pv 2) (pe_tup (pa_cons pe_int pa_nil))) (pa_cons (pe_callTy call_list_of (by rfl) B.list boot_list (pa_cons (pv 2) pa_nil))
        (pa_cons (pe_op op_catA (pe_op op_catA (pe_slice sl_tupA (pv 2) po_none (po_some (pv 3))) (pe_tup (pa_cons (pv 4) pa_nil))) (pe_slice sl_tupA (pv 2) (po_some (pe_op op_add (pv 3) pe_int)) po_none))
        (pa_cons pe_non (pa_cons pe_int (pa_cons pe_str (pa_cons pe_dnewK pa_nil))))))))))
      (pss_one (ps_ret (pe_ix ix_list (pv 5) (pe_call GD hr rfl D.g D.F.kp D.b .nil pass0 (pa_cons (pv 0) (pa_cons pe_int pa_nil))) (fun _ _ => rfl))))))), ?_⟩
    -- the line
    refine ⟨by show 1 ≤ sizeLine; decide, fun o1 no1 => ⟨_, rfl, o1, (wide : Int), _, rfl, rfl, upd_same, by simp, by omega, by omega, by show 1 ≤ 1000; decide, fun rw' H4 s4 eR => ?_⟩⟩
    have s4' : Same H H4 := (Same.new no1).trans s4
    obtain ⟨rv, hrv⟩ : ∃ rv, rv = (List.replicate (wide : Int).toNat [V.int 3]).flatten := ⟨_, rfl⟩
    rw [← hrv] at eR
    have rvl : rv.length = wide := by
      rw [hrv, PyProof.Rows.lm_len_rep_flat]
      simp
    have rvi : ∀ y ∈ rv, y = V.int 3 := fun y hy => by
      rw [hrv, List.mem_flatten] at hy
      obtain ⟨l, hl, hy⟩ := hy
      rw [(List.mem_replicate.mp hl).2] at hy
      exact List.mem_singleton.mp hy
    clear hrv
    have w4 := hW.same s4'
    have rW : rw' ≠ W := well_no ⟨_, w4⟩ eR fun _ z => (by cases z)
    -- where
    refine ⟨_, rfl, _, rfl, W, wide, n + 2, rfl, by omega, by omega, w4, fun H5 pl hpl s5 w5 => ?_⟩
    have eR5 := s5 _ _ rW eR
    have m5 : Sm W H H5 := (Sm.of s4').trans s5
    clear s4 s4' eR
    -- what
    refine ⟨by show 1 ≤ sizeLine; decide, fun t5 nt5 => ⟨by show 1 ≤ sizeLine; decide, fun l5 nl5 => ⟨by show 5 ≤ sizeLine; decide, fun p1 np1 => ?_⟩⟩⟩
    have et5 : upd (upd (upd H5 t5 (.tup [.int 3])) l5 (.lst [.int 3])) p1 (.lst [V.bl true, .non, .str "3", .ref t5, .ref l5]) t5 = some (.tup [.int 3]) := ((Same.new nl5).trans (Same.new np1)) _ _ upd_same
    have el5 : upd (upd (upd H5 t5 (.tup [.int 3])) l5 (.lst [.int 3])) p1 (.lst [V.bl true, .non, .str "3", .ref t5, .ref l5]) l5 = some (.lst [.int 3]) := (Same.new np1) _ _ upd_same
    have ep1 : upd (upd (upd H5 t5 (.tup [.int 3])) l5 (.lst [.int 3])) p1 (.lst [V.bl true, .non, .str "3", .ref t5, .ref l5]) p1 = some (.lst [V.bl true, .non, .str "3", .ref t5, .ref l5]) := upd_same
    have s6 : Same H5 (upd (upd (upd H5 t5 (.tup [.int 3])) l5 (.lst [.int 3])) p1 (.lst [V.bl true, .non, .str "3", .ref t5, .ref l5])) := ((Same.new nt5).trans (Same.new nl5)).trans (Same.new np1)
    have t5W : t5 ≠ W := (w5.ne nt5).symm
    have l5W : l5 ≠ W := ((w5.new nt5).ne nl5).symm
    have p1W : p1 ≠ W := (((w5.new nt5).new nl5).ne np1).symm
    generalize upd (upd (upd H5 t5 (.tup [.int 3])) l5 (.lst [.int 3])) p1 (.lst [V.bl true, .non, .str "3", .ref t5, .ref l5]) = H6 at et5 el5 ep1 s6 ⊢
    have w6 := w5.same s6
    refine ⟨_, rfl, W, 5, n + 1, rfl, by decide, by decide, w6, fun H7 ko hko s7 w7 => ?_⟩
    obtain ⟨odd, hov, hodd, hwo⟩ : ∃ v, atI [V.bl true, .non, .str "3", .ref t5, .ref l5] (ko : Int) = some v ∧ Lf W H6 v ∧ wholeV v = false := by
      have : ko = 0 ∨ ko = 1 ∨ ko = 2 ∨ ko = 3 ∨ ko = 4 := by omega
      rcases this with e | e | e | e | e <;> subst e
      · exact ⟨_, rfl, .bl _, rfl⟩
      · exact ⟨_, rfl, .non, rfl⟩
      · exact ⟨_, rfl, .str _ (by decide +kernel), rfl⟩
      · exact ⟨_, rfl, .tup t5W et5, rfl⟩
      · exact ⟨_, rfl, .lst l5W el5, rfl⟩
    refine ⟨p1, _, (ko : Int), odd, rfl, rfl, .of (s7 _ _ p1W ep1), hov, ?_⟩
    have m7 : Sm W H H7 := (m5.trans (.of s6)).trans s7
    have eR7 := s7 _ _ rW (s6 _ _ eR5)
    have hodd7 := hodd.kp (.sm s7)
    clear et5 el5 ep1 hov hodd s5 s6 s7 eR5 m5
    -- one out
    refine ⟨_, rfl, _, rfl, _, rfl, sl_both eR7 fun a1 H8 s8 e8 => ?_⟩
    refine ⟨_, rfl, _, rfl, _, _, rfl, rfl, _, rfl, ?_⟩
    dsimp only [tNoPart]
    refine sl_both (s8 _ _ eR7) fun a2 H9 s9 e9 => ?_
    have lc1 := cut_len (xs := rv) (lo := none) (hi := some (pl : Int))
    have lc2 := cut_len (xs := rv) (lo := some ((pl : Int) + 1)) (hi := none)
    refine cat_both (s9 _ _ e8) e9 (by omega) fun A0 H10 s10 eA0 => ?_
    have s8_10 := (s8.trans s9).trans s10
    -- one more
    refine ⟨_, rfl, by show 1 ≤ sizeLine; decide, fun u1 nu1 => ?_⟩
    refine cat_both ((Same.new nu1) _ _ (s8_10 _ _ eR7)) upd_same (by show _ + 1 ≤ 1000; omega) fun A1 H11 s11' eA1 => ?_
    have s11 := (Same.new nu1 (o := .tup [.int 0])).trans s11'
    have s8_11 := s8_10.trans s11
    -- a list
    refine ⟨_, rfl, rw', _, rfl, .inr (.of (s8_11 _ _ eR7)), fun A2 nA2 => ?_⟩
    have eA2 : upd H11 A2 (.lst rv) A2 = some (.lst rv) := upd_same
    have s12 : Same H11 (upd H11 A2 (.lst rv)) := Same.new nA2
    have A2W : A2 ≠ W := ((w7.same s8_11).ne nA2).symm
    generalize upd H11 A2 (.lst rv) = H12 at eA2 s12 ⊢
    have s8_12 := s8_11.trans s12
    -- one thing otherwise
    refine ⟨_, rfl, _, rfl, _, rfl, sl_both (s8_12 _ _ eR7) fun c1 H13 s13 ec1 => ?_⟩
    refine ⟨_, rfl, by show 1 ≤ sizeLine; decide, fun u2 nu2 => ?_⟩
    refine cat_both ((Same.new nu2) _ _ ec1) upd_same (by show _ + 1 ≤ 1000; omega) fun c2 H14 s14' ec2 => ?_
    have s14 := (s13.trans (Same.new nu2 (o := .tup [odd]))).trans s14'
    refine ⟨_, rfl, _, rfl, _, _, rfl, rfl, _, rfl, ?_⟩
    dsimp only [tNoPart]
    refine sl_both ((s8_12.trans s14) _ _ eR7) fun c3 H15 s15 ec3 => ?_
    refine cat_both (s15 _ _ ec2) ec3 (by rw [List.length_append]; show _ + 1 + _ ≤ 1000; omega) fun A3 H16 s16 eA3 => ?_
    have s12_16 := (s14.trans s15).trans s16
    intro A4 nA4
    have s17 : Same H16 (upd H16 A4 (.dK [])) := Same.new nA4
    have eA4 : upd H16 A4 (.dK []) A4 = some (.dK []) := upd_same
    generalize upd H16 A4 (.dK []) = H17 at s17 eA4 ⊢
    refine ⟨by show 8 ≤ sizeLine; decide, fun S1 nS1 => ?_⟩
    have eS1 : upd H17 S1 (.lst [.ref A0, .ref A1, .ref A2, .ref A3, .non, .int 3, .str "row", .ref A4]) S1 = some (.lst [.ref A0, .ref A1, .ref A2, .ref A3, .non, .int 3, .str "row", .ref A4]) := upd_same
    have s18 : Same H17 (upd H17 S1 (.lst [.ref A0, .ref A1, .ref A2, .ref A3, .non, .int 3, .str "row", .ref A4])) := Same.new nS1
    have w17 := w7.same ((s8_12.trans s12_16).trans s17)
    have S1W : S1 ≠ W := (w17.ne nS1).symm
    have w18 := w17.same s18
    refine ⟨_, rfl, ?_⟩
    dsimp only [tCall, tCons, tC, tNil]
    refine ⟨_, rfl, W, 8, n, rfl, by decide, by decide, w18, fun H19 k hk s19 w19 => ?_⟩
    have eS := s19 _ _ S1W eS1
    have kp : Kp W H17 H19 := fun a o n a1 a2 e => s19 a o n (s18 a o e)
    have ew : ∃ n, WellAt n H17 W := ⟨_, w17⟩
    have f0 := ((s11.trans s12).trans (s12_16.trans s17)) _ _ eA0
    have f1 := (s12.trans (s12_16.trans s17)) _ _ eA1
    have f2 := (s12_16.trans s17) _ _ eA2
    have f3 := s17 _ _ eA3
    have hodd17 := hodd7.kp (.of ((s8_12.trans s12_16).trans s17))
    have l3 : ∀ y ∈ rv, Lf W H17 y := fun y hy => by
      rw [rvi y hy]
      exact .int 3
    have cut1 : cutV rv none (some (pl : Int)) = rv.take pl := cut_take
    have cut2 : cutV rv (some ((pl : Int) + 1)) none = rv.drop (pl + 1) := by
      rw [show (pl : Int) + 1 = ((pl + 1 : Nat) : Int) by omega]
      exact cut_drop
    have tW : ∀ {a : Addr} {xs : List V}, H17 a = some (.tup xs) → a ≠ W := fun e => well_no ew e fun _ z => (by cases z)
    have m19 : Sm W H H19 := (m7.trans (.of ((s8_12.trans s12_16).trans (s17.trans s18)))).trans s19
    obtain ⟨v, d, hv, hd, hb⟩ : ∃ v d, atI [V.ref A0, .ref A1, .ref A2, .ref A3, .non, .int 3, .str "row", .ref A4] (k : Int) = some v ∧ RowT W H17 v d ∧ okRow wide d = false := by
      have : k = 0 ∨ k = 1 ∨ k = 2 ∨ k = 3 ∨ k = 4 ∨ k = 5 ∨ k = 6 ∨ k = 7 := by omega
      rcases this with e | e | e | e | e | e | e | e <;> subst e
      · refine ⟨_, _, rfl, .inl ⟨A0, _, rfl, tW f0, f0, ?_, fun y hy => ?_, rfl⟩, okRow_len ?_⟩
        · rw [List.length_append]
          omega
        · rcases List.mem_append.mp hy with h | h <;> exact l3 y (cut_mem h)
        · rw [List.length_append, cut1, cut2, List.length_take, List.length_drop]
          omega
      · refine ⟨_, _, rfl, .inl ⟨A1, _, rfl, tW f1, f1, ?_, fun y hy => ?_, rfl⟩, okRow_len ?_⟩
        · rw [List.length_append]
          show _ + 1 ≤ 20
          omega
        · rcases List.mem_append.mp hy with h | h
          · exact l3 y h
          · rw [List.mem_singleton.mp h]
            exact .int 0
        · rw [List.length_append]
          show _ + 1 ≠ wide
          omega
      · exact ⟨_, _, rfl, .inr ⟨rfl, .inr (.inl ⟨A2, _, rfl, A2W, f2⟩)⟩, rfl⟩
      · refine ⟨_, _, rfl, .inl ⟨A3, _, rfl, tW f3, f3, ?_, fun y hy => ?_, rfl⟩, okRow_odd hwo⟩
        · rw [List.length_append, List.length_append]
          show _ + 1 + _ ≤ 20
          omega
        · rcases List.mem_append.mp hy with h | h
          · rcases List.mem_append.mp h with h | h
            · exact l3 y (cut_mem h)
            · rw [List.mem_singleton.mp h]
              exact hodd17
          · exact l3 y (cut_mem h)
      · exact ⟨_, _, rfl, .inr ⟨rfl, .inl rfl⟩, rfl⟩
      · exact ⟨_, _, rfl, .inr ⟨rfl, .inr (.inr (.int _))⟩, rfl⟩
      · exact ⟨_, _, rfl, .inr ⟨rfl, .inr (.inr (.str _))⟩, rfl⟩
      · exact ⟨_, _, rfl, .inr ⟨rfl, .inr (.inr (.dK (well_no ew eA4 fun _ z => (by cases z)) eA4))⟩, rfl⟩
    exact ⟨S1, _, (k : Int), v, rfl, rfl, .of eS, hv, q H19 v d m19 w19 (hd.kp kp) hb⟩
end
end T03

set_option maxHeartbeats 2000000
namespace T03
open PySem L2 PyProof.Rows TX TY TW TD TB TG TUD TE TK TLC
section
variable {P : Program} {w : World} {K : PySem.W.Frag} {mg : Str → Option Value} {base : Heap}
variable {C Cr : Addr}
abbrev lamPs : Arguments := { posonlyargs := [], args := [], vararg := none, kwonlyargs := [], kw_defaults := [], kwarg := none, defaults := [] }
theorem know {H : Hp} {f : Addr} {F : NdefX.NF} {b : Expr} {CX : CXT} {k : Nat} {fr : List Str} {sp : LSp} (_e : H f = some (LamO f F b)) (O : LOk P w K mg base CX k f F b fr sp) : LOk P w K mg base CX k f F b fr sp := O
/-- what a lambda asks, by the reading of its body -/
def lgen (fr : List Str) (te : XK → TE) : LSp := fun ws H Q E => te E (NdefX.startF fr [] ws) H Q
theorem lok_gen {k : Nat} {f : Addr} {q : Str} {cl : List (Str × Addr)} {c : Addr} {b : Expr} {sc : Scope} {fr : List Str} {te : XK → TE} (S : NdefX.NScope fr [] fr sc)
    (pe : ∀ (A : Around) (outer : List Env) (s : Shared) (H : Hp) (E : XK), Room k (A.deeper (NdefX.envF ⟨"<lambda>", q, lamPs, [], sc, cl, c⟩ f s.heap.objs.size)) → PE (NdefX.ncx (L2.CX P w) P w K mg base fr ⟨"<lambda>", q, lamPs, [], sc, cl, c⟩ f A outer s H E) b (te E)) :
    LOk P w K mg base (L2.CX P w) (k + 1) f ⟨"<lambda>", q, lamPs, [], sc, cl, c⟩ b fr (lgen fr te) :=
  lok_of S (fun pm ctv => rfl) fun A outer s H ws Q E hr hl h => ⟨_, pe A outer s H E hr, h⟩
/-- what is known of a lambda's cells, by its names -/
theorem kn_of {X : Cx} {σ : L2.St} {sc' sc : Scope} {fr : List Str} {js : List Nat} {ws : List (Option V)} (hsc : X.env.scope = sc') (hB : NdefX.ndefB sc' sc fr = true) (hjs : js.map (fun j => X.N[j]?) = fr.map some) (hw : ws = js.map (NdefX.slotAt σ)) :
    Kn X σ (cloFrom X.env.cells sc.names []) fr ws := by
  refine ⟨js, fun ok => NdefX.Caps.made ok ?_ ?_ hjs, hw⟩
  · subst hsc
    exact NdefX.ndef_free hB
  · exact NdefX.ndef_fr hB
theorem ext_same {H H' : Hp} (s : Same H H') : LamX.ExtN H H' := fun b o e _ => s b o e
theorem ext_new {H H1 : Hp} {a : Addr} {o : HO} (x : LamX.ExtN H H1) (n : H a = none) : LamX.ExtN H (upd H1 a o) := fun b u e k => by rw [upd_ne (ne_of_none e n)]; exact x b u e k
/-- the qualified name of a lambda of the def x -/
abbrev lamQ (x : Str) : Str := x ++ ".<locals>." ++ "<lambda>"
theorem tabs_put {T : List (Addr × Str)} {H : Hp} {L : Addr} {xs ys : List V} (h : LamX.Tabs T H) (e : H L = some (.lst xs)) : LamX.Tabs T (upd H L (.lst ys)) := by
  intro p hp
  obtain ⟨ps, h1, h2, h3⟩ := h p hp
  refine ⟨ps, by rw [upd_ne (ne_of h1 e (by intro z; cases z))]; exact h1, h2, fun pos cv hc => ?_⟩
  obtain ⟨c, k1, k2⟩ := h3 pos cv hc
  exact ⟨c, k1, by rw [upd_ne (ne_of k2 e (by unfold LamX.CodeO; intro z; cases z))]; exact k2⟩
/-- all but the well and the tables stays as it was -/
def ExW (W : Addr) (H H' : Hp) : Prop := ∀ b o, b ≠ W → H b = some o → (∀ ps, o ≠ .tbl ps) → H' b = some o
theorem ExW.refl {W : Addr} {H : Hp} : ExW W H H := fun _ _ _ e _ => e
theorem ExW.same {W : Addr} {H H1 H2 : Hp} (z : ExW W H H1) (s : Same H1 H2) : ExW W H H2 := fun b o n e k => s b o (z b o n e k)
theorem ExW.sm {W : Addr} {H H1 H2 : Hp} (z : ExW W H H1) (s : Sm W H1 H2) : ExW W H H2 := fun b o n e k => s b o n (z b o n e k)
theorem ExW.ext {W : Addr} {H H1 H2 : Hp} (z : ExW W H H1) (s : LamX.ExtN H1 H2) : ExW W H H2 := fun b o n e k => s b o (z b o n e k) k
theorem ExW.put {W : Addr} {H H1 : Hp} {a : Addr} {u : HO} (z : ExW W H H1) (n : H a = none) : ExW W H (upd H1 a u) := fun b o m e k => by rw [upd_ne (ne_of_none e n)]; exact z b o m e k
theorem tabs_sm {T : List (Addr × Str)} {W : Addr} {H H' : Hp} (h : LamX.Tabs T H) (w : ∃ n, WellAt n H W) (s : Sm W H H') : LamX.Tabs T H' := by
  obtain ⟨n, a, b, c, e, _⟩ := w
  refine fun p hp => ?_
  obtain ⟨ps, h1, h2, h3⟩ := h p hp
  refine ⟨ps, s _ _ (ne_of h1 e (by intro z; cases z)) h1, h2, fun pos cv hc => ?_⟩
  obtain ⟨c, k1, k2⟩ := h3 pos cv hc
  exact ⟨c, k1, s _ _ (ne_of k2 e (by unfold LamX.CodeO; intro z; cases z)) k2⟩
theorem Tb.ext {H H' : Hp} {t : Addr} {cs : List Str} {rs : List (List Int)} (h : Tb C H t cs rs) (x : LamX.ExtN H H') : Tb C H' t cs rs := by
  obtain ⟨⟨dx, l, r, as, h1, h2, h3, h4⟩, c, d, e, f⟩ := h
  exact ⟨⟨dx, l, r, as, x _ _ h1 (fun _ z => by cases z), x _ _ h2 (fun _ z => by cases z), x _ _ h3 (fun _ z => by cases z), Paired.mapP h4 fun a q z => x _ _ z (fun _ z => by cases z)⟩, c, d, e, f⟩
/-- a deed that is refused at 0, made in the def X with the slots σ, H0 when it began -/
def DdR (P : Program) (w : World) (K : PySem.W.Frag) (mg : Str → Option Value) (base : Heap) (X : Cx) (σ : L2.St) (Cr : Addr) (H0 H : Hp) (f : Addr) : Prop := ∃ F b fr ws sp, H f = some (LamO f F b) ∧ H F.c = some (LamX.CodeO F.c F.qual) ∧ LOk P w K mg base (L2.CX P w) 10 f F b fr sp ∧ Kn X σ F.cl fr ws ∧
  ∀ H' Q, LamX.ExtN H0 H' → (∀ H2, Same H' H2 → Q (.bl true) H2) → cref Cr (sp ws) H' Q
theorem DdR.ext {X : Cx} {σ : L2.St} {H0 H H' : Hp} {f : Addr} (d : DdR P w K mg base X σ Cr H0 H f) (x : LamX.ExtN H H') : DdR P w K mg base X σ Cr H0 H' f := by
  obtain ⟨F, b, fr, ws, sp, h1, h2, h3⟩ := d
  exact ⟨F, b, fr, ws, sp, x _ _ h1 lamO_tbl, x _ _ h2 LamX.codeO_ne, h3⟩
theorem DdR.put {X : Cx} {σ : L2.St} {H0 H : Hp} {f L : Addr} {zs ys : List V} (d : DdR P w K mg base X σ Cr H0 H f) (e : H L = some (.lst zs)) : DdR P w K mg base X σ Cr H0 (upd H L (.lst ys)) f := by
  obtain ⟨F, b, fr, ws, sp, h1, h2, h3⟩ := d
  have n1 : f ≠ L := ne_of h1 e (by unfold LamO; intro z; cases z)
  have n2 : F.c ≠ L := ne_of h2 e (by unfold LamX.CodeO; intro z; cases z)
  exact ⟨F, b, fr, ws, sp, by rw [upd_ne n1]; exact h1, by rw [upd_ne n2]; exact h2, h3⟩
/-- what a method asks of a row that it refuses -/
theorem ref_of {sp : Sp} {m : Str} {t W : Addr} {v : V} {d : Option (List V)} {cs : List Str} {rs : List (List Int)} {H : Hp} (hsp : ∀ H' Q E, Tb C H' t cs rs → RowT W H' v d → Bar Cr H' E → sp [.ref t, v] H' Q E) (hn : ∀ l r, (bflds l r).lookup m = none) (tb : Tb C H t cs rs) (hd : RowT W H v d) :
    ∀ H' Q, LamX.ExtN H H' → (∀ H2, Same H' H2 → Q (.bl true) H2) → cref Cr (lgen ["_law_odd_here", "_law_other"] (fun E => tMethE C m sp (fun σ => WE (fun cls d _ H => E cls d H) σ) (tVar 1) (tCons (tVar 0) tNil)) [some v, some (.ref t)]) H' Q := by
  intro H' Q x q H0 Q1 E1 s0 qB
  have tb0 := (tb.ext x).same s0
  obtain ⟨dx, l, r, as, h1, _⟩ := id tb0.at_
  refine ⟨_, rfl, t, dx, _, rfl, h1, hn l r, _, rfl, hsp H0 Q1 _ tb0 ((hd.kp (Kp.ext x)).kp (.of s0)) fun H1 dd s e => qB H1 dd e fun H2 s2 => q H2 ((s0.trans s).trans s2)⟩
/-- each deed of a list is refused -/
theorem rd_refs {X : Cx} {L : Addr} {fs : List Addr} {H0 G : Hp} {s : L2.St} {Q : VK} (h13 : s[13]? = some (some (.ref L))) (hs : s.length = 17) (eL : G L = some (.lst (fs.map V.ref))) (all : ∀ f ∈ fs, DdR P w K mg base X s Cr H0 G f) (y : LamX.ExtN H0 G)
    (few : fs.length ≤ 100) (h : ∀ D G', Same G G' → G' D = some (.lst ((List.replicate fs.length true).map V.bl)) → Q (.ref D) G') :
    tLc (iList X.K (tVar 13)) (gName 16) tYes (tCallC P w K mg base 10 (fun _ => Kn X s) (cref Cr) (tVar 16)) [16] s G Q := by
  refine ⟨_, h13, L, rfl, ⟨_, .of eL⟩, fun Dn nDn => ?_⟩
  refine lc_it (walk_list (xs := fs.map V.ref)) (fun i h => h Dn = some (.lst ((List.replicate i true).map V.bl)) ∧ Same G h) ⟨upd_same, Same.new nDn⟩ (fun i h _ ⟨_, s⟩ => .of (s _ _ eL)) ?_ ?_
  · rintro i z h h' hi ⟨e5, s5⟩ ⟨rfl, hz⟩
    rw [List.length_map] at hi
    obtain ⟨p, hp, rfl⟩ : ∃ p, fs[i]? = some p ∧ z = V.ref p := by
      rw [List.getElem?_map, List.getElem?_eq_getElem hi] at hz
      exact ⟨_, List.getElem?_eq_getElem hi, (Option.some.inj hz).symm⟩
    refine ⟨?_, ?_⟩
    · show (((s.set 16 none).set 16 _).set 16 none) = s.set 16 none
      rw [List.set_set, List.set_set]
    have g16 : ((wipe s [16]).set 16 (some (V.ref p)))[16]? = some (some (.ref p)) := by
      show ((s.set 16 none).set 16 _)[16]? = _
      rw [List.set_set, List.getElem?_set_self (by omega)]
    obtain ⟨F', b', fr', ws', sp', d1, d2, d3, d4, d5⟩ := (all p (List.mem_of_getElem? hp)).ext (ext_same s5)
    refine ⟨_, g16, p, F', b', fr', ws', sp', rfl, d1, d2, d3, d4, d5 h' _ (y.trans (ext_same s5)) fun H5 s6 => ?_⟩
    have e7 := s6 _ _ e5
    refine ⟨_, e7, by rw [List.length_map, List.length_replicate]; exact line100' (by omega), ?_, Same.mut (s5.trans s6) nDn⟩
    rw [upd_same, List.replicate_succ', List.map_append]
    rfl
  · rintro h' ⟨e5, s5⟩
    rw [List.length_map] at e5
    exact h Dn h' s5 e5
abbrev teItem : TE := tOp (rI0 fun i j => .int (i + j)) (tVar 3) (tCall sp_draw [] E0 (tCons (tVar 0) (tCons (tC (.int 2)) tNil)))
theorem sq_asg {te : TE} {g : TG} {B : TS} {D : Ends} {s : L2.St} {H : Hp} (h : te s H fun x H1 => g x s H1 (B D)) : tSeq (tAsg te g) B D s H := h
/-- one row's values -/
theorem rd_line {H : Hp} {W : Addr} {b : Int} {wide m : Nat} {s : L2.St} {Q : VK} (hl : wide ≤ 8) (hW : WellAt (m + wide) H W) (h0 : s[0]? = some (some (.ref W))) (h1 : s[1]? = some (some (.int wide))) (h3 : s[3]? = some (some (.int b)))
    (q : ∀ H' D (r : List Int), Sm W H H' → WellAt m H' W → H D = none → H' D = some (.lst (r.map V.int)) → r.length = wide → Q (.ref D) H') : tLc (iRng1 (tCons (tVar 1) tNil)) (gName 14) tYes teItem [14] s H Q := by
  refine ⟨_, h1, wide, rfl, by omega, by omega, fun Dn nDn => ?_⟩
  have DW : Dn ≠ W := (hW.ne nDn).symm
  refine lc_it (walk_range (lo := 0) (n := (wide : Int).toNat)) (fun i h => ∃ r : List Int, h Dn = some (.lst (r.map V.int)) ∧ r.length = i ∧ Sm W H h ∧ WellAt (m + (wide - i)) h W)
    ⟨[], upd_same, rfl, Sm.new .rfl' nDn, hW.new nDn⟩ (fun _ _ _ _ => trivial) ?_ ?_
  · rintro i x h h' hi ⟨r, e4, lr, s4, w4⟩ ⟨rfl, rfl⟩
    have hi' : i < wide := by simpa using hi
    refine ⟨?_, ?_⟩
    · show (((s.set 14 none).set 14 _).set 14 none) = s.set 14 none
      rw [List.set_set, List.set_set]
    have gj : ∀ (j : Nat) (v : V), j ≠ 14 → s[j]? = some (some v) → ((wipe s [14]).set 14 (some (V.int (0 + (i : Int)))))[j]? = some (some v) := fun j v hj e => by
      show ((s.set 14 none).set 14 _)[j]? = _
      rw [List.set_set, List.getElem?_set_ne (by omega)]
      exact e
    refine ⟨_, gj 3 _ (by decide) h3, _, gj 0 _ (by decide) h0, W, 2, m + (wide - (i + 1)), rfl, by decide, by decide, w4.mono (by omega), fun h5 k hk s5 w5 => ?_⟩
    refine ⟨_, _, rfl, rfl, ?_⟩
    refine ⟨_, s5 _ _ DW e4, by rw [List.length_map]; exact line100' (by omega), r ++ [b + (k : Int)], ?_, ?_, (s4.trans s5).mut nDn, w5.upd DW.symm⟩
    · rw [upd_same, List.map_append]
      rfl
    · rw [List.length_append, List.length_singleton, lr]
  · rintro h ⟨r, e4, lr, s4, w4⟩
    have e : (wide : Int).toNat = wide := by omega
    rw [e] at lr w4
    exact q h Dn r s4 (w4.mono (by omega)) nDn e4 lr
/-- a row that is kept -/
def RowX (n : Nat) (D W : Addr) (h : Hp) (a : Addr) (r : List Int) : Prop := h a = some (.tup (r.map V.int)) ∧ a ≠ D ∧ a ≠ W ∧ r.length = n
theorem RowX.sm {n : Nat} {D W : Addr} {h h' : Hp} {a : Addr} {r : List Int} (x : RowX n D W h a r) (s : Sm W h h') : RowX n D W h' a r := ⟨s _ _ x.2.2.1 x.1, x.2⟩
theorem RowX.put {n : Nat} {D W : Addr} {h : Hp} {a : Addr} {r : List Int} {o : HO} (x : RowX n D W h a r) : RowX n D W (upd h D o) a r := ⟨by rw [upd_ne x.2.1]; exact x.1, x.2⟩
theorem rd_lines {H : Hp} {W : Addr} {b : Int} {wide m : Nat} {s : L2.St} {Q : VK} (hl : wide ≤ 8) (hW : WellAt (m + 65) H W) (h0 : s[0]? = some (some (.ref W))) (h1 : s[1]? = some (some (.int wide))) (h3 : s[3]? = some (some (.int b)))
    (q : ∀ H' D as (rs : List (List Int)), Sm W H H' → WellAt m H' W → H D = none → D ≠ W → H' D = some (.lst (as.map V.ref)) → RowsAt H' as rs → (∀ r ∈ rs, r.length = wide) → rs.length ≤ 8 → Q (.ref D) H') :
    tLc (iRng1 (tCons (tCall sp_draw [] E0 (tCons (tVar 0) (tCons (tC (.int 9)) tNil))) tNil)) (gName 7) tYes (tCB (rTu K) (tCons (tLc (iRng1 (tCons (tVar 1) tNil)) (gName 14) tYes teItem [14]) tNil)) [7] s H Q := by
  refine ⟨_, h0, W, 9, m + 64, rfl, by decide, by decide, hW, fun H1 many hmn s1 w1 => ?_⟩
  refine ⟨many, rfl, by omega, by omega, fun Dn nDn => ?_⟩
  have DW : Dn ≠ W := (w1.ne nDn).symm
  refine lc_it (walk_range (lo := 0) (n := (many : Int).toNat)) (fun i h => ∃ as rs, h Dn = some (.lst (as.map V.ref)) ∧ Paired (RowX wide Dn W h) as rs ∧ as.length = i ∧ Sm W H1 h ∧ WellAt (m + 8 * (many - i)) h W)
    ⟨[], [], upd_same, .nil, rfl, Sm.new .rfl' nDn, (w1.new nDn).mono (by omega)⟩ (fun _ _ _ _ => trivial) ?_ ?_
  · rintro i x h h' hi ⟨as, rs, e4, t4, l4, s4, w4⟩ ⟨rfl, rfl⟩
    have hi' : i < many := by simpa using hi
    refine ⟨?_, ?_⟩
    · show (((s.set 7 none).set 7 _).set 7 none) = s.set 7 none
      rw [List.set_set, List.set_set]
    have gj : ∀ (j : Nat) (v : V), j ≠ 7 → s[j]? = some (some v) → ((wipe s [7]).set 7 (some (V.int (0 + (i : Int)))))[j]? = some (some v) := fun j v hj e => by
      show ((s.set 7 none).set 7 _)[j]? = _
      rw [List.set_set, List.getElem?_set_ne (by omega)]
      exact e
    dsimp only [tYes]
    rw [if_pos rfl]
    dsimp only [tCB, tCons]
    refine rd_line (m := m + 8 * (many - (i + 1))) hl (w4.mono (by omega)) (gj 0 _ (by decide) h0) (gj 1 _ (by decide) h1) (gj 3 _ (by decide) h3) fun h5 L r s5 w5 nL eL lr => ?_
    have e5 := s5 _ _ DW e4
    have LD : L ≠ Dn := fun z => by rw [z, e4] at nL; cases nL
    refine ⟨L, r.map V.int, rfl, .inl ⟨.of eL, fun T nT => ?_⟩⟩
    have e6 : upd h5 T (.tup (r.map V.int)) Dn = some (.lst (as.map V.ref)) := by rw [upd_ne (ne_of_none e5 nT)]; exact e5
    have TD : T ≠ Dn := (ne_of_none e5 nT).symm
    have TW : T ≠ W := (w5.ne nT).symm
    refine ⟨_, e6, ?_, as ++ [T], rs ++ [r], ?_, ?_, ?_, ?_, ?_⟩
    · rw [List.length_map]
      exact line100' (by omega)
    · rw [upd_same, List.map_append]
      rfl
    · exact pr_snoc (Paired.mapP t4 fun a x e => ((e.sm s5).sm (.of (Same.new nT))).put) (RowX.put ⟨upd_same, TD, TW, lr⟩)
    · rw [List.length_append, List.length_singleton, l4]
    · exact ((s4.trans s5).new nT).mut nDn
    · exact (w5.new nT).upd DW.symm
  · rintro h ⟨as, rs, e4, t4, l4, s4, w4⟩
    have e : (many : Int).toNat = many := by omega
    rw [e] at l4 w4
    refine q h Dn as rs (s1.trans s4) (w4.mono (by omega)) (s1.free hW nDn ⟨_, w1⟩) DW e4 (Paired.mapP t4 fun a r x => x.1) ?_ (by have := Paired.length t4; omega)
    have : ∀ {as rs}, Paired (RowX wide Dn W h) as rs → ∀ r ∈ rs, r.length = wide := by
      intro as rs hp
      induction hp with
      | nil => intro r hr; cases hr
      | cons x _ ih =>
        intro r hr
        rcases List.mem_cons.mp hr with e | hr
        · rw [e]
          exact x.2.2.2
        · exact ih r hr
    exact this t4
theorem set_sorted {P : Program} {w : World} {H : Hp} {l : Addr} {as : List Addr} {rs : List (List Int)} {d : Nat} {Q : VK} (hl : H l = some (.lst (as.map V.ref))) (hr : RowsAt H as rs) (hd : ∀ r ∈ rs, r.length = d) (few : rs.length ≤ 60)
    (q : ∀ H' p as', Same H H' → H p = none → H' p = some (.lst (as'.map V.ref)) → RowsAt H' as' (norm rs) → Q (.ref p) H') : rSetOfT K P w [.ref l] H fun v h => TB.rSortedS K P w [v] h Q := by
  have hal := hr.len
  have z1 := (zip_fst hal).1
  have z2 := (zip_fst hal).2
  have zr : ∀ p ∈ as.zip rs, H p.1 = some (.tup (p.2.map V.int)) := pr_zip hr
  refine ⟨l, as.zip rs, rfl, ?_, fun p hp => .of (zr p hp), by rw [List.length_zip]; omega, fun a Ls na i1 i2 => ?_⟩
  · have : (as.zip rs).map (fun p => V.ref p.1) = as.map V.ref := by
      conv => rhs; rw [← z1]
      rw [List.map_map]
      rfl
    rw [this]
    exact .of hl
  have sa : Same H (upd H a (SetTO P w a Ls)) := Same.new na
  have lsr : ∀ p ∈ Ls, upd H a (SetTO P w a Ls) p.1 = some (.tup (p.2.map V.int)) := fun p hp => sa _ _ (zr p (i1 p hp))
  have inr : ∀ p ∈ as.zip rs, p.2 ∈ rs := fun p hp => z2 ▸ List.mem_map.mpr ⟨p, hp, rfl⟩
  refine ⟨a, Ls, d, rfl, upd_same, fun p hp => .of (lsr p hp), fun p hp => hd _ (inr p (i1 p hp)), fun L' p pm ndL few' pw np => ?_⟩
  have sp : Same (upd H a (SetTO P w a Ls)) (upd (upd H a (SetTO P w a Ls)) p (.lst (L'.map fun q => V.ref q.1))) := Same.new np
  refine q _ p (L'.map (·.1)) (sa.trans sp) (sa.free np) ?_ ?_
  · rw [upd_same, List.map_map]
    rfl
  · have en : L'.map (·.2) = norm rs := by
      refine norm_of (rise_of ndL (List.pairwise_map.mpr pw)) fun x => ?_
      constructor
      · intro hx
        obtain ⟨pq, hp, rfl⟩ := List.mem_map.mp hx
        exact inr _ (i1 _ (pm.mem_iff.mp hp))
      · intro hx
        rw [← z2] at hx
        obtain ⟨pq, hp, rfl⟩ := List.mem_map.mp hx
        exact (pm.map (·.2)).mem_iff.mpr (i2 pq hp)
    rw [← en]
    exact of_zip fun pq hp => sp _ _ (lsr pq (pm.mem_iff.mp hp))
/-- where a table stands, other things changed -/
theorem _root_.TG.TabAt.sm {C W : Addr} {H H' : Hp} {p : Addr} {cs : List Str} {rs : List (List Int)} (t : TG.TabAt C H p cs rs) (s : Sm W H H') (w : ∃ n, WellAt n H W) : TG.TabAt C H' p cs rs := by
  obtain ⟨dx, l, r, as, h1, h2, h3, h4⟩ := t
  refine ⟨dx, l, r, as, s _ _ (well_no w h1 fun _ z => by cases z) h1, s _ _ (well_strs w h2) h2, s _ _ ?_ h3, h4.sm s w⟩
  obtain ⟨n, x, y, z, e, _⟩ := w
  rintro rfl
  rw [h3] at e
  have e := Option.some.inj e
  injection e with e
  cases as with
  | nil => cases e
  | cons a as => cases e
variable {fI hc hr hl he hk hh hw ho fr : Addr} {dI gc gr gl ge gk gh gw go dr : FuncData}
/-- a table beside another, unlike or not -/
theorem own_eqB {H : Hp} {a b : Addr} {cs cs' : List Str} {rs rs' : List (List Int)} {neg : Bool} {Q : VK} (D : Bd K mg C fI hc hr hl he hk hh hw ho Cr fr dI gc gr gl ge gk gh gw go dr) (h : TG.TabAt C H a cs rs) (k : TG.TabAt C H b cs' rs') (ok : ∀ x ∈ cs, TM.NameOk x) (ok' : ∀ x ∈ cs', TM.NameOk x)
    (q : ∀ H', Same H H' → Q (.bl (if neg = true then !(decide (cs = cs') && decide (rs = rs')) else (decide (cs = cs') && decide (rs = rs')))) H') : rOwnEq K C (sp_beq C) E0 neg (.ref a) (.ref b) H Q := by
  obtain ⟨dx, l, r, as, h1, h2, h3, h4⟩ := id h
  obtain ⟨dx', l', r', as', h1', h2', h3', h4'⟩ := id k
  have c := D.c
  exact ⟨a, dx, _, .ref C, rfl, h1, .base (.ins h1' c.cl c.ins.ha c.ins.hn c.ins.htk c.ins.hm), D.ns, a, b, cs, cs', rs, rs', rfl, h, k, ok, ok', fun H' s => ⟨_, rfl, q H' s⟩⟩
end
end T03

set_option maxHeartbeats 2000000
namespace T03
open PySem L2 PyProof.Rows TX TY TW TD TG
section
variable {P : Program} {w : World} {K : PySem.W.Frag} {mg : Str → Option Value} {base : Heap}
/-- a base: a number of few figures -/
abbrev N_base : List Str := ["_law_well_here", "_law_great"]
theorem sc_base : FnScope N_base ["_law_well_here"] (defScope s_base) := ⟨rfl, rfl, rfl, by decide +kernel, rfl, by decide +kernel, by decide +kernel⟩
def sp_base : Sp := fun vs H Q _ => ∃ (W : Addr) (n : Nat), vs = [.ref W] ∧ WellAt (n + 4) H W ∧ ∀ (H' : Hp) (b : Int), Sm W H H' → WellAt n H' W → b.natAbs < 10 ^ 39 → Q (.int b) H'
theorem ok_base {f fD : Addr} {fd fdD : FuncData} (F : Fn K mg "_law_base" s_base ["_law_well_here"] f fd) (D : Fn K mg "_law_draw" s_draw ["_law_well_here", "_law_top"] fD fdD) : FnOk P w K mg base CX0 2 f fd ["_law_well_here"] sp_base := by
  have GD : FnOk P w K mg base CX0 1 fD fdD ["_law_well_here", "_law_top"] sp_draw := ok_draw D
  refine F.F.ok sc_base (fun vs H Q E h => ?_) (fun cdv A outer s H vs Q E hr h => ?_)
  · obtain ⟨W, n, rfl, _⟩ := h
    rfl
  · obtain ⟨W, n, rfl, hW, q⟩ := h
    have nd := sc_base.nd
    refine ⟨_, pss_cons (ps_set (i := 1) nd rfl (Or.inl rfl) (pe_op op_add (pe_op op_add (pe_op op_mul (pe_call GD hr rfl D.g D.F.kp D.b .nil pass0 (pa_cons (pv 0) (pa_cons (pe_op op_pow pe_int pe_int) pa_nil))) (pe_op op_pow pe_int pe_int))
          (pe_op op_mul (pe_call GD hr rfl D.g D.F.kp D.b .nil pass0 (pa_cons (pv 0) (pa_cons (pe_op op_pow pe_int pe_int) pa_nil))) (pe_op op_pow pe_int pe_int)))
          (pe_call GD hr rfl D.g D.F.kp D.b .nil pass0 (pa_cons (pv 0) (pa_cons (pe_op op_pow pe_int pe_int) pa_nil)))))
      (pss_one (ps_ret (pe_ix ix_list (pe_lst (pa_cons pe_int (pa_cons (pe_un un_neg pe_int) (pa_cons (pv 1) (pa_cons (pe_op op_sub pe_int (pv 1)) pa_nil))))) (pe_call GD hr rfl D.g D.F.kp D.b .nil pass0 (pa_cons (pv 0) (pa_cons pe_int pa_nil))) (fun _ _ => rfl)))), ?_⟩
    refine ⟨_, rfl, _, _, rfl, rfl, ⟨by decide, by decide, by decide⟩, W, 100000000, n + 3, rfl, by decide, by decide, hW, fun H1 a ha s1 w1 => ?_⟩
    refine ⟨_, _, rfl, rfl, ⟨by decide, by decide, by decide⟩, ?_⟩
    refine ⟨_, _, rfl, rfl, .inl ⟨by omega, by omega⟩, ?_⟩
    refine ⟨_, rfl, _, _, rfl, rfl, ⟨by decide, by decide, by decide⟩, W, 100000000, n + 2, rfl, by decide, by decide, w1, fun H2 b hb s2 w2 => ?_⟩
    refine ⟨_, _, rfl, rfl, ⟨by decide, by decide, by decide⟩, ?_⟩
    refine ⟨_, _, rfl, rfl, .inl ⟨by omega, by omega⟩, ?_⟩
    refine ⟨_, _, rfl, rfl, ?_⟩
    refine ⟨_, rfl, _, _, rfl, rfl, ⟨by decide, by decide, by decide⟩, W, 100000000, n + 1, rfl, by decide, by decide, w2, fun H3 c hc s3 w3 => ?_⟩
    refine ⟨_, _, rfl, rfl, ?_⟩
    have gb : ((a : Int) * 10 ^ Int.toNat 30 + (b : Int) * 10 ^ Int.toNat 15 + (c : Int)).natAbs < 10 ^ 39 := by
      have e1 : (10 : Int) ^ Int.toNat 30 = 1000000000000000000000000000000 := by decide
      have e2 : (10 : Int) ^ Int.toNat 15 = 1000000000000000 := by decide
      rw [e1, e2]
      omega
    dsimp only
    generalize (a : Int) * 10 ^ Int.toNat 30 + (b : Int) * 10 ^ Int.toNat 15 + (c : Int) = g at gb ⊢
    refine ⟨1, rfl, _, rfl, _, rfl, _, _, rfl, rfl, (show 4 ≤ sizeLine by decide), fun p np => ?_⟩
    have m3 := (s1.trans s2).trans s3
    have wp := w3.new (o := .lst [.int 0, .int (-1), .int g, .int (0 - g)]) np
    have pW : p ≠ W := (w3.ne np).symm
    refine ⟨_, rfl, W, 4, n, rfl, by decide, by decide, wp, fun H4 k hk s4 w4 => ?_⟩
    have ep : H4 p = some (.lst [.int 0, .int (-1), .int g, .int (0 - g)]) := s4 _ _ pW upd_same
    have m4 := (m3.new (o := .lst [.int 0, .int (-1), .int g, .int (0 - g)]) np).trans s4
    obtain ⟨b', hb', hn⟩ : ∃ b' : Int, atI [V.int 0, V.int (-1), V.int g, V.int (0 - g)] (k : Int) = some (V.int b') ∧ b'.natAbs < 10 ^ 39 := by
      have : k = 0 ∨ k = 1 ∨ k = 2 ∨ k = 3 := by omega
      rcases this with e | e | e | e <;> subst e
      · exact ⟨0, rfl, by decide⟩
      · exact ⟨-1, rfl, by decide⟩
      · exact ⟨g, rfl, gb⟩
      · exact ⟨0 - g, rfl, by omega⟩
    exact ⟨p, _, _, _, rfl, rfl, .of ep, hb', q H4 b' m4 w4 hn⟩
end
end T03

set_option maxHeartbeats 4000000
namespace T03
open PySem L2 PyProof.Rows TX TY TW TD TB TG TUD TE TK TLC
section
variable {P : Program} {w : World} {K : PySem.W.Frag} {mg : Str → Option Value} {base : Heap}
variable {fW fN fA fR fK fS : Addr} {dW dN dA dR dK dS : FuncData}
variable {C fI hc hr hl he hk hh hw ho Cr fr : Addr} {dI gc gr gl ge gk gh gw go dr : FuncData}
/-- the defs of the statement -/
structure Ld (K : PySem.W.Frag) (mg : Str → Option Value) (gD gN gB gO gS : Addr) (eD eN eB eO eS : FuncData) : Prop where
  draw : Fn K mg "_law_draw" s_draw ["_law_well_here", "_law_top"] gD eD
  nms : Fn K mg "_law_names" s_names ["_law_well_here", "_law_count"] gN eN
  bas : Fn K mg "_law_base" s_base ["_law_well_here"] gB eB
  odd : Fn K mg "_law_odd" s_odd ["_law_well_here", "_law_wide"] gO eO
  ref : Fn K mg "_law_refused" s_refused ["_law_deed"] gS eS
variable {gD gN gB gO gS c Pt : Addr} {eD eN eB eO eS : FuncData}
abbrev N_right : List Str := ["_law_well_here", "_law_wide", "_law_names_here", "_law_base_here", "_law_rows", "_law_table", "_law_due", "_law_k", "_law_puts", "_law_odd_here", "_law_line", "_law_ahead", "_law_other", "_law_asks", "_law_j", "_law_one", "_law_ask"]
theorem sc_right : FnScope N_right ["_law_well_here"] (defScope s_right) := ⟨rfl, rfl, rfl, by decide +kernel, rfl, by decide +kernel, by decide +kernel⟩
def sp_right (T : List (Addr × Str)) : Sp := fun vs H Q _ => ∃ W : Addr, vs = [.ref W] ∧ WellAt 1000 H W ∧ LamX.Tabs T H ∧ ∀ H', ExW W H H' → LamX.Tabs T H' → Q (.bl true) H'
/-- the scope of the outer list -/
abbrev scIn : Scope := { kind := .function, names := [((".0" : Str), NameKind.local), ("_law_k", .local), ("tuple", .globalImplicit), ("range", .globalImplicit), ("_law_base_here", .cell), ("_law_well_here", .cell), ("_law_wide", .cell)], isGenerator := false, isCoroutine := false }
abbrev lamSc : Scope := { kind := .function, names := [("_law_odd_here", .free), ("_law_other", .free)], isGenerator := false, isCoroutine := false }
abbrev teRef (P : Program) (w : World) (K : PySem.W.Frag) (mg : Str → Option Value) (base : Heap) (X : Cx) (Cr : Addr) : L2.St → TE := fun σ => tCallC P w K mg base 10 (fun _ => Kn X σ) (cref Cr) (tVar 16)
/-- what is due without a row -/
theorem rd_out {X : Cx} {l a : Addr} {as : List Addr} {rs : List (List Int)} {r : List Int} {s : L2.St} {H : Hp} {Q : VK} (h6 : s[6]? = some (some (.ref l))) (h10 : s[10]? = some (some (.ref a))) (hs : s.length = 17) (hl : H l = some (.lst (as.map V.ref))) (hr : RowsAt H as rs) (ha : H a = some (.tup (r.map V.int))) (few : rs.length ≤ 60)
    (q : ∀ H' D bs, Same H H' → H D = none → H' D = some (.lst (bs.map V.ref)) → RowsAt H' bs (outR r rs) → Q (.ref D) H') : tLc (iList X.K (tVar 6)) (gName 15) (tTest (tOp (rNeD X.K) (tVar 15) (tVar 10))) (tVar 15) [15] s H Q := by
  refine ⟨_, h6, l, rfl, ⟨_, .of hl⟩, fun Dn nDn => ?_⟩
  have hal := hr.len
  refine lc_it (walk_list (xs := as.map V.ref)) (fun n h => ∃ bs : List Addr, h Dn = some (.lst (bs.map V.ref)) ∧ RowsAt h bs (outR r (rs.take n)) ∧ Same H h)
    ⟨[], upd_same, .nil, Same.new nDn⟩ (fun n h _ ⟨_, _, _, s⟩ => .of (s _ _ hl)) ?_ ?_
  · rintro n v h h' hn ⟨bs, e6, r6, s6⟩ ⟨rfl, hv⟩
    rw [List.length_map] at hn
    obtain ⟨b, hb', rfl⟩ : ∃ b, as[n]? = some b ∧ v = V.ref b := by
      rw [List.getElem?_map, List.getElem?_eq_getElem hn] at hv
      exact ⟨_, List.getElem?_eq_getElem hn, (Option.some.inj hv).symm⟩
    obtain ⟨row, hrow, hta⟩ := pr_at hr hb'
    have ta' := s6 _ _ hta
    have htk : outR r (rs.take (n + 1)) = outR r (rs.take n) ++ outR r [row] := by unfold outR; rw [List.take_add_one, hrow, List.filter_append]; rfl
    have gj : ∀ (j : Nat) (v : V), j ≠ 15 → s[j]? = some (some v) → ((wipe s [15]).set 15 (some (V.ref b)))[j]? = some (some v) := fun j v hj e => by
      show ((s.set 15 none).set 15 _)[j]? = _
      rw [List.set_set, List.getElem?_set_ne (by omega)]
      exact e
    have g15 : ((wipe s [15]).set 15 (some (V.ref b)))[15]? = some (some (.ref b)) := by
      show ((s.set 15 none).set 15 _)[15]? = _
      rw [List.set_set, List.getElem?_set_self (by omega)]
    refine ⟨?_, ?_⟩
    · show (((s.set 15 none).set 15 _).set 15 none) = s.set 15 none
      rw [List.set_set, List.set_set]
    refine ⟨_, g15, _, gj 10 _ (by decide) h10, _, _, DpRow ta', DpRow (s6 _ _ ha), sh_row _, sh_row _, _, rfl, ?_⟩
    rw [eqv_row]
    by_cases g : row = r
    · rw [decide_eq_true g]
      refine ⟨bs, e6, ?_, s6⟩
      have e1 : outR r [row] = [] := by
        unfold outR
        rw [List.filter_cons_of_neg (by simpa using g), List.filter_nil]
      rw [htk, e1, List.append_nil]
      exact r6
    · rw [decide_eq_false g]
      have hlb : bs.length ≤ n := by
        have e1 := r6.len
        have e2 := List.length_filter_le (fun q => !decide (q = r)) (rs.take n)
        rw [List.length_take] at e2
        unfold outR at e1
        omega
      refine ⟨_, g15, _, e6, by rw [List.length_map]; exact line100' (by omega), bs ++ [b], by rw [upd_same, List.map_append]; rfl, ?_, Same.mut s6 nDn⟩
      have e1 : outR r [row] = [row] := by
        unfold outR
        rw [List.filter_cons_of_pos (by simpa using g), List.filter_nil]
      rw [htk, e1]
      exact RowsAt.put (pr_snoc r6 ta') e6
  · rintro h ⟨bs, e6, r6, s6⟩
    rw [List.length_map, hal, List.take_length] at r6
    exact q h Dn bs s6 nDn e6 r6
theorem well_refs {H : Hp} {W l : Addr} {as : List Addr} (w : ∃ n, WellAt n H W) (h : H l = some (.lst (as.map V.ref))) : l ≠ W := by
  obtain ⟨n, x, y, z, e, _⟩ := w
  rintro rfl
  rw [h] at e
  have e := Option.some.inj e
  injection e with e
  cases as with
  | nil => cases e
  | cons a as => cases e
theorem Tb.sm {W : Addr} {H H' : Hp} {p : Addr} {cs : List Str} {rs : List (List Int)} (t : Tb C H p cs rs) (s : Sm W H H') (w : ∃ n, WellAt n H W) : Tb C H' p cs rs := ⟨t.at_.sm s w, t.cok, t.len, t.few, t.rise⟩
theorem put_call {f : List Int → List (List Int) → List (List Int)} {t a : Addr} {r : List Int} {cs : List Str} {rs : List (List Int)} {H : Hp} {Q : VK} {E : XK} (tb : Tb C H t cs rs) (ha : H a = some (.tup (r.map V.int))) (hl : r.length = cs.length) (q : ∀ H' p, Same H H' → TabAt C H' p cs (f r rs) → Q (.ref p) H') : sp_put C Cr f [.ref t, .ref a] H Q E := by
  have := tb.cok.le
  refine ⟨t, a + 1, .ref a, some (r.map V.int), cs, rs, rfl, tb, rowT_int ha (by omega), fun z => (by rw [okRow_int hl] at z; cases z), fun r' _ e H' p s tp => ?_⟩
  have e := Option.some.inj e
  have : r' = r := ((List.map_inj_right (fun x y e => V.int.inj e)).mp e).symm
  subst this
  exact q H' p s tp
theorem has_call {t a : Addr} {r : List Int} {cs : List Str} {rs : List (List Int)} {H : Hp} {Q : VK} {E : XK} (tb : Tb C H t cs rs) (ha : H a = some (.tup (r.map V.int))) (hl : r.length = cs.length) (q : ∀ H', Same H H' → Q (.bl (decide (r ∈ rs))) H') : sp_has C Cr [.ref t, .ref a] H Q E := by
  have := tb.cok.le
  refine ⟨t, a + 1, .ref a, some (r.map V.int), cs, rs, rfl, tb.at_, rowT_int ha (by omega), fun z => (by rw [okRow_int hl] at z; cases z), fun r' _ e H' s => ?_⟩
  have e := Option.some.inj e
  have : r' = r := ((List.map_inj_right (fun x y e => V.int.inj e)).mp e).symm
  subst this
  exact q H' s
theorem ok_right {f : Addr} {fd : FuncData} {T : List (Addr × Str)} (F : FnC K mg "_law_right" s_right ["_law_well_here"] f fd c) (Tk : Kt K mg fW fN fA fR fK fS dW dN dA dR dK dS) (D : Bd K mg C fI hc hr hl he hk hh hw ho Cr fr dI gc gr gl ge gk gh gw go dr) (TB' : LamX.TabB base mg c Pt) (hm : (Pt, lamQ "_law_right") ∈ T) (hu : ∀ p ∈ T, p.1 = Pt → p.2 = lamQ "_law_right")
    (L : Ld K mg gD gN gB gO gS eD eN eB eO eS) (GS : COk P w K mg base 11 10 gS (cref Cr)) : FnOk P w K mg base CX0 13 f fd ["_law_well_here"] (sp_right T) := by
  have B := Tk.B
  have cc := D.c
  have GD : FnOk P w K mg base CX0 1 gD eD ["_law_well_here", "_law_top"] sp_draw := ok_draw L.draw
  have GN : FnOk P w K mg base CX0 2 gN eN ["_law_well_here", "_law_count"] sp_names := ok_names L.nms B L.draw
  have GB : FnOk P w K mg base CX0 2 gB eB ["_law_well_here"] sp_base := ok_base L.bas L.draw
  have GO : FnOk P w K mg base CX0 2 gO eO ["_law_well_here", "_law_wide"] sp_odd := ok_odd L.odd B L.draw
  have GI : FnOk P w K mg base CX0 4 fI dI ["self", "columns", "rows"] (sp_binit C) := ok_binit D.iF Tk cc
  have GC : FnOk P w K mg base CX0 1 hc gc ["self"] (sp_bcolumns C) := ok_bcolumns D.cols.F B cc
  have GR : FnOk P w K mg base CX0 1 hr gr ["self"] (sp_brows C) := ok_brows D.rows.F B cc
  have GL : FnOk P w K mg base CX0 1 hl gl ["self"] (sp_blen C) := ok_blen D.len.F B cc
  have GE : FnOk P w K mg base CX0 1 he ge ["self", "other"] (sp_beq C) := ok_beq D.eq.F B cc
  have GH : FnOk P w K mg base (L2.CX P w) 4 hh gh ["self", "row"] (sp_has C Cr) := ok_has Tk D
  have GW : FnOk P w K mg base (L2.CX P w) 6 hw gw ["self", "row"] (sp_put C Cr addR) := ok_with Tk D
  have GT : FnOk P w K mg base (L2.CX P w) 6 ho go ["self", "row"] (sp_put C Cr outR) := ok_wout Tk D
  refine F.F.ok sc_right (fun vs H Q E h => ?_) (fun A outer s H vs Q E hr h => ?_)
  · obtain ⟨W, rfl, _⟩ := h
    rfl
  · obtain ⟨W, rfl, hW, hT, q⟩ := h
    have nd := sc_right.nd
    have hu64 := hr.units
    have r1 : Room 1 _ := hr.mono (by decide)
    have r2 : Room 2 _ := hr.mono (by decide)
    have r4 : Room 4 _ := hr.mono (by decide)
    have r5 : Room 5 _ := hr.mono (by decide)
    have r6 : Room 6 _ := hr.mono (by decide)
    have r11 : Room 11 _ := hr.mono (by decide)
    refine ⟨_, pss_cons (ps_set (i := 1) nd rfl (Or.inr rfl) (pe_op op_add pe_int (pe_call GD r1 rfl L.draw.g L.draw.F.kp L.draw.b .nil pass0 (pa_cons (pv 0) (pa_cons pe_int pa_nil)))))
      (pss_cons (ps_set (i := 2) nd rfl (Or.inl rfl) (pe_call GN r2 rfl L.nms.g L.nms.F.kp L.nms.b .nil pass0 (pa_cons (pv 0) (pa_cons (pv 1) pa_nil))))
      (pss_cons (ps_set (i := 3) nd rfl (Or.inr rfl) (pe_call GB r2 rfl L.bas.g L.bas.F.kp L.bas.b .nil pass0 (pa_cons (pv 0) pa_nil)))
      (pss_cons (ps_setLc (i := 4) (own := [("_law_k", 7)]) (g := gName 7) (tt := tYes) (te := tCB (rTu K) (tCons (tLc (iRng1 (tCons (tVar 1) tNil)) (gName 14) tYes teItem [14]) tNil)) (by rfl) nd rfl rfl (sw_true rfl rfl rfl (by decide +kernel)) (pi_range1 rfl B.range (pa_cons (pe_call GD r1 rfl L.draw.g L.draw.F.kp L.draw.b .nil pass0 (pa_cons (pv 0) (pa_cons pe_int pa_nil))) pa_nil))
          (blkOk_by (N := N_right) (sc := defScope s_right) (by decide +kernel)) (fun _ _ _ _ _ => pg_name (i := 7) nd rfl (Or.inl rfl)) (fun _ _ _ _ _ => pts_nil)
          (fun _ _ _ _ _ => (pe_callTy call_tu (by rfl) B.tuple boot_tuple (pa_cons (pe_lc (own := [("_law_j", 14)]) (g := gName 14) (tt := tYes) (te := teItem) rfl nd (pi_range1 rfl B.range (pa_cons (pv 1) pa_nil)) (blkOk_by (N := N_right) (sc := scIn) (by decide +kernel)) (fun _ _ _ _ _ => pg_name (i := 14) nd rfl (Or.inl rfl)) (fun _ _ _ _ _ => pts_nil) (fun _ _ _ _ _ => pe_op op_add (pv 3) (pe_call GD r1 rfl L.draw.g L.draw.F.kp L.draw.b .nil pass0 (pa_cons (pv 0) (pa_cons pe_int pa_nil))))) pa_nil))))
      (pss_cons (ps_set (i := 5) nd rfl (Or.inl rfl) (pe_make D.iM GI r5 rfl cc.g D.iB .nil pass0 (pa_cons (pv 2) (pa_cons (pv 4) pa_nil))))
      (pss_cons (ps_set (i := 6) nd rfl (Or.inl rfl) (pe_callB (TB.cr_sortedS rfl) (by rfl) B.sorted boot_sorted (pa_cons (pe_callTy (cr_setOfT rfl hu64) (by rfl) Tk.set boot_set (pa_cons (pv 4) pa_nil)) pa_nil)))
      (pss_cons (ps_for PassesOwn.never rfl (pi_range1 rfl B.range (pa_cons (pe_op op_add pe_int (pe_call GD r1 rfl L.draw.g L.draw.F.kp L.draw.b .nil pass0 (pa_cons (pv 0) (pa_cons pe_int pa_nil)))) pa_nil)) (pg_name (i := 7) nd rfl (Or.inl rfl))
        (pss_cons (ps_set (i := 8) nd rfl (Or.inl rfl) (pe_cmpR op_eq (pe_call GD r1 rfl L.draw.g L.draw.F.kp L.draw.b .nil pass0 (pa_cons (pv 0) (pa_cons pe_int pa_nil))) pe_int (nomark _)))
        (pss_cons (ps_set (i := 9) nd rfl (Or.inr rfl) (pe_call GO r2 rfl L.odd.g L.odd.F.kp L.odd.b .nil pass0 (pa_cons (pv 0) (pa_cons (pv 1) pa_nil))))
        (pss_cons (ps_set (i := 10) nd rfl (Or.inr rfl) (pe_callTy call_tu (by rfl) B.tuple boot_tuple (pa_cons (pe_lc (own := [("_law_j", 14)]) (g := gName 14) (tt := tYes) (te := teItem) rfl nd (pi_range1 rfl B.range (pa_cons (pv 1) pa_nil)) (blkOk_by (N := N_right) (sc := defScope s_right) (by decide +kernel)) (fun _ _ _ _ _ => pg_name (i := 14) nd rfl (Or.inl rfl)) (fun _ _ _ _ _ => pts_nil) (fun _ _ _ _ _ => pe_op op_add (pv 3) (pe_call GD r1 rfl L.draw.g L.draw.F.kp L.draw.b .nil pass0 (pa_cons (pv 0) (pa_cons pe_int pa_nil))))) pa_nil)))
        (pss_cons (ps_set (i := 11) nd rfl (Or.inl rfl) (pe_callTy call_list_of (by rfl) B.list boot_list (pa_cons (pv 6) pa_nil)))
        (C8.pss_cut (ps_if (pt_val (pv 8))
            (pss_cons (ps_set (i := 12) nd rfl (Or.inr rfl) (pe_meth (pv 5) cc.cl D.wit.me GW r6 D.wit.b .nil passL (pa_cons (pv 10) pa_nil)))
            (pss_one (ps_set (i := 6) nd rfl (Or.inl rfl) (pe_callB (TB.cr_sortedS rfl) (by rfl) B.sorted boot_sorted (pa_cons (pe_callTy (cr_setOfT rfl hu64) (by rfl) Tk.set boot_set (pa_cons (pe_op op_cat (pv 6) (pe_lst (pa_cons (pv 10) pa_nil))) pa_nil)) pa_nil)))))
            (pss_cons (ps_set (i := 12) nd rfl (Or.inr rfl) (pe_methK0 (pv 5) cc.cl D.wout.me GT r6 D.woK passL (pk_cons (pv 10) pk_nil)))
            (pss_one (ps_setLc (i := 6) (own := [("_law_one", 15)]) (g := gName 15) (tt := tTest (tOp (rNeD K) (tVar 15) (tVar 10))) (te := tVar 15) (by rfl) nd rfl rfl (sw_true rfl rfl rfl (by decide +kernel)) (pi_list (pv 6))
              (blkOk_by (N := N_right) (sc := defScope s_right) (by decide +kernel)) (fun _ _ _ _ _ => pg_name (i := 15) nd rfl (Or.inl rfl)) (fun _ _ _ _ _ => pts_one (pt_cmpR (op_neD hu64) (pv 15) (pv 10) (nomark _))) (fun _ _ _ _ _ => pv 15)))))
        (pss_cons (ps_if (PW.pt (pw_or (pt_cmpR (op_neD hu64) (pe_meth0 (pv 5) cc.cl D.rows.me GR r1 D.rows.b .nil pass0) (pv 11) (nomark _)) (pw_or (pt_cmpR (op_neD hu64) (pe_meth0 (pv 12) cc.cl D.rows.me GR r1 D.rows.b .nil pass0) (pv 6) (nomark _))
            (pw_or (pt_cmpR (op_neD hu64) (pe_meth0 (pv 12) cc.cl D.cols.me GC r1 D.cols.b .nil pass0) (pv 2) (nomark _)) (pw_or1 (pt_cmpR op_ne (pe_meth (pv 12) cc.cl D.has.me GH r4 D.has.b .nil passL (pa_cons (pv 10) pa_nil)) (pv 8) (nomark _))))))) (pss_one (ps_ret pe_bl)) pss_nil)
        (pss_cons (ps_set (i := 13) nd rfl (Or.inl rfl) (pe_lst (pa_cons (pe_lamV TB' rfl hm hu (LamX.lamS_by (sc := defScope s_right) (by decide +kernel)) rfl) pa_nil)))
        (pss_cons (ps_expr (pe_bm PySem.F.plainAttrs_list PySem.F.slot_list_append PySem.F.type_list_append mt_append (pv 13) (pa_cons (pe_lamV TB' rfl hm hu (LamX.lamS_by (sc := defScope s_right) (by decide +kernel)) rfl) pa_nil)))
        (pss_cons (ps_expr (pe_bm PySem.F.plainAttrs_list PySem.F.slot_list_append PySem.F.type_list_append mt_append (pv 13) (pa_cons (pe_lamV TB' rfl hm hu (LamX.lamS_by (sc := defScope s_right) (by decide +kernel)) rfl) pa_nil)))
        (pss_cons (ps_if (PW.pt (pw_or (pt_cmpR (op_neD hu64) (pe_lcW (own := [("_law_ask", 16)]) (g := gName 16) (te := teRef P w K mg base (cxOf CX0 P w K mg base N_right "_law_right" (defScope s_right) f (.ref c) A outer s H E).nox Cr) rfl nd (pi_list (pv 13)) (blkOk_by (N := N_right) (sc := defScope s_right) (by decide +kernel)) (fun _ _ _ _ _ => pg_name (i := 16) nd rfl (Or.inl rfl))
              (by
                intro pins σ s H C cl fp I nf
                refine pe_callC (kn := fun _ => Kn _ σ) (te := tVar 16) GS (kn_blk I nf) r11 ?_ L.ref.g L.ref.F.kp ?_ ?_ ?_ ?_
                · rfl
                · exact pv 16
                · decide
                · rfl
                · rfl)) (pe_lst (pa_cons pe_bl (pa_cons pe_bl (pa_cons pe_bl pa_nil)))) (nomark _))
            (pw_or (pt_cmpR (op_neD hu64) (pe_meth0 (pv 12) cc.cl D.rows.me GR r1 D.rows.b .nil pass0) (pv 6) (nomark _))
            (pw_or1 (pt_cmpR op_ne (pe_callB (call_lenO GL D.len.me.at_ D.len.me.fn D.len.b pass0 r2) (by rfl) B.len PySem.boot_len (pa_cons (pv 12) pa_nil)) (pe_callB call_len_seq (by rfl) B.len PySem.boot_len (pa_cons (pv 6) pa_nil)) (nomark _)))))) (pss_one (ps_ret pe_bl)) pss_nil)
        (pss_one (ps_set (i := 5) nd rfl (Or.inl rfl) (pv 12))))))))))))))
      (pss_one (ps_ret (pe_cmpR (op_eqOwn GE D.eq.me.at_ D.eq.me.fn D.eq.b pass0 r1) (pv 5) (pe_make D.iM GI r5 rfl cc.g D.iB .nil pass0 (pa_cons (pv 2) (pa_cons (pv 6) pa_nil))) (nomark _)))))))))), ?_⟩
    -- how wide, the names, a base
    refine ⟨_, rfl, W, 4, 999, rfl, by decide, by decide, hW, fun H1 r3 hr3 s1 w1 => ⟨_, _, rfl, rfl, ?_⟩⟩
    obtain ⟨wide, hwd⟩ : ∃ wide : Nat, wide = 1 + r3 := ⟨_, rfl⟩
    dsimp only
    rw [show (1 : Int) + (r3 : Int) = (wide : Int) by omega]
    refine ⟨_, rfl, _, rfl, W, wide, 988, rfl, by omega, w1, fun H2 Nn ns s2 w2 nNn NnW eNn lns ndn okn => ?_⟩
    refine ⟨_, rfl, W, 984, rfl, w2, fun H3 b s3 w3 hb => ?_⟩
    have cs : Cs ns := ⟨ndn, by omega, okn⟩
    have eNn3 := s3 _ _ NnW eNn
    have m3 := (s1.trans s2).trans s3
    -- the rows, the table
    dsimp only [gName]
    refine sq_asg ?_
    refine rd_lines (K := K) (b := b) (wide := wide) (m := 500) (by omega) (w3.mono (by decide)) rfl rfl rfl fun H4 Rl as rs s4 w4 nRl RlW eRl hRs rlen rmany => ?_
    have eNn4 := s4 _ _ NnW eNn3
    have m4 := m3.trans s4
    refine ⟨_, rfl, _, rfl, fun x dx nx ndx hne => ?_⟩
    have sx : Same H4 (upd (upd H4 dx (.own x)) x (.ins C dx [])) := fun c o e => by rw [upd_ne (ne_of_none e nx), upd_ne (ne_of_none e ndx)]; exact e
    refine ⟨x, Nn, dx, .ref Rl, ns, as, rs, rfl, upd_same, sx _ _ eNn4, cs, .inr ⟨Rl, rfl, sx _ _ eRl, hRs.same sx⟩, ⟨fun r hr => by rw [rlen r hr, lns], by omega⟩, fun H5 tb keep => ⟨rfl, ?_⟩⟩
    have s5 : Same H4 H5 := fun c o e => keep c o (ne_of_none e nx) (sx _ _ e)
    have nrl := norm_len rs
    have tb5 : Tb C H5 x ns (norm rs) := ⟨tb, cs, fun r hr => by rw [rlen r (mem_norm.mp hr), lns], by omega, rise_norm rs⟩
    -- what is due
    dsimp only [gName]
    refine sq_asg ?_
    dsimp only [tCB, tCons, tNil]
    refine ⟨_, rfl, ?_⟩
    refine set_sorted (s5 _ _ eRl) (hRs.same s5) rlen (by omega) fun H6 Dl as6 s6 nDl eDl hDl => ?_
    have m6 := (m4.trans (.of s5)).trans (.of s6)
    have w6 := (w4.same s5).same s6
    have T6 := tabs_sm hT ⟨_, hW⟩ m6
    have z6 : ExW W H H6 := ExW.refl.sm m6
    have eNn6 := s6 _ _ (s5 _ _ eNn4)
    have tb6 := tb5.same s6
    clear s1 s2 s3 s4 s5 s6 m3 m4 m6 w1 w2 w3 w4 eNn eNn3 eNn4 tb tb5 keep sx eRl hRs nx ndx hne
    refine ⟨_, rfl, W, 12, 499, rfl, by decide, by decide, w6, fun H7 m12 hm12 s7 w7 => ⟨_, _, rfl, rfl, ?_⟩⟩
    refine ⟨_, rfl, by omega, by omega, ?_⟩
    have ew6 : ∃ n, WellAt n H6 W := ⟨_, w6⟩
    refine for_range (lo := 0) (n := (1 + (m12 : Int)).toNat) (fun i σ h => ∃ (t Dl : Addr) (as : List Addr) (rs : List (List Int)) (v7 v8 v9 v10 v11 v12 v13 : Option V), σ = [some (.ref W), some (.int wide), some (.ref Nn), some (.int b), some (.ref Rl), some (.ref t), some (.ref Dl), v7, v8, v9, v10, v11, v12, v13, none, none, none] ∧
        Tb C h t ns rs ∧ h Dl = some (.lst (as.map V.ref)) ∧ RowsAt h as rs ∧ rs.length ≤ 8 + i ∧ h Nn = some (.lst (ns.map V.str)) ∧ ExW W H h ∧ LamX.Tabs T h ∧ WellAt (400 - 20 * i) h W)
      ⟨x, Dl, as6, norm rs, none, none, none, none, none, none, none, rfl, tb6.sm s7 ew6, s7 _ _ (well_refs ew6 eDl) eDl, hDl.sm s7 ew6, by omega, s7 _ _ NnW eNn6, z6.sm s7, tabs_sm T6 ew6 s7, w7.mono (by omega)⟩ ?_ ?_
    · rintro i σ G0 hi ⟨t, Dl, as, rs, v7, v8, v9, v10, v11, v12, v13, rfl, tb0, eD0, hD0, few, eN0, z0, T0, w0⟩
      have hi12 : i < 12 := by omega
      -- whether it is put in, what is no row
      dsimp only [gName]
      refine ⟨_, rfl, W, 2, 400 - 20 * i - 1, rfl, by decide, by decide, w0.mono (by omega), fun h1 k hk s1 w1 => ⟨rfl, ?_⟩⟩
      generalize decide (V.int (k : Int) = V.int 0) = puts
      refine ⟨_, rfl, _, rfl, W, wide, 400 - 20 * i - 4, rfl, by omega, by omega, w1.mono (by omega), fun h2 ov d s2 w2 hd hbad => ?_⟩
      have ew0 : ∃ n, WellAt n G0 W := ⟨_, w0⟩
      -- a line
      dsimp only [gName]
      refine sq_asg ?_
      dsimp only [tCB, tCons, tNil, List.map]
      refine rd_line (m := 400 - 20 * i - 10) (wide := wide) (by omega) (w2.mono (by omega)) rfl rfl rfl fun h3 Lr r s3 w3 nL eL lr => ?_
      refine ⟨Lr, r.map V.int, rfl, .inl ⟨.of eL, fun Tt nT => ?_⟩⟩
      have s4 : Same h3 (upd h3 Tt (.tup (r.map V.int))) := Same.new nT
      have eT : upd h3 Tt (.tup (r.map V.int)) Tt = some (.tup (r.map V.int)) := upd_same
      have w4 := w3.same s4
      generalize upd h3 Tt (.tup (r.map V.int)) = h4 at s4 eT w4 ⊢
      have m4 : Sm W G0 h4 := ((s1.trans s2).trans s3).trans (.of s4)
      have tb4 := tb0.sm m4 ew0
      have eD4 := m4 _ _ (well_refs ew0 eD0) eD0
      have hD4 := hD0.sm m4 ew0
      have NnW' : Nn ≠ W := NnW
      have eN4 := m4 _ _ NnW eN0
      have z4 := z0.sm m4
      have Th := tabs_sm T0 ew0 m4
      have hd4 := (hd.kp (.sm s3)).kp (.of s4)
      clear s1 s2 s3 s4 m4 w0 w1 w2 w3 eL nL nT hd tb0 eD0 hD0 eN0 z0 T0 ew0
      have lrn : r.length = ns.length := by omega
      have few4 := few
      -- as it was ahead
      refine ⟨_, rfl, Dl, _, rfl, .inl (.of eD4), fun Da nDa => ?_⟩
      have s5 : Same h4 (upd h4 Da (.lst (as.map V.ref))) := Same.new nDa
      have eDa : upd h4 Da (.lst (as.map V.ref)) Da = some (.lst (as.map V.ref)) := upd_same
      have nDa' : Da ≠ W := (w4.ne nDa).symm
      generalize upd h4 Da (.lst (as.map V.ref)) = h5 at s5 eDa ⊢
      have w5 := w4.same s5
      have tb5 := tb4.same s5
      have eD5 := s5 _ _ eD4
      have hD5 := hD4.same s5
      have eN5 := s5 _ _ eN4
      have z5 := z4.same s5
      have Th5 := Th.ext s5
      have eT5 := s5 _ _ eT
      have hd5 := hd4.kp (.of s5)
      clear s5 tb4 eD4 hD4 eN4 z4 Th eT hd4 w4
      obtain ⟨dxt, lt, rt, ast, ht1, _⟩ := id tb5.at_
      refine ⟨fun σ h => ∃ (o Du : Addr) (as' : List Addr) (rs' : List (List Int)), σ = [some (.ref W), some (.int wide), some (.ref Nn), some (.int b), some (.ref Rl), some (.ref t), some (.ref Du), some (.int (0 + (i : Int))), some (.bl puts), some ov, some (.ref Tt), some (.ref Da), some (.ref o), v13, none, none, none] ∧ TG.TabAt C h o ns rs' ∧ h Du = some (.lst (as'.map V.ref)) ∧ RowsAt h as' rs' ∧ rs' = (if puts = true then addR r rs else outR r rs) ∧ Same h5 h, ?_, ?_⟩
      · refine ⟨_, rfl, puts, rfl, ?_⟩
        cases puts with
        | true =>
          rw [if_pos rfl]
          refine ⟨_, rfl, t, dxt, _, rfl, ht1, nowit _ _, _, rfl, ?_⟩
          dsimp only [tNil]
          refine put_call (Cr := Cr) (f := addR) tb5 eT5 lrn fun h6 o s6 to => ?_
          dsimp only [tAsg, gName, tCB, tCons, tNil, tOp]
          refine ⟨_, rfl, _, rfl, by show 1 ≤ sizeLine; decide, fun L nL => ?_⟩
          have s7 : Same h6 (upd h6 L (.lst [.ref Tt])) := Same.new nL
          have hal := hD5.len
          refine ⟨Dl, L, _, _, rfl, rfl, (s6.trans s7) _ _ eD5, upd_same, by rw [List.length_map]; show _ + 1 ≤ sizeLine; exact line100 (by omega), fun L2 nL2 => ?_⟩
          have s8 := s7.trans (Same.new (o := .lst (as.map V.ref ++ [V.ref Tt])) nL2)
          have e8 : upd (upd h6 L (.lst [.ref Tt])) L2 (.lst (as.map V.ref ++ [V.ref Tt])) L2 = some (.lst ((as ++ [Tt]).map V.ref)) := by rw [upd_same, List.map_append]; rfl
          generalize upd (upd h6 L (.lst [.ref Tt])) L2 (.lst (as.map V.ref ++ [V.ref Tt])) = h8 at s8 e8 ⊢
          have t8 := s6.trans s8
          refine set_sorted (d := ns.length) e8 (pr_snoc (hD5.same t8) (t8 _ _ eT5)) (fun q hq => ?_) (by rw [List.length_append]; show _ + 1 ≤ 60; omega) fun h9 Du as' s9 nDu eDu hDu => ?_
          · rcases List.mem_append.mp hq with hq | hq
            · exact tb5.len q hq
            · rw [List.mem_singleton.mp hq]
              exact lrn
          · exact ⟨o, Du, as', _, rfl, to.same (s8.trans s9), eDu, hDu, rfl, t8.trans s9⟩
        | false =>
          rw [if_neg Bool.false_ne_true]
          refine ⟨_, rfl, t, dxt, _, rfl, ht1, nowout _ _, _, rfl, rfl, ?_⟩
          refine put_call (Cr := Cr) (f := outR) tb5 eT5 lrn fun h6 o s6 to => ?_
          dsimp only [tAsg, gName]
          refine rd_out (X := (cxOf CX0 P w K mg base N_right "_law_right" (defScope s_right) f (.ref c) A outer s H E)) rfl rfl rfl (s6 _ _ eD5) (hD5.same s6) (s6 _ _ eT5) (by omega) fun h7 Du as' s7 nDu eDu hDu => ?_
          exact ⟨o, Du, as', _, rfl, to.same s7, eDu, hDu, rfl, s6.trans s7⟩
      rintro σ h6 ⟨o, Du, as', rs', rfl, to6, eDu6, hDu6, ers, s6⟩
      have hput : decide (r ∈ rs') = puts := by
        rw [ers]
        cases puts with
        | true =>
          rw [if_pos rfl]
          exact decide_eq_true (mem_norm.mpr (List.mem_append_right _ (List.mem_singleton.mpr rfl)))
        | false =>
          rw [if_neg Bool.false_ne_true]
          refine decide_eq_false fun z => ?_
          have := (List.mem_filter.mp z).2
          simp at this
      have tbo6 : Tb C h6 o ns rs' := by
        refine ⟨to6, cs, ?_, ?_, ?_⟩
        · rw [ers]
          cases puts with
          | true =>
            rw [if_pos rfl]
            intro q hq
            rcases List.mem_append.mp (mem_norm.mp hq) with hq | hq
            · exact tb5.len q hq
            · rw [List.mem_singleton.mp hq]
              exact lrn
          | false =>
            rw [if_neg Bool.false_ne_true]
            exact fun q hq => tb5.len q (List.mem_filter.mp hq).1
        · rw [ers]
          cases puts with
          | true =>
            rw [if_pos rfl]
            have := norm_len (rs ++ [r])
            rw [List.length_append, List.length_singleton] at this
            unfold addR
            omega
          | false =>
            rw [if_neg Bool.false_ne_true]
            have : (outR r rs).length ≤ rs.length := List.length_filter_le _ _
            omega
        · rw [ers]
          cases puts with
          | true => exact rise_norm _
          | false => exact List.Pairwise.filter _ tb5.rise
      have few' : rs'.length ≤ 8 + (i + 1) := by
        rw [ers]
        cases puts with
        | true =>
          rw [if_pos rfl]
          have := norm_len (rs ++ [r])
          rw [List.length_append, List.length_singleton] at this
          unfold addR
          omega
        | false =>
          rw [if_neg Bool.false_ne_true]
          have : (outR r rs).length ≤ rs.length := List.length_filter_le _ _
          omega
      clear ers to6
      have w6 := w5.same s6
      have tb6 := tb5.same s6
      have eN6 := s6 _ _ eN5
      have z6' := z5.same s6
      have Th6 := Th5.ext s6
      have eT6 := s6 _ _ eT5
      have eDa6 := s6 _ _ eDa
      have hD6 := hD5.same s6
      have hd6 := hd5.kp (.of s6)
      have ht6 := s6 _ _ ht1
      clear s6 w5 tb5 eN5 z5 Th5 eT5 eDa hD5 eD5 hd5 ht1
      obtain ⟨dxo, lo, ro, aso, ho6, _⟩ := id tbo6.at_
      -- the four tests
      refine ⟨_, rfl, t, dxt, _, rfl, ht6, norows _ _, t, ns, rs, rfl, tb6.at_, fun g1 a1 b1 s1 n1 e1 r1' => ?_⟩
      refine ⟨_, rfl, _, _, DpRows e1 r1', DpRows (s1 _ _ eDa6) (hD6.same s1), shRows _, shRows _, _, rfl, ?_⟩
      rw [eqv_dR, decide_eq_true rfl]
      refine ⟨_, rfl, o, dxo, _, rfl, s1 _ _ ho6, norows _ _, o, ns, rs', rfl, tbo6.at_.same s1, fun g2 a2 b2 s2 n2 e2 r2' => ?_⟩
      have t2 := s1.trans s2
      refine ⟨_, rfl, _, _, DpRows e2 r2', DpRows (t2 _ _ eDu6) (hDu6.same t2), shRows _, shRows _, _, rfl, ?_⟩
      rw [eqv_dR, decide_eq_true rfl]
      refine ⟨_, rfl, o, dxo, _, rfl, t2 _ _ ho6, nocols _ _, o, ns, rs', rfl, tbo6.at_.same t2, fun g3 a3 s3 n3 e3 => ?_⟩
      have t3 := t2.trans s3
      refine ⟨_, rfl, _, _, DpS e3, DpS (t3 _ _ eN6), shS okn, shS okn, _, rfl, ?_⟩
      rw [eqv_dS, decide_eq_true rfl]
      refine ⟨_, rfl, o, dxo, _, rfl, t3 _ _ ho6, nohas _ _, _, rfl, ?_⟩
      dsimp only [tNil]
      refine has_call (Cr := Cr) (tbo6.same t3) (t3 _ _ eT6) lrn fun h4 s4 => ?_
      rw [hput]
      refine ⟨_, rfl, rfl, _, rfl, ?_⟩
      rw [decide_eq_true rfl]
      have t4 := t3.trans s4
      have tbo4 := tbo6.same t4
      have hdo4 := hd6.kp (.of t4)
      have Th4 := Th6.ext t4
      refine ⟨Th4, fun f1 c1 K1 x1 b1 T1 n1 e1 k1 => ?_⟩
      have O1 := know (P := P) (w := w) (K := K) (mg := mg) (base := base) e1 <| lok_gen (k := 9) (fr := ["_law_odd_here", "_law_other"]) (sc := lamSc) (NdefX.nscope_by (by decide +kernel)) fun A outer s H E hr => pe_methE (pv 1) cc.cl D.wit.me GW (hr.mono (by decide)) D.wit.b (fun σ => passAt (takes_of rfl rfl rfl rfl) σ) (pa_cons (pv 0) pa_nil)
      refine ⟨by show 1 ≤ sizeLine; decide, fun La nL => ?_⟩
      have nL0 := b1 La nL
      have hw : ∀ v13 : Option V, [some ov, some (V.ref o)] = [9, 12].map (NdefX.slotAt [some (.ref W), some (.int wide), some (.ref Nn), some (.int b), some (.ref Rl), some (.ref t), some (.ref Du), some (.int (0 + (i : Int))), some (.bl puts), some ov, some (.ref Tt), some (.ref Da), some (.ref o), v13, none, none, none]) := fun _ => rfl
      have D1 : ∀ v13 : Option V, DdR P w K mg base (cxOf CX0 P w K mg base N_right "_law_right" (defScope s_right) f (.ref c) A outer s H E).nox [some (.ref W), some (.int wide), some (.ref Nn), some (.int b), some (.ref Rl), some (.ref t), some (.ref Du), some (.int (0 + (i : Int))), some (.bl puts), some ov, some (.ref Tt), some (.ref Da), some (.ref o), v13, none, none, none] Cr h4 (upd K1 La (.lst [.ref f1])) f1 := fun v13 => ⟨_, _, ["_law_odd_here", "_law_other"], [some ov, some (.ref o)], _, (by rw [upd_ne (ne_of_none e1 nL)]; exact e1), (by rw [upd_ne (ne_of_none k1 nL)]; exact k1), O1, kn_of (sc := lamSc) (fr := ["_law_odd_here", "_law_other"]) (js := [9, 12]) (sc' := defScope s_right) rfl (by decide +kernel) rfl (hw v13), ref_of (Cr := Cr) (m := "with_row") (sp := sp_put C Cr addR) (fun H' Q E tb hd qB => ⟨o, W, ov, d, ns, rs', rfl, tb, hd, fun _ => qB, fun r' z => (by rw [lns, hbad] at z; cases z)⟩) nowit tbo4 hdo4⟩
      have y : LamX.ExtN h4 (upd K1 La (.lst [.ref f1])) := ext_new x1 nL0
      have TL : LamX.Tabs T (upd K1 La (.lst [.ref f1])) := T1.ext (Same.new nL)
      have eL : upd K1 La (.lst [.ref f1]) La = some (.lst ([f1].map V.ref)) := upd_same
      have bb : ∀ a, upd K1 La (.lst [.ref f1]) a = none → h4 a = none := fun a z => b1 a (NdefX.upd_none z)
      clear O1 e1 k1 x1 T1 b1
      generalize upd K1 La (.lst [.ref f1]) = L1 at D1 y TL eL bb ⊢
      refine ⟨_, rfl, .inl ⟨rfl, _, .inl (.inl eL)⟩, TL, fun f2 c2 K2 x2 b2 T2 n2 e2 k2 => ?_⟩
      have O2 := know (P := P) (w := w) (K := K) (mg := mg) (base := base) e2 <| lok_gen (k := 9) (fr := ["_law_odd_here", "_law_other"]) (sc := lamSc) (NdefX.nscope_by (by decide +kernel)) fun A outer s H E hr => pe_methE (pv 1) cc.cl D.wout.me GT (hr.mono (by decide)) D.wout.b (fun σ => passAt (takes_of rfl rfl rfl rfl) σ) (pa_cons (pv 0) pa_nil)
      have eL' := x2 _ _ eL (fun _ z => by cases z)
      refine ⟨La, _, _, rfl, rfl, eL', by show 1 < sizeLine; decide, ?_⟩
      have D2 : ∀ v13 : Option V, DdR P w K mg base (cxOf CX0 P w K mg base N_right "_law_right" (defScope s_right) f (.ref c) A outer s H E).nox [some (.ref W), some (.int wide), some (.ref Nn), some (.int b), some (.ref Rl), some (.ref t), some (.ref Du), some (.int (0 + (i : Int))), some (.bl puts), some ov, some (.ref Tt), some (.ref Da), some (.ref o), v13, none, none, none] Cr h4 (upd K2 La (.lst ([f1].map V.ref ++ [V.ref f2]))) f2 := fun v13 => DdR.put ⟨_, _, ["_law_odd_here", "_law_other"], [some ov, some (.ref o)], _, e2, k2, O2, kn_of (sc := lamSc) (fr := ["_law_odd_here", "_law_other"]) (js := [9, 12]) (sc' := defScope s_right) rfl (by decide +kernel) rfl (hw v13), ref_of (Cr := Cr) (m := "without_row") (sp := sp_put C Cr outR) (fun H' Q E tb hd qB => ⟨o, W, ov, d, ns, rs', rfl, tb, hd, fun _ => qB, fun r' z => (by rw [lns, hbad] at z; cases z)⟩) nowout tbo4 hdo4⟩ eL'
      have y' : LamX.ExtN h4 (upd K2 La (.lst ([f1].map V.ref ++ [V.ref f2]))) := ext_new (y.trans x2) nL0
      have TL' : LamX.Tabs T (upd K2 La (.lst ([f1].map V.ref ++ [V.ref f2]))) := tabs_put T2 eL'
      have eL : upd K2 La (.lst ([f1].map V.ref ++ [V.ref f2])) La = some (.lst ([f1, f2].map V.ref)) := upd_same
      have bb2 : ∀ a, upd K2 La (.lst ([f1].map V.ref ++ [V.ref f2])) a = none → h4 a = none := fun a z => bb a (b2 a (NdefX.upd_none z))
      have D1 := fun (v13 : Option V) => ((D1 v13).ext x2).put (ys := [f1].map V.ref ++ [V.ref f2]) eL'
      clear O2 e2 k2 x2 T2 b2 bb eL' y TL
      have bb := bb2
      have y := y'
      have TL := TL'
      clear bb2 y' TL'
      generalize upd K2 La (.lst ([f1].map V.ref ++ [V.ref f2])) = L2 at D1 D2 y TL eL bb ⊢
      refine ⟨_, rfl, .inl ⟨rfl, _, .inl (.inl eL)⟩, TL, fun f3 c3 K3 x3 b3 T3 n3 e3 k3 => ?_⟩
      have O3 := know (P := P) (w := w) (K := K) (mg := mg) (base := base) e3 <| lok_gen (k := 9) (fr := ["_law_odd_here", "_law_other"]) (sc := lamSc) (NdefX.nscope_by (by decide +kernel)) fun A outer s H E hr => pe_methE (pv 1) cc.cl D.has.me GH (hr.mono (by decide)) D.has.b (fun σ => passAt (takes_of rfl rfl rfl rfl) σ) (pa_cons (pv 0) pa_nil)
      have eL' := x3 _ _ eL (fun _ z => by cases z)
      refine ⟨La, _, _, rfl, rfl, eL', by show 2 < sizeLine; decide, ?_⟩
      have D3 : ∀ v13 : Option V, DdR P w K mg base (cxOf CX0 P w K mg base N_right "_law_right" (defScope s_right) f (.ref c) A outer s H E).nox [some (.ref W), some (.int wide), some (.ref Nn), some (.int b), some (.ref Rl), some (.ref t), some (.ref Du), some (.int (0 + (i : Int))), some (.bl puts), some ov, some (.ref Tt), some (.ref Da), some (.ref o), v13, none, none, none] Cr h4 (upd K3 La (.lst ([f1, f2].map V.ref ++ [V.ref f3]))) f3 := fun v13 => DdR.put ⟨_, _, ["_law_odd_here", "_law_other"], [some ov, some (.ref o)], _, e3, k3, O3, kn_of (sc := lamSc) (fr := ["_law_odd_here", "_law_other"]) (js := [9, 12]) (sc' := defScope s_right) rfl (by decide +kernel) rfl (hw v13), ref_of (Cr := Cr) (m := "has") (sp := sp_has C Cr) (fun H' Q E tb hd qB => ⟨o, W, ov, d, ns, rs', rfl, tb.at_, hd, fun _ => qB, fun r' z => (by rw [lns, hbad] at z; cases z)⟩) nohas tbo4 hdo4⟩ eL'
      have y' : LamX.ExtN h4 (upd K3 La (.lst ([f1, f2].map V.ref ++ [V.ref f3]))) := ext_new (y.trans x3) nL0
      have TL' : LamX.Tabs T (upd K3 La (.lst ([f1, f2].map V.ref ++ [V.ref f3]))) := tabs_put T3 eL'
      have eL : upd K3 La (.lst ([f1, f2].map V.ref ++ [V.ref f3])) La = some (.lst ([f1, f2, f3].map V.ref)) := upd_same
      have bb2 : ∀ a, upd K3 La (.lst ([f1, f2].map V.ref ++ [V.ref f3])) a = none → h4 a = none := fun a z => bb a (b3 a (NdefX.upd_none z))
      have D1 := fun (v13 : Option V) => ((D1 v13).ext x3).put (ys := [f1, f2].map V.ref ++ [V.ref f3]) eL'
      have D2 := fun (v13 : Option V) => ((D2 v13).ext x3).put (ys := [f1, f2].map V.ref ++ [V.ref f3]) eL'
      clear O3 e3 k3 x3 T3 b3 bb eL' y TL
      have bb := bb2
      have y := y'
      have TL := TL'
      clear bb2 y' TL'
      generalize upd K3 La (.lst ([f1, f2].map V.ref ++ [V.ref f3])) = L3 at D1 D2 D3 y TL eL bb ⊢
      have all : ∀ fz ∈ [f1, f2, f3], DdR P w K mg base (cxOf CX0 P w K mg base N_right "_law_right" (defScope s_right) f (.ref c) A outer s H E).nox [some (.ref W), some (.int wide), some (.ref Nn), some (.int b), some (.ref Rl), some (.ref t), some (.ref Du), some (.int (0 + (i : Int))), some (.bl puts), some ov, some (.ref Tt), some (.ref Da), some (.ref o), some (.ref La), none, none, none] Cr h4 L3 fz := by
        intro fz hf
        simp only [List.mem_cons, List.not_mem_nil, or_false] at hf
        rcases hf with rfl | rfl | rfl
        · exact D1 _
        · exact D2 _
        · exact D3 _
      clear D1 D2 D3
      dsimp only [tSeq, tIfS, tOr, tTest, tOp]
      refine rd_refs (Cr := Cr) rfl rfl eL all y (by show 3 ≤ 100; decide) fun Rd k1 u1 eRd => ?_
      refine ⟨by show 3 ≤ sizeLine; decide, fun M3 nM3 => ?_⟩
      have u2 : Same L3 (upd k1 M3 (.lst [.bl true, .bl true, .bl true])) := u1.trans (Same.new nM3)
      refine ⟨_, _, Dp_bools (bs := [true, true, true]) ((Same.new nM3) _ _ eRd), Dp_bools (bs := [true, true, true]) upd_same, bool_data _, bool_data _, _, rfl, ?_⟩
      rw [show PyData.eqv (.list ([true, true, true].map PyData.bool)) (.list ([true, true, true].map PyData.bool)) = true from bool_refl _]
      generalize upd k1 M3 (.lst [.bl true, .bl true, .bl true]) = k2 at u2 ⊢
      have y2 := y.trans (ext_same u2)
      have ho4 := t4 _ _ ho6
      have tbo7 := tbo4.ext y2
      have eDu7 := y2 _ _ (t4 _ _ eDu6) (fun _ z => by cases z)
      have hDu7 : RowsAt k2 as' rs' := Paired.mapP (hDu6.same t4) fun a q z => y2 _ _ z (fun _ z => by cases z)
      have ho7 := y2 _ _ ho4 (fun _ z => by cases z)
      refine ⟨_, rfl, o, dxo, _, rfl, ho7, norows _ _, o, ns, rs', rfl, tbo7.at_, fun k3 a3' b3' u3 n3' e3' r3' => ?_⟩
      refine ⟨_, rfl, _, _, DpRows e3' r3', DpRows (u3 _ _ eDu7) (hDu7.same u3), shRows _, shRows _, _, rfl, ?_⟩
      rw [eqv_dR, decide_eq_true rfl]
      have fewo := tbo7.few
      refine ⟨_, rfl, o, dxo, _, rfl, u3 _ _ ho7, o, ns, rs', rfl, tbo7.at_.same u3, rs'.length, rfl, by omega, _, rfl, Du, _, rfl, .inl (.of (u3 _ _ eDu7)), rfl, _, rfl, ?_⟩
      rw [decide_eq_true (show V.int (rs'.length : Int) = V.int ((as'.map V.ref).length : Int) by rw [List.length_map, hDu7.len])]
      have y3 := y2.trans (ext_same u3)
      refine ⟨_, rfl, o, Du, as', rs', _, _, _, _, _, _, _, rfl, tbo7.same u3, u3 _ _ eDu7, hDu7.same u3, few', y3 _ _ (t4 _ _ eN6) (fun _ z => by cases z), (z6'.same t4).ext y3, TL.ext (u2.trans u3), ?_⟩
      obtain ⟨wa, wb, wc, we, wr⟩ := w6.same t4
      exact WellAt.mono ⟨wa, wb, wc, y3 _ _ we (fun _ z => by cases z), wr⟩ (by omega)
    · rintro σ G0 ⟨t, Dl, as, rs, v7, v8, v9, v10, v11, v12, v13, rfl, tb0, eD0, hD0, few, eN0, z0, T0, w0⟩
      refine ⟨_, rfl, _, rfl, _, rfl, fun x2 dx2 nx2 ndx2 hne2 => ?_⟩
      have sx : Same G0 (upd (upd G0 dx2 (.own x2)) x2 (.ins C dx2 [])) := fun c o e => by rw [upd_ne (ne_of_none e nx2), upd_ne (ne_of_none e ndx2)]; exact e
      refine ⟨x2, Nn, dx2, .ref Dl, ns, as, rs, rfl, upd_same, sx _ _ eN0, cs, .inr ⟨Dl, rfl, sx _ _ eD0, hD0.same sx⟩, ⟨tb0.len, by have := tb0.few; omega⟩, fun G5 tb keep => ⟨rfl, ?_⟩⟩
      have s5 : Same G0 G5 := fun c o e => keep c o (ne_of_none e nx2) (sx _ _ e)
      refine own_eqB D (tb0.at_.same s5) tb okn okn fun H' s' => ?_
      rw [norm_idem tb0.rise, decide_eq_true rfl, decide_eq_true rfl]
      exact q H' (z0.same (s5.trans s')) (T0.ext (s5.trans s'))
end
end T03

set_option maxHeartbeats 2000000
namespace T03
open PySem L2 PyProof.Rows TX TY TW TD TB TG TUD TE TK TLC
section
variable {P : Program} {w : World} {K : PySem.W.Frag} {mg : Str → Option Value} {base : Heap}
variable {fW fN fA fR fK fS : Addr} {dW dN dA dR dK dS : FuncData}
variable {C fI hc hr hl he hk hh hw ho Cr fr : Addr} {dI gc gr gl ge gk gh gw go dr : FuncData}
variable {gD gN gB gO gS gW gL cL Pl : Addr} {eD eN eB eO eS eW eL : FuncData}
/-- a bool is a bool -/
def rIsB : R2 := fun x y H Q => ∃ a b, x = .bl a ∧ y = .bl b ∧ Q (.bl (decide (a = b))) H
theorem op_isB {X : Cx} : OpR X (compareOp .Is) rIsB := by
  intro pins s σ H x y v u Q I rx ry h
  obtain ⟨a, b, rfl, rfl, q⟩ := h
  cases rx
  cases ry
  exact is_bool ⟨.bl (decide (a = b)), H, I, by cases a <;> cases b <;> rfl, q⟩
theorem sc_law : FnScope ["_law_script", "_law_k", "_law_cell", "_law_table"] ["_law_script"] (defScope s_law) := ⟨rfl, rfl, rfl, by decide +kernel, rfl, by decide +kernel, by decide +kernel⟩
def sp_law (K : PySem.W.Frag) (T : List (Addr × Str)) : Sp := fun vs H Q _ => ∃ (a : Addr) (ns : List Int), vs = [.ref a] ∧ SqL K H a (ns.map V.int) ∧ ns.length ≤ 63 ∧ LamX.Tabs T H ∧ ∀ H', Q (.bl true) H'
theorem csN : Cs [] := ⟨List.nodup_nil, Nat.zero_le _, fun _ h => nomatch h⟩
/-- gL, cL: _law_right and its code -/
theorem ok_law {f CF Cn : Addr} {fd : FuncData} {T : List (Addr × Str)} (F : Fn K mg "law" s_law ["_law_script"] f fd) (FW : Fn K mg "_law_well" s_well ["_law_cell", "_law_k"] gW eW) (FL : FnC K mg "_law_right" s_right ["_law_well_here"] gL eL cL) (TL : LamX.TabB base mg cL Pl)
    (hT2 : (Pl, lamQ "_law_right") ∈ T) (hu2 : ∀ p ∈ T, p.1 = Pl → p.2 = lamQ "_law_right") (Tk : Kt K mg fW fN fA fR fK fS dW dN dA dR dK dS) (D : Bd K mg C fI hc hr hl he hk hh hw ho Cr fr dI gc gr gl ge gk gh gw go dr) (L : Ld K mg gD gN gB gO gS eD eN eB eO eS) (Ex : Er K mg CF Cr Cn) :
    FnOk P w K mg base CX0 14 f fd ["_law_script"] (sp_law K T) := by
  have B := Tk.B
  have cc := D.c
  have GS : COk P w K mg base 11 10 gS (cref Cr) := ok_refused L.ref B Tk.bool D.er Ex
  have GW : FnOk P w K mg base CX0 1 gW eW ["_law_cell", "_law_k"] sp_well := ok_well FW B
  have GR : FnOk P w K mg base CX0 13 gL eL ["_law_well_here"] (sp_right T) := ok_right FL Tk D TL hT2 hu2 L GS
  have GI : FnOk P w K mg base CX0 4 fI dI ["self", "columns", "rows"] (sp_binit C) := ok_binit D.iF Tk cc
  have GE : FnOk P w K mg base CX0 1 he ge ["self", "other"] (sp_beq C) := ok_beq D.eq.F B cc
  have GH : FnOk P w K mg base (L2.CX P w) 4 hh gh ["self", "row"] (sp_has C Cr) := ok_has Tk D
  have GP : FnOk P w K mg base (L2.CX P w) 6 hw gw ["self", "row"] (sp_put C Cr addR) := ok_with Tk D
  have GT : FnOk P w K mg base (L2.CX P w) 6 ho go ["self", "row"] (sp_put C Cr outR) := ok_wout Tk D
  obtain ⟨dsI, vI, bI⟩ := D.iB1
  refine F.F.ok sc_law (fun vs H Q E h => ?_) (fun cdv A outer s H vs Q E hr h => ?_)
  · obtain ⟨a, ns, rfl, _⟩ := h
    rfl
  · obtain ⟨a, ns, rfl, hS, hl, hT, q⟩ := h
    have r1 : Room 1 _ := hr.mono (by decide)
    have r4 : Room 4 _ := hr.mono (by decide)
    have r5 : Room 5 _ := hr.mono (by decide)
    have r6 : Room 6 _ := hr.mono (by decide)
    refine ⟨_, pss_cons (ps_for PassesOwn.never rfl (pi_enum rfl B.enum (pa_cons (pe_op op_cat (pe_lst (pa_cons pe_int pa_nil)) (pe_slice sl_list (pv 0) po_none (po_some pe_int))) pa_nil))
        (pg_tup rfl (pgs_cons (pg_name (i := 1) sc_law.nd rfl (Or.inl rfl)) (pgs_cons (pg_name (i := 2) sc_law.nd rfl (Or.inl rfl)) pgs_nil)))
        (pss_one (ps_if (pt_not (pt_val (pe_call GR hr rfl FL.g FL.F.kp FL.b .nil pass0 (pa_cons (pe_call GW r1 rfl FW.g FW.F.kp FW.b .nil pass0 (pa_cons (pv 2) (pa_cons (pv 1) pa_nil))) pa_nil)))) (pss_one (ps_ret pe_bl)) pss_nil)))
      (pss_cons (ps_set (i := 3) sc_law.nd rfl (Or.inl rfl) (pe_make D.iM GI r5 rfl cc.g bI vI pass0 (pa_cons (pe_lst pa_nil) pa_nil)))
      (pss_one (ps_ret (pe_and (pe_cmpR op_isB (pe_meth (pe_meth (pv 3) cc.cl D.wit.me GP r6 D.wit.b .nil passL (pa_cons (pe_tup pa_nil) pa_nil)) cc.cl D.has.me GH r4 D.has.b .nil passL (pa_cons (pe_tup pa_nil) pa_nil)) pe_bl rfl)
        (pe_and (pe_cmpR op_isB (pe_meth (pv 3) cc.cl D.has.me GH r4 D.has.b .nil passL (pa_cons (pe_tup pa_nil) pa_nil)) pe_bl rfl)
        (pe_one (pe_cmpR (op_eqOwn GE D.eq.me.at_ D.eq.me.fn D.eq.b pass0 r1) (pe_meth (pe_meth (pv 3) cc.cl D.wit.me GP r6 D.wit.b .nil passL (pa_cons (pe_tup pa_nil) pa_nil)) cc.cl D.wout.me GT r6 D.wout.b .nil passL (pa_cons (pe_tup pa_nil) pa_nil)) (pv 3) (nomark _)))))))), ?_⟩
    refine ⟨by decide, fun p1 n1 => ?_⟩
    have hS1 : SqL K (upd H p1 (.lst [.int 0])) a (ns.map V.int) := (Same.new n1).seq hS
    refine ⟨_, rfl, _, rfl, a, _, rfl, hS1, fun p2 n2 => ?_⟩
    obtain ⟨ms, ems, lms⟩ : ∃ ms : List Int, cutV (ns.map V.int) none (some 8) = ms.map V.int ∧ ms.length ≤ 8 := by
      refine ⟨(ns.drop (HT.sIx ns.length 0 none)).take (HT.sIx ns.length ns.length (some 8) - HT.sIx ns.length 0 none), ?_, ?_⟩
      · unfold cutV
        rw [List.length_map, List.map_take, List.map_drop]
      · rw [List.length_take, HT.sIx_none, show (some (8 : Int)) = some ((8 : Nat) : Int) from rfl, HT.sIx_nat]
        omega
    have e1 : upd (upd H p1 (.lst [.int 0])) p2 (.lst (cutV (ns.map V.int) none (some 8))) p1 = some (.lst [.int 0]) := by rw [upd_ne (ne_of_none upd_same n2)]; exact upd_same
    refine ⟨p1, p2, _, _, rfl, rfl, e1, upd_same, ?_, fun p3 n3 => ?_⟩
    · rw [ems, List.length_map]
      show 1 + _ ≤ sizeLine
      exact line100 (by omega)
    rw [ems]
    have T0 : LamX.Tabs T (upd (upd (upd H p1 (.lst [.int 0])) p2 (.lst (ms.map V.int))) p3 (.lst ([V.int 0] ++ ms.map V.int))) := hT.ext (((Same.new n1).trans (Same.new n2)).trans (Same.new (by rw [← ems]; exact n3)))
    have e3 : ∀ h, upd h p3 (.lst ([V.int 0] ++ ms.map V.int)) p3 = some (.lst ((0 :: ms).map V.int)) := fun h => upd_same
    refine ⟨p3, (0 :: ms).map V.int, rfl, .of (e3 _), ?_⟩
    refine for_it (walk_enum (xs := (0 :: ms).map V.int)) (fun i σ H' => ∃ v1 v2 : Option V, σ = [some (.ref a), v1, v2, none] ∧ H' p3 = some (.lst ((0 :: ms).map V.int)) ∧ LamX.Tabs T H')
      ⟨none, none, rfl, e3 _, T0⟩ (fun i σ H1 _ ⟨_, _, _, e, _⟩ => .of e) ?_ ?_
    · rintro i x σ H1 H1' hi ⟨v1, v2, rfl, e4, Th⟩ ⟨T', x1, x2, rfl, nT, rfl, hx1, hx2⟩
      rw [List.length_map] at hi
      obtain rfl : V.int (i : Int) = x1 := Option.some.inj hx1
      obtain ⟨cell, rfl⟩ : ∃ c : Int, x2 = V.int c := by
        have h2 : ((0 :: ms).map V.int)[i]? = some x2 := hx2
        rw [List.getElem?_map, List.getElem?_eq_getElem hi] at h2
        exact ⟨_, (Option.some.inj h2).symm⟩
      have hi11 : i < 11 := by
        rw [List.length_cons] at hi
        omega
      have e5 : upd H1 T' (.tup [.int (i : Int), .int cell]) p3 = some (.lst ((0 :: ms).map V.int)) := by rw [upd_ne (ne_of_none e4 nT)]; exact e4
      refine ⟨T', _, rfl, .of upd_same, rfl, _, _, rfl, _, _, rfl, rfl, ?_⟩
      refine ⟨_, rfl, _, rfl, cell, (i : Int), rfl, by omega, by omega, fun H2 W s2 nW wW => ?_⟩
      have hne : p3 ≠ W := ne_of_none e5 nW
      have Th2 : LamX.Tabs T H2 := (Th.ext (Same.new nT)).ext s2
      refine ⟨W, rfl, wW.mono (by decide), Th2, fun H3 z3 T3 => ⟨true, rfl, ?_⟩⟩
      exact ⟨_, _, rfl, z3 _ _ hne (s2 _ _ e5) (fun _ z => by cases z), T3⟩
    · rintro σ H1 ⟨v1, v2, rfl, e4, Th⟩
      refine ⟨by decide, fun La nLa => ?_⟩
      have eLa : upd H1 La (.lst []) La = some (.lst (([] : List Str).map V.str)) := upd_same
      generalize upd H1 La (.lst []) = H2 at eLa ⊢
      intro x dx nx ndx hne
      have sx : Same H2 (upd (upd H2 dx (.own x)) x (.ins C dx [])) := fun c o e => by rw [upd_ne (ne_of_none e nx), upd_ne (ne_of_none e ndx)]; exact e
      refine ⟨x, La, dx, .non, [], [], [], rfl, upd_same, sx _ _ eLa, csN, .inl ⟨rfl, rfl, rfl⟩, ⟨(fun _ h => nomatch h), Nat.zero_le _⟩, fun H3 tb keep => ⟨rfl, ?_⟩⟩
      have tb3 : Tb C H3 x [] (norm []) := ⟨tb, csN, (fun _ h => nomatch h), Nat.zero_le _, rise_norm _⟩
      obtain ⟨dxx, lx, rx, ax, hx, _⟩ := id tb
      have few1 : (addR [] (norm ([] : List (List Int)))).length ≤ 50 := by decide
      dsimp only [gName]
      -- put in, and looked for
      refine ⟨_, rfl, x, dxx, _, rfl, hx, nowit _ _, by decide, fun T1 n1 => ?_⟩
      dsimp only [tNil]
      have s1 : Same H3 (upd H3 T1 (.tup [])) := Same.new n1
      have e1 : upd H3 T1 (.tup []) T1 = some (.tup (([] : List Int).map V.int)) := upd_same
      generalize upd H3 T1 (.tup []) = H4 at s1 e1 ⊢
      refine put_call (Cr := Cr) (f := addR) (tb3.same s1) e1 rfl fun H5 o s5 to => ?_
      have tbo : Tb C H5 o [] (addR [] (norm [])) := ⟨to, csN, by decide, few1, rise_norm _⟩
      obtain ⟨dxo, lo, ro, ao, h_o, _⟩ := id to
      refine ⟨o, dxo, _, rfl, h_o, nohas _ _, by decide, fun T2 n2 => ?_⟩
      dsimp only [tNil]
      have s6 : Same H5 (upd H5 T2 (.tup [])) := Same.new n2
      have e6 : upd H5 T2 (.tup []) T2 = some (.tup (([] : List Int).map V.int)) := upd_same
      generalize upd H5 T2 (.tup []) = H6 at s6 e6 ⊢
      refine has_call (Cr := Cr) (tbo.same s6) e6 rfl fun H7 s7 => ?_
      refine ⟨_, _, rfl, rfl, _, rfl, ?_⟩
      rw [if_pos (by decide)]
      have t7 := ((s1.trans s5).trans s6).trans s7
      -- not there ahead
      refine ⟨_, rfl, x, dxx, _, rfl, t7 _ _ hx, nohas _ _, by decide, fun T3 n3 => ?_⟩
      dsimp only [tNil]
      have s8 : Same H7 (upd H7 T3 (.tup [])) := Same.new n3
      have e8 : upd H7 T3 (.tup []) T3 = some (.tup (([] : List Int).map V.int)) := upd_same
      generalize upd H7 T3 (.tup []) = H8 at s8 e8 ⊢
      refine has_call (Cr := Cr) (tb3.same (t7.trans s8)) e8 rfl fun H9 s9 => ?_
      refine ⟨_, _, rfl, rfl, _, rfl, ?_⟩
      rw [if_pos (by decide)]
      have t9 := (t7.trans s8).trans s9
      -- put in and taken out
      refine ⟨_, rfl, x, dxx, _, rfl, t9 _ _ hx, nowit _ _, by decide, fun T4 n4 => ?_⟩
      dsimp only [tNil]
      have s10 : Same H9 (upd H9 T4 (.tup [])) := Same.new n4
      have e10 : upd H9 T4 (.tup []) T4 = some (.tup (([] : List Int).map V.int)) := upd_same
      generalize upd H9 T4 (.tup []) = H10 at s10 e10 ⊢
      refine put_call (Cr := Cr) (f := addR) (tb3.same (t9.trans s10)) e10 rfl fun H11 o2 s11 to2 => ?_
      have tbo2 : Tb C H11 o2 [] (addR [] (norm [])) := ⟨to2, csN, by decide, few1, rise_norm _⟩
      obtain ⟨dxo2, lo2, ro2, ao2, h_o2, _⟩ := id to2
      refine ⟨o2, dxo2, _, rfl, h_o2, nowout _ _, by decide, fun T5 n5 => ?_⟩
      dsimp only [tNil]
      have s12 : Same H11 (upd H11 T5 (.tup [])) := Same.new n5
      have e12 : upd H11 T5 (.tup []) T5 = some (.tup (([] : List Int).map V.int)) := upd_same
      generalize upd H11 T5 (.tup []) = H12 at s12 e12 ⊢
      refine put_call (Cr := Cr) (f := outR) (tbo2.same s12) e12 rfl fun H13 p s13 tp => ?_
      refine ⟨_, rfl, own_eqB D tp (tb3.at_.same ((((t9.trans s10).trans s11).trans s12).trans s13)) (fun _ h => nomatch h) (fun _ h => nomatch h) fun H14 s14 => ?_⟩
      have e : (decide (([] : List Str) = []) && decide (outR [] (addR [] (norm [])) = norm [])) = true := by decide
      rw [if_neg Bool.false_ne_true, e]
      exact q H14
end
end T03

set_option maxHeartbeats 4000000
namespace T03
open PySem L2 PyProof.Rows TX TY TW TD TB TG TUD TE TK TLC
theorem pack {l : PySem.W.OpenLaw} {w : World} {K : PySem.W.Frag} {mg : Str → Option Value} {fa cL Pl : Addr} {h : Heap} (KX : K.In h) (g2 : h.get? Pl = some { cls := .none, data := .fields #[] })
    (n2 : K.lookup Pl = none) (d2 : PySem.W.codeHdIn K cL Pl = true)
    (A : ∃ fd : FuncData, (∀ (s : Shared) (v : Value), BindsTo s fd ⟨[v], []⟩ [("_law_script", v)]) ∧ ∀ base : Heap, K.In base → base.Ns mainGlobals mg → LamX.TabB base mg cL Pl → FnOk l.prog w K mg base CX0 14 fa fd ["_law_script"] (sp_law K [(Pl, lamQ "_law_right")])) :
    LamX.LawAtS l w K CX0 14 63 "_law_script" mg fa h := by
  obtain ⟨fd, hb, hF⟩ := A
  have m2 : (cL, Pl) ∈ [(cL, Pl)] := List.mem_cons_self
  have each : ∀ {R : Addr × Addr → Prop}, R (cL, Pl) → ∀ p ∈ [(cL, Pl)], R p := by
    intro R b p hp
    rw [List.mem_singleton.mp hp]
    exact b
  refine ⟨fd, [(cL, Pl)], sp_law K [(Pl, lamQ "_law_right")], each g2, each n2, each (PySem.W.codeHd_of_K KX d2), hb, fun H a ns hl _ hT hS => ⟨a, ns, rfl, hS, hl, ?_, fun _ => rfl⟩, fun base h1 h2 h3 => hF base h1 h2 (h3 _ m2)⟩
  intro p hp
  rw [List.mem_singleton.mp hp]
  exact LamX.TabS.nil (hT _ m2)
theorem tT2 (Pl : Addr) : (Pl, lamQ "_law_right") ∈ [(Pl, lamQ "_law_right")] := List.mem_cons_self
theorem tU2 (Pl : Addr) : ∀ p ∈ [(Pl, lamQ "_law_right")], p.1 = Pl → p.2 = lamQ "_law_right" := by
  intro p hp e
  rw [List.mem_singleton.mp hp]
theorem all_mk {cL Pl : Addr} {l : PySem.W.OpenLaw} {w : World} {K : PySem.W.Frag} {h : Heap} {mg : Str → Option Value} {fa f_is_whole f_is_name f_are_columns f_is_row f__check_columns f__sorted_rows f__law_well f__law_draw f__law_names f__law_base f__law_odd f__law_refused f__law_right f_law c_Table f_Table_columns f_Table_rows f_Table___len__ f_Table___eq__ f_Table__check_row f_Table_has f_Table_with_row f_Table_without_row f_Table___init__ d_Table___init__ c_FoldError c_NoColumns c_NoRow f_NoRow___init__ : Addr} (X : K.In h) (G : h.Ns mainGlobals mg) (hfa : mg "law" = some (.ref fa))
    {od1 an1 : Option Addr} {sl1 : Array (Option Value)} {oc1 kV1 dc1 pm1 cd1 ct1 : Value}
    {od2 an2 : Option Addr} {sl2 : Array (Option Value)} {oc2 kV2 dc2 pm2 cd2 ct2 : Value}
    {od3 an3 : Option Addr} {sl3 : Array (Option Value)} {oc3 kV3 dc3 pm3 cd3 ct3 : Value}
    {od4 an4 : Option Addr} {sl4 : Array (Option Value)} {oc4 kV4 dc4 pm4 cd4 ct4 : Value}
    {od5 an5 : Option Addr} {sl5 : Array (Option Value)} {oc5 kV5 dc5 pm5 cd5 ct5 : Value}
    {od6 an6 : Option Addr} {sl6 : Array (Option Value)} {oc6 kV6 dc6 pm6 cd6 ct6 : Value}
    {od7 an7 : Option Addr} {sl7 : Array (Option Value)} {oc7 kV7 dc7 pm7 cd7 ct7 : Value}
    {od8 an8 : Option Addr} {sl8 : Array (Option Value)} {oc8 kV8 dc8 pm8 cd8 ct8 : Value}
    {od9 an9 : Option Addr} {sl9 : Array (Option Value)} {oc9 kV9 dc9 pm9 cd9 ct9 : Value}
    {od10 an10 : Option Addr} {sl10 : Array (Option Value)} {oc10 kV10 dc10 pm10 cd10 ct10 : Value}
    {od11 an11 : Option Addr} {sl11 : Array (Option Value)} {oc11 kV11 dc11 pm11 cd11 ct11 : Value}
    {od12 an12 : Option Addr} {sl12 : Array (Option Value)} {oc12 kV12 dc12 pm12 cd12 ct12 : Value}
    {od13 an13 : Option Addr} {sl13 : Array (Option Value)} {oc13 kV13 dc13 pm13 ct13 : Value}
    {od14 an14 : Option Addr} {sl14 : Array (Option Value)} {oc14 kV14 dc14 pm14 cd14 ct14 : Value}
    {od15 an15 : Option Addr} {sl15 : Array (Option Value)} {oc15 kV15 dc15 pm15 cd15 ct15 : Value}
    {od16 an16 : Option Addr} {sl16 : Array (Option Value)} {oc16 kV16 dc16 pm16 cd16 ct16 : Value}
    {od17 an17 : Option Addr} {sl17 : Array (Option Value)} {oc17 kV17 dc17 pm17 cd17 ct17 : Value}
    {od18 an18 : Option Addr} {sl18 : Array (Option Value)} {oc18 kV18 dc18 pm18 cd18 ct18 : Value}
    {od19 an19 : Option Addr} {sl19 : Array (Option Value)} {oc19 kV19 dc19 pm19 cd19 ct19 : Value}
    {od20 an20 : Option Addr} {sl20 : Array (Option Value)} {oc20 kV20 dc20 pm20 cd20 ct20 : Value}
    {od21 an21 : Option Addr} {sl21 : Array (Option Value)} {oc21 kV21 dc21 pm21 cd21 ct21 : Value}
    {od22 an22 : Option Addr} {sl22 : Array (Option Value)} {oc22 kV22 dc22 pm22 cd22 ct22 : Value}
    {od23 an23 dd23 : Option Addr} {sl23 ds23 : Array (Option Value)} {oc23 kV23 dc23 pm23 cd23 ct23 do23 : Value} {dn23 : Nat}
    {od24 an24 : Option Addr} {sl24 : Array (Option Value)} {oc24 kV24 dc24 pm24 cd24 ct24 : Value}
    {t_longest : Tok}
    {t_most : Tok}
    (a_is_whole : PySem.W.nsIn K mainGlobals "is_whole" = some (some (.ref f_is_whole)))
    (l_is_whole : K.lookup f_is_whole = some ⟨oc1, od1, .func (PySem.W.fnOf "is_whole" "is_whole" (defArgs s_is_whole) (defBody s_is_whole) (defScope s_is_whole) .none kV1 dc1 pm1 an1 cd1 ct1), sl1⟩)
    (o_is_whole : PySem.W.codeIn K cd1 "is_whole" = true)
    (k_is_whole : PySem.W.keepIn K (.ref f_is_whole) = true)
    (a_is_name : PySem.W.nsIn K mainGlobals "is_name" = some (some (.ref f_is_name)))
    (l_is_name : K.lookup f_is_name = some ⟨oc2, od2, .func (PySem.W.fnOf "is_name" "is_name" (defArgs s_is_name) (defBody s_is_name) (defScope s_is_name) .none kV2 dc2 pm2 an2 cd2 ct2), sl2⟩)
    (o_is_name : PySem.W.codeIn K cd2 "is_name" = true)
    (k_is_name : PySem.W.keepIn K (.ref f_is_name) = true)
    (a_are_columns : PySem.W.nsIn K mainGlobals "are_columns" = some (some (.ref f_are_columns)))
    (l_are_columns : K.lookup f_are_columns = some ⟨oc3, od3, .func (PySem.W.fnOf "are_columns" "are_columns" (defArgs s_are) (defBody s_are) (defScope s_are) .none kV3 dc3 pm3 an3 cd3 ct3), sl3⟩)
    (o_are_columns : PySem.W.codeIn K cd3 "are_columns" = true)
    (k_are_columns : PySem.W.keepIn K (.ref f_are_columns) = true)
    (a_is_row : PySem.W.nsIn K mainGlobals "is_row" = some (some (.ref f_is_row)))
    (l_is_row : K.lookup f_is_row = some ⟨oc4, od4, .func (PySem.W.fnOf "is_row" "is_row" (defArgs s_is_row) (defBody s_is_row) (defScope s_is_row) .none kV4 dc4 pm4 an4 cd4 ct4), sl4⟩)
    (o_is_row : PySem.W.codeIn K cd4 "is_row" = true)
    (k_is_row : PySem.W.keepIn K (.ref f_is_row) = true)
    (a__check_columns : PySem.W.nsIn K mainGlobals "_check_columns" = some (some (.ref f__check_columns)))
    (l__check_columns : K.lookup f__check_columns = some ⟨oc5, od5, .func (PySem.W.fnOf "_check_columns" "_check_columns" (defArgs s_cc) (defBody s_cc) (defScope s_cc) .none kV5 dc5 pm5 an5 cd5 ct5), sl5⟩)
    (o__check_columns : PySem.W.codeIn K cd5 "_check_columns" = true)
    (k__check_columns : PySem.W.keepIn K (.ref f__check_columns) = true)
    (a__sorted_rows : PySem.W.nsIn K mainGlobals "_sorted_rows" = some (some (.ref f__sorted_rows)))
    (l__sorted_rows : K.lookup f__sorted_rows = some ⟨oc6, od6, .func (PySem.W.fnOf "_sorted_rows" "_sorted_rows" (defArgs s_sorted) (defBody s_sorted) (defScope s_sorted) .none kV6 dc6 pm6 an6 cd6 ct6), sl6⟩)
    (o__sorted_rows : PySem.W.codeIn K cd6 "_sorted_rows" = true)
    (k__sorted_rows : PySem.W.keepIn K (.ref f__sorted_rows) = true)
    (a__law_well : PySem.W.nsIn K mainGlobals "_law_well" = some (some (.ref f__law_well)))
    (l__law_well : K.lookup f__law_well = some ⟨oc7, od7, .func (PySem.W.fnOf "_law_well" "_law_well" (defArgs s_well) (defBody s_well) (defScope s_well) .none kV7 dc7 pm7 an7 cd7 ct7), sl7⟩)
    (o__law_well : PySem.W.codeIn K cd7 "_law_well" = true)
    (k__law_well : PySem.W.keepIn K (.ref f__law_well) = true)
    (a__law_draw : PySem.W.nsIn K mainGlobals "_law_draw" = some (some (.ref f__law_draw)))
    (l__law_draw : K.lookup f__law_draw = some ⟨oc8, od8, .func (PySem.W.fnOf "_law_draw" "_law_draw" (defArgs s_draw) (defBody s_draw) (defScope s_draw) .none kV8 dc8 pm8 an8 cd8 ct8), sl8⟩)
    (o__law_draw : PySem.W.codeIn K cd8 "_law_draw" = true)
    (k__law_draw : PySem.W.keepIn K (.ref f__law_draw) = true)
    (a__law_names : PySem.W.nsIn K mainGlobals "_law_names" = some (some (.ref f__law_names)))
    (l__law_names : K.lookup f__law_names = some ⟨oc9, od9, .func (PySem.W.fnOf "_law_names" "_law_names" (defArgs s_names) (defBody s_names) (defScope s_names) .none kV9 dc9 pm9 an9 cd9 ct9), sl9⟩)
    (o__law_names : PySem.W.codeIn K cd9 "_law_names" = true)
    (k__law_names : PySem.W.keepIn K (.ref f__law_names) = true)
    (a__law_base : PySem.W.nsIn K mainGlobals "_law_base" = some (some (.ref f__law_base)))
    (l__law_base : K.lookup f__law_base = some ⟨oc10, od10, .func (PySem.W.fnOf "_law_base" "_law_base" (defArgs s_base) (defBody s_base) (defScope s_base) .none kV10 dc10 pm10 an10 cd10 ct10), sl10⟩)
    (o__law_base : PySem.W.codeIn K cd10 "_law_base" = true)
    (k__law_base : PySem.W.keepIn K (.ref f__law_base) = true)
    (a__law_odd : PySem.W.nsIn K mainGlobals "_law_odd" = some (some (.ref f__law_odd)))
    (l__law_odd : K.lookup f__law_odd = some ⟨oc11, od11, .func (PySem.W.fnOf "_law_odd" "_law_odd" (defArgs s_odd) (defBody s_odd) (defScope s_odd) .none kV11 dc11 pm11 an11 cd11 ct11), sl11⟩)
    (o__law_odd : PySem.W.codeIn K cd11 "_law_odd" = true)
    (k__law_odd : PySem.W.keepIn K (.ref f__law_odd) = true)
    (a__law_refused : PySem.W.nsIn K mainGlobals "_law_refused" = some (some (.ref f__law_refused)))
    (l__law_refused : K.lookup f__law_refused = some ⟨oc12, od12, .func (PySem.W.fnOf "_law_refused" "_law_refused" (defArgs s_refused) (defBody s_refused) (defScope s_refused) .none kV12 dc12 pm12 an12 cd12 ct12), sl12⟩)
    (o__law_refused : PySem.W.codeIn K cd12 "_law_refused" = true)
    (k__law_refused : PySem.W.keepIn K (.ref f__law_refused) = true)
    (a__law_right : PySem.W.nsIn K mainGlobals "_law_right" = some (some (.ref f__law_right)))
    (l__law_right : K.lookup f__law_right = some ⟨oc13, od13, .func (PySem.W.fnOf "_law_right" "_law_right" (defArgs s_right) (defBody s_right) (defScope s_right) .none kV13 dc13 pm13 an13 (.ref cL) ct13), sl13⟩)
    (o__law_right : PySem.W.codeIn K (.ref cL) "_law_right" = true)
    (k__law_right : PySem.W.keepIn K (.ref f__law_right) = true)
    (a_law : PySem.W.nsIn K mainGlobals "law" = some (some (.ref f_law)))
    (l_law : K.lookup f_law = some ⟨oc14, od14, .func (PySem.W.fnOf "law" "law" (defArgs s_law) (defBody s_law) (defScope s_law) .none kV14 dc14 pm14 an14 cd14 ct14), sl14⟩)
    (o_law : PySem.W.codeIn K cd14 "law" = true)
    (k_law : PySem.W.keepIn K (.ref f_law) = true)
    (a_Table : PySem.W.nsIn K mainGlobals "Table" = some (some (.ref c_Table)))
    (a_Table_columns : PySem.W.findIn K (.ref c_Table) "columns" = some (some (.ref f_Table_columns)))
    (i_Table_columns : PySem.W.isFn K (.ref f_Table_columns) = true)
    (l_Table_columns : K.lookup f_Table_columns = some ⟨oc15, od15, .func (PySem.W.fnOf "columns" "Table.columns" (defArgs s_bcolumns) (defBody s_bcolumns) (defScope s_bcolumns) .none kV15 dc15 pm15 an15 cd15 ct15), sl15⟩)
    (o_Table_columns : PySem.W.codeIn K cd15 "Table.columns" = true)
    (k_Table_columns : PySem.W.keepIn K (.ref f_Table_columns) = true)
    (a_Table_rows : PySem.W.findIn K (.ref c_Table) "rows" = some (some (.ref f_Table_rows)))
    (i_Table_rows : PySem.W.isFn K (.ref f_Table_rows) = true)
    (l_Table_rows : K.lookup f_Table_rows = some ⟨oc16, od16, .func (PySem.W.fnOf "rows" "Table.rows" (defArgs s_brows) (defBody s_brows) (defScope s_brows) .none kV16 dc16 pm16 an16 cd16 ct16), sl16⟩)
    (o_Table_rows : PySem.W.codeIn K cd16 "Table.rows" = true)
    (k_Table_rows : PySem.W.keepIn K (.ref f_Table_rows) = true)
    (a_Table___len__ : PySem.W.findIn K (.ref c_Table) "__len__" = some (some (.ref f_Table___len__)))
    (i_Table___len__ : PySem.W.isFn K (.ref f_Table___len__) = true)
    (l_Table___len__ : K.lookup f_Table___len__ = some ⟨oc17, od17, .func (PySem.W.fnOf "__len__" "Table.__len__" (defArgs s_blen) (defBody s_blen) (defScope s_blen) .none kV17 dc17 pm17 an17 cd17 ct17), sl17⟩)
    (o_Table___len__ : PySem.W.codeIn K cd17 "Table.__len__" = true)
    (k_Table___len__ : PySem.W.keepIn K (.ref f_Table___len__) = true)
    (a_Table___eq__ : PySem.W.findIn K (.ref c_Table) "__eq__" = some (some (.ref f_Table___eq__)))
    (i_Table___eq__ : PySem.W.isFn K (.ref f_Table___eq__) = true)
    (l_Table___eq__ : K.lookup f_Table___eq__ = some ⟨oc18, od18, .func (PySem.W.fnOf "__eq__" "Table.__eq__" (defArgs s_beq) (defBody s_beq) (defScope s_beq) .none kV18 dc18 pm18 an18 cd18 ct18), sl18⟩)
    (o_Table___eq__ : PySem.W.codeIn K cd18 "Table.__eq__" = true)
    (k_Table___eq__ : PySem.W.keepIn K (.ref f_Table___eq__) = true)
    (a_Table__check_row : PySem.W.findIn K (.ref c_Table) "_check_row" = some (some (.ref f_Table__check_row)))
    (i_Table__check_row : PySem.W.isFn K (.ref f_Table__check_row) = true)
    (l_Table__check_row : K.lookup f_Table__check_row = some ⟨oc19, od19, .func (PySem.W.fnOf "_check_row" "Table._check_row" (defArgs s_bcheck) (defBody s_bcheck) (defScope s_bcheck) .none kV19 dc19 pm19 an19 cd19 ct19), sl19⟩)
    (o_Table__check_row : PySem.W.codeIn K cd19 "Table._check_row" = true)
    (k_Table__check_row : PySem.W.keepIn K (.ref f_Table__check_row) = true)
    (a_Table_has : PySem.W.findIn K (.ref c_Table) "has" = some (some (.ref f_Table_has)))
    (i_Table_has : PySem.W.isFn K (.ref f_Table_has) = true)
    (l_Table_has : K.lookup f_Table_has = some ⟨oc20, od20, .func (PySem.W.fnOf "has" "Table.has" (defArgs s_bhas) (defBody s_bhas) (defScope s_bhas) .none kV20 dc20 pm20 an20 cd20 ct20), sl20⟩)
    (o_Table_has : PySem.W.codeIn K cd20 "Table.has" = true)
    (k_Table_has : PySem.W.keepIn K (.ref f_Table_has) = true)
    (a_Table_with_row : PySem.W.findIn K (.ref c_Table) "with_row" = some (some (.ref f_Table_with_row)))
    (i_Table_with_row : PySem.W.isFn K (.ref f_Table_with_row) = true)
    (l_Table_with_row : K.lookup f_Table_with_row = some ⟨oc21, od21, .func (PySem.W.fnOf "with_row" "Table.with_row" (defArgs s_bwith) (defBody s_bwith) (defScope s_bwith) .none kV21 dc21 pm21 an21 cd21 ct21), sl21⟩)
    (o_Table_with_row : PySem.W.codeIn K cd21 "Table.with_row" = true)
    (k_Table_with_row : PySem.W.keepIn K (.ref f_Table_with_row) = true)
    (a_Table_without_row : PySem.W.findIn K (.ref c_Table) "without_row" = some (some (.ref f_Table_without_row)))
    (i_Table_without_row : PySem.W.isFn K (.ref f_Table_without_row) = true)
    (l_Table_without_row : K.lookup f_Table_without_row = some ⟨oc22, od22, .func (PySem.W.fnOf "without_row" "Table.without_row" (defArgs s_bwout) (defBody s_bwout) (defScope s_bwout) .none kV22 dc22 pm22 an22 cd22 ct22), sl22⟩)
    (o_Table_without_row : PySem.W.codeIn K cd22 "Table.without_row" = true)
    (k_Table_without_row : PySem.W.keepIn K (.ref f_Table_without_row) = true)
    (pg_Table : PySem.W.plainGet K c_Table Str.empty = true)
    (hd_Table : PySem.W.hasDictIn K c_Table = true)
    (po_Table : PySem.W.plainOver K c_Table = true)
    (sa_Table : PySem.W.findIn K (.ref c_Table) "__setattr__" = some (some (.builtin "object.__setattr__")))
    (mk_Table : PySem.W.makesIn K c_Table = true)
    (kc_Table : PySem.W.keepIn K (.ref c_Table) = true)
    (ha_Table : PySem.W.findIn K (.ref c_Table) "__class__" = some (some (.builtin "object.__class__")))
    (hm_Table : PySem.W.mroIn K c_Table (.type "object") = some true)
    (me_Table : PySem.W.kitOne K (.ref c_Table) (.ref c_Table) = some true)
    (n_Table_columns : PySem.W.findIn K (.ref c_Table) "_columns" = some none)
    (n_Table_rows : PySem.W.findIn K (.ref c_Table) "_rows" = some none)
    (a_Table___init__ : PySem.W.findIn K (.ref c_Table) "__init__" = some (some (.ref f_Table___init__)))
    (i_Table___init__ : PySem.W.isFn K (.ref f_Table___init__) = true)
    (l_Table___init__ : K.lookup f_Table___init__ = some ⟨oc23, od23, .func (PySem.W.fnOf "__init__" "Table.__init__" (defArgs s_binit) (defBody s_binit) (defScope s_binit) (.ref d_Table___init__) kV23 dc23 pm23 an23 cd23 ct23), sl23⟩)
    (d1_Table___init__ : K.lookup d_Table___init__ = some ⟨do23, dd23, .seq #[.none] dn23, ds23⟩)
    (o_Table___init__ : PySem.W.codeIn K cd23 "Table.__init__" = true)
    (k_Table___init__ : PySem.W.keepIn K (.ref f_Table___init__) = true)
    (hn : PySem.W.specialIn K (.builtin "object.__class__") "__get__" = some (some (.builtin "getset_descriptor.__get__")))
    (ht : PySem.W.takesIn K (.builtin "object.__class__") = some true)
    (a_FoldError : PySem.W.nsIn K mainGlobals "FoldError" = some (some (.ref c_FoldError)))
    (a_NoColumns : PySem.W.nsIn K mainGlobals "NoColumns" = some (some (.ref c_NoColumns)))
    (a_NoRow : PySem.W.nsIn K mainGlobals "NoRow" = some (some (.ref c_NoRow)))
    (a_NoRow___init__ : PySem.W.findIn K (.ref c_NoRow) "__init__" = some (some (.ref f_NoRow___init__)))
    (l_NoRow___init__ : K.lookup f_NoRow___init__ = some ⟨oc24, od24, .func (PySem.W.fnOf "__init__" "NoRow.__init__" (defArgs s_norow) (defBody s_norow) (defScope s_norow) .none kV24 dc24 pm24 an24 cd24 ct24), sl24⟩)
    (o_NoRow___init__ : PySem.W.codeIn K cd24 "NoRow.__init__" = true)
    (k_NoRow___init__ : PySem.W.keepIn K (.ref f_NoRow___init__) = true)
    (y_NoRow___init__ : PySem.W.typeIn K (.ref f_NoRow___init__) = some (.type "function"))
    (g_longest : PySem.W.nsIn K mainGlobals "LONGEST_NAME" = some (some (.int 8 t_longest)))
    (g_most : PySem.W.nsIn K mainGlobals "MOST_COLUMNS" = some (some (.int 8 t_most)))
    (z_len : PySem.W.nsIn K mainGlobals "len" = some none)
    (z_isi : PySem.W.nsIn K mainGlobals "isinstance" = some none)
    (z_str : PySem.W.nsIn K mainGlobals "str" = some none)
    (z_list : PySem.W.nsIn K mainGlobals "list" = some none)
    (z_tuple : PySem.W.nsIn K mainGlobals "tuple" = some none)
    (z_dict : PySem.W.nsIn K mainGlobals "dict" = some none)
    (z_int : PySem.W.nsIn K mainGlobals "int" = some none)
    (z_range : PySem.W.nsIn K mainGlobals "range" = some none)
    (z_enum : PySem.W.nsIn K mainGlobals "enumerate" = some none)
    (z_all : PySem.W.nsIn K mainGlobals "all" = some none)
    (z_any : PySem.W.nsIn K mainGlobals "any" = some none)
    (z_max : PySem.W.nsIn K mainGlobals "max" = some none)
    (z_sorted : PySem.W.nsIn K mainGlobals "sorted" = some none)
    (oxNoRow : oexB K c_NoRow = true)
    (sxNoRow : PySem.W.findIn K (.ref c_NoRow) "__setattr__" = some (some (.builtin "object.__setattr__")))
    (kxNoRow : PySem.W.keepIn K (.ref c_NoRow) = true)
    (bxNoRow : PySem.W.subIn K (.ref c_NoRow) (.type "BaseException") = some true)
    (txNoRow : PySem.W.typeIn K (.ref c_NoRow) = some (.type "type"))
    (nxNoRow : PySem.W.findIn K (.ref c_NoRow) "at" = some none)
    (snfNoRow : PySem.W.subIn K (.ref c_NoRow) (.ref c_FoldError) = some true)
    (xgNoRow : PySem.W.findIn K (.ref c_NoRow) "__getattribute__" = some (some (.builtin "BaseException.__getattribute__")))
    (xkNoRow : PySem.W.findIn K (.ref c_NoRow) "__getattr__" = some none)
    (xdNoRow : PySem.W.hasDictIn K c_NoRow = true)
    (xaNoRow : PySem.W.findIn K (.ref c_NoRow) "__class__" = some (some (.builtin "object.__class__")))
    (xmNoRow : PySem.W.mroIn K c_NoRow (.type "object") = some true)
    (bf : PySem.W.subIn K (.ref c_FoldError) (.type "BaseException") = some true)
    (hf : PySem.W.hasDictIn K c_FoldError = true)
    (tf : PySem.W.typeIn K (.ref c_FoldError) = some (.type "type"))
    (zbool : PySem.W.nsIn K mainGlobals "bool" = some none)
    (zset : PySem.W.nsIn K mainGlobals "set" = some none)
    (ne : PySem.W.findIn K (.ref c_Table) "__ne__" = some (some (.builtin "object.__ne__")))
    (j1 : PySem.W.kitOne K (.ref c_NoRow) (.ref c_NoRow) = some true)
    (j2 : PySem.W.kitOne K (.ref c_NoRow) (.ref c_NoColumns) = some false)
    : ∃ fd : FuncData, (∀ (s : Shared) (v : Value), BindsTo s fd ⟨[v], []⟩ [("_law_script", v)]) ∧ ∀ base : Heap, K.In base → base.Ns mainGlobals mg → LamX.TabB base mg cL Pl → FnOk l.prog w K mg base CX0 14 fa fd ["_law_script"] (sp_law K [(Pl, lamQ "_law_right")]) := by
  have e := hfa.symm.trans (PySem.W.mg_of X G a_law)
  cases e
  have F_is_whole := fun_mk (st := s_is_whole) l_is_whole o_is_whole k_is_whole
  have b_is_whole := F_is_whole.binds (ps := ["thing"]) fun _ _ _ _ _ _ us hl => match us, hl with | [_], _ => rfl
  have N_is_whole : Fn K mg "is_whole" s_is_whole ["thing"] f_is_whole _ := ⟨F_is_whole, PySem.W.mg_of X G a_is_whole, b_is_whole⟩
  have F_is_name := fun_mk (st := s_is_name) l_is_name o_is_name k_is_name
  have b_is_name := F_is_name.binds (ps := ["thing"]) fun _ _ _ _ _ _ us hl => match us, hl with | [_], _ => rfl
  have N_is_name : Fn K mg "is_name" s_is_name ["thing"] f_is_name _ := ⟨F_is_name, PySem.W.mg_of X G a_is_name, b_is_name⟩
  have F_are_columns := fun_mk (st := s_are) l_are_columns o_are_columns k_are_columns
  have b_are_columns := F_are_columns.binds (ps := ["thing"]) fun _ _ _ _ _ _ us hl => match us, hl with | [_], _ => rfl
  have N_are_columns : Fn K mg "are_columns" s_are ["thing"] f_are_columns _ := ⟨F_are_columns, PySem.W.mg_of X G a_are_columns, b_are_columns⟩
  have F_is_row := fun_mk (st := s_is_row) l_is_row o_is_row k_is_row
  have b_is_row := F_is_row.binds (ps := ["thing", "many"]) fun _ _ _ _ _ _ us hl => match us, hl with | [_, _], _ => rfl
  have N_is_row : Fn K mg "is_row" s_is_row ["thing", "many"] f_is_row _ := ⟨F_is_row, PySem.W.mg_of X G a_is_row, b_is_row⟩
  have F__check_columns := fun_mk (st := s_cc) l__check_columns o__check_columns k__check_columns
  have b__check_columns := F__check_columns.binds (ps := ["columns"]) fun _ _ _ _ _ _ us hl => match us, hl with | [_], _ => rfl
  have N__check_columns : Fn K mg "_check_columns" s_cc ["columns"] f__check_columns _ := ⟨F__check_columns, PySem.W.mg_of X G a__check_columns, b__check_columns⟩
  have F__sorted_rows := fun_mk (st := s_sorted) l__sorted_rows o__sorted_rows k__sorted_rows
  have b__sorted_rows := F__sorted_rows.binds (ps := ["rows", "many"]) fun _ _ _ _ _ _ us hl => match us, hl with | [_, _], _ => rfl
  have N__sorted_rows : Fn K mg "_sorted_rows" s_sorted ["rows", "many"] f__sorted_rows _ := ⟨F__sorted_rows, PySem.W.mg_of X G a__sorted_rows, b__sorted_rows⟩
  have F__law_well := fun_mk (st := s_well) l__law_well o__law_well k__law_well
  have b__law_well := F__law_well.binds (ps := ["_law_cell", "_law_k"]) fun _ _ _ _ _ _ us hl => match us, hl with | [_, _], _ => rfl
  have N__law_well : Fn K mg "_law_well" s_well ["_law_cell", "_law_k"] f__law_well _ := ⟨F__law_well, PySem.W.mg_of X G a__law_well, b__law_well⟩
  have F__law_draw := fun_mk (st := s_draw) l__law_draw o__law_draw k__law_draw
  have b__law_draw := F__law_draw.binds (ps := ["_law_well_here", "_law_top"]) fun _ _ _ _ _ _ us hl => match us, hl with | [_, _], _ => rfl
  have N__law_draw : Fn K mg "_law_draw" s_draw ["_law_well_here", "_law_top"] f__law_draw _ := ⟨F__law_draw, PySem.W.mg_of X G a__law_draw, b__law_draw⟩
  have F__law_names := fun_mk (st := s_names) l__law_names o__law_names k__law_names
  have b__law_names := F__law_names.binds (ps := ["_law_well_here", "_law_count"]) fun _ _ _ _ _ _ us hl => match us, hl with | [_, _], _ => rfl
  have N__law_names : Fn K mg "_law_names" s_names ["_law_well_here", "_law_count"] f__law_names _ := ⟨F__law_names, PySem.W.mg_of X G a__law_names, b__law_names⟩
  have F__law_base := fun_mk (st := s_base) l__law_base o__law_base k__law_base
  have b__law_base := F__law_base.binds (ps := ["_law_well_here"]) fun _ _ _ _ _ _ us hl => match us, hl with | [_], _ => rfl
  have N__law_base : Fn K mg "_law_base" s_base ["_law_well_here"] f__law_base _ := ⟨F__law_base, PySem.W.mg_of X G a__law_base, b__law_base⟩
  have F__law_odd := fun_mk (st := s_odd) l__law_odd o__law_odd k__law_odd
  have b__law_odd := F__law_odd.binds (ps := ["_law_well_here", "_law_wide"]) fun _ _ _ _ _ _ us hl => match us, hl with | [_, _], _ => rfl
  have N__law_odd : Fn K mg "_law_odd" s_odd ["_law_well_here", "_law_wide"] f__law_odd _ := ⟨F__law_odd, PySem.W.mg_of X G a__law_odd, b__law_odd⟩
  have F__law_refused := fun_mk (st := s_refused) l__law_refused o__law_refused k__law_refused
  have b__law_refused := F__law_refused.binds (ps := ["_law_deed"]) fun _ _ _ _ _ _ us hl => match us, hl with | [_], _ => rfl
  have N__law_refused : Fn K mg "_law_refused" s_refused ["_law_deed"] f__law_refused _ := ⟨F__law_refused, PySem.W.mg_of X G a__law_refused, b__law_refused⟩
  have F__law_right := fun_mk (st := s_right) l__law_right o__law_right k__law_right
  have b__law_right := F__law_right.binds (ps := ["_law_well_here"]) fun _ _ _ _ _ _ us hl => match us, hl with | [_], _ => rfl
  have N__law_right : Fn K mg "_law_right" s_right ["_law_well_here"] f__law_right _ := ⟨F__law_right, PySem.W.mg_of X G a__law_right, b__law_right⟩
  have F_law := fun_mk (st := s_law) l_law o_law k_law
  have b_law := F_law.binds (ps := ["_law_script"]) fun _ _ _ _ _ _ us hl => match us, hl with | [_], _ => rfl
  have N_law : Fn K mg "law" s_law ["_law_script"] fa _ := ⟨F_law, PySem.W.mg_of X G a_law, b_law⟩
  have F_Table_columns := fun_mk (st := s_bcolumns) l_Table_columns o_Table_columns k_Table_columns
  have b_Table_columns := F_Table_columns.binds (ps := ["self"]) fun _ _ _ _ _ _ us hl => match us, hl with | [_], _ => rfl
  have M_Table_columns : Mt K c_Table "columns" "Table.columns" s_bcolumns ["self"] f_Table_columns _ := ⟨F_Table_columns, ⟨a_Table_columns, i_Table_columns, k_Table_columns⟩, b_Table_columns⟩
  have F_Table_rows := fun_mk (st := s_brows) l_Table_rows o_Table_rows k_Table_rows
  have b_Table_rows := F_Table_rows.binds (ps := ["self"]) fun _ _ _ _ _ _ us hl => match us, hl with | [_], _ => rfl
  have M_Table_rows : Mt K c_Table "rows" "Table.rows" s_brows ["self"] f_Table_rows _ := ⟨F_Table_rows, ⟨a_Table_rows, i_Table_rows, k_Table_rows⟩, b_Table_rows⟩
  have F_Table___len__ := fun_mk (st := s_blen) l_Table___len__ o_Table___len__ k_Table___len__
  have b_Table___len__ := F_Table___len__.binds (ps := ["self"]) fun _ _ _ _ _ _ us hl => match us, hl with | [_], _ => rfl
  have M_Table___len__ : Mt K c_Table "__len__" "Table.__len__" s_blen ["self"] f_Table___len__ _ := ⟨F_Table___len__, ⟨a_Table___len__, i_Table___len__, k_Table___len__⟩, b_Table___len__⟩
  have F_Table___eq__ := fun_mk (st := s_beq) l_Table___eq__ o_Table___eq__ k_Table___eq__
  have b_Table___eq__ := F_Table___eq__.binds (ps := ["self", "other"]) fun _ _ _ _ _ _ us hl => match us, hl with | [_, _], _ => rfl
  have M_Table___eq__ : Mt K c_Table "__eq__" "Table.__eq__" s_beq ["self", "other"] f_Table___eq__ _ := ⟨F_Table___eq__, ⟨a_Table___eq__, i_Table___eq__, k_Table___eq__⟩, b_Table___eq__⟩
  have F_Table__check_row := fun_mk (st := s_bcheck) l_Table__check_row o_Table__check_row k_Table__check_row
  have b_Table__check_row := F_Table__check_row.binds (ps := ["self", "row"]) fun _ _ _ _ _ _ us hl => match us, hl with | [_, _], _ => rfl
  have M_Table__check_row : Mt K c_Table "_check_row" "Table._check_row" s_bcheck ["self", "row"] f_Table__check_row _ := ⟨F_Table__check_row, ⟨a_Table__check_row, i_Table__check_row, k_Table__check_row⟩, b_Table__check_row⟩
  have F_Table_has := fun_mk (st := s_bhas) l_Table_has o_Table_has k_Table_has
  have b_Table_has := F_Table_has.binds (ps := ["self", "row"]) fun _ _ _ _ _ _ us hl => match us, hl with | [_, _], _ => rfl
  have M_Table_has : Mt K c_Table "has" "Table.has" s_bhas ["self", "row"] f_Table_has _ := ⟨F_Table_has, ⟨a_Table_has, i_Table_has, k_Table_has⟩, b_Table_has⟩
  have F_Table_with_row := fun_mk (st := s_bwith) l_Table_with_row o_Table_with_row k_Table_with_row
  have b_Table_with_row := F_Table_with_row.binds (ps := ["self", "row"]) fun _ _ _ _ _ _ us hl => match us, hl with | [_, _], _ => rfl
  have M_Table_with_row : Mt K c_Table "with_row" "Table.with_row" s_bwith ["self", "row"] f_Table_with_row _ := ⟨F_Table_with_row, ⟨a_Table_with_row, i_Table_with_row, k_Table_with_row⟩, b_Table_with_row⟩
  have F_Table_without_row := fun_mk (st := s_bwout) l_Table_without_row o_Table_without_row k_Table_without_row
  have b_Table_without_row := F_Table_without_row.binds (ps := ["self", "row"]) fun _ _ _ _ _ _ us hl => match us, hl with | [_, _], _ => rfl
  have M_Table_without_row : Mt K c_Table "without_row" "Table.without_row" s_bwout ["self", "row"] f_Table_without_row _ := ⟨F_Table_without_row, ⟨a_Table_without_row, i_Table_without_row, k_Table_without_row⟩, b_Table_without_row⟩
  have F_NoRow___init__ := fun_mk (st := s_norow) l_NoRow___init__ o_NoRow___init__ k_NoRow___init__
  have b_NoRow___init__ := F_NoRow___init__.binds (ps := ["self", "at"]) fun _ _ _ _ _ _ us hl => match us, hl with | [_, _], _ => rfl
  have F_Table___init__ : FunD K "__init__" "Table.__init__" (defArgs s_binit) (defBody s_binit) (defScope s_binit) [.non] [] f_Table___init__ _ := ⟨⟨_, _, _, _, _, _, _, _, _, _, rfl, l_Table___init__, o_Table___init__, .inr ⟨(fun z => nomatch z), d_Table___init__, _, [.none], _, rfl, d1_Table___init__, rfl, .cons rfl .nil⟩, .inl rfl⟩, k_Table___init__⟩
  have B : Bn mg := ⟨PySem.W.mg_none_of X G z_len, PySem.W.mg_none_of X G z_isi, PySem.W.mg_none_of X G z_str, PySem.W.mg_none_of X G z_list, PySem.W.mg_none_of X G z_tuple, PySem.W.mg_none_of X G z_dict, PySem.W.mg_none_of X G z_int, PySem.W.mg_none_of X G z_range, PySem.W.mg_none_of X G z_enum, PySem.W.mg_none_of X G z_all, PySem.W.mg_none_of X G z_any, PySem.W.mg_none_of X G z_max, PySem.W.mg_none_of X G z_sorted⟩
  have Tk : Kt K mg f_is_whole f_is_name f_are_columns f_is_row f__check_columns f__sorted_rows _ _ _ _ _ _ := ⟨B, ⟨⟨_, PySem.W.mg_of X G g_longest⟩, ⟨_, PySem.W.mg_of X G g_most⟩⟩, PySem.W.mg_none_of X G zset, PySem.W.mg_none_of X G zbool, N_is_whole, N_is_name, N_are_columns, N_is_row, N__check_columns, N__sorted_rows⟩
  have Ck : Bc K mg c_Table := ⟨⟨pg_Table, hd_Table, po_Table, sa_Table⟩, n_Table_columns, n_Table_rows, PySem.W.mg_of X G a_Table, ⟨ha_Table, hn, ht, hm_Table, me_Table⟩⟩
  have kbo := kbn1 (ps := ["self", "row"]) (ks := ["row"]) F_Table_without_row (fun us ws => us ++ ws) (fun a b => a.append b) 1 (fun _ _ _ _ _ _ us ws l1 l2 => match us, ws, l1, l2 with | [_], [_], _, _ => rfl)
  have Dk : Bd K mg c_Table f_Table___init__ f_Table_columns f_Table_rows f_Table___len__ f_Table___eq__ f_Table__check_row f_Table_has f_Table_with_row f_Table_without_row c_NoRow f_NoRow___init__ _ _ _ _ _ _ _ _ _ _ := ⟨Ck, F_Table___init__, ⟨mk_Table, a_Table___init__, i_Table___init__, kc_Table⟩, by
        obtain ⟨ds, h1, h2⟩ := F_Table___init__.binds1 (ps := ["self", "columns", "rows"]) 3 1 (by simp) rfl (fun _ _ _ _ _ _ _ us its l1 l2 => match us, its, l1, l2 with | [_, _, _], [_], _, _ => ⟨_, rfl, rfl⟩)
        cases h1
        exact h2, F_Table___init__.binds1 (ps := ["self", "columns", "rows"]) 2 0 (by simp) rfl (fun _ _ _ _ _ _ _ us its l1 l2 => match us, its, l1, l2 with | [_, _], [_], _, _ => ⟨_, rfl, rfl⟩),
        M_Table_columns, M_Table_rows, M_Table___len__, M_Table___eq__, M_Table__check_row, M_Table_has, M_Table_with_row, M_Table_without_row, kbo, ne, by unfold PySem.W.notFirst; simp, ⟨⟨oexB_ok oxNoRow, sxNoRow, bxNoRow, txNoRow, kxNoRow⟩, a_NoRow___init__, y_NoRow___init__, F_NoRow___init__, b_NoRow___init__, PySem.W.mg_of X G a_NoRow, nxNoRow⟩⟩
  have Ek : Er K mg c_FoldError c_NoRow c_NoColumns := ⟨PySem.W.mg_of X G a_FoldError, PySem.W.mg_of X G a_NoColumns, PySem.W.exm_ref bf hf tf snfNoRow, ⟨xgNoRow, xkNoRow, bxNoRow, xdNoRow, xaNoRow, hn, ht, xmNoRow⟩, j1, j2⟩
  have Lk : Ld K mg f__law_draw f__law_names f__law_base f__law_odd f__law_refused _ _ _ _ _ := ⟨N__law_draw, N__law_names, N__law_base, N__law_odd, N__law_refused⟩
  have FL : FnC K mg "_law_right" s_right ["_law_well_here"] f__law_right _ cL := ⟨⟨⟨_, _, _, _, _, _, _, _, rfl, l__law_right, o__law_right⟩, k__law_right⟩, PySem.W.mg_of X G a__law_right, b__law_right⟩
  exact ⟨PySem.W.fnOf "law" "law" (defArgs s_law) (defBody s_law) (defScope s_law) .none kV14 dc14 pm14 an14 cd14 ct14, fun s v => .of_eq rfl, fun base _ _ TL => ok_law N_law N__law_well FL TL (tT2 Pl) (tU2 Pl) Tk Dk Lk Ek⟩
end T03
open PySem PySem.W PyProof.Rows
set_option maxRecDepth 100000 in
set_option maxHeartbeats 0 in
theorem PySem.Challenge.cw_foldbough_k03_rows_put_in_and_taken_out_holds : PySem.Challenge.rw_foldbough_k03_rows_put_in_and_taken_out.Holds := by
  w_on; o_law; k_head; (case hw => w_witness2)
  k_fill
  refine LamX.walk_ofTs (l := PySem.Challenge.rw_foldbough_k03_rows_put_in_and_taken_out) (n := 63) (k := 14) (x := "_law_script") (CX := fun _ => L2.CX0) rfl (by decide) rfl ⟨rfl, by decide, by decide⟩ (fun w h Y => PySem.W.km_in_of Y) ?F (fun _ _ _ _ _ z => z)
  case F =>
    intro w mg fa h Y KX G hmg
    have hT8 := PySem.W.km_tabs_of Y
    refine' T03.pack (Pl := 251) KX (hT8 251 (by simp)) ?n2 ?d2 (T03.all_mk KX G hmg ?a_is_whole ?l_is_whole ?o_is_whole ?k_is_whole ?a_is_name ?l_is_name ?o_is_name ?k_is_name ?a_are_columns ?l_are_columns ?o_are_columns ?k_are_columns ?a_is_row ?l_is_row ?o_is_row ?k_is_row ?a__check_columns ?l__check_columns ?o__check_columns ?k__check_columns ?a__sorted_rows ?l__sorted_rows ?o__sorted_rows ?k__sorted_rows ?a__law_well ?l__law_well ?o__law_well ?k__law_well ?a__law_draw ?l__law_draw ?o__law_draw ?k__law_draw ?a__law_names ?l__law_names ?o__law_names ?k__law_names ?a__law_base ?l__law_base ?o__law_base ?k__law_base ?a__law_odd ?l__law_odd ?o__law_odd ?k__law_odd ?a__law_refused ?l__law_refused ?o__law_refused ?k__law_refused ?a__law_right ?l__law_right ?o__law_right ?k__law_right ?a_law ?l_law ?o_law ?k_law ?a_Table ?a_Table_columns ?i_Table_columns ?l_Table_columns ?o_Table_columns ?k_Table_columns ?a_Table_rows ?i_Table_rows ?l_Table_rows ?o_Table_rows ?k_Table_rows ?a_Table___len__ ?i_Table___len__ ?l_Table___len__ ?o_Table___len__ ?k_Table___len__ ?a_Table___eq__ ?i_Table___eq__ ?l_Table___eq__ ?o_Table___eq__ ?k_Table___eq__ ?a_Table__check_row ?i_Table__check_row ?l_Table__check_row ?o_Table__check_row ?k_Table__check_row ?a_Table_has ?i_Table_has ?l_Table_has ?o_Table_has ?k_Table_has ?a_Table_with_row ?i_Table_with_row ?l_Table_with_row ?o_Table_with_row ?k_Table_with_row ?a_Table_without_row ?i_Table_without_row ?l_Table_without_row ?o_Table_without_row ?k_Table_without_row ?pg_Table ?hd_Table ?po_Table ?sa_Table ?mk_Table ?kc_Table ?ha_Table ?hm_Table ?me_Table ?n_Table_columns ?n_Table_rows ?a_Table___init__ ?i_Table___init__ ?l_Table___init__ ?d1_Table___init__ ?o_Table___init__ ?k_Table___init__ ?hn ?ht ?a_FoldError ?a_NoColumns ?a_NoRow ?a_NoRow___init__ ?l_NoRow___init__ ?o_NoRow___init__ ?k_NoRow___init__ ?y_NoRow___init__ ?g_longest ?g_most ?z_len ?z_isi ?z_str ?z_list ?z_tuple ?z_dict ?z_int ?z_range ?z_enum ?z_all ?z_any ?z_max ?z_sorted ?oxNoRow ?sxNoRow ?kxNoRow ?bxNoRow ?txNoRow ?nxNoRow ?snfNoRow ?xgNoRow ?xkNoRow ?xdNoRow ?xaNoRow ?xmNoRow ?bf ?hf ?tf ?zbool ?zset ?ne ?j1 ?j2)
    (case a_is_whole => k_is)
    (case l_is_whole => k_is)
    (case o_is_whole => k_is)
    (case k_is_whole => k_is)
    (case a_is_name => k_is)
    (case l_is_name => k_is)
    (case o_is_name => k_is)
    (case k_is_name => k_is)
    (case a_are_columns => k_is)
    (case l_are_columns => k_is)
    (case o_are_columns => k_is)
    (case k_are_columns => k_is)
    (case a_is_row => k_is)
    (case l_is_row => k_is)
    (case o_is_row => k_is)
    (case k_is_row => k_is)
    (case a__check_columns => k_is)
    (case l__check_columns => k_is)
    (case o__check_columns => k_is)
    (case k__check_columns => k_is)
    (case a__sorted_rows => k_is)
    (case l__sorted_rows => k_is)
    (case o__sorted_rows => k_is)
    (case k__sorted_rows => k_is)
    (case a__law_well => k_is)
    (case l__law_well => k_is)
    (case o__law_well => k_is)
    (case k__law_well => k_is)
    (case a__law_draw => k_is)
    (case l__law_draw => k_is)
    (case o__law_draw => k_is)
    (case k__law_draw => k_is)
    (case a__law_names => k_is)
    (case l__law_names => k_is)
    (case o__law_names => k_is)
    (case k__law_names => k_is)
    (case a__law_base => k_is)
    (case l__law_base => k_is)
    (case o__law_base => k_is)
    (case k__law_base => k_is)
    (case a__law_odd => k_is)
    (case l__law_odd => k_is)
    (case o__law_odd => k_is)
    (case k__law_odd => k_is)
    (case a__law_refused => k_is)
    (case l__law_refused => k_is)
    (case o__law_refused => k_is)
    (case k__law_refused => k_is)
    (case a__law_right => k_is)
    (case l__law_right => k_is)
    (case o__law_right => k_is)
    (case k__law_right => k_is)
    (case a_law => k_is)
    (case l_law => k_is)
    (case o_law => k_is)
    (case k_law => k_is)
    (case a_Table => k_is)
    (case a_Table_columns => k_is)
    (case i_Table_columns => k_is)
    (case l_Table_columns => k_is)
    (case o_Table_columns => k_is)
    (case k_Table_columns => k_is)
    (case a_Table_rows => k_is)
    (case i_Table_rows => k_is)
    (case l_Table_rows => k_is)
    (case o_Table_rows => k_is)
    (case k_Table_rows => k_is)
    (case a_Table___len__ => k_is)
    (case i_Table___len__ => k_is)
    (case l_Table___len__ => k_is)
    (case o_Table___len__ => k_is)
    (case k_Table___len__ => k_is)
    (case a_Table___eq__ => k_is)
    (case i_Table___eq__ => k_is)
    (case l_Table___eq__ => k_is)
    (case o_Table___eq__ => k_is)
    (case k_Table___eq__ => k_is)
    (case a_Table__check_row => k_is)
    (case i_Table__check_row => k_is)
    (case l_Table__check_row => k_is)
    (case o_Table__check_row => k_is)
    (case k_Table__check_row => k_is)
    (case a_Table_has => k_is)
    (case i_Table_has => k_is)
    (case l_Table_has => k_is)
    (case o_Table_has => k_is)
    (case k_Table_has => k_is)
    (case a_Table_with_row => k_is)
    (case i_Table_with_row => k_is)
    (case l_Table_with_row => k_is)
    (case o_Table_with_row => k_is)
    (case k_Table_with_row => k_is)
    (case a_Table_without_row => k_is)
    (case i_Table_without_row => k_is)
    (case l_Table_without_row => k_is)
    (case o_Table_without_row => k_is)
    (case k_Table_without_row => k_is)
    (case pg_Table => k_is)
    (case hd_Table => k_is)
    (case po_Table => k_is)
    (case sa_Table => k_is)
    (case mk_Table => k_is)
    (case kc_Table => k_is)
    (case ha_Table => k_is)
    (case hm_Table => k_is)
    (case me_Table => kit_is)
    (case n_Table_columns => k_is)
    (case n_Table_rows => k_is)
    (case a_Table___init__ => k_is)
    (case i_Table___init__ => k_is)
    (case l_Table___init__ => k_is)
    (case d1_Table___init__ => k_is)
    (case o_Table___init__ => k_is)
    (case k_Table___init__ => k_is)
    (case hn => k_is)
    (case ht => k_is)
    (case a_FoldError => k_is)
    (case a_NoColumns => k_is)
    (case a_NoRow => k_is)
    (case a_NoRow___init__ => k_is)
    (case l_NoRow___init__ => k_is)
    (case o_NoRow___init__ => k_is)
    (case k_NoRow___init__ => k_is)
    (case y_NoRow___init__ => k_is)
    (case g_longest => k_is)
    (case g_most => k_is)
    (case z_len => k_is)
    (case z_isi => k_is)
    (case z_str => k_is)
    (case z_list => k_is)
    (case z_tuple => k_is)
    (case z_dict => k_is)
    (case z_int => k_is)
    (case z_range => k_is)
    (case z_enum => k_is)
    (case z_all => k_is)
    (case z_any => k_is)
    (case z_max => k_is)
    (case z_sorted => k_is)
    (case oxNoRow => first | decide +kernel | rfl)
    (case sxNoRow => k_is)
    (case kxNoRow => k_is)
    (case bxNoRow => k_is)
    (case txNoRow => k_is)
    (case nxNoRow => k_is)
    (case snfNoRow => k_is)
    (case xgNoRow => k_is)
    (case xkNoRow => k_is)
    (case xdNoRow => k_is)
    (case xaNoRow => k_is)
    (case xmNoRow => k_is)
    (case bf => k_is)
    (case hf => k_is)
    (case tf => k_is)
    (case zbool => k_is)
    (case zset => k_is)
    (case ne => k_is)
    (case j1 => kit_is)
    (case j2 => kit_is)
    (case n2 => kernel_rfl)
    (case d2 => kernel_rfl)

