import PyProof.Rows.All
import Wide.All
import OpenK.AllK
import Wide.FinOn
import HandS.ForMost
import HandS.Exc
import HandS.TryOnly
import HandS.ExcOwn
import HandS.WordsExc
import HandS.IsInst
import HandS.ExcIs
import HandS.DictComp
import HandS.Walk
import HandS.Conv
import HandS.Codes
import HandS.OwnEq
import KE.KExcIs
import HandS.ExcInit
import HandS.ExcField
import HandS.Style
import HandS.Defaults
import PyProof.Rows.Range3
import HandS.FStr
import HandS.TupAny
import HandS.SortRule
import HandS.Ends
import KE.KExcStr
import KE.RegKIsAll
import PySem.Challenge.RW_foldbough_k10_trees_made
set_option Elab.async false
set_option linter.all false
set_option maxRecDepth 100000
/-! Mathematics of forests of names told as lists of pairs. -/
namespace TM
open PySem L2
/-- one to eight small letters -/
def NameOk (s : Str) : Prop := 1 ≤ s.length ∧ s.length ≤ 8 ∧ ∀ c ∈ s.cps.toList, 97 ≤ c ∧ c ≤ 122
inductive Fo where
  | nil
  | cons (c : Str) (kids rest : Fo)
abbrev Pr := Str × Option Str
def flat : Fo → Option Str → List Pr
  | .nil, _ => []
  | .cons c k r, u => (c, u) :: (flat k (some c) ++ flat r u)
def names : Fo → List Str
  | .nil => []
  | .cons c k r => c :: (names k ++ names r)
def app : Fo → Fo → Fo
  | .nil, g => g
  | .cons c k r, g => .cons c k (app r g)
/-- the forest beneath u of a list of pairs in which overs stand ahead -/
def mk : List Pr → Option Str → Fo
  | [], _ => .nil
  | (c, o) :: r, u => if o = u then .cons c (mk r (some c)) (mk r u) else mk r u
def ord (ps : List Pr) (u : Option Str) : List Str := names (mk ps u)
theorem ord_nil (u : Option Str) : ord [] u = [] := rfl
theorem ord_cons (c : Str) (o : Option Str) (r : List Pr) (u : Option Str) : ord ((c, o) :: r) u = if o = u then c :: (ord r (some c) ++ ord r u) else ord r u := by
  unfold ord
  show names (if o = u then .cons c (mk r (some c)) (mk r u) else mk r u) = _
  split <;> rfl
theorem flat_names : ∀ (f : Fo) (u : Option Str), (flat f u).map Prod.fst = names f
  | .nil, _ => rfl
  | .cons c k r, u => by
    show c :: ((flat k (some c) ++ flat r u).map Prod.fst) = c :: (names k ++ names r)
    rw [List.map_append, flat_names k, flat_names r]
theorem flat_app : ∀ (f g : Fo) (u : Option Str), flat (app f g) u = flat f u ++ flat g u
  | .nil, _, _ => rfl
  | .cons c k r, g, u => by
    show (c, u) :: (flat k (some c) ++ flat (app r g) u) = (c, u) :: (flat k (some c) ++ flat r u) ++ flat g u
    rw [flat_app r g u, List.cons_append, List.append_assoc]
theorem names_app : ∀ (f g : Fo), names (app f g) = names f ++ names g
  | .nil, _ => rfl
  | .cons c k r, g => by
    show c :: (names k ++ names (app r g)) = c :: (names k ++ names r) ++ names g
    rw [names_app r g, List.cons_append, List.append_assoc]
theorem app_nil : ∀ f : Fo, app f .nil = f
  | .nil => rfl
  | .cons c k r => by show Fo.cons c k (app r .nil) = _; rw [app_nil r]
/-- every over told is none, or a name that is told ahead; names unlike -/
def Valid : List Str → List Pr → Prop
  | _, [] => True
  | seen, (c, o) :: r => c ∉ seen ∧ (∀ x, o = some x → x ∈ seen) ∧ Valid (seen ++ [c]) r
theorem valid_notin : ∀ {ps : List Pr} {seen : List Str} {x : Str}, Valid seen ps → x ∈ seen → x ∉ ps.map Prod.fst
  | [], _, _, _, _ => by simp
  | (c, o) :: r, seen, x, h, hx => by
    obtain ⟨h1, _, h3⟩ := h
    have ih := valid_notin (x := x) h3 (List.mem_append_left _ hx)
    simp only [List.map_cons, List.mem_cons, not_or]
    exact ⟨fun e => h1 (e ▸ hx), ih⟩
theorem valid_nodup : ∀ {ps : List Pr} {seen : List Str}, Valid seen ps → (ps.map Prod.fst).Nodup
  | [], _, _ => by simp
  | (c, o) :: r, seen, h => by
    obtain ⟨_, _, h3⟩ := h
    simp only [List.map_cons, List.nodup_cons]
    exact ⟨valid_notin h3 (by simp), valid_nodup h3⟩
/-- nothing stands beneath a name that is told nowhere as an over -/
theorem mk_none : ∀ {ps : List Pr} {u : Option Str}, (∀ p ∈ ps, p.2 ≠ u) → mk ps u = .nil
  | [], _, _ => rfl
  | (c, o) :: r, u, h => by
    show (if o = u then _ else mk r u) = _
    rw [if_neg (h (c, o) List.mem_cons_self)]
    exact mk_none fun p hp => h p (List.mem_cons_of_mem _ hp)
/-- a forest told in its own order, and what comes behind -/
theorem mk_flat : ∀ (f : Fo) (r : List Pr) (u : Option Str), (names f).Nodup → (∀ x ∈ names f, u ≠ some x) → (∀ p ∈ r, ∀ x ∈ names f, p.2 ≠ some x) →
    mk (flat f u ++ r) u = app f (mk r u) ∧ ∀ v, v ≠ u → (∀ x ∈ names f, v ≠ some x) → mk (flat f u ++ r) v = mk r v
  | .nil, r, u, _, _, _ => ⟨rfl, fun v _ _ => rfl⟩
  | .cons c k s, r, u, hn, hu, hr => by
    have hn' : (c :: (names k ++ names s)).Nodup := hn
    rw [List.nodup_cons, List.nodup_append] at hn'
    obtain ⟨hc, hk, hs, hks⟩ := hn'
    have hck : c ∉ names k := fun z => hc (List.mem_append_left _ z)
    have hcs : c ∉ names s := fun z => hc (List.mem_append_right _ z)
    have mem_k : ∀ x ∈ names k, x ∈ names (Fo.cons c k s) := fun x hx => List.mem_cons_of_mem _ (List.mem_append_left _ hx)
    have mem_s : ∀ x ∈ names s, x ∈ names (Fo.cons c k s) := fun x hx => List.mem_cons_of_mem _ (List.mem_append_right _ hx)
    have mem_c : c ∈ names (Fo.cons c k s) := List.mem_cons_self
    have huc : u ≠ some c := hu c mem_c
    -- the rest behind the kids
    have over_s : ∀ p ∈ flat s u, p.2 = u ∨ ∃ x ∈ names s, p.2 = some x := by
      have gen : ∀ (f : Fo) (u : Option Str), ∀ p ∈ flat f u, p.2 = u ∨ ∃ x ∈ names f, p.2 = some x := by
        intro f
        induction f with
        | nil => intro u p hp; cases hp
        | cons c k r ihk ihr =>
          intro u p hp
          have hp' : p ∈ (c, u) :: (flat k (some c) ++ flat r u) := hp
          rcases List.mem_cons.mp hp' with e | hp'
          · left; rw [e]
          · rcases List.mem_append.mp hp' with hp' | hp'
            · rcases ihk _ p hp' with e | ⟨x, hx, e⟩
              · exact .inr ⟨c, List.mem_cons_self, e⟩
              · exact .inr ⟨x, List.mem_cons_of_mem _ (List.mem_append_left _ hx), e⟩
            · rcases ihr _ p hp' with e | ⟨x, hx, e⟩
              · exact .inl e
              · exact .inr ⟨x, List.mem_cons_of_mem _ (List.mem_append_right _ hx), e⟩
      exact gen s u
    have hR : ∀ p ∈ flat s u ++ r, ∀ x ∈ names k, p.2 ≠ some x := by
      intro p hp x hx e
      rcases List.mem_append.mp hp with hp | hp
      · rcases over_s p hp with e2 | ⟨y, hy, e2⟩
        · exact hu x (mem_k x hx) (e2 ▸ e)
        · rw [e2] at e
          exact hks x hx y hy (Option.some.inj e).symm
      · exact hr p hp x (mem_k x hx) e
    obtain ⟨k1, k2⟩ := mk_flat k (flat s u ++ r) (some c) hk (fun x hx e => hck (Option.some.inj e ▸ hx)) hR
    obtain ⟨s1, s2⟩ := mk_flat s r u hs (fun x hx => hu x (mem_s x hx)) (fun p hp x hx => hr p hp x (mem_s x hx))
    have rc : mk r (some c) = .nil := mk_none fun p hp => hr p hp c mem_c
    have sc : mk (flat s u ++ r) (some c) = .nil := by
      rw [s2 (some c) huc.symm (fun x hx e => hcs (Option.some.inj e ▸ hx)), rc]
    have e0 : flat (Fo.cons c k s) u ++ r = (c, u) :: (flat k (some c) ++ (flat s u ++ r)) := by
      show (c, u) :: (flat k (some c) ++ flat s u) ++ r = _
      rw [List.cons_append, List.append_assoc]
    rw [e0]
    refine ⟨?_, fun v hvu hv => ?_⟩
    · show (if u = u then Fo.cons c (mk (flat k (some c) ++ (flat s u ++ r)) (some c)) (mk (flat k (some c) ++ (flat s u ++ r)) u) else _) = Fo.cons c k (app s (mk r u))
      rw [if_pos rfl, k1, sc, app_nil, k2 u huc (fun x hx => hu x (mem_k x hx)), s1]
    · show (if u = v then _ else mk (flat k (some c) ++ (flat s u ++ r)) v) = _
      rw [if_neg (fun e => hvu e.symm), k2 v (hv c mem_c) (fun x hx => hv x (mem_k x hx)), s2 v hvu (fun x hx => hv x (mem_s x hx))]
theorem mk_own {f : Fo} (hn : (names f).Nodup) : mk (flat f none) none = f := by
  have h := (mk_flat f [] none hn (fun _ _ e => nomatch e) (fun p hp => nomatch hp)).1
  rw [List.append_nil] at h
  rw [h]
  exact app_nil f
theorem mk_two {f g : Fo} (hn : (names (app f g)).Nodup) : mk (flat f none ++ flat g none) none = app f g := by
  rw [← flat_app]
  exact mk_own hn
/-- a forest told in its own order is validly told -/
theorem valid_app : ∀ {ps qs : List Pr} {seen : List Str}, Valid seen ps → Valid (seen ++ ps.map Prod.fst) qs → Valid seen (ps ++ qs)
  | [], qs, seen, _, h => by simpa using h
  | (c, o) :: r, qs, seen, ⟨h1, h2, h3⟩, h => by
    refine ⟨h1, h2, valid_app h3 ?_⟩
    simpa [List.append_assoc] using h
theorem valid_flat : ∀ (f : Fo) (seen : List Str) (u : Option Str), (∀ x, u = some x → x ∈ seen) → (seen ++ names f).Nodup → Valid seen (flat f u)
  | .nil, _, _, _, _ => trivial
  | .cons c k r, seen, u, hu, hn => by
    have hn' : (seen ++ c :: (names k ++ names r)).Nodup := hn
    have e1 : seen ++ c :: (names k ++ names r) = seen ++ [c] ++ names k ++ names r := by simp [List.append_assoc]
    rw [e1] at hn'
    have n1 : (seen ++ [c] ++ names k).Nodup := (List.nodup_append.mp hn').1
    have n2 : (seen ++ [c]).Nodup := (List.nodup_append.mp n1).1
    refine ⟨fun hc => ?_, hu, valid_app (valid_flat k _ (some c) (fun x e => by cases e; simp) n1) ?_⟩
    · have := (List.nodup_append.mp n2).2.2
      exact this c hc c (by simp) rfl
    · rw [flat_names]
      exact valid_flat r _ u (fun x e => List.mem_append_left _ (List.mem_append_left _ (hu x e))) hn'
theorem over_flat : ∀ (f : Fo) (u : Option Str), ∀ p ∈ flat f u, p.2 = u ∨ ∃ x ∈ names f, p.2 = some x := by
  intro f
  induction f with
  | nil => intro u p hp; cases hp
  | cons c k r ihk ihr =>
    intro u p hp
    have hp' : p ∈ (c, u) :: (flat k (some c) ++ flat r u) := hp
    rcases List.mem_cons.mp hp' with e | hp'
    · left; rw [e]
    · rcases List.mem_append.mp hp' with hp' | hp'
      · rcases ihk _ p hp' with e | ⟨x, hx, e⟩
        · exact .inr ⟨c, List.mem_cons_self, e⟩
        · exact .inr ⟨x, List.mem_cons_of_mem _ (List.mem_append_left _ hx), e⟩
      · rcases ihr _ p hp' with e | ⟨x, hx, e⟩
        · exact .inl e
        · exact .inr ⟨x, List.mem_cons_of_mem _ (List.mem_append_right _ hx), e⟩
end TM
namespace TM
open PySem L2
theorem valid_at : ∀ {ps : List Pr} {seen : List Str} {i : Nat} {c : Str} {o : Option Str}, Valid seen ps → ps[i]? = some (c, o) → c ∉ seen ++ (ps.take i).map Prod.fst ∧ ∀ x, o = some x → x ∈ seen ++ (ps.take i).map Prod.fst
  | [], _, _, _, _, _, h => by simp at h
  | (a, b) :: r, seen, 0, c, o, ⟨h1, h2, _⟩, h => by
    simp only [List.getElem?_cons_zero, Option.some.injEq, Prod.mk.injEq] at h
    obtain ⟨rfl, rfl⟩ := h
    simpa using ⟨h1, h2⟩
  | (a, b) :: r, seen, i + 1, c, o, ⟨h1, h2, h3⟩, h => by
    have h' : r[i]? = some (c, o) := by simpa using h
    have ih := valid_at h3 h'
    simpa [List.append_assoc] using ih
theorem valid_take : ∀ {ps : List Pr} {seen : List Str} (i : Nat), Valid seen ps → Valid seen (ps.take i)
  | [], _, i, _ => by simp [Valid]
  | (a, b) :: r, seen, 0, _ => trivial
  | (a, b) :: r, seen, i + 1, ⟨h1, h2, h3⟩ => ⟨h1, h2, valid_take i h3⟩
/-- nothing ahead of a suffix stands right beneath u -/
def Below (ps : List Pr) (u : Option Str) (n : Nat) : Prop := ∃ pre t, ps = pre ++ t ∧ t.length < n ∧ ∀ p ∈ pre, p.2 ≠ u
theorem below_top (ps : List Pr) {n : Nat} (h : ps.length < n) : Below ps none n := ⟨[], ps, rfl, h, fun _ h => nomatch h⟩
/-- the over of a name stands nowhere ahead of it -/
theorem ahead : ∀ {ps : List Pr} {seen : List Str} {x : Str}, Valid seen ps → x ∉ seen → x ∉ ps.map Prod.fst → ∀ p ∈ ps, p.2 ≠ some x
  | [], _, _, _, _, _, p, hp => nomatch hp
  | (a, b) :: r, seen, x, ⟨h1, h2, h3⟩, hs, hx, p, hp => by
    rw [List.map_cons, List.mem_cons, not_or] at hx
    rcases List.mem_cons.mp hp with e | hp
    · rw [e]
      intro e2
      exact hs (h2 x e2)
    · exact ahead h3 (by simp [hs, hx.1]) hx.2 p hp
/-- beneath a column there is only what stands behind it -/
theorem ahead_at {ps : List Pr} {i : Nat} {c : Str} {o : Option Str} (va : Valid [] ps) (h : ps[i]? = some (c, o)) : ∀ p ∈ ps.take (i + 1), p.2 ≠ some c := by
  have hc := (valid_at va h).1
  rw [List.nil_append] at hc
  have e : ps.take (i + 1) = ps.take i ++ [(c, o)] := by rw [List.take_add_one, h]; rfl
  intro p hp
  rw [e] at hp
  rcases List.mem_append.mp hp with hp | hp
  · exact ahead (valid_take i va) (by simp) hc p hp
  · rw [List.mem_singleton.mp hp]
    intro e2
    have h2 := (valid_at va h).2 c e2
    rw [List.nil_append] at h2
    exact hc h2
theorem below_at {ps : List Pr} {i : Nat} {c : Str} {o : Option Str} {n : Nat} (va : Valid [] ps) (h : ps[i]? = some (c, o)) (b : Below ps o (n + 1)) : Below ps (some c) n := by
  obtain ⟨pre, t, e, hl, hp⟩ := b
  have hi : i < ps.length := (List.getElem?_eq_some_iff.mp h).1
  have hpi : pre.length ≤ i := by
    refine Nat.le_of_not_lt fun hlt => ?_
    have : pre[i]? = some (c, o) := by
      rw [e, List.getElem?_append_left hlt] at h
      exact h
    exact hp _ (List.mem_of_getElem? this) rfl
  refine ⟨ps.take (i + 1), ps.drop (i + 1), (List.take_append_drop _ _).symm, ?_, ahead_at va h⟩
  rw [List.length_drop]
  have := congrArg List.length e
  rw [List.length_append] at this
  omega
theorem mk_skip : ∀ {pre t : List Pr} {u : Option Str}, (∀ p ∈ pre, p.2 ≠ u) → mk (pre ++ t) u = mk t u
  | [], _, _, _ => rfl
  | (c, o) :: r, t, u, h => by
    show (if o = u then _ else mk (r ++ t) u) = _
    rw [if_neg (h (c, o) List.mem_cons_self)]
    exact mk_skip fun p hp => h p (List.mem_cons_of_mem _ hp)
/-- the order, told as the program tells it -/
def step (ps : List Pr) (u : Option Str) (p : Pr) : List Str := if p.2 = u then p.1 :: ord ps (some p.1) else []
theorem ord_suffix {ps : List Pr} (va : Valid [] ps) (u : Option Str) : ∀ (t pre : List Pr), ps = pre ++ t → ord t u = t.flatMap (step ps u)
  | [], _, _ => rfl
  | (c, o) :: r, pre, e => by
    have hi : ps[pre.length]? = some (c, o) := by rw [e]; simp
    have h1 : ord ps (some c) = ord r (some c) := by
      have h2 := ahead_at va hi
      have e2 : ps = ps.take (pre.length + 1) ++ r := by
        have e3 : pre ++ (c, o) :: r = (pre ++ [(c, o)]) ++ r := by simp
        have e4 : ps.take (pre.length + 1) = pre ++ [(c, o)] := by
          rw [e, e3, List.take_append_of_le_length (by simp)]
          rw [List.take_of_length_le (by simp)]
        rw [e4, ← e3]
        exact e
      unfold ord
      rw [e2, mk_skip h2]
    have ih := ord_suffix va u r (pre ++ [(c, o)]) (by rw [e]; simp)
    rw [ord_cons, List.flatMap_cons, ← ih]
    unfold step
    rw [h1]
    by_cases ho : o = u
    · simp [ho]
    · simp [ho]
theorem ord_flat {ps : List Pr} (va : Valid [] ps) (u : Option Str) : ord ps u = ps.flatMap (step ps u) := ord_suffix va u ps [] rfl
theorem ord_take {ps : List Pr} {u : Option Str} {i : Nat} {q : Pr} (h : ps[i]? = some q) : (ps.take (i + 1)).flatMap (step ps u) = (ps.take i).flatMap (step ps u) ++ step ps u q := by
  rw [List.take_add_one, h, List.flatMap_append]
  show _ ++ (step ps u q ++ []) = _
  rw [List.append_nil]
/-- the names in the tree's order are the names told -/
theorem pick : ∀ {us : List (Option Str)} {o : Option Str} {A : List Str} {g : Option Str → List Str}, us.Nodup → o ∈ us → (us.flatMap fun u => if o = u then A ++ g u else g u).Perm (A ++ us.flatMap g)
  | [], _, _, _, _, h => nomatch h
  | v :: us, o, A, g, hn, h => by
    rw [List.nodup_cons] at hn
    by_cases e : o = v
    · have hn2 : o ∉ us := e ▸ hn.1
      have e2 : (us.flatMap fun u => if o = u then A ++ g u else g u) = us.flatMap g := by
        clear hn h
        induction us with
        | nil => rfl
        | cons x r ih =>
          rw [List.mem_cons, not_or] at hn2
          rw [List.flatMap_cons, List.flatMap_cons, ih hn2.2, if_neg hn2.1]
      rw [List.flatMap_cons, List.flatMap_cons, e2, if_pos e, List.append_assoc]
    · have h2 : o ∈ us := (List.mem_cons.mp h).resolve_left e
      rw [List.flatMap_cons, List.flatMap_cons, if_neg e]
      have ih := pick (A := A) (g := g) hn.2 h2
      refine ((List.Perm.append_left (g v) ih).trans ?_)
      rw [← List.append_assoc, ← List.append_assoc]
      exact List.Perm.append_right _ List.perm_append_comm
theorem ords_perm : ∀ {ps : List Pr} {seen : List Str}, seen.Nodup → Valid seen ps → ((none :: seen.map some).flatMap (ord ps)).Perm (ps.map Prod.fst)
  | [], seen, _, _ => by
    have : ∀ us : List (Option Str), us.flatMap (ord []) = [] := by
      intro us
      induction us with
      | nil => rfl
      | cons u us ih => rw [List.flatMap_cons, ih]; rfl
    rw [this]
    exact List.Perm.nil
  | (c, o) :: r, seen, hn, ⟨h1, h2, h3⟩ => by
    have hn2 : (seen ++ [c]).Nodup := by
      rw [List.nodup_append]
      refine ⟨hn, by simp, fun a ha b hb => ?_⟩
      rw [List.mem_singleton.mp hb]
      exact fun e => h1 (e ▸ ha)
    have ih := ords_perm hn2 h3
    have hu : (none :: seen.map some : List (Option Str)).Nodup := by
      rw [List.nodup_cons]
      refine ⟨by simp, ?_⟩
      rw [List.nodup_iff_pairwise_ne, List.pairwise_map]
      exact List.Pairwise.imp (fun h e => h (Option.some.inj e)) (List.nodup_iff_pairwise_ne.mp hn)
    have ho : o ∈ (none :: seen.map some : List (Option Str)) := by
      cases o with
      | none => exact List.mem_cons_self
      | some x => exact List.mem_cons_of_mem _ (List.mem_map.mpr ⟨x, h2 x rfl, rfl⟩)
    have e1 : (none :: seen.map some).flatMap (ord ((c, o) :: r)) = (none :: seen.map some).flatMap fun u => if o = u then (c :: ord r (some c)) ++ ord r u else ord r u := by
      congr 1
      funext u
      rw [ord_cons]
      split <;> rfl
    rw [e1]
    refine (pick hu ho).trans ?_
    rw [List.map_cons, List.cons_append]
    refine List.Perm.cons c ?_
    refine List.Perm.trans ?_ ih
    rw [List.map_append, ← List.cons_append, List.flatMap_append]
    have e3 : List.flatMap (ord r) (List.map some [c]) = ord r (some c) := by
      show ord r (some c) ++ [] = _
      rw [List.append_nil]
    rw [e3]
    exact List.perm_append_comm
theorem ord_perm {ps : List Pr} (va : Valid [] ps) : (ord ps none).Perm (ps.map Prod.fst) := by
  have := ords_perm List.nodup_nil va
  simpa using this
theorem ord_nodup {ps : List Pr} (va : Valid [] ps) : (ord ps none).Nodup := (List.Perm.nodup_iff (ord_perm va)).mpr (valid_nodup va)
/-- the pairs in the tree's order are pairs told -/
theorem mk_sub : ∀ {ps : List Pr} {u : Option Str} {p : Pr}, p ∈ flat (mk ps u) u → p ∈ ps
  | [], _, _, h => nomatch h
  | (c, o) :: r, u, p, h => by
    have h' : p ∈ flat (if o = u then .cons c (mk r (some c)) (mk r u) else mk r u) u := h
    by_cases e : o = u
    · rw [if_pos e] at h'
      have h'' : p ∈ (c, u) :: (flat (mk r (some c)) (some c) ++ flat (mk r u) u) := h'
      rcases List.mem_cons.mp h'' with e2 | h2
      · rw [e2, e]
        exact List.mem_cons_self
      · rcases List.mem_append.mp h2 with h2 | h2
        · exact List.mem_cons_of_mem _ (mk_sub h2)
        · exact List.mem_cons_of_mem _ (mk_sub h2)
    · rw [if_neg e] at h'
      exact List.mem_cons_of_mem _ (mk_sub h')
end TM
namespace TM
open PySem L2
theorem flat_le {α β : Type} {f : α → List β} {k : Nat} : ∀ {l : List α}, (∀ a ∈ l, (f a).length ≤ k) → (l.flatMap f).length ≤ k * l.length
  | [], _ => by simp
  | a :: r, h => by
    rw [List.flatMap_cons, List.length_append, List.length_cons, Nat.mul_succ]
    have h1 := h a List.mem_cons_self
    have h2 := flat_le (l := r) fun b hb => h b (List.mem_cons_of_mem _ hb)
    omega
theorem flat_no {ps : List Pr} {c : Str} {o : Option Str} {us : List (Option Str)} (h : o ∉ us) : us.flatMap (ord ((c, o) :: ps)) = us.flatMap (ord ps) := by
  induction us with
  | nil => rfl
  | cons u r ih =>
    rw [List.mem_cons, not_or] at h
    rw [List.flatMap_cons, List.flatMap_cons, ih h.2, ord_cons, if_neg h.1]
theorem ords_le : ∀ {ps : List Pr} {seen : List Str} {us : List (Option Str)}, us.Nodup → Valid seen ps → (∀ x ∈ ps.map Prod.fst, some x ∉ us) → (us.flatMap (ord ps)).length ≤ ps.length
  | [], _, us, _, _, _ => by
    induction us with
    | nil => exact Nat.le_refl _
    | cons u us ih =>
      rw [List.flatMap_cons, List.length_append]
      rename_i h _ _
      have := ih (List.nodup_cons.mp (by assumption)).2 (fun x hx => nomatch hx)
      rw [ord_nil]
      simpa using this
  | (c, o) :: r, seen, us, hu, ⟨h1, h2, h3⟩, hx => by
    by_cases ho : o ∈ us
    · have e1 : us.flatMap (ord ((c, o) :: r)) = us.flatMap fun u => if o = u then (c :: ord r (some c)) ++ ord r u else ord r u := by
        congr 1
        funext u
        rw [ord_cons]
        split <;> rfl
      rw [e1, (pick (A := c :: ord r (some c)) (g := ord r) hu ho).length_eq]
      have hc : some c ∉ us := hx c (by simp)
      have ih := ords_le (us := some c :: us) (List.nodup_cons.mpr ⟨hc, hu⟩) h3 (fun x hx2 h => by
        rcases List.mem_cons.mp h with e | h
        · have := valid_notin h3 (x := c) (by simp)
          exact this (Option.some.inj e ▸ hx2)
        · exact hx x (List.mem_cons_of_mem _ hx2) h)
      rw [List.flatMap_cons, List.length_append] at ih
      simp only [List.length_append, List.length_cons]
      omega
    · rw [flat_no ho]
      have ih := ords_le hu h3 (fun x hx2 => hx x (List.mem_cons_of_mem _ hx2))
      rw [List.length_cons]
      omega
theorem valid_drop : ∀ {ps : List Pr} {seen : List Str} (i : Nat), Valid seen ps → ∃ s, Valid s (ps.drop i)
  | [], seen, i, _ => ⟨seen, by simp [Valid]⟩
  | (a, b) :: r, seen, 0, h => ⟨seen, h⟩
  | (a, b) :: r, seen, i + 1, ⟨_, _, h3⟩ => valid_drop i h3
theorem ord_le {ps : List Pr} (va : Valid [] ps) (u : Option Str) : (ord ps u).length ≤ ps.length := by
  have one : ∀ (qs : List Pr) (s : List Str), Valid s qs → (∀ x ∈ qs.map Prod.fst, u ≠ some x) → (ord qs u).length ≤ qs.length := fun qs s v h => by
    have := ords_le (us := [u]) (by simp) v (fun x hx e => h x hx (List.mem_singleton.mp e).symm)
    simpa using this
  by_cases h : ∃ c, u = some c ∧ c ∈ ps.map Prod.fst
  · obtain ⟨c, rfl, hc⟩ := h
    obtain ⟨⟨c', o⟩, hm, rfl⟩ := List.mem_map.mp hc
    obtain ⟨i, hi, hie⟩ := List.getElem_of_mem hm
    have hq : ps[i]? = some (c', o) := by rw [List.getElem?_eq_getElem hi, hie]
    have e : ord ps (some c') = ord (ps.drop (i + 1)) (some c') := by
      unfold ord
      have := mk_skip (t := ps.drop (i + 1)) (ahead_at va hq)
      rw [List.take_append_drop] at this
      rw [this]
    obtain ⟨s, vs⟩ := valid_drop (i + 1) va
    have hnd := valid_nodup va
    rw [e]
    refine Nat.le_trans (one _ s vs fun x hx e2 => ?_) (by rw [List.length_drop]; omega)
    cases e2
    rw [List.map_drop] at hx
    obtain ⟨j, hj, hje⟩ := List.getElem_of_mem hx
    rw [List.getElem_drop] at hje
    have h1 : (ps.map Prod.fst)[i]'(by simpa using hi) = c' := by rw [List.getElem_map, hie]
    have := (List.getElem_inj hnd).mp (hje.trans h1.symm)
    omega
  · exact one ps [] va fun x hx e => h ⟨x, e, hx⟩
end TM

/-! Where a name stands in a forest: what is above it, what is beneath. -/
namespace TM
open PySem L2
/-- what is above a name, and the forest beneath it -/
def loc : Fo → Str → Option (List Str × Fo)
  | .nil, _ => none
  | .cons d k r, c => if d = c then some ([], k) else match loc k c with
    | some (a, q) => some (d :: a, q)
    | none => loc r c
def tops : Fo → List Str
  | .nil => []
  | .cons c _ r => c :: tops r
theorem loc_names : ∀ {f : Fo} {c : Str}, c ∈ names f → ∃ a q, loc f c = some (a, q)
  | .nil, _, h => nomatch h
  | .cons d k r, c, h => by
    unfold loc
    by_cases e : d = c
    · exact ⟨_, _, if_pos e⟩
    · rw [if_neg e]
      cases hk : loc k c with
      | some p => exact ⟨_, _, rfl⟩
      | none =>
        have h' : c ∈ d :: (names k ++ names r) := h
        rcases List.mem_cons.mp h' with e2 | h2
        · exact absurd e2.symm e
        · rcases List.mem_append.mp h2 with h2 | h2
          · obtain ⟨a, q, e3⟩ := loc_names h2
            rw [hk] at e3
            cases e3
          · exact loc_names h2
theorem loc_mem : ∀ {f : Fo} {c : Str} {a : List Str} {q : Fo}, loc f c = some (a, q) → c ∈ names f
  | .nil, _, _, _, h => by unfold loc at h; cases h
  | .cons d k r, c, a, q, h => by
    unfold loc at h
    show c ∈ d :: (names k ++ names r)
    by_cases e : d = c
    · rw [e]; exact List.mem_cons_self
    · rw [if_neg e] at h
      cases hk : loc k c with
      | some p =>
        obtain ⟨b, p⟩ := p
        exact List.mem_cons_of_mem _ (List.mem_append_left _ (loc_mem hk))
      | none =>
        rw [hk] at h
        exact List.mem_cons_of_mem _ (List.mem_append_right _ (loc_mem h))
theorem loc_none {f : Fo} {c : Str} (h : c ∉ names f) : loc f c = none := by
  cases e : loc f c with
  | none => rfl
  | some p => exact absurd (loc_mem (a := p.1) (q := p.2) e) h
theorem nd_parts {d : Str} {k r : Fo} (h : (names (.cons d k r)).Nodup) : d ∉ names k ∧ d ∉ names r ∧ (names k).Nodup ∧ (names r).Nodup ∧ ∀ x ∈ names k, x ∉ names r := by
  have h' : (d :: (names k ++ names r)).Nodup := h
  rw [List.nodup_cons, List.nodup_append] at h'
  exact ⟨fun z => h'.1 (List.mem_append_left _ z), fun z => h'.1 (List.mem_append_right _ z), h'.2.1, h'.2.2.1, fun x hx hy => h'.2.2.2 x hx x hy rfl⟩
/-- the three ways in which a name stands in a forest -/
theorem loc_cases {d : Str} {k r : Fo} {c : Str} {a : List Str} {q : Fo} (h : loc (.cons d k r) c = some (a, q)) : (d = c ∧ a = [] ∧ q = k) ∨ (d ≠ c ∧ ∃ b, a = d :: b ∧ loc k c = some (b, q)) ∨ (d ≠ c ∧ loc k c = none ∧ loc r c = some (a, q)) := by
  unfold loc at h
  by_cases e : d = c
  · rw [if_pos e] at h
    cases h
    exact .inl ⟨e, rfl, rfl⟩
  · rw [if_neg e] at h
    cases hk : loc k c with
    | some p =>
      obtain ⟨b, p⟩ := p
      rw [hk] at h
      cases h
      exact .inr (.inl ⟨e, b, rfl, rfl⟩)
    | none =>
      rw [hk] at h
      exact .inr (.inr ⟨e, rfl, h⟩)
theorem loc_here {d : Str} {k r : Fo} : loc (.cons d k r) d = some ([], k) := by unfold loc; exact if_pos rfl
theorem loc_in {d c : Str} {k r : Fo} {b : List Str} {q : Fo} (e : d ≠ c) (h : loc k c = some (b, q)) : loc (.cons d k r) c = some (d :: b, q) := by
  unfold loc
  rw [if_neg e, h]
theorem loc_by {d c : Str} {k r : Fo} (e : d ≠ c) (h : loc k c = none) : loc (.cons d k r) c = loc r c := by
  rw [loc.eq_def]
  dsimp only
  rw [if_neg e, h]
theorem loc_sub : ∀ {f : Fo} {c : Str} {a : List Str} {q : Fo}, loc f c = some (a, q) → (a ++ [c]).Sublist (names f)
  | .nil, _, _, _, h => by unfold loc at h; cases h
  | .cons d k r, c, a, q, h => by
    show (a ++ [c]).Sublist (d :: (names k ++ names r))
    rcases loc_cases h with ⟨rfl, rfl, rfl⟩ | ⟨_, b, rfl, g⟩ | ⟨_, _, g⟩
    · exact List.Sublist.cons_cons _ (List.nil_sublist _)
    · exact List.Sublist.cons_cons _ ((loc_sub g).trans (List.sublist_append_left _ _))
    · exact List.Sublist.cons _ ((loc_sub g).trans (List.sublist_append_right _ _))
/-- what is beneath a name stands behind it, in one piece -/
theorem loc_seg : ∀ {f : Fo} {c : Str} {a : List Str} {q : Fo}, loc f c = some (a, q) → ∃ A B, names f = A ++ (c :: names q) ++ B
  | .nil, _, _, _, h => by unfold loc at h; cases h
  | .cons d k r, c, a, q, h => by
    have e0 : names (.cons d k r) = d :: (names k ++ names r) := rfl
    rcases loc_cases h with ⟨rfl, rfl, rfl⟩ | ⟨_, b, rfl, g⟩ | ⟨_, _, g⟩
    · exact ⟨[], names r, rfl⟩
    · obtain ⟨A, B, e⟩ := loc_seg g
      exact ⟨d :: A, B ++ names r, by rw [e0, e]; simp⟩
    · obtain ⟨A, B, e⟩ := loc_seg g
      exact ⟨d :: (names k ++ A), B, by rw [e0, e]; simp⟩
/-- the column right above -/
def lastOr (a : List Str) (u : Option Str) : Option Str := match a.getLast? with
  | some x => some x
  | none => u
theorem lastOr_snoc (a : List Str) (x : Str) (u : Option Str) : lastOr (a ++ [x]) u = some x := by unfold lastOr; rw [List.getLast?_concat]
theorem lastOr_cons (d : Str) (a : List Str) (u : Option Str) : lastOr (d :: a) u = lastOr a (some d) := by
  cases a with
  | nil => rfl
  | cons x r =>
    unfold lastOr
    rw [List.getLast?_cons_cons]
    rw [List.getLast?_eq_some_getLast (by simp)]
theorem loc_flat : ∀ {f : Fo} {c : Str} {a : List Str} {q : Fo} (u : Option Str), loc f c = some (a, q) → (c, lastOr a u) ∈ flat f u
  | .nil, _, _, _, _, h => by unfold loc at h; cases h
  | .cons d k r, c, a, q, u, h => by
    show _ ∈ (d, u) :: (flat k (some d) ++ flat r u)
    rcases loc_cases h with ⟨rfl, rfl, rfl⟩ | ⟨_, b, rfl, g⟩ | ⟨_, _, g⟩
    · exact List.mem_cons_self
    · rw [lastOr_cons]
      exact List.mem_cons_of_mem _ (List.mem_append_left _ (loc_flat (some d) g))
    · exact List.mem_cons_of_mem _ (List.mem_append_right _ (loc_flat u g))
/-- each one above, with what is above it -/
theorem loc_up : ∀ {f : Fo} {c : Str} {a : List Str} {q : Fo}, (names f).Nodup → loc f c = some (a, q) → ∀ (a1 a2 : List Str) (x : Str), a = a1 ++ x :: a2 → ∃ q1, loc f x = some (a1, q1) ∧ c ∈ names q1
  | .nil, _, _, _, _, h => by unfold loc at h; cases h
  | .cons d k r, c, a, q, hn, h => by
    intro a1 a2 x e
    obtain ⟨n1, n2, n3, n4, n5⟩ := nd_parts hn
    rcases loc_cases h with ⟨rfl, rfl, rfl⟩ | ⟨hd, b, rfl, g⟩ | ⟨hd, hk, g⟩
    · simp at e
    · cases a1 with
      | nil =>
        have e' : d :: b = x :: a2 := e
        injection e' with e1 e2
        subst e1
        exact ⟨k, loc_here, loc_mem g⟩
      | cons y a1 =>
        have e' : d :: b = y :: (a1 ++ x :: a2) := e
        injection e' with e1 e2
        subst e1
        obtain ⟨q1, h1, h2⟩ := loc_up n3 g _ _ _ e2
        exact ⟨q1, loc_in (fun z => n1 (z ▸ loc_mem h1)) h1, h2⟩
    · obtain ⟨q1, h1, h2⟩ := loc_up n4 g _ _ _ e
      have hx := loc_mem h1
      exact ⟨q1, (loc_by (fun (z : d = x) => n2 (z ▸ hx)) (loc_none fun z => n5 _ z hx)).trans h1, h2⟩
/-- each one beneath -/
theorem loc_down : ∀ {f : Fo} {c o : Str} {a a2 : List Str} {q q2 : Fo}, (names f).Nodup → loc f c = some (a, q) → loc q o = some (a2, q2) → loc f o = some (a ++ c :: a2, q2)
  | .nil, _, _, _, _, _, _, _, h, _ => by unfold loc at h; cases h
  | .cons d k r, c, o, a, a2, q, q2, hn, h, h2 => by
    obtain ⟨n1, n2, n3, n4, n5⟩ := nd_parts hn
    rcases loc_cases h with ⟨rfl, rfl, rfl⟩ | ⟨hd, b, rfl, g⟩ | ⟨hd, hk, g⟩
    · exact loc_in (fun z => n1 (z ▸ loc_mem h2)) h2
    · have ih := loc_down n3 g h2
      exact loc_in (fun z => n1 (z ▸ loc_mem ih)) ih
    · have ih := loc_down n4 g h2
      have hx := loc_mem ih
      exact (loc_by (fun (z : d = o) => n2 (z ▸ hx)) (loc_none fun z => n5 _ z hx)).trans ih
theorem loc_top : ∀ {f : Fo} {c : Str}, (names f).Nodup → (c ∈ tops f ↔ ∃ q, loc f c = some ([], q))
  | .nil, c, _ => ⟨(fun h => nomatch h), (fun ⟨q, h⟩ => by unfold loc at h; cases h)⟩
  | .cons d k r, c, hn => by
    obtain ⟨n1, n2, n3, n4, n5⟩ := nd_parts hn
    constructor
    · intro h
      have h' : c ∈ d :: tops r := h
      rcases List.mem_cons.mp h' with e | h2
      · subst e
        exact ⟨k, loc_here⟩
      · obtain ⟨q, e⟩ := (loc_top n4).mp h2
        have hx := loc_mem e
        exact ⟨q, (loc_by (fun (z : d = c) => n2 (z ▸ hx)) (loc_none fun z => n5 _ z hx)).trans e⟩
    · rintro ⟨q, h⟩
      show c ∈ d :: tops r
      rcases loc_cases h with ⟨rfl, _, _⟩ | ⟨_, b, e, _⟩ | ⟨_, _, h⟩
      · exact List.mem_cons_self
      · cases e
      · exact List.mem_cons_of_mem _ ((loc_top n4).mpr ⟨q, h⟩)
theorem tops_sub : ∀ f : Fo, (tops f).Sublist (names f)
  | .nil => List.Sublist.slnil
  | .cons d k r => List.Sublist.cons_cons _ ((tops_sub r).trans (List.sublist_append_right _ _))
theorem filter_mem : ∀ {l s : List Str}, l.Nodup → s.Sublist l → (l.filter fun x => decide (x ∈ s)) = s
  | [], s, _, h => by
    cases h
    rfl
  | x :: l, s, hn, h => by
    rw [List.nodup_cons] at hn
    cases h with
    | cons _ h =>
      have hx : x ∉ s := fun z => hn.1 (h.subset z)
      rw [List.filter_cons_of_neg (by simpa using hx)]
      exact filter_mem hn.2 h
    | cons_cons _ h =>
      rename_i s
      rw [List.filter_cons_of_pos (by simp)]
      congr 1
      have e : (l.filter fun y => decide (y ∈ x :: s)) = l.filter fun y => decide (y ∈ s) := by
        refine List.filter_congr fun y hy => ?_
        have : y ≠ x := fun z => hn.1 (z ▸ hy)
        simp [this]
      rw [e]
      exact filter_mem hn.2 h
/-- above and beneath are one thing, told from both ends -/
theorem up_down {f : Fo} {c o : Str} {a a' : List Str} {q q' : Fo} (hn : (names f).Nodup) (hc : loc f c = some (a, q)) (ho : loc f o = some (a', q')) : c ∈ a' ↔ o ∈ names q := by
  constructor
  · intro h
    obtain ⟨a1, a2, e⟩ := List.append_of_mem h
    obtain ⟨q1, h1, h2⟩ := loc_up hn ho _ _ _ e
    rw [hc] at h1
    cases h1
    exact h2
  · intro h
    obtain ⟨a2, q2, h2⟩ := loc_names h
    have := loc_down hn hc h2
    rw [ho] at this
    cases this
    simp
/-- what is right beneath a name -/
theorem kid_iff {f : Fo} {c o : Str} {a a' : List Str} {q q' : Fo} (hn : (names f).Nodup) (hq : (names q).Nodup) (hc : loc f c = some (a, q)) (ho : loc f o = some (a', q')) : a'.getLast? = some c ↔ o ∈ tops q := by
  constructor
  · intro h
    obtain ⟨a1, e⟩ : ∃ a1, a' = a1 ++ [c] := by
      rw [List.getLast?_eq_some_iff] at h
      exact h
    obtain ⟨q1, h1, h2⟩ := loc_up hn ho a1 [] c e
    rw [hc] at h1
    cases h1
    obtain ⟨a2, q2, h3⟩ := loc_names h2
    have h4 := loc_down hn hc h3
    rw [ho] at h4
    obtain ⟨e4, _⟩ := Prod.mk.inj (Option.some.inj h4)
    rw [e] at e4
    have e5 : [c] = c :: a2 := List.append_cancel_left e4
    have e6 : a2 = [] := by
      have := (List.cons.inj e5).2
      exact this.symm
    subst e6
    exact (loc_top hq).mpr ⟨q2, h3⟩
  · intro h
    obtain ⟨q2, h3⟩ := (loc_top hq).mp h
    have h4 := loc_down hn hc h3
    rw [ho] at h4
    obtain ⟨e4, _⟩ := Prod.mk.inj (Option.some.inj h4)
    rw [e4, List.getLast?_concat]
theorem sub_nodup {f : Fo} {c : Str} {a : List Str} {q : Fo} (hn : (names f).Nodup) (h : loc f c = some (a, q)) : (c :: names q).Nodup := by
  obtain ⟨A, B, e⟩ := loc_seg h
  rw [e, List.append_assoc, List.nodup_append] at hn
  exact (List.nodup_append.mp hn.2.1).1
theorem seg_sub {f : Fo} {c : Str} {a : List Str} {q : Fo} (h : loc f c = some (a, q)) : (c :: names q).Sublist (names f) := by
  obtain ⟨A, B, e⟩ := loc_seg h
  rw [e, List.append_assoc]
  exact (List.sublist_append_left _ _).trans (List.sublist_append_right _ _)
/-- the names beneath, child by child -/
def kidsOf (f : Fo) (c : Str) : List Str := match loc f c with
  | some (_, q) => c :: names q
  | none => []
theorem kids_flat : ∀ {q : Fo}, (names q).Nodup → (tops q).flatMap (kidsOf q) = names q
  | .nil, _ => rfl
  | .cons d k r, hn => by
    obtain ⟨n1, n2, n3, n4, n5⟩ := nd_parts hn
    show (d :: tops r).flatMap (kidsOf (.cons d k r)) = d :: (names k ++ names r)
    rw [List.flatMap_cons]
    have e1 : kidsOf (.cons d k r) d = d :: names k := by unfold kidsOf; rw [loc_here]
    have e2 : (tops r).flatMap (kidsOf (.cons d k r)) = (tops r).flatMap (kidsOf r) := by
      have : ∀ l : List Str, (∀ x ∈ l, x ∈ names r) → l.flatMap (kidsOf (.cons d k r)) = l.flatMap (kidsOf r) := by
        intro l
        induction l with
        | nil => intro _; rfl
        | cons x t ih =>
          intro h
          rw [List.flatMap_cons, List.flatMap_cons, ih fun y hy => h y (List.mem_cons_of_mem _ hy)]
          congr 1
          have hx := h x List.mem_cons_self
          unfold kidsOf
          rw [loc_by (fun (z : d = x) => n2 (z ▸ hx)) (loc_none fun z => n5 _ z hx)]
      exact this _ fun x hx => (tops_sub r).subset hx
    rw [e1, e2, kids_flat n4, List.cons_append]
end TM
namespace TM
open PySem L2
theorem perm_eq {α : Type} {R : α → α → Prop} (anti : ∀ a b, R a b → R b a → a = b) : ∀ {l m : List α}, l.Perm m → l.Pairwise R → m.Pairwise R → l = m
  | [], m, h, _, _ => by
    have := h.length_eq
    cases m with
    | nil => rfl
    | cons b m => simp at this
  | a :: l, [], h, _, _ => by
    have := h.length_eq
    simp at this
  | a :: l, b :: m, h, h1, h2 => by
    have hab : a = b := by
      have ha : a ∈ b :: m := h.subset List.mem_cons_self
      have hb : b ∈ a :: l := h.symm.subset List.mem_cons_self
      rcases List.mem_cons.mp ha with e | ha
      · exact e
      · rcases List.mem_cons.mp hb with e | hb
        · exact e.symm
        · exact anti a b ((List.pairwise_cons.mp h1).1 b hb) ((List.pairwise_cons.mp h2).1 a ha)
    subst hab
    rw [perm_eq anti (List.Perm.cons_inv h) (List.pairwise_cons.mp h1).2 (List.pairwise_cons.mp h2).2]
/-- the first i trees of a forest -/
def takeF : Nat → Fo → Fo
  | 0, _ => .nil
  | _ + 1, .nil => .nil
  | i + 1, .cons c k r => .cons c k (takeF i r)
theorem takeF_all : ∀ f : Fo, takeF (tops f).length f = f
  | .nil => rfl
  | .cons c k r => by
    show Fo.cons c k (takeF (tops r).length r) = _
    rw [takeF_all r]
theorem takeF_next : ∀ {f : Fo} {i : Nat} {c : Str}, (names f).Nodup → (tops f)[i]? = some c → ∃ k, loc f c = some ([], k) ∧ takeF (i + 1) f = app (takeF i f) (.cons c k .nil)
  | .nil, i, c, _, h => by simp [tops] at h
  | .cons d k r, 0, c, _, h => by
    have e : d = c := by simpa [tops] using h
    subst e
    exact ⟨k, loc_here, rfl⟩
  | .cons d k r, i + 1, c, hn, h => by
    have h' : (tops r)[i]? = some c := by simpa [tops] using h
    obtain ⟨n1, n2, n3, n4, n5⟩ := nd_parts hn
    obtain ⟨q, h1, h2⟩ := takeF_next n4 h'
    have hx := loc_mem h1
    refine ⟨q, (loc_by (fun (z : d = c) => n2 (z ▸ hx)) (loc_none fun z => n5 _ z hx)).trans h1, ?_⟩
    show Fo.cons d k (takeF (i + 1) r) = Fo.cons d k (app (takeF i r) (.cons c q .nil))
    rw [h2]
theorem takeF_sub : ∀ (f : Fo) (i : Nat), (names (takeF i f)).Sublist (names f)
  | _, 0 => List.nil_sublist _
  | .nil, i + 1 => List.Sublist.slnil
  | .cons c k r, i + 1 => by
    show (c :: (names k ++ names (takeF i r))).Sublist (c :: (names k ++ names r))
    exact List.Sublist.cons_cons _ (List.Sublist.append_left (takeF_sub r i) _)
/-- the pairs of one tree, picked out of a forest's -/
theorem pick_tree : ∀ {f : Fo} {c : Str} {k : Fo}, (names f).Nodup → loc f c = some ([], k) → (flat f none).filter (fun q => decide (q.1 ∈ c :: names k)) = flat (.cons c k .nil) none
  | .nil, _, _, _, h => by unfold loc at h; cases h
  | .cons d k' r, c, k, hn, h => by
    obtain ⟨n1, n2, n3, n4, n5⟩ := nd_parts hn
    have keep : ∀ (l : List Pr), (∀ q ∈ l, q.1 ∈ c :: names k) → l.filter (fun q => decide (q.1 ∈ c :: names k)) = l := fun l hl => List.filter_eq_self.mpr fun q hq => decide_eq_true (hl q hq)
    have drop : ∀ (l : List Pr), (∀ q ∈ l, q.1 ∉ c :: names k) → l.filter (fun q => decide (q.1 ∈ c :: names k)) = [] := fun l hl => List.filter_eq_nil_iff.mpr fun q hq z => hl q hq (of_decide_eq_true z)
    have nm : ∀ {g : Fo} {u : Option Str} {q : Pr}, q ∈ flat g u → q.1 ∈ names g := fun {g u q} hq => by rw [← flat_names g u]; exact List.mem_map.mpr ⟨q, hq, rfl⟩
    show ((d, none) :: (flat k' (some d) ++ flat r none)).filter _ = (c, none) :: (flat k (some c) ++ [])
    rcases loc_cases h with ⟨rfl, _, rfl⟩ | ⟨_, b, e, _⟩ | ⟨hd, hk, g⟩
    · rw [List.filter_cons_of_pos (by simp), List.filter_append, keep (flat k (some d)) fun q hq => List.mem_cons_of_mem _ (nm hq), drop (flat r none) fun q hq z => ?_]
      rcases List.mem_cons.mp z with z | z
      · exact n2 (z ▸ nm hq)
      · exact n5 _ z (nm hq)
    · cases e
    · have hs := seg_sub g
      rw [List.filter_cons_of_neg (by
        intro z
        exact n2 (hs.subset (of_decide_eq_true z))), List.filter_append, drop (flat k' (some d)) fun q hq z => n5 _ (nm hq) (hs.subset z), List.nil_append]
      exact pick_tree n4 g
end TM

set_option maxHeartbeats 2000000
/-! Words of our own, over any row. -/
namespace TX
open PySem L2 PyProof.Rows
/-- the built-in names that the text leaves alone -/
structure Bn (mg : Str → Option Value) : Prop where
  len : mg "len" = none
  isi : mg "isinstance" = none
  str : mg "str" = none
  list : mg "list" = none
  tuple : mg "tuple" = none
  dict : mg "dict" = none
  int : mg "int" = none
  range : mg "range" = none
  enum : mg "enumerate" = none
  all : mg "all" = none
  any : mg "any" = none
  max : mg "max" = none
  sorted : mg "sorted" = none
/-- a def of the module, ready to be called -/
structure Fn (K : PySem.W.Frag) (mg : Str → Option Value) (x : Str) (st : Stmt) (ps : List Str) (f : Addr) (fd : FuncData) : Prop where
  F : Fun K x x st f fd
  g : mg x = some (.ref f)
  b : Binds K fd ps []
/-- all that was tracked but at W is as it was -/
def Sm (W : Addr) (H H' : Hp) : Prop := ∀ b o, b ≠ W → H b = some o → H' b = some o
theorem Sm.rfl' {W : Addr} {H : Hp} : Sm W H H := fun _ _ _ h => h
theorem Sm.trans {W : Addr} {H H1 H2 : Hp} (a : Sm W H H1) (b : Sm W H1 H2) : Sm W H H2 := fun c o n h => b c o n (a c o n h)
theorem Sm.of {W : Addr} {H H' : Hp} (s : Same H H') : Sm W H H' := fun c o _ h => s c o h
theorem Same.new {H : Hp} {p : Addr} {o : HO} (h : H p = none) : Same H (upd H p o) := fun a u e => by rw [upd_ne (ne_of_none e h)]; exact e
theorem Same.new' {H H1 : Hp} {p : Addr} {o : HO} (s : Same H H1) (h : H1 p = none) : Same H (upd H1 p o) := s.trans (Same.new h)
theorem Sm.new {W : Addr} {H H1 : Hp} {p : Addr} {o : HO} (s : Sm W H H1) (h : H1 p = none) : Sm W H (upd H1 p o) := s.trans (.of (Same.new h))
theorem Sm.put {W : Addr} {H H1 : Hp} {o : HO} (s : Sm W H H1) : Sm W H (upd H1 W o) := fun a u n e => by rw [upd_ne n]; exact s a u n e
/-- a well: three ints; n draws may follow -/
def WellAt (n : Nat) (H : Hp) (W : Addr) : Prop := ∃ a b c : Int, H W = some (.lst [.int a, .int b, .int c]) ∧ 0 ≤ b ∧ b < 2147483648 ∧ 0 ≤ c ∧ c + n ≤ 1000000000000
theorem WellAt.mono {n m : Nat} {H : Hp} {W : Addr} (h : WellAt n H W) (hm : m ≤ n) : WellAt m H W := by
  obtain ⟨a, b, c, e, h1, h2, h3, h4⟩ := h
  exact ⟨a, b, c, e, h1, h2, h3, by omega⟩
theorem WellAt.same {n : Nat} {H H' : Hp} {W : Addr} (h : WellAt n H W) (s : Same H H') : WellAt n H' W := by
  obtain ⟨a, b, c, e, r⟩ := h
  exact ⟨a, b, c, s _ _ e, r⟩
theorem WellAt.new {n : Nat} {H : Hp} {W p : Addr} {o : HO} (h : WellAt n H W) (hp : H p = none) : WellAt n (upd H p o) W := h.same (Same.new hp)
theorem WellAt.ne {n : Nat} {H : Hp} {W p : Addr} (h : WellAt n H W) (hp : H p = none) : W ≠ p := by
  obtain ⟨a, b, c, e, r⟩ := h
  exact ne_of_none e hp
/-- a turn's or a test's joint: what is known of the slots and the heap behind -/
theorem two_le : (2 : Nat) ≤ sizeLine := by decide
theorem small100 {n : Nat} (h : n ≤ 1000) : n ≤ sizeLine := Nat.le_trans h (by decide)
end TX
namespace TX
open PySem L2 PyProof.Rows
theorem Same.mut {H H1 : Hp} {p : Addr} {o : HO} (s : Same H H1) (h : H p = none) : Same H (upd H1 p o) := fun a u e => by rw [upd_ne (ne_of_none e h)]; exact s a u e
theorem Sm.mut {W : Addr} {H H1 : Hp} {p : Addr} {o : HO} (s : Sm W H H1) (h : H p = none) : Sm W H (upd H1 p o) := fun a u n e => by rw [upd_ne (ne_of_none e h)]; exact s a u n e
theorem WellAt.upd {n : Nat} {H : Hp} {W p : Addr} {o : HO} (h : WellAt n H W) (hp : W ≠ p) : WellAt n (L2.upd H p o) W := by
  obtain ⟨a, b, c, e, r⟩ := h
  exact ⟨a, b, c, by rw [upd_ne hp]; exact e, r⟩
theorem Sm.free {W : Addr} {H H' : Hp} (e : Sm W H H') {n : Nat} (hW : WellAt n H W) {l : Addr} (h : H' l = Option.none) (hW' : ∃ m, WellAt m H' W) : H l = Option.none := by
  cases q : H l with
  | none => rfl
  | some o =>
    obtain ⟨m, a, b, c, z, _⟩ := hW'
    have : l ≠ W := fun x => by rw [x, z] at h; cases h
    rw [e l o this q] at h
    cases h
/-- signs as texts -/
def S (l : List Nat) : Str := ⟨l.toArray⟩
theorem S_len (l : List Nat) : (S l).length = l.length := by show l.toArray.size = _; rw [List.size_toArray]
theorem S_cps (l : List Nat) : (S l).cps.toList = l := rfl
theorem S_inj {l m : List Nat} (h : S l = S m) : l = m := by
  have := congrArg (fun s : Str => s.cps.toList) h
  exact this
theorem S_eta (s : Str) : s = S s.cps.toList := by
  obtain ⟨⟨l⟩⟩ := s
  rfl
theorem S_app (l m : List Nat) : S l ++ S m = S (l ++ m) := by
  show (⟨l.toArray ++ m.toArray⟩ : Str) = ⟨(l ++ m).toArray⟩
  simp
theorem join_empty : ∀ ys : List (List Nat), Txt.join (S []) (ys.map S) = S ys.flatten := by
  intro ys
  show Builtin.Str.glued (S []) (ys.map S) = _
  rw [StrLaws.glued_eq_join]
  induction ys with
  | nil => rfl
  | cons y r ih =>
    cases r with
    | nil =>
      show S y = S ([y].flatten)
      simp
    | cons z r =>
      show S y ++ S [] ++ Str.join (S []) ((z :: r).map S) = _
      rw [ih, S_app, S_app]
      simp
theorem cutS_S (l : List Nat) (lo hi : Option Int) : cutS (S l) lo hi = S ((l.drop (HT.sIx l.length 0 lo)).take (HT.sIx l.length l.length hi - HT.sIx l.length 0 lo)) := by
  unfold cutS
  rw [S_len]
  rfl
/-- the letters -/
def abc : Str := Str.ofString "abcdefghijklmnopqrstuvwxyz"
theorem abc_eq : abc = S [97, 98, 99, 100, 101, 102, 103, 104, 105, 106, 107, 108, 109, 110, 111, 112, 113, 114, 115, 116, 117, 118, 119, 120, 121, 122] := by decide +kernel
theorem abc_at {j : Nat} (h : j < 26) : atI abc.cps.toList (j : Int) = some (97 + j) := by
  rw [abc_eq]
  refine atI_nat ?_
  rw [S_cps]
  revert j
  decide
theorem abc_len : abc.length ≤ sizeLine := by rw [abc_eq, S_len]; decide
/-- the k-th name of a well's -/
def nmOf (base : List Nat) (spot more bg ap k : Nat) : Str := S (base.take spot ++ (97 + (bg + ap * k) % 26) :: (base.drop spot).take more)
theorem nm_ok {base : List Nat} {spot more bg ap k : Nat} (hb : base.length = 7) (hc : ∀ c ∈ base, 97 ≤ c ∧ c ≤ 122) (hs : spot + more ≤ 7) : TM.NameOk (nmOf base spot more bg ap k) := by
  unfold TM.NameOk nmOf
  rw [S_len, S_cps]
  simp only [List.length_append, List.length_cons, List.length_take, List.length_drop, hb]
  refine ⟨by omega, by omega, fun c h => ?_⟩
  rcases List.mem_append.mp h with h | h
  · exact hc c (List.mem_of_mem_take h)
  · rcases List.mem_cons.mp h with h | h
    · have := Nat.mod_lt (bg + ap * k) (show 26 > 0 by decide)
      omega
    · exact hc c (List.mem_of_mem_drop (List.mem_of_mem_take h))
theorem nm_inj {base : List Nat} {spot more bg ap k k' : Nat} (ha : ap ∈ [1, 3, 5, 7, 9, 11, 15, 17]) (hk : k < 26) (hk' : k' < 26) (h : nmOf base spot more bg ap k = nmOf base spot more bg ap k') : k = k' := by
  have h1 := S_inj h
  have h2 := (List.append_inj h1 rfl).2
  have h3 : 97 + (bg + ap * k) % 26 = 97 + (bg + ap * k') % 26 := (List.cons.inj h2).1
  simp only [List.mem_cons, List.not_mem_nil, or_false] at ha
  rcases ha with e | e | e | e | e | e | e | e <;> subst e <;> omega
theorem nm_nodup {base : List Nat} {spot more bg ap n : Nat} (ha : ap ∈ [1, 3, 5, 7, 9, 11, 15, 17]) (hn : n ≤ 26) : ((List.range n).map (nmOf base spot more bg ap)).Nodup := by
  rw [List.nodup_iff_pairwise_ne, List.pairwise_map]
  refine List.Pairwise.imp_of_mem ?_ (List.nodup_iff_pairwise_ne.mp List.nodup_range)
  intro a b ha' hb' hne e
  exact hne (nm_inj ha (by have := List.mem_range.mp ha'; omega) (by have := List.mem_range.mp hb'; omega) e)
end TX
namespace TX
open PySem L2 PyProof.Rows
theorem sum_signs (cs : List Nat) : (List.map (fun x : Str => x.length) (cs.map fun c => S [c])).sum = cs.length := by
  induction cs with
  | nil => rfl
  | cons c r ih =>
    rw [List.map_cons, List.map_cons, List.sum_cons, ih, S_len, List.length_cons]
    simp
    omega
theorem join_signs (cs : List Nat) : Txt.join (Str.ofString "") (cs.map fun c => S [c]) = S cs := by
  have e1 : Str.ofString "" = S [] := by decide +kernel
  have e2 : cs.map (fun c => S [c]) = (cs.map fun c => [c]).map S := by rw [List.map_map]; rfl
  have e3 : (cs.map fun c => [c]).flatten = cs := by
    clear e2
    induction cs with
    | nil => rfl
    | cons c r ih => rw [List.map_cons, List.flatten_cons, ih]; rfl
  rw [e1, e2, join_empty, e3]
theorem len_empty : (Str.ofString "").length = 0 := by decide +kernel
end TX
namespace TX
open PySem L2 PyProof.Rows
theorem line100 {n : Nat} (h : n ≤ 1000) : n ≤ sizeLine := Nat.le_trans h (by decide)
theorem line100' {n : Nat} (h : n ≤ 1000) : n < sizeLine := Nat.lt_of_le_of_lt h (by decide)
theorem sapp_len (a b : Str) : (a ++ b).length = a.length + b.length := by
  show (a.cps ++ b.cps).size = _
  rw [Array.size_append]
  rfl
end TX
namespace TX
open PySem L2 PyProof.Rows TM
def optV : Option Str → V
  | none => .non
  | some x => .str x
/-- tuples of a name and what stands over it -/
def TupsAt (H : Hp) : List Addr → List Pr → Prop := Paired fun a q => H a = some (.tup [.str q.1, optV q.2])
def PairsAt (H : Hp) (p : Addr) (ps : List Pr) : Prop := ∃ as, H p = some (.lst (as.map V.ref)) ∧ TupsAt H as ps
theorem TupsAt.sm {W : Addr} {H H' : Hp} {as : List Addr} {ps : List Pr} (h : TupsAt H as ps) (s : Sm W H H') (w : ∃ n, WellAt n H W) : TupsAt H' as ps :=
  Paired.mapP h fun a q e => s a _ (by obtain ⟨n, x, y, z, e2, _⟩ := w; exact ne_of e e2 (by intro z; cases z)) e
theorem TupsAt.same {H H' : Hp} {as : List Addr} {ps : List Pr} (h : TupsAt H as ps) (s : Same H H') : TupsAt H' as ps := Paired.mapP h fun a q e => s a _ e
theorem TupsAt.put {H : Hp} {as : List Addr} {ps : List Pr} {p : Addr} {xs : List V} {o : HO} (h : TupsAt H as ps) (hp : H p = some (.lst xs)) : TupsAt (upd H p o) as ps :=
  Paired.mapP h fun a q e => by rw [upd_ne (ne_of e hp (by intro z; cases z))]; exact e
theorem TupsAt.snoc {H : Hp} {as : List Addr} {ps : List Pr} {a : Addr} {q : Pr} (h : TupsAt H as ps) (e : H a = some (.tup [.str q.1, optV q.2])) : TupsAt H (as ++ [a]) (ps ++ [q]) := by
  unfold TupsAt at *
  induction h with
  | nil => exact .cons e .nil
  | cons h _ ih => exact .cons h ih
theorem TupsAt.len {H : Hp} {as : List Addr} {ps : List Pr} (h : TupsAt H as ps) : as.length = ps.length := Paired.length h
theorem PairsAt.same {H H' : Hp} {p : Addr} {ps : List Pr} (h : PairsAt H p ps) (s : Same H H') : PairsAt H' p ps := by
  obtain ⟨as, e, t⟩ := h
  exact ⟨as, s _ _ e, t.same s⟩
theorem PairsAt.sm {W : Addr} {H H' : Hp} {p : Addr} {ps : List Pr} (h : PairsAt H p ps) (s : Sm W H H') (w : ∃ n, WellAt n H W) (hp : p ≠ W) : PairsAt H' p ps := by
  obtain ⟨as, e, t⟩ := h
  exact ⟨as, s _ _ hp e, t.sm s w⟩
end TX
namespace TX
open PySem L2 PyProof.Rows TM
def kvsOf (ps : List Pr) : List (Key × V) := ps.map fun q => ((Sum.inr q.1 : Key), optV q.2)
theorem kvs_none : ∀ {ps : List Pr} {x : Str}, x ∉ ps.map Prod.fst → valV (kvsOf ps) (Sum.inr x : Key) = none
  | [], _, _ => rfl
  | (c, o) :: r, x, h => by
    have hne : ¬ ((Sum.inr c : Key) = Sum.inr x) := fun e => by
      injection e with e
      exact h (by rw [e]; exact List.mem_cons_self)
    show valV (((Sum.inr c : Key), optV o) :: kvsOf r) _ = none
    rw [valV_neg hne]
    exact kvs_none fun hx => h (List.mem_cons_of_mem _ hx)
theorem kvs_some : ∀ {ps : List Pr} {x : Str} {o : Option Str}, (ps.map Prod.fst).Nodup → (x, o) ∈ ps → valV (kvsOf ps) (Sum.inr x : Key) = some (optV o)
  | [], _, _, _, h => nomatch h
  | (c, p) :: r, x, o, hn, h => by
    rw [List.map_cons, List.nodup_cons] at hn
    rcases List.mem_cons.mp h with e | h
    · obtain ⟨rfl, rfl⟩ := Prod.mk.inj e
      exact valV_pos (p := ((Sum.inr x : Key), optV o)) rfl
    · have hne : ¬ ((Sum.inr c : Key) = Sum.inr x) := fun e => by
        injection e with e
        exact hn.1 (by rw [e]; exact List.mem_map.mpr ⟨(x, o), h, rfl⟩)
      show valV (((Sum.inr c : Key), optV p) :: kvsOf r) _ = _
      rw [valV_neg hne]
      exact kvs_some hn.2 h
theorem optV_inj {o o' : Option Str} (h : optV o = optV o') : o = o' := by
  cases o with
  | none =>
    cases o' with
    | none => rfl
    | some y => cases h
  | some x =>
    cases o' with
    | none => cases h
    | some y =>
      have h' : V.str x = V.str y := h
      injection h' with h'
      rw [h']
/-- in a list or in a dict -/
theorem PC.or {X : Cx} {op : CmpOp} {a b : Expr} {t u : TE} (h1 : PC X op a b t) (h2 : PC X op a b u) : PC X op a b (fun σ H Q => t σ H Q ∨ u σ H Q) :=
  ⟨fun pins s σ H Q I h => h.elim (h1.run pins s σ H Q I) (h2.run pins s σ H Q I)⟩
theorem PC.ofR {X : Cx} {op : CmpOp} {a b : Expr} {ta tb : TE} {r : R2} (ho : OpR X (compareOp op) r) (ha : PE X a ta) (hb : PE X b tb) : PC X op a b (tOp r ta tb) :=
  ⟨fun pins s σ H Q I h => thn (ha.run pins s σ H _ I h) fun u s1 ⟨x, H1, I1, rx, h1⟩ => thn (hb.run pins s1 σ H1 _ I1 h1) fun v s2 ⟨y, H2, I2, ry, h2⟩ => ho pins s2 σ H2 x y u v Q I2 rx ry h2⟩
/-- the order of one sign and a letter -/
theorem lt_sign (c d : Nat) : ([c] < [d]) ↔ c < d := by
  constructor
  · intro h
    cases h with
    | rel h => exact h
    | cons h => cases h
  · intro h
    exact List.Lex.rel h
theorem str_a : Str.ofString "a" = S [97] := by decide +kernel
theorem str_z : Str.ofString "z" = S [122] := by decide +kernel
end TX
namespace TX
open PySem L2 PyProof.Rows TM
theorem TupsAt.get {H : Hp} {as : List Addr} {ps : List Pr} (h : TupsAt H as ps) : ∀ {i : Nat} {a : Addr}, as[i]? = some a → ∃ q, ps[i]? = some q ∧ H a = some (.tup [.str q.1, optV q.2]) := by
  unfold TupsAt at h
  induction h with
  | nil => intro i a e; simp at e
  | cons h _ ih =>
    intro i a e
    cases i with
    | zero =>
      simp at e
      subst e
      exact ⟨_, by simp, h⟩
    | succ i =>
      obtain ⟨q, h1, h2⟩ := ih (by simpa using e)
      exact ⟨q, by simpa using h1, h2⟩
theorem kvs_put {ps : List Pr} {c : Str} {o : Option Str} (h : c ∉ ps.map Prod.fst) : putK (kvsOf ps) (Sum.inr c : Key) (optV o) = kvsOf (ps ++ [(c, o)]) := by
  rw [putK_new _ (kvs_none h)]
  unfold kvsOf
  rw [List.map_append]
  rfl
theorem kvs_len (ps : List Pr) : (kvsOf ps).length = ps.length := by unfold kvsOf; rw [List.length_map]
theorem kvs_get {ps : List Pr} {i : Nat} : (kvsOf ps)[i]? = ps[i]?.map fun q => ((Sum.inr q.1 : Key), optV q.2) := by unfold kvsOf; rw [List.getElem?_map]
end TX
namespace TX
open PySem L2 PyProof.Rows TM
/-- a dict comprehension over a walk: Pr by the turn and the heap -/
theorem dc_walk {J : It} {n : Nat} {G : Hp → Prop} {Y : Nat → Hp → V → Hp → Prop} (wk : Walk J n G Y) {tgt : TG} {cond : TT} {key val : TE} {own : List Nat} {slots : L2.St} {Hs : Hp} {Dn : Addr} {Qf : Hp → Prop}
    (Pw : Nat → Hp → Prop) (start : Pw 0 (upd Hs Dn (.dK []))) (good : ∀ i h, i ≤ n → Pw i h → G h)
    (turn : ∀ i v h h', i < n → Pw i h → Y i h v h' → tgt v (wipe slots own) h' fun s2 h2 => wipe s2 own = wipe slots own ∧ cond s2 h2 fun b h3 =>
      (if b = true then (key s2 h3 fun ky h4 => val s2 h4 fun vl h5 => ∃ es kk, ky = kV kk ∧ h5 Dn = some (.dK es) ∧ es.length < sizeLine ∧ Pw (i + 1) (upd h5 Dn (.dK (putK es kk vl)))) else Pw (i + 1) h3))
    (fin : ∀ h, Pw n h → Qf h) :
    ∃ Z : Nat → Nat → Hp → Prop, (∃ m, Z 0 m (upd Hs Dn (.dK []))) ∧ ∀ i m h, Z i m h → (J.stop i h ∧ Qf h) ∨ (J.go i h ∧ ∃ Nx : Hp → Prop, (∀ h', Nx h' → ∃ m', m' < m ∧ Z (i + 1) m' h') ∧
      ∀ v h', J.yld i h v h' → tgt v (wipe slots own) h' fun s2 h2 => wipe s2 own = wipe slots own ∧ cond s2 h2 fun b h3 =>
        (if b = true then (key s2 h3 fun ky h4 => val s2 h4 fun vl h5 => ∃ es kk, ky = kV kk ∧ h5 Dn = some (.dK es) ∧ es.length < sizeLine ∧ Nx (upd h5 Dn (.dK (putK es kk vl)))) else Nx h3)) := by
  refine ⟨fun i m h => i ≤ n ∧ m = n - i ∧ Pw i h, ⟨n, Nat.zero_le _, by simp, start⟩, ?_⟩
  rintro i m h ⟨hi, rfl, pw⟩
  have g := good i h hi pw
  rcases Nat.lt_or_ge i n with hlt | hge
  · exact .inr ⟨wk.goes i h hlt g, Pw (i + 1), fun h' p' => ⟨n - (i + 1), by omega, hlt, rfl, p'⟩, fun v h' y => turn i v h h' hlt pw (wk.yields i h v h' hlt g y)⟩
  · obtain rfl : i = n := by omega
    exact .inl ⟨wk.stops h g, fin h pw⟩
/-- what is asked of a tree's names -/
structure FoOk (f : Fo) : Prop where
  nd : (names f).Nodup
  le : (names f).length ≤ 8
  ok : ∀ x ∈ names f, NameOk x
theorem foOk_mk {ps : List Pr} (va : Valid [] ps) (hl : ps.length ≤ 8) (hn : ∀ x ∈ ps.map Prod.fst, NameOk x) : FoOk (mk ps none) :=
  ⟨ord_nodup va, Nat.le_trans (ord_le va none) hl, fun x hx => hn x ((ord_perm va).mem_iff.mp hx)⟩
theorem kcol : ¬ (("_columns" : Str) = "_over") := by decide +kernel
/-- the attributes of a tree, in the order in which they are stored -/
def tflds (l d : Addr) : List (Str × V) := putF "_over" (.ref d) (putF "_columns" (.ref l) [])
theorem tflds_col (l d : Addr) : (tflds l d).lookup ("_columns" : Str) = some (.ref l) := by
  unfold tflds
  rw [lookup_putF, if_neg kcol, lookup_putF, if_pos rfl]
theorem tflds_over (l d : Addr) : (tflds l d).lookup ("_over" : Str) = some (.ref d) := by
  unfold tflds
  rw [lookup_putF, if_pos rfl]
theorem tflds_no (l d : Addr) {m : Str} (h1 : ¬ m = "_over") (h2 : ¬ m = "_columns") : (tflds l d).lookup m = none := by
  unfold tflds
  rw [lookup_putF, if_neg h1, lookup_putF, if_neg h2]
  rfl
theorem tflds_len (l d : Addr) : (tflds l d).length < 1000 := by
  unfold tflds
  show (if ("_columns" : Str) = "_over" then [(("_columns" : Str), V.ref d)] else (("_columns" : Str), V.ref l) :: putF "_over" (V.ref d) []).length < 1000
  rw [if_neg kcol]
  show 2 < 1000
  decide
/-- a tree stands at p -/
def TreeAt (C : Addr) (H : Hp) (p : Addr) (f : Fo) : Prop := ∃ dx l d, H p = some (.ins C dx (tflds l d)) ∧ H l = some (.lst ((names f).map V.str)) ∧ H d = some (.dK (kvsOf (flat f none)))
theorem TreeAt.same {C : Addr} {H H' : Hp} {p : Addr} {f : Fo} (t : TreeAt C H p f) (s : Same H H') : TreeAt C H' p f := by
  obtain ⟨dx, l, d, h1, h2, h3⟩ := t
  exact ⟨dx, l, d, s _ _ h1, s _ _ h2, s _ _ h3⟩
/-- an own class that isinstance may be asked of -/
structure Ic (K : PySem.W.Frag) (C : Addr) : Prop where
  ha : PySem.W.findIn K (.ref C) "__class__" = some (some (.builtin "object.__class__"))
  hn : PySem.W.specialIn K (.builtin "object.__class__") "__get__" = some (some (.builtin "getset_descriptor.__get__"))
  htk : PySem.W.takesIn K (.builtin "object.__class__") = some true
  hm : PySem.W.mroIn K C (.type "object") = some true
  me : PySem.W.kitOne K (.ref C) (.ref C) = some true
/-- what the top says of the class -/
structure Tc (K : PySem.W.Frag) (mg : Str → Option Value) (C : Addr) : Prop where
  cl : Cls K C
  nC : NoAttr K C "_columns"
  nO : NoAttr K C "_over"
  g : mg "Tree" = some (.ref C)
  ins : Ic K C
end TX
namespace TX
open PySem L2 PyProof.Rows TM
theorem strOk_name {x : Str} (h : NameOk x) : PyData.strOk x = true := by
  unfold PyData.strOk
  rw [Array.all_eq_true']
  intro c hc
  have := h.2.2 c (Array.mem_toList_iff.mpr hc)
  exact decide_eq_true (by omega)
def dS (ns : List Str) : PyData := .list (ns.map .str)
def dO : Option Str → PyData
  | none => .none
  | some x => .str x
def dP (ps : List Pr) : PyData := .list (ps.map fun q => .tuple [.str q.1, dO q.2])
theorem canS : ∀ {ns : List Str}, (∀ x ∈ ns, NameOk x) → PyData.canLayAll0 (ns.map .str) = true
  | [], _ => rfl
  | x :: r, h => by
    rw [List.map_cons]
    unfold PyData.canLayAll0
    rw [show PyData.canLay0 (.str x) = true from strOk_name (h x List.mem_cons_self), canS fun y hy => h y (List.mem_cons_of_mem _ hy)]
    rfl
theorem depS : ∀ (ns : List Str), PyData.depthAll (ns.map .str) = 0
  | [] => rfl
  | x :: r => by
    rw [List.map_cons]
    unfold PyData.depthAll
    rw [depS r]
    rfl
theorem shS {ns : List Str} (h : ∀ x ∈ ns, NameOk x) : SeqAt.shaped (dS ns) = true := by
  unfold SeqAt.shaped dS
  have h1 : PyData.canLay0 (.list (ns.map .str)) = true := by unfold PyData.canLay0; exact canS h
  have h2 : PyData.depth (.list (ns.map .str)) ≤ 64 := by unfold PyData.depth; rw [depS]; decide
  rw [h1, decide_eq_true h2]
  rfl
theorem eqvS : ∀ (ns ms : List Str), PyData.eqvAll (ns.map .str) (ms.map .str) = decide (ns = ms)
  | [], [] => rfl
  | [], _ :: _ => rfl
  | _ :: _, [] => rfl
  | x :: r, y :: t => by
    rw [List.map_cons, List.map_cons]
    unfold PyData.eqvAll PyData.eqv
    rw [eqvS r t]
    by_cases h : x = y <;> by_cases h2 : r = t <;> simp [h, h2]
theorem DpAll_strs {K : PySem.W.Frag} {H : Hp} : ∀ (ns : List Str), DpAll K H (ns.map V.str) (ns.map .str)
  | [] => .nil
  | x :: r => .cons (.str x) (DpAll_strs r)
theorem DpS {K : PySem.W.Frag} {H : Hp} {a : Addr} {ns : List Str} (h : H a = some (.lst (ns.map V.str))) : Dp K H (.ref a) (dS ns) := .lst (.of h) (DpAll_strs ns)
end TX
namespace TX
open PySem L2 PyProof.Rows TM
/-- all names of a list of pairs are names -/
def PsOk (ps : List Pr) : Prop := ∀ q ∈ ps, NameOk q.1 ∧ ∀ x, q.2 = some x → NameOk x
theorem PsOk.flat {f : Fo} (h : FoOk f) : PsOk (flat f none) := fun q hq => by
  refine ⟨h.ok _ ?_, fun x hx => ?_⟩
  · rw [← flat_names f none]
    exact List.mem_map.mpr ⟨q, hq, rfl⟩
  · rcases over_flat f none q hq with e | ⟨y, hy, e⟩
    · rw [e] at hx; cases hx
    · rw [e] at hx
      cases hx
      exact h.ok _ hy
theorem can_pair {q : Pr} (h : NameOk q.1 ∧ ∀ x, q.2 = some x → NameOk x) : PyData.canLay0 (.tuple [.str q.1, dO q.2]) = true := by
  obtain ⟨c, o⟩ := q
  have h1 : PyData.canLay0 (.str c) = true := strOk_name h.1
  have h2 : PyData.canLay0 (dO o) = true := by
    cases o with
    | none => rfl
    | some x => exact strOk_name (h.2 x rfl)
  unfold PyData.canLay0 PyData.canLayAll0 PyData.canLayAll0 PyData.canLayAll0
  rw [h1, h2]
  rfl
theorem canP : ∀ {ps : List Pr}, PsOk ps → PyData.canLayAll0 (ps.map fun q => .tuple [.str q.1, dO q.2]) = true
  | [], _ => rfl
  | x :: r, h => by
    rw [List.map_cons]
    unfold PyData.canLayAll0
    rw [can_pair (h x List.mem_cons_self), canP fun y hy => h y (List.mem_cons_of_mem _ hy)]
    rfl
theorem dep_dO (o : Option Str) : PyData.depth (dO o) = 0 := by cases o <;> rfl
theorem depP : ∀ (ps : List Pr), PyData.depthAll (ps.map fun q => .tuple [.str q.1, dO q.2]) ≤ 1
  | [] => Nat.zero_le _
  | x :: r => by
    rw [List.map_cons]
    unfold PyData.depthAll
    have h1 : PyData.depth (.tuple [.str x.1, dO x.2]) = 1 := by
      unfold PyData.depth PyData.depthAll PyData.depthAll PyData.depthAll
      rw [dep_dO]
      rfl
    have := depP r
    rw [h1]
    omega
theorem shP {ps : List Pr} (h : PsOk ps) : SeqAt.shaped (dP ps) = true := by
  unfold SeqAt.shaped dP
  have h1 : PyData.canLay0 (.list (ps.map fun q => .tuple [.str q.1, dO q.2])) = true := by unfold PyData.canLay0; exact canP h
  have h2 : PyData.depth (.list (ps.map fun q => .tuple [.str q.1, dO q.2])) ≤ 64 := by
    unfold PyData.depth
    have := depP ps
    omega
  rw [h1, decide_eq_true h2]
  rfl
theorem eqv_dO : ∀ (o p : Option Str), PyData.eqv (dO o) (dO p) = decide (o = p)
  | none, none => rfl
  | none, some _ => rfl
  | some _, none => rfl
  | some x, some y => by
    show PyData.eqv (.str x) (.str y) = _
    unfold PyData.eqv
    by_cases h : x = y <;> simp [h]
theorem eqv_pair (q r : Pr) : PyData.eqv (.tuple [.str q.1, dO q.2]) (.tuple [.str r.1, dO r.2]) = decide (q = r) := by
  obtain ⟨a, b⟩ := q
  obtain ⟨c, d⟩ := r
  unfold PyData.eqv PyData.eqvAll PyData.eqvAll PyData.eqvAll
  rw [eqv_dO]
  have : PyData.eqv (.str a) (.str c) = decide (a = c) := by unfold PyData.eqv; by_cases h : a = c <;> simp [h]
  show (PyData.eqv (.str a) (.str c) && (decide (b = d) && true)) = _
  rw [this]
  by_cases h : a = c <;> by_cases h2 : b = d <;> simp [h, h2]
theorem eqvP : ∀ (ps qs : List Pr), PyData.eqvAll (ps.map fun q => .tuple [.str q.1, dO q.2]) (qs.map fun q => .tuple [.str q.1, dO q.2]) = decide (ps = qs)
  | [], [] => rfl
  | [], _ :: _ => rfl
  | _ :: _, [] => rfl
  | x :: r, y :: t => by
    rw [List.map_cons, List.map_cons]
    unfold PyData.eqvAll
    rw [eqvP r t, eqv_pair]
    by_cases h : x = y <;> by_cases h2 : r = t <;> simp [h, h2]
theorem Dp_optV {K : PySem.W.Frag} {H : Hp} : ∀ (o : Option Str), Dp K H (optV o) (dO o)
  | none => .non
  | some x => .str x
theorem DpAll_tups {K : PySem.W.Frag} {H : Hp} {as : List Addr} {ps : List Pr} (h : TupsAt H as ps) : DpAll K H (as.map V.ref) (ps.map fun q => .tuple [.str q.1, dO q.2]) := by
  unfold TupsAt at h
  induction h with
  | nil => exact .nil
  | cons h _ ih => exact .cons (.tup (.of h) (.cons (.str _) (.cons (Dp_optV _) .nil))) ih
theorem PairsAt.dp {K : PySem.W.Frag} {H : Hp} {a : Addr} {ps : List Pr} (h : PairsAt H a ps) : Dp K H (.ref a) (dP ps) := by
  obtain ⟨as, e, t⟩ := h
  exact .lst (.of e) (DpAll_tups t)
theorem eqv_dS (ns ms : List Str) : PyData.eqv (dS ns) (dS ms) = decide (ns = ms) := by
  unfold dS PyData.eqv
  exact eqvS ns ms
theorem eqv_dP (ps qs : List Pr) : PyData.eqv (dP ps) (dP qs) = decide (ps = qs) := by
  unfold dP PyData.eqv
  exact eqvP ps qs
end TX
namespace TX
open PySem L2 PyProof.Rows TM
/-- a method of a class, ready to be called -/
structure Mt (K : PySem.W.Frag) (C : Addr) (m qual : Str) (st : Stmt) (ps : List Str) (f : Addr) (fd : FuncData) : Prop where
  F : Fun K m qual st f fd
  me : Meth K C m f
  b : Binds K fd ps []
theorem TupsAt.app {H : Hp} {as bs : List Addr} {ps qs : List Pr} (h : TupsAt H as ps) (k : TupsAt H bs qs) : TupsAt H (as ++ bs) (ps ++ qs) := by
  unfold TupsAt at *
  induction h with
  | nil => exact k
  | cons h _ ih => exact .cons h ih
/-- an error class of our own that is raised with a text -/
structure Ec (K : PySem.W.Frag) (mg : Str → Option Value) (x : Str) (C : Addr) : Prop where
  ex : PySem.W.excIn K C [.type "ValueError", .type "Exception", .type "BaseException", .type "object"] "ValueError.__new__" = true
  g : mg x = some (.ref C)
  k : PySem.W.keepIn K (.ref C) = true
  b : PySem.W.subIn K (.ref C) (.type "BaseException") = some true
  t : PySem.W.typeIn K (.ref C) = some (.type "type")
theorem FoOk.app {f g : Fo} (hf : FoOk f) (hg : FoOk g) (hd : ∀ x ∈ names f, x ∉ names g) (hl : (names f).length + (names g).length ≤ 8) : FoOk (app f g) := by
  refine ⟨?_, ?_, fun x hx => ?_⟩
  · rw [names_app, List.nodup_append]
    exact ⟨hf.nd, hg.nd, fun a ha b hb e => hd a ha (e ▸ hb)⟩
  · rw [names_app, List.length_append]
    exact hl
  · rw [names_app] at hx
    rcases List.mem_append.mp hx with hx | hx
    · exact hf.ok x hx
    · exact hg.ok x hx
theorem inV_str (x : Str) (ns : List Str) : inV (.str x) (ns.map V.str) = decide (x ∈ ns) := by
  unfold inV
  induction ns with
  | nil => rfl
  | cons y r ih =>
    rw [List.map_cons, List.any_cons, ih]
    show ((y == x) || decide (x ∈ r)) = _
    by_cases h : x = y
    · simp [h]
    · have h' : ¬ y = x := fun e => h e.symm
      simp [h, h']
theorem flat_strs (ns : List Str) : (ns.map V.str).all flatV = true := by
  rw [List.all_map, List.all_eq_true]
  intro x _
  rfl
end TX
namespace TX
open PySem L2 PyProof.Rows TM
theorem merge_kvs : ∀ (qs pre : List Pr), ((pre ++ qs).map Prod.fst).Nodup → mergeK (kvsOf pre) (kvsOf qs) = kvsOf (pre ++ qs)
  | [], pre, _ => by rw [List.append_nil]; rfl
  | (c, o) :: r, pre, h => by
    have hc : c ∉ pre.map Prod.fst := by
      rw [List.map_append, List.nodup_append] at h
      intro hm
      exact h.2.2 c hm c (by simp) rfl
    show mergeK (putK (kvsOf pre) (Sum.inr c : Key) (optV o)) (kvsOf r) = _
    rw [kvs_put hc, merge_kvs r (pre ++ [(c, o)]) (by simpa using h)]
    simp
theorem merge_nil {ps : List Pr} (h : (ps.map Prod.fst).Nodup) : mergeK [] (kvsOf ps) = kvsOf ps := by
  have := merge_kvs ps [] (by simpa using h)
  rw [List.nil_append] at this
  exact this
theorem kvs_isSome {ps : List Pr} (h : (ps.map Prod.fst).Nodup) (x : Str) : (valV (kvsOf ps) (Sum.inr x : Key)).isSome = decide (x ∈ ps.map Prod.fst) := by
  by_cases hx : x ∈ ps.map Prod.fst
  · obtain ⟨⟨x', o⟩, hm, rfl⟩ := List.mem_map.mp hx
    rw [kvs_some h hm, decide_eq_true hx]
    rfl
  · rw [kvs_none hx, decide_eq_false hx]
    rfl
theorem cut_strs (ns : List Str) (lo hi : Option Int) : ∃ ms : List Str, cutV (ns.map V.str) lo hi = ms.map V.str ∧ ms.Sublist ns ∧ ms.length ≤ HT.sIx ns.length ns.length hi - HT.sIx ns.length 0 lo := by
  refine ⟨(ns.drop (HT.sIx ns.length 0 lo)).take (HT.sIx ns.length ns.length hi - HT.sIx ns.length 0 lo), ?_, ?_, ?_⟩
  · unfold cutV
    rw [List.length_map, List.map_take, List.map_drop]
  · exact (List.take_sublist _ _).trans (List.drop_sublist _ _)
  · rw [List.length_take]
    exact Nat.min_le_left _ _
/-- dict(pairs) -/
def rDP (K : PySem.W.Frag) : List V → Hp → VK → Prop := fun vs H Q => ∃ (L : Addr) (as : List Addr) (es : List (Key × V)), vs = [.ref L] ∧ SqL K H L (as.map V.ref) ∧
  Paired (fun a e => SqT K H a [kV e.1, e.2]) as es ∧ ∀ d, H d = none → Q (.ref d) (upd H d (.dK (mergeK [] es)))
theorem call_dP {X : Cx} (hc : X.calm = true) : CallR X (.type "dict") (rDP X.K) := call_dictP hc
theorem pairs_es {K : PySem.W.Frag} {H : Hp} {as : List Addr} {ps : List Pr} (h : TupsAt H as ps) : Paired (fun a (e : Key × V) => SqT K H a [kV e.1, e.2]) as (kvsOf ps) := by
  unfold TupsAt at h
  induction h with
  | nil => exact .nil
  | cons h _ ih => exact .cons (.of h) ih
theorem PairsAt.nil {H : Hp} {p : Addr} (h : H p = some (.lst [])) : PairsAt H p [] := ⟨[], h, .nil⟩
theorem ord_len {ps : List Pr} (va : Valid [] ps) : (names (mk ps none)).length = ps.length := by
  have := (ord_perm va).length_eq
  rw [List.length_map] at this
  exact this
theorem foOk_nil : FoOk .nil := ⟨List.nodup_nil, Nat.zero_le _, fun _ h => nomatch h⟩
theorem PairsAt.app {H H' : Hp} {a b p : Addr} {ps qs : List Pr} {as bs : List Addr} (h : TupsAt H as ps) (k : TupsAt H bs qs) (s : Same H H') (e : H' p = some (.lst (as.map V.ref ++ bs.map V.ref))) : PairsAt H' p (ps ++ qs) :=
  ⟨as ++ bs, by rw [e, List.map_append], (h.app k).same s⟩
theorem PsOk.app {ps qs : List Pr} (h : PsOk ps) (k : PsOk qs) : PsOk (ps ++ qs) := fun q hq => (List.mem_append.mp hq).elim (h q) (k q)
/-- [pairs, pairs] -/
theorem sh2 {ps qs : List Pr} (h : PsOk ps) (k : PsOk qs) : SeqAt.shaped (.list [dP ps, dP qs]) = true := by
  unfold SeqAt.shaped
  have a1 : PyData.canLay0 (dP ps) = true := (Bool.and_eq_true_iff.mp (shP h)).1
  have a2 : PyData.canLay0 (dP qs) = true := (Bool.and_eq_true_iff.mp (shP k)).1
  have b1 : PyData.depth (dP ps) ≤ 2 := by unfold dP PyData.depth; have := depP ps; omega
  have b2 : PyData.depth (dP qs) ≤ 2 := by unfold dP PyData.depth; have := depP qs; omega
  have h1 : PyData.canLay0 (.list [dP ps, dP qs]) = true := by
    unfold PyData.canLay0 PyData.canLayAll0 PyData.canLayAll0 PyData.canLayAll0
    rw [a1, a2]
    rfl
  have h2 : PyData.depth (.list [dP ps, dP qs]) ≤ 64 := by
    unfold PyData.depth PyData.depthAll PyData.depthAll PyData.depthAll
    omega
  rw [h1, decide_eq_true h2]
  rfl
theorem eqv_refl2 (ps qs : List Pr) : PyData.eqv (.list [dP ps, dP qs]) (.list [dP ps, dP qs]) = true := by
  unfold PyData.eqv PyData.eqvAll PyData.eqvAll PyData.eqvAll
  rw [eqv_dP, eqv_dP, decide_eq_true rfl, decide_eq_true rfl]
  rfl
theorem Dp2 {K : PySem.W.Frag} {H : Hp} {p a b : Addr} {ps qs : List Pr} (h : H p = some (.lst [.ref a, .ref b])) (ha : PairsAt H a ps) (hb : PairsAt H b qs) : Dp K H (.ref p) (.list [dP ps, dP qs]) :=
  .lst (.of h) (.cons ha.dp (.cons hb.dp .nil))
end TX
namespace TX
open PySem L2 PyProof.Rows TM
theorem optV_ne_none {o : Option Str} : decide (optV o = .non) = o.isNone := by
  cases o with
  | none => rfl
  | some x => rfl
/-- the over of a name, found in the dict -/
theorem over_get {f : Fo} (ok : FoOk f) {c : Str} {a : List Str} {q : Fo} (h : loc f c = some (a, q)) : valV (kvsOf (flat f none)) (Sum.inr c : Key) = some (optV (lastOr a none)) :=
  kvs_some (by rw [flat_names]; exact ok.nd) (loc_flat none h)
end TX
namespace TX
open PySem L2 PyProof.Rows TM
/-- an expression that is v whatever is asked behind, and only makes objects -/
def Ee (te : TE) (s : L2.St) (H : Hp) (v : V) : Prop := ∀ h, Same H h → ∀ Q : VK, (∀ h', Same h h' → Q v h') → te s h Q
def Et (tt : TT) (s : L2.St) (H : Hp) (b : Bool) : Prop := ∀ h, Same H h → ∀ Q : Bool → Hp → Prop, (∀ h', Same h h' → Q b h') → tt s h Q
theorem et_yes {s : L2.St} {H : Hp} : Et tYes s H true := fun h _ Q q => q h (fun _ _ e => e)
theorem ee_var {i : Nat} {s : L2.St} {H : Hp} {v : V} (e : s[i]? = some (some v)) : Ee (tVar i) s H v := fun h _ Q q => ⟨v, e, q h (fun _ _ e => e)⟩
/-- [e for x in l if t], the items of the list l -/
theorem lc_all {K : PySem.W.Frag} {l : Addr} {i : Nat} {tt : TT} {te : TE} {s : L2.St} {H : Hp} {xs : List V} {g : V → V} {p : V → Bool} {Q : VK} {ti : TE} (hi : ti s H fun v h => v = .ref l ∧ Same H h) (mono : ∀ Q1 Q2 : VK, (∀ v h, Q1 v h → Q2 v h) → ti s H Q1 → ti s H Q2)
    (hl : SqL K H l xs) (hn : xs.length ≤ 1000) (ht : ∀ x ∈ xs, ∀ h, Same H h → Et tt ((wipe s [i]).set i (some x)) h (p x)) (he : ∀ x ∈ xs, p x = true → ∀ h, Same H h → Ee te ((wipe s [i]).set i (some x)) h (g x))
    (q : ∀ L h, Same H h → H L = none → h L = some (.lst ((xs.filter p).map g)) → Q (.ref L) h) : tLc (iList K ti) (gName i) tt te [i] s H Q := by
  refine mono _ _ (fun v H1 => ?_) hi
  rintro ⟨rfl, s1⟩
  refine ⟨l, rfl, ⟨xs, s1.seq hl⟩, fun D nD => ?_⟩
  refine lc_it (walk_list (xs := xs)) (fun j h => h D = some (.lst (((xs.take j).filter p).map g)) ∧ Same H1 h) ⟨upd_same, Same.new nD⟩ (fun j h _ ⟨_, s2⟩ => s2.seq (s1.seq hl)) ?_ ?_
  · rintro j x h h' hj ⟨e, s2⟩ ⟨rfl, hx⟩
    have hm : x ∈ xs := List.mem_of_getElem? hx
    have htk : xs.take (j + 1) = xs.take j ++ [x] := by rw [List.take_add_one, hx]; rfl
    have s3 := s1.trans s2
    refine ⟨?_, ?_⟩
    · show (((wipe s [i]).set i (some x)).set i none) = wipe s [i]
      show (((s.set i none).set i (some x)).set i none) = s.set i none
      rw [List.set_set, List.set_set]
    refine ht x hm h' s3 h' (fun _ _ e => e) _ fun h4 s4 => ?_
    have e4 := s4 _ _ e
    cases hp : p x with
    | true =>
      refine he x hm hp h4 (s3.trans s4) h4 (fun _ _ e => e) _ fun h5 s5 => ?_
      refine ⟨_, s5 _ _ e4, ?_, ?_, Same.mut ((s2.trans s4).trans s5) nD⟩
      · rw [List.length_map]
        have h1 := List.length_filter_le p (xs.take j)
        rw [List.length_take] at h1
        exact line100' (by omega)
      · rw [upd_same, htk, List.filter_append, List.filter_cons_of_pos hp, List.map_append]
        rfl
    | false =>
      refine ⟨?_, s2.trans s4⟩
      rw [htk, List.filter_append, List.filter_cons_of_neg (by rw [hp]; exact Bool.false_ne_true), List.filter_nil, List.append_nil]
      exact e4
  · rintro h ⟨e, s2⟩
    rw [List.take_length] at e
    exact q D h (s1.trans s2) (s1.free nD) e
theorem mono_var {i : Nat} {s : L2.St} {H : Hp} : ∀ Q1 Q2 : VK, (∀ v h, Q1 v h → Q2 v h) → tVar i s H Q1 → tVar i s H Q2 := fun Q1 Q2 k ⟨v, e, h⟩ => ⟨v, e, k v H h⟩
theorem mono_fld {K : PySem.W.Frag} {i : Nat} {f : Str} {s : L2.St} {H : Hp} : ∀ Q1 Q2 : VK, (∀ v h, Q1 v h → Q2 v h) → tFld K (tVar i) f s H Q1 → tFld K (tVar i) f s H Q2 :=
  fun Q1 Q2 k ⟨v, e, a, C, dx, fs, w, h1, h2, h3, h4, h5, h⟩ => ⟨v, e, a, C, dx, fs, w, h1, h2, h3, h4, h5, k w H h⟩
theorem filter_strs (ns : List Str) (p : Str → Bool) (r : V → Bool) (h : ∀ n ∈ ns, r (.str n) = p n) : (ns.map V.str).filter r = (ns.filter p).map V.str := by
  induction ns with
  | nil => rfl
  | cons n t ih =>
    rw [List.map_cons, List.filter_cons, List.filter_cons, h n List.mem_cons_self, ih fun m hm => h m (List.mem_cons_of_mem _ hm)]
    cases p n <;> rfl
end TX
namespace TX
open PySem L2 PyProof.Rows TM
/-- an if whose test is false, whatever was made -/
theorem sq_no {tc : TT} {t B : TS} {D : Ends} {s : L2.St} {H : Hp} (h : Et tc s H false) (k : ∀ h', Same H h' → B D s h') : tSeq (tIfS tc t tNext) B D s H := h H (fun _ _ e => e) _ k
theorem et_or {t u : TT} {s : L2.St} {H : Hp} (h : Et t s H false) (k : ∀ h', Same H h' → Et u s h' false) : Et (tOr t u) s H false := fun h1 s1 Q q =>
  h h1 s1 _ fun h2 s2 => k h2 (s1.trans s2) h2 (fun _ _ e => e) Q fun h3 s3 => q h3 (s2.trans s3)
theorem kids_take {q : Fo} {ks : List Str} {i : Nat} {c : Str} (h : ks[i]? = some c) : (ks.take (i + 1)).flatMap (kidsOf q) = (ks.take i).flatMap (kidsOf q) ++ kidsOf q c := by
  rw [List.take_add_one, h, List.flatMap_append]
  show _ ++ (kidsOf q c ++ []) = _
  rw [List.append_nil]
theorem bool_data (bs : List Bool) : SeqAt.shaped (.list (bs.map PyData.bool)) = true := by
  have h1 : PyData.canLayAll0 (bs.map PyData.bool) = true := by
    induction bs with
    | nil => rfl
    | cons b r ih => rw [List.map_cons]; unfold PyData.canLayAll0; rw [ih]; rfl
  have h2 : PyData.depthAll (bs.map PyData.bool) = 0 := by
    clear h1
    induction bs with
    | nil => rfl
    | cons b r ih => rw [List.map_cons]; unfold PyData.depthAll; rw [ih]; rfl
  unfold SeqAt.shaped
  have a1 : PyData.canLay0 (.list (bs.map PyData.bool)) = true := by unfold PyData.canLay0; exact h1
  have a2 : PyData.depth (.list (bs.map PyData.bool)) ≤ 64 := by unfold PyData.depth; rw [h2]; decide
  rw [a1, decide_eq_true a2]
  rfl
theorem bool_refl (bs : List Bool) : PyData.eqv (.list (bs.map PyData.bool)) (.list (bs.map PyData.bool)) = true := by
  unfold PyData.eqv
  induction bs with
  | nil => rfl
  | cons b r ih =>
    rw [List.map_cons]
    unfold PyData.eqvAll
    rw [ih]
    show (b == b && true) = true
    simp
theorem Dp_bools {K : PySem.W.Frag} {H : Hp} {a : Addr} {bs : List Bool} (h : H a = some (.lst (bs.map V.bl))) : Dp K H (.ref a) (.list (bs.map PyData.bool)) := by
  refine .lst (.of h) ?_
  clear h
  induction bs with
  | nil => exact .nil
  | cons b r ih => exact .cons (.bl b) ih
theorem filter_yes {xs : List V} : xs.filter (fun _ => true) = xs := by
  induction xs with
  | nil => rfl
  | cons x r ih => rw [List.filter_cons_of_pos rfl, ih]
theorem dec_strs (n : Str) (ks : List Str) : decide (V.str n ∈ ks.map V.str) = decide (n ∈ ks) := by
  by_cases hm : n ∈ ks
  · rw [decide_eq_true hm, decide_eq_true (List.mem_map.mpr ⟨n, hm, rfl⟩)]
  · rw [decide_eq_false hm, decide_eq_false]
    intro z
    obtain ⟨m, hm2, e2⟩ := List.mem_map.mp z
    exact hm (V.str.inj e2 ▸ hm2)
theorem same_rfl {H : Hp} : Same H H := fun _ _ e => e
end TX
namespace TX
open PySem L2 PyProof.Rows TM
theorem lt_anti : ∀ {a b : List Nat}, PySem.Spec.ltCps a b = false → PySem.Spec.ltCps b a = false → a = b
  | [], [], _, _ => rfl
  | [], _ :: _, h, _ => by cases h
  | _ :: _, [], _, h => by cases h
  | x :: a, y :: b, h1, h2 => by
    have g1 : (decide (x < y) || (x == y && PySem.Spec.ltCps a b)) = false := h1
    have g2 : (decide (y < x) || (y == x && PySem.Spec.ltCps b a)) = false := h2
    have e : x = y := by
      have a1 : ¬ x < y := fun z => by rw [decide_eq_true z] at g1; cases g1
      have a2 : ¬ y < x := fun z => by rw [decide_eq_true z] at g2; cases g2
      omega
    subst e
    simp at g1 g2
    rw [lt_anti g1 g2]
theorem lt_trans' : ∀ {a b c : List Nat}, PySem.Spec.ltCps b a = false → PySem.Spec.ltCps c b = false → PySem.Spec.ltCps c a = false
  | [], _, [], _, _ => rfl
  | [], [], _ :: _, _, h => rfl
  | [], _ :: _, _ :: _, _, _ => rfl
  | _ :: _, [], _, h, _ => by cases h
  | x :: a, y :: b, [], _, h => by cases h
  | x :: a, y :: b, z :: c, h1, h2 => by
    have g1 : (decide (y < x) || (y == x && PySem.Spec.ltCps b a)) = false := h1
    have g2 : (decide (z < y) || (z == y && PySem.Spec.ltCps c b)) = false := h2
    show (decide (z < x) || (z == x && PySem.Spec.ltCps c a)) = false
    have a1 : ¬ y < x := fun w => by rw [decide_eq_true w] at g1; cases g1
    have a2 : ¬ z < y := fun w => by rw [decide_eq_true w] at g2; cases g2
    have a3 : ¬ z < x := by omega
    rw [decide_eq_false a3, Bool.false_or]
    by_cases e : z = x
    · have e1 : y = x := by omega
      subst e
      subst e1
      simp at g1 g2
      rw [lt_trans' g1 g2]
      simp
    · have : (z == x) = false := by simpa using e
      rw [this]
      rfl
theorem sorted_pair : ∀ {l : List Str}, PyProof.Rows.sortedS l = true → l.Pairwise fun a b => PySem.Spec.ltCps b.cps.toList a.cps.toList = false
  | [], _ => List.Pairwise.nil
  | [x], _ => List.pairwise_singleton _ _
  | x :: y :: r, h => by
    have h' : (!PySem.Spec.ltCps y.cps.toList x.cps.toList && PyProof.Rows.risingS y r) = true := h
    rw [Bool.and_eq_true] at h'
    have ih : (y :: r).Pairwise fun a b => PySem.Spec.ltCps b.cps.toList a.cps.toList = false := sorted_pair h'.2
    have h1 : PySem.Spec.ltCps y.cps.toList x.cps.toList = false := by simpa using h'.1
    refine List.pairwise_cons.mpr ⟨fun z hz => ?_, ih⟩
    rcases List.mem_cons.mp hz with e | hz
    · rw [e]
      exact h1
    · exact lt_trans' h1 ((List.pairwise_cons.mp ih).1 z hz)
theorem sorted_same {l m : List Str} (h : l.Perm m) (h1 : PyProof.Rows.sortedS l = true) (h2 : PyProof.Rows.sortedS m = true) : l = m := by
  refine perm_eq (fun a b r1 r2 => ?_) h (sorted_pair h1) (sorted_pair h2)
  rw [S_eta a, S_eta b, lt_anti r2 r1]
theorem mono_c {v : V} {s : L2.St} {H : Hp} : ∀ Q1 Q2 : VK, (∀ v h, Q1 v h → Q2 v h) → tC v s H Q1 → tC v s H Q2 := fun _ _ k h => k _ _ h
end TX

set_option maxHeartbeats 2000000
/-! Rules of our own: the length of an own instance; isinstance of a caught error, one class or several. -/
namespace TY
open PySem L2 PyProof.Rows TX
section
variable {X : Cx}
/-- len(o) by an own __len__ -/
def rLenO (C : Addr) (sp : Sp) (E : XK) : List V → Hp → VK → Prop := fun xs H Q => ∃ a dx fs, xs = [.ref a] ∧ H a = some (.ins C dx fs) ∧ sp [.ref a] H (fun v H' => ∃ k : Nat, v = .int k ∧ k ≤ 1000000 ∧ Q (.int k) H') E
theorem call_lenO {CX : CXT} {C f : Addr} {fd : FuncData} {ps : List Str} {sp : Sp} {E : XK} {n : Nat} (F : FnOk X.prog X.w X.K X.mg X.base CX n f fd ps sp) (hs : PySem.W.findIn X.K (.ref C) "__len__" = some (some (.ref f)))
    (hf : PySem.W.isFn X.K (.ref f) = true) (hb : Binds X.K fd ps []) (hx : Passes CX X E) (hr : Room (n + 1) X.A) : CallR X (.builtin "len") (rLenO C sp E) := by
  intro pins s σ H xs us Q I r h
  obtain ⟨a, dx, fs, rfl, ha, hsp⟩ := h
  obtain ⟨u, rfl, rx⟩ := vals1 r
  cases rx
  obtain ⟨mA, J, _⟩ := ins_get I.hok ha
  obtain ⟨od, J, _⟩ := J.look
  obtain ⟨m, hF⟩ := I.fr
  refine PySem.W.len_K hF I.ok.mod.kin J hs hf ?_
  have e0 : Env0 X.prog X.w X.K X.mg X.base X.A.in1 X.stack s H := by
    have e := I.env0
    exact ⟨e.frames, e.mod, e.bs, e.bsz, e.funs, e.frf, e.hok, e.bare⟩
  have hl := F.len _ _ _ _ hsp
  refine wpAny_call (codeAny_mono (F.run X.A.in1 X.stack s H ⟨[.ref a], []⟩ [.ref a] [.ref a] _ E hr.in1 e0 (by
    have := hb s [.ref a] I.kIn (by simpa using hl)
    simpa using this) (.cons rfl .nil) hsp) fun r s' hq => ?_)
  cases r with
  | error e => exact hx pins σ H s e s' I hq
  | ok fl =>
    cases fl with
    | ret u =>
      obtain ⟨z, H', I', rz, k, ez, hk, q⟩ := I.after hq
      subst ez
      obtain ⟨t, rfl⟩ := rz
      show PySem.W.LenBack _ (.int (k : Int) t) s'
      exact ⟨by omega, ⟨.int k, H', I'.tok _, ⟨_, rfl⟩, q⟩⟩
    | next => exact False.elim hq
    | brk => exact False.elim hq
    | cont => exact False.elim hq
/-- isinstance of the error that the suite holds: one class, or a tuple of classes that was just laid -/
def rIsX (K : PySem.W.Frag) (a : Addr) (cls : Value) (d : Option Addr) : List V → Hp → VK → Prop := fun xs H Q => ∃ (D : Addr) (c : V) (b : Bool), cls = .ref D ∧ d = none ∧ ExcC K D ∧ xs = [.ref a, c] ∧
  ((∃ cv, ClsV c cv ∧ PySem.W.kitOne K (.ref D) cv = some b) ∨ (∃ tp cs us, c = .ref tp ∧ H tp = some (.tup cs) ∧ Paired ClsV cs us ∧ PySem.W.kitAny K (.ref D) us = some b)) ∧ Q (.bl b) H
theorem call_isX {a : Addr} {oe : Obj} {cls : Value} {d : Option Addr} {pn : List (Addr × Obj)} (hz : Zc cls d oe) (hf : ∃ vs, oe.data = .fields vs) : CallR (X.suite a ((a, oe) :: pn)) (.builtin "isinstance") (rIsX X.K a cls d) := by
  intro pins s σ H xs us Q I r h
  obtain ⟨D, c, b, rfl, rfl, C, rfl, hc, q⟩ := h
  obtain ⟨u1, u2, rfl, r1, r2⟩ := vals2 r
  cases r1
  obtain ⟨hget, _⟩ := I.pin (a, oe) (List.mem_append.mpr (.inl List.mem_cons_self))
  obtain ⟨vs, hv⟩ := hf
  have J : PySem.W.InstAt s.heap a oe D none := by
    obtain ⟨oc, od, oda, osl⟩ := oe
    obtain ⟨h1, h2⟩ := hz
    dsimp only at h1 h2 hv
    subst h1 h2 hv
    exact ⟨hget, rfl, rfl, trivial⟩
  have Z := PySem.W.handS_kitx_exc (x := a) (ox := oe) C.hg C.hk C.hs C.hd C.ha C.hn C.ht C.hm
  rcases hc with ⟨cv, hcv, e⟩ | ⟨tp, cs, ws, rfl, hT, k, e⟩
  · have e2 := hcv.eq r2
    subst e2
    exact PySem.W.kia_one Z I.kIn J e (fun z => nomatch z) fun tk => ⟨.bl b, H, I.kept (t' := tk) fun _ _ z => z, rfl, q⟩
  · cases (show u2 = Value.ref tp from r2)
    obtain ⟨_, its, rv, o, h1, h2, n, h3⟩ := (show ObjOk X.prog X.w H s.heap tp (.tup cs) from I.hok tp _ hT)
    have e3 := ClsV.all k rv
    subst e3
    obtain ⟨oc, od, dt, sl⟩ := o
    simp only at h2 h3
    subst h2 h3
    exact PySem.W.kia_tup Z I.kIn J h1 e (fun z => nomatch z) fun tk => ⟨.bl b, H, I.kept (t' := tk) fun _ _ z => z, rfl, q⟩
end
end TY

set_option maxHeartbeats 2000000
/-! Rules of our own: a made instance whose __init__ may raise; isinstance of a caught error that has a dict; two lists of the same items. -/
namespace TY
open PySem L2 PyProof.Rows TX
section
variable {X : Cx} {CX : CXT} {k : Nat} {f C : Addr} {fd : FuncData} {ps : List Str} {sp : Sp} {E : L2.St → XK} {x : Str} {p pos : Pos} {e : Expr} {es : List Expr} {t : TA}
theorem run_makeS {pins : List (Addr × Obj)} {σ : L2.St} {H : Hp} {s : Shared} {Q : VK} {us : List Value} {vs : List V} (M : Mk X.K C f) (F : FnOk X.prog X.w X.K X.mg X.base CX k f fd ps sp) (hr : Room (k + 1) X.A) (hb : Binds X.K fd ps [])
    (hx : PassesAt CX X σ (E σ)) (I : Inv X pins σ H s) (r : Vals vs us)
    (h : ∀ x dx, H x = none → H dx = none → dx ≠ x → sp (.ref x :: vs) (upd (upd H dx (.own x)) x (.ins C dx [])) (fun v H2 => v = .non ∧ Q (.ref x) H2) (E σ)) :
    wpAny (model X.prog X.w) X.A (call (.ref C) us) (EP X pins σ Q) X.xe s := by
  have hq := h (s.heap.objs.size + 1) s.heap.objs.size (I.hok.fresh (Nat.le_succ _)) (I.hok.fresh (Nat.le_refl _)) (Nat.ne_of_lt (Nat.lt_succ_self _))
  have I2 := Inv.made (C := C) I
  have r2 : Vals (V.ref (s.heap.objs.size + 1) :: vs) (Value.ref (s.heap.objs.size + 1) :: us) := .cons rfl r
  have hl : (Value.ref (s.heap.objs.size + 1) :: us).length = ps.length := by
    have e := r2.length
    rw [F.len _ _ _ _ hq] at e
    exact e.symm
  have b := hb _ (Value.ref (s.heap.objs.size + 1) :: us) I2.kIn (by rw [List.append_nil]; exact hl)
  rw [List.append_nil] at b
  refine wpAny_call (make_map (f := f) I.kIn M.makes M.init (beq_iff_eq.mp M.fn) (codeAny_mono (F.run _ X.stack _ _ ⟨Value.ref (s.heap.objs.size + 1) :: us, []⟩ (Value.ref (s.heap.objs.size + 1) :: us) _ _ (E σ) (hr.make C us [])
    (I2.env0.make C us []) b r2 hq) fun r s' hq' => ?_))
  cases r with
  | error e => exact hx pins _ _ e s' I2 hq'
  | ok fl =>
    cases fl with
    | ret u =>
      obtain ⟨v, H', I3, rv, ev, q3⟩ := I2.after hq'
      subst ev
      exact ⟨rv, ⟨V.ref (s.heap.objs.size + 1), H', I3, rfl, q3⟩⟩
    | next => exact False.elim hq'
    | brk => exact False.elim hq'
    | cont => exact False.elim hq'
/-- C(..), whose __init__ may raise -/
def tMakeS (C : Addr) (sp : Sp) (E : L2.St → XK) (t : TA) : TE := fun σ H Q => t σ H fun vs H1 => ∀ x dx, H1 x = none → H1 dx = none → dx ≠ x →
  sp (.ref x :: vs) (upd (upd H1 dx (.own x)) x (.ins C dx [])) (fun v H2 => v = .non ∧ Q (.ref x) H2) (E σ)
theorem pe_makeS (M : Mk X.K C f) (F : FnOk X.prog X.w X.K X.mg X.base CX k f fd ps sp) (hr : Room (k + 1) X.A) (hg : Gl X x) (hm : X.mg x = some (.ref C)) (hb : Binds X.K fd ps []) (hx : ∀ σ, PassesAt CX X σ (E σ))
    (ha : PA X (e :: es) t) (hdb : (x == ("__debug__" : Str)) = false := by decide) (he : starEach (e :: es) X.env = (false, eval e X.env) :: starEach es X.env := by rfl) (hpl : (backTo pos (starEach es X.env)).any (·.1) = false := by rfl) :
    PE X (.Call (.Name x p) (e :: es) [] pos) (tMakeS C sp E t) := by
  refine ⟨fun pins s σ H Q I h => ?_⟩
  refine wpAny_Call_Name_kw (ld_glob I hg hm ?_ hdb)
  refine PySem.W.callWith_K (h₀ := X.base) I.ok.mod.kin M.kp (thn (ha.run pos pins s σ H _ I h) fun us s1 ⟨vs, H1, I1, r, q⟩ => ⟨I1.kIn, ?_⟩) he hpl
  exact run_makeS M F hr hb (hx σ) I1 r q
/-- isinstance of the error that the suite holds, which has a dict -/
def rIsXd (K : PySem.W.Frag) (a : Addr) (cls : Value) (d : Option Addr) : List V → Hp → VK → Prop := fun xs H Q => ∃ (D : Addr) (c : V) (b : Bool), cls = .ref D ∧ ExcC K D ∧ (∃ (dd : Addr) (fs : List (Str × V)), d = some dd ∧ H dd = some (.xd fs)) ∧ xs = [.ref a, c] ∧
  ((∃ cv, ClsV c cv ∧ PySem.W.kitOne K (.ref D) cv = some b) ∨ (∃ tp cs us, c = .ref tp ∧ H tp = some (.tup cs) ∧ Paired ClsV cs us ∧ PySem.W.kitAny K (.ref D) us = some b)) ∧ Q (.bl b) H
theorem call_isXd {a : Addr} {oe : Obj} {cls : Value} {d : Option Addr} {pn : List (Addr × Obj)} (hz : Zc cls d oe) (hf : ∃ vs, oe.data = .fields vs) : CallR (X.suite a ((a, oe) :: pn)) (.builtin "isinstance") (rIsXd X.K a cls d) := by
  intro pins s σ H xs us Q I r h
  obtain ⟨D, c, b, rfl, C, ⟨dd, fs, rfl, hdd⟩, rfl, hc, q⟩ := h
  obtain ⟨u1, u2, rfl, r1, r2⟩ := vals2 r
  cases r1
  obtain ⟨hget, _⟩ := I.pin (a, oe) (List.mem_append.mpr (.inl List.mem_cons_self))
  obtain ⟨vs, hv⟩ := hf
  have hx : ObjOk X.prog X.w H s.heap dd (.xd fs) := I.hok dd _ hdd
  obtain ⟨mA, hns, hr⟩ := hx
  obtain ⟨od, ho, hl⟩ := lookIn_ns hns
  have J : PySem.W.InstAt s.heap a oe D (some od) := ⟨hget, hz.1, by unfold PySem.W.notCls; rw [hv] <;> rfl, by rw [hz.2]; exact ho⟩
  have hcl : (PySem.W.clsIn X.K D).isSome = true := by
    obtain ⟨cd, hc', _⟩ := PySem.W.any_some C.hd
    rw [hc']
    rfl
  have Z := PySem.W.kitx_exc (x := a) (ox := oe) (od := some od) hcl C.hg C.hk C.hs C.ha C.hn C.ht C.hm
  rcases hc with ⟨cv, hcv, e⟩ | ⟨tp, cs, ws, rfl, hT, k, e⟩
  · have e2 := hcv.eq r2
    subst e2
    exact PySem.W.kia_one Z I.kIn J e (fun z => nomatch z) fun tk => ⟨.bl b, H, I.kept (t' := tk) fun _ _ z => z, rfl, q⟩
  · cases (show u2 = Value.ref tp from r2)
    obtain ⟨_, its, rv, o, h1, h2, n, h3⟩ := (show ObjOk X.prog X.w H s.heap tp (.tup cs) from I.hok tp _ hT)
    have e3 := ClsV.all k rv
    subst e3
    obtain ⟨oc, od', dt, sl⟩ := o
    simp only at h2 h3
    subst h2 h3
    exact PySem.W.kia_tup Z I.kIn J h1 e (fun z => nomatch z) fun tk => ⟨.bl b, H, I.kept (t' := tk) fun _ _ z => z, rfl, q⟩
/-- two lists of the same items: != is False -/
def itemV : V → Bool
  | .non => true
  | .bl _ => true
  | .int _ => true
  | .str _ => true
  | .ref _ => true
  | _ => false
theorem eqAt_item {A : Around} {s : Shared} {x : V} {u v : Value} (rx : RelV x u) (ry : RelV x v) (h : itemV x = true) : SeqAt.EqAt A s u v true := by
  cases x with
  | ref a =>
    cases (show u = Value.ref a from rx)
    cases (show v = Value.ref a from ry)
    intro prog w E Q hq
    unfold eqBool
    refine wpAny_holding ?_
    refine wpAny_ite_split (fun _ => ?_) (fun hab => absurd (by simp) hab)
    wp_walk
    exact hq
  | non => exact (eqAt_V rx ry rfl rfl : _)
  | bl b => have q := eqAt_V (A := A) (s := s) rx ry rfl rfl; rw [show eqV (.bl b) (.bl b) = true by simp [eqV]] at q; exact q
  | int i => have q := eqAt_V (A := A) (s := s) rx ry rfl rfl; rw [show eqV (.int i) (.int i) = true by simp [eqV]] at q; exact q
  | str z => have q := eqAt_V (A := A) (s := s) rx ry rfl rfl; rw [show eqV (.str z) (.str z) = true by simp [eqV]] at q; exact q
  | _ => cases h
def rNeSame (K : PySem.W.Frag) : R2 := fun x y H Q => ∃ a b xs, x = .ref a ∧ y = .ref b ∧ SqL K H a xs ∧ SqL K H b xs ∧ xs.all itemV = true ∧ Q (.bl false) H
theorem op_neSame (hu : X.A.units < cLine) : OpR X (compareOp .NotEq) (rNeSame X.K) := by
  intro pins s σ H x y v u Q I rx ry h
  obtain ⟨a, b, xs, rfl, rfl, ha, hb, hi, q⟩ := h
  cases rx
  cases ry
  obtain ⟨its, r, hl, _⟩ := I.list ha
  obtain ⟨its2, r2, hl2, _⟩ := I.list hb
  have hsz : its.toArray.size = its2.toArray.size := by rw [List.size_toArray, List.size_toArray, ← r.length, ← r2.length]
  have he : ∀ j (h1 : j < its.toArray.size) (h2 : j < its2.toArray.size), SeqAt.EqAt X.A.in1 s its.toArray[j] its2.toArray[j] ((fun _ => true) j) := by
    intro j h1 h2
    have k1 : j < xs.length := by rw [r.length]; simpa using h1
    obtain ⟨u1, e1, r1⟩ := r.get (List.getElem?_eq_getElem k1)
    obtain ⟨u2, e2, r3⟩ := r2.get (List.getElem?_eq_getElem k1)
    have g1 : its.toArray[j] = u1 := by
      have h1' : j < its.length := by simpa using h1
      rw [List.getElem?_eq_getElem h1'] at e1
      simpa using Option.some.inj e1
    have g2 : its2.toArray[j] = u2 := by
      have h2' : j < its2.length := by simpa using h2
      rw [List.getElem?_eq_getElem h2'] at e2
      simpa using Option.some.inj e2
    rw [g1, g2]
    exact eqAt_item r1 r3 (List.all_eq_true.mp hi _ (List.getElem_mem k1))
  have z := SeqAt.RcNeAt.lists hl.isList hl2.isList hsz hu he
  have e : (List.range its.toArray.size).all (fun _ => true) = true := by simp
  rw [e] at z
  exact z X.prog X.w X.xe _ ⟨.bl false, H, I, rfl, q⟩
/-- a list == [] -/
def rEqNil (K : PySem.W.Frag) : R2 := fun x y H Q => ∃ a b xs, x = .ref a ∧ y = .ref b ∧ SqL K H a xs ∧ SqL K H b [] ∧ Q (.bl xs.isEmpty) H
theorem op_eqNil (hu : X.A.units < cLine) : OpR X (compareOp .Eq) (rEqNil X.K) := by
  intro pins s σ H x y v u Q I rx ry h
  obtain ⟨a, b, xs, rfl, rfl, ha, hb, q⟩ := h
  cases rx
  cases ry
  obtain ⟨its, r, hl, _⟩ := I.list ha
  obtain ⟨its2, r2, hl2, _⟩ := I.list hb
  have h2 : its2 = [] := by
    cases r2
    rfl
  subst h2
  cases xs with
  | nil =>
    cases r
    have z := SeqAt.RcAt.lists (e := fun _ => true) hl.isList hl2.isList rfl hu (fun j h1 h2 => absurd h1 (by simp))
    exact z X.prog X.w X.xe _ ⟨.bl true, H, I, rfl, q⟩
  | cons z zs =>
    have hsz : (its.toArray.size != ([] : List Value).toArray.size) = true := by
      have : its.length = (z :: zs).length := r.length.symm
      simp [this]
    have z := SeqAt.RcAt.lists_lengths hl.isList hl2.isList hsz hu
    exact z X.prog X.w X.xe _ ⟨.bl false, H, I, rfl, q⟩
/-- one sign of a text -/
theorem found_sign (x : Str) (c : Nat) : (!(Builtin.Str.occurrences x ⟨#[c]⟩ 0 x.length 1).isEmpty) = decide (c ∈ x.cps.toList) := StrLaws.found_one x c
end
end TY

namespace T10
open PySem L2
def top (i : Nat) : Stmt := PySem.Challenge.pw_foldbough_k10_trees_made.main.body.getD i (.Pass ⟨0, 0, 0, 0⟩)
abbrev s_is_name : Stmt := top 7
abbrev s_is_name_in : Stmt := top 8
abbrev s_tinit : Stmt := inClass (top 10) 0
abbrev s_tcolumns : Stmt := inClass (top 10) 1
abbrev s_tpairs : Stmt := inClass (top 10) 2
abbrev s_tover : Stmt := inClass (top 10) 3
abbrev s_tabove : Stmt := inClass (top 10) 4
abbrev s_tbeneath : Stmt := inClass (top 10) 5
abbrev s_tchildren : Stmt := inClass (top 10) 6
abbrev s_tisabove : Stmt := inClass (top 10) 7
abbrev s_tcheck : Stmt := inClass (top 10) 8
abbrev s_tlen : Stmt := inClass (top 10) 9
abbrev s_teq : Stmt := inClass (top 10) 10
abbrev s_tstr : Stmt := inClass (top 10) 11
abbrev s_told : Stmt := top 11
abbrev s_is_pair : Stmt := top 12
abbrev s_in_order : Stmt := top 13
abbrev s_written : Stmt := top 14
abbrev s_well : Stmt := top 16
abbrev s_draw : Stmt := top 17
abbrev s_names : Stmt := top 18
abbrev s_pairs : Stmt := top 19
abbrev s_order : Stmt := top 20
abbrev s_above : Stmt := top 21
abbrev s_text : Stmt := top 22
abbrev s_by_floors : Stmt := top 23
abbrev s_tells : Stmt := top 24
abbrev s_right : Stmt := top 25
abbrev s_law : Stmt := top 26
end T10

set_option maxHeartbeats 1000000
local macro_rules | `(tactic| walk_at "z") => `(tactic| ((try dsimp only); first | assumption | omega | decide | (simp only [List.length_cons, List.length_nil]; first | decide | omega)))
namespace T10
open PySem L2 PyProof.Rows TX
section
variable {P : Program} {w : World} {K : PySem.W.Frag} {mg : Str → Option Value} {base : Heap}
theorem sc_well : FnScope ["_law_cell", "_law_k"] ["_law_cell", "_law_k"] (defScope s_well) := ⟨rfl, rfl, rfl, by decide +kernel, rfl, by decide +kernel, by decide +kernel⟩
def sp_well : Sp := fun vs H Q _ => ∃ (cell k : Int), vs = [.int cell, .int k] ∧ 0 ≤ k ∧ k ≤ 1000 ∧ ∀ H' p, Same H H' → H p = none → WellAt 100000 H' p → Q (.ref p) H'
theorem ok_well {f : Addr} {fd : FuncData} (F : Fn K mg "_law_well" s_well ["_law_cell", "_law_k"] f fd) (B : Bn mg) : FnOk P w K mg base CX0 1 f fd ["_law_cell", "_law_k"] sp_well := by
  refine F.F.ok sc_well (fun vs H Q E h => ?_) (fun cdv A outer s H vs Q E hr h => ?_)
  · obtain ⟨cell, k, rfl, _⟩ := h
    rfl
  · obtain ⟨cell, k, rfl, h0, h1, q⟩ := h
    refine ⟨_, pss_one (ps_ret (pe_lst (pa_cons (pe_op op_mul (pv 0) (pe_callTy call_int1 (by rfl) B.int boot_int (pa_cons (pe_cmpR op_ge (pv 0) (pe_op op_pow pe_int pe_int) (nomark _)) pa_nil)))
      (pa_cons (pe_op op_mod (pe_op op_add (pe_op op_mod (pv 0) pe_int) (pe_op op_mul pe_int (pv 1))) pe_int) (pa_cons pe_int pa_nil))))), ?_⟩
    refine ⟨_, rfl, _, rfl, _, _, rfl, rfl, ⟨by decide, by decide, by decide⟩, _, _, rfl, rfl, .inr ⟨_, rfl, _, _, rfl, rfl, .inr (by split <;> decide), ?_⟩⟩
    refine ⟨_, rfl, _, _, rfl, rfl, by walk_at "z", _, rfl, _, _, rfl, rfl, .inl (by decide), _, _, rfl, rfl, _, _, rfl, rfl, by walk_at "z", by walk_at "z", fun p hp => ?_⟩
    refine q _ p (Same.new hp) hp ⟨_, _, _, upd_same, ?_, ?_, by decide, by decide⟩
    · exact Int.emod_nonneg _ (by decide)
    · have := Int.emod_lt_of_pos (cell % 2147483647 + 104729 * k) (show (0 : Int) < 2147483647 by decide)
      omega
theorem sc_draw : FnScope ["_law_well_here", "_law_top", "_law_found", "_law_prime", "_law_twist"] ["_law_well_here", "_law_top"] (defScope s_draw) := ⟨rfl, rfl, rfl, by decide +kernel, rfl, by decide +kernel, by decide +kernel⟩
/-- a draw: one below top; the well may be drawn from once less -/
def sp_draw : Sp := fun vs H Q _ => ∃ (W : Addr) (t n : Nat), vs = [.ref W, .int t] ∧ 0 < t ∧ t < 1073741824 ∧ WellAt (n + 1) H W ∧ ∀ (H' : Hp) (r : Nat), r < t → Sm W H H' → WellAt n H' W → Q (.int r) H'
theorem ok_draw {f : Addr} {fd : FuncData} (F : Fn K mg "_law_draw" s_draw ["_law_well_here", "_law_top"] f fd) : FnOk P w K mg base CX0 1 f fd ["_law_well_here", "_law_top"] sp_draw := by
  refine F.F.ok sc_draw (fun vs H Q E h => ?_) (fun cdv A outer s H vs Q E hr h => ?_)
  · obtain ⟨W, t, n, rfl, _⟩ := h
    rfl
  · obtain ⟨W, t, n, rfl, h0, h1, ⟨a, b, c, hW, b0, b1, c0, c1⟩, q⟩ := h
    have hu := hu_of hr
    have t0 : (0 : Int) < (t : Int) := by omega
    have aI0 : ∀ x y z : V, atI [x, y, z] (0 : Int) = some x := fun _ _ _ => rfl
    have aI1 : ∀ x y z : V, atI [x, y, z] (1 : Int) = some y := fun _ _ _ => rfl
    have aI2 : ∀ x y z : V, atI [x, y, z] (2 : Int) = some z := fun _ _ _ => rfl
    refine ⟨_, pss_cons (ps_if (pt_cmpR op_gt (pe_ix ix_list (pv 0) pe_int (fun _ _ => rfl)) pe_int (nomark _))
        (pss_cons (ps_set (i := 2) sc_draw.nd rfl (Or.inl rfl) (pe_op op_mod (pe_ix ix_list (pv 0) pe_int (fun _ _ => rfl)) (pv 1)))
        (pss_cons (ps_asg (pe_op op_fdiv (pe_ix ix_list (pv 0) pe_int (fun _ _ => rfl)) (pv 1)) (pg_sub (pv 0) pe_int set_list))
        (pss_one (ps_ret (pv 2))))) pss_nil)
      (pss_cons (ps_asg (pe_op op_add (pe_ix ix_list (pv 0) pe_int (fun _ _ => rfl)) pe_int) (pg_sub (pv 0) pe_int set_list))
      (pss_cons (ps_set (i := 3) sc_draw.nd rfl (Or.inl rfl) (pe_ix ix_list (pe_lst (pa_cons pe_int (pa_cons pe_int (pa_cons pe_int (pa_cons pe_int (pa_cons pe_int pa_nil))))))
          (pe_op op_mod (pe_ix ix_list (pv 0) pe_int (fun _ _ => rfl)) pe_int) (fun _ _ => rfl)))
      (pss_cons (ps_set (i := 4) sc_draw.nd rfl (Or.inl rfl) (pe_op op_mod (pe_op op_pow (pe_op op_add (pe_op op_add (pe_ix ix_list (pv 0) pe_int (fun _ _ => rfl)) (pe_op op_mul pe_int (pe_ix ix_list (pv 0) pe_int (fun _ _ => rfl)))) pe_int) pe_int) (pv 3)))
      (pss_cons (ps_set (i := 4) sc_draw.nd rfl (Or.inl rfl) (pe_op op_mod (pe_op op_mul (pe_op op_add (pv 4) (pe_ix ix_list (pv 0) pe_int (fun _ _ => rfl))) (pe_op op_add (pe_op op_fdiv (pv 4) pe_int) pe_int)) (pv 3)))
      (pss_one (ps_ret (pe_op op_mod (pe_op op_fdiv (pv 4) pe_int) (pv 1)))))))), ?_⟩
    refine ⟨_, rfl, W, _, _, _, rfl, rfl, .of hW, aI0 _ _ _, _, _, rfl, rfl, _, rfl, ite2 (fun ha => ?_) (fun ha => ?_)⟩
    · refine ⟨_, rfl, W, _, _, _, rfl, rfl, .of hW, aI0 _ _ _, _, rfl, _, _, rfl, rfl, by walk_at "z", ?_⟩
      refine ⟨_, rfl, W, _, _, _, rfl, rfl, .of hW, aI0 _ _ _, _, rfl, _, _, rfl, rfl, by constructor <;> omega, ?_⟩
      refine ⟨_, rfl, W, _, _, 0, rfl, rfl, hW, rfl, _, rfl, ?_⟩
      have hm := Int.emod_nonneg a (show (t : Int) ≠ 0 by omega)
      have hl := Int.emod_lt_of_pos a t0
      have e : a % (t : Int) = ((a % (t : Int)).toNat : Int) := by omega
      show Q (.int (a % (t : Int))) _
      rw [e]
      exact q _ _ (by omega) (Sm.put .rfl') ⟨_, _, _, upd_same, b0, b1, c0, by omega⟩
    · refine ⟨_, rfl, W, _, _, _, rfl, rfl, .of hW, aI2 _ _ _, _, _, rfl, rfl, ?_⟩
      refine ⟨_, rfl, W, _, _, 2, rfl, rfl, hW, rfl, ?_⟩
      refine ⟨by decide, fun p np => ?_⟩
      have nW : W ≠ p := ne_of_none upd_same np
      have hW1 : ∀ o, upd (upd H W (.lst [.int a, .int b, .int (c + 1)])) p o W = some (.lst [.int a, .int b, .int (c + 1)]) := fun o => by rw [upd_ne nW, upd_same]
      refine ⟨_, rfl, W, _, _, _, rfl, rfl, .of (hW1 _), aI2 _ _ _, _, _, rfl, rfl, by walk_at "z", ?_⟩
      obtain ⟨pr, hpr, p0, p1⟩ : ∃ pr : Int, atI [V.int 2147483629, V.int 2147483587, V.int 2147483579, V.int 2147483563, V.int 2147483549] ((c + 1) % 5) = some (V.int pr) ∧ 1 ≤ pr ∧ pr < 2147483648 := by
        have h5 := Int.emod_nonneg (c + 1) (show (5 : Int) ≠ 0 by decide)
        have h6 := Int.emod_lt_of_pos (c + 1) (show (0 : Int) < 5 by decide)
        have : (c + 1) % 5 = 0 ∨ (c + 1) % 5 = 1 ∨ (c + 1) % 5 = 2 ∨ (c + 1) % 5 = 3 ∨ (c + 1) % 5 = 4 := by omega
        rcases this with e | e | e | e | e <;> rw [e]
        · exact ⟨2147483629, rfl, by decide, by decide⟩
        · exact ⟨2147483587, rfl, by decide, by decide⟩
        · exact ⟨2147483579, rfl, by decide, by decide⟩
        · exact ⟨2147483563, rfl, by decide, by decide⟩
        · exact ⟨2147483549, rfl, by decide, by decide⟩
      refine ⟨p, _, _, _, rfl, rfl, .of upd_same, hpr, ?_⟩
      refine ⟨_, rfl, W, _, _, _, rfl, rfl, .of (hW1 _), aI1 _ _ _, _, rfl, W, _, _, _, rfl, rfl, .of (hW1 _), aI2 _ _ _, _, _, rfl, rfl, .inl (by decide), ?_⟩
      refine ⟨_, _, rfl, rfl, _, _, rfl, rfl, _, _, rfl, rfl, ⟨by decide, by decide, by omega⟩, _, rfl, _, _, rfl, rfl, by walk_at "z", ?_⟩
      -- the twist, below the prime
      dsimp only
      generalize hx : (b + 6701 * (c + 1) + 3) ^ Int.toNat 5 % pr = x
      have x0 : 0 ≤ x := by rw [← hx]; exact Int.emod_nonneg _ (by omega)
      have x1 : x < pr := by rw [← hx]; exact Int.emod_lt_of_pos _ (by omega)
      refine ⟨_, rfl, _, rfl, W, _, _, _, rfl, rfl, .of (hW1 _), aI2 _ _ _, _, _, rfl, rfl, _, rfl, _, _, rfl, rfl, ⟨by decide, by decide⟩, _, _, rfl, rfl, _, _, rfl, rfl, .inr ?_, _, rfl, _, _, rfl, rfl, by walk_at "z", ?_⟩
      · have := Int.ediv_le_self 1013 x0
        have := Int.ediv_nonneg x0 (show (0 : Int) ≤ 1013 by decide)
        try dsimp only
        omega
      dsimp only
      generalize hy : (x + (c + 1)) * (x / 1013 + 40693) % pr = y
      have y0 : 0 ≤ y := by rw [← hy]; exact Int.emod_nonneg _ (by omega)
      refine ⟨_, rfl, _, _, rfl, rfl, ⟨by decide, by decide⟩, _, rfl, _, _, rfl, rfl, by walk_at "z", ?_⟩
      have hm := Int.emod_nonneg (y / 11) (show (t : Int) ≠ 0 by omega)
      have hl := Int.emod_lt_of_pos (y / 11) t0
      have e : y / 11 % (t : Int) = ((y / 11 % (t : Int)).toNat : Int) := by omega
      show Q (.int (y / 11 % (t : Int))) _
      rw [e]
      refine q _ _ (by omega) (Sm.new (Sm.put .rfl') np) ⟨_, _, _, hW1 _, b0, b1, by omega, by omega⟩
end
end T10

set_option maxHeartbeats 1000000
local macro_rules | `(tactic| walk_at "z") => `(tactic| ((try dsimp only); first | assumption | omega | decide | (simp only [List.length_cons, List.length_nil]; first | decide | omega)))
namespace T10
open PySem L2 PyProof.Rows TX
section
variable {P : Program} {w : World} {K : PySem.W.Frag} {mg : Str → Option Value} {base : Heap}
abbrev N_names : List Str := ["_law_well_here", "_law_count", "_law_letters", "_law_begin", "_law_apart", "_law_base", "_law_spot", "_law_more", "_law_found", "_law_k", "_law_letter"]
theorem sc_names : FnScope N_names ["_law_well_here", "_law_count"] (defScope s_names) := ⟨rfl, rfl, rfl, by decide +kernel, rfl, by decide +kernel, by decide +kernel⟩
/-- names: as many unlike names as are asked for, up to 26 -/
def sp_names : Sp := fun vs H Q _ => ∃ (W : Addr) (t n : Nat), vs = [.ref W, .int t] ∧ t ≤ 26 ∧ WellAt (n + 11) H W ∧
  ∀ (H' : Hp) (p : Addr) (ns : List Str), Sm W H H' → WellAt n H' W → H p = none → p ≠ W → H' p = some (.lst (ns.map V.str)) → ns.length = t → ns.Nodup → (∀ s ∈ ns, TM.NameOk s) → Q (.ref p) H'
theorem ok_names {f fD : Addr} {fd fdD : FuncData} (F : Fn K mg "_law_names" s_names ["_law_well_here", "_law_count"] f fd) (B : Bn mg) (D : Fn K mg "_law_draw" s_draw ["_law_well_here", "_law_top"] fD fdD) :
    FnOk P w K mg base CX0 2 f fd ["_law_well_here", "_law_count"] sp_names := by
  have GD : FnOk P w K mg base CX0 1 fD fdD ["_law_well_here", "_law_top"] sp_draw := ok_draw D
  refine F.F.ok sc_names (fun vs H Q E h => ?_) (fun cdv A outer s H vs Q E hr h => ?_)
  · obtain ⟨W, t, n, rfl, _⟩ := h
    rfl
  · obtain ⟨W, t, n, rfl, h0, hW, q⟩ := h
    have hu := hu_of hr
    refine ⟨_, pss_cons (ps_set (i := 2) sc_names.nd rfl (Or.inr rfl) pe_str)
      (pss_cons (ps_set (i := 3) sc_names.nd rfl (Or.inl rfl) (pe_call GD hr rfl D.g D.F.kp D.b .nil pass0 (pa_cons (pv 0) (pa_cons pe_int pa_nil))))
      (pss_cons (ps_set (i := 4) sc_names.nd rfl (Or.inl rfl) (pe_ix ix_list (pe_lst (pa_cons pe_int (pa_cons pe_int (pa_cons pe_int (pa_cons pe_int (pa_cons pe_int (pa_cons pe_int (pa_cons pe_int (pa_cons pe_int pa_nil)))))))))
          (pe_call GD hr rfl D.g D.F.kp D.b .nil pass0 (pa_cons (pv 0) (pa_cons pe_int pa_nil))) (fun _ _ => rfl)))
      (pss_cons (ps_set (i := 5) sc_names.nd rfl (Or.inl rfl) (pe_join pe_str (pe_lc (own := [("_law_k", 9)]) (g := gName 9) (tt := tYes) rfl sc_names.nd (pi_range1 rfl B.range (pa_cons pe_int pa_nil)) (blkOk_by (N := N_names) (sc := defScope s_names) (by decide +kernel))
          (fun _ _ _ _ _ => pg_name (i := 9) sc_names.nd rfl (Or.inl rfl)) (fun _ _ _ _ _ => pts_nil)
          (fun _ _ _ _ _ => pe_ix ix_str (pv 2) (pe_call GD hr rfl D.g D.F.kp D.b .nil pass0 (pa_cons (pv 0) (pa_cons pe_int pa_nil))) (fun _ _ => rfl)))))
      (pss_cons (ps_set (i := 6) sc_names.nd rfl (Or.inl rfl) (pe_call GD hr rfl D.g D.F.kp D.b .nil pass0 (pa_cons (pv 0) (pa_cons pe_int pa_nil))))
      (pss_cons (ps_set (i := 7) sc_names.nd rfl (Or.inl rfl) (pe_call GD hr rfl D.g D.F.kp D.b .nil pass0 (pa_cons (pv 0) (pa_cons (pe_op op_sub pe_int (pv 6)) pa_nil))))
      (pss_cons (ps_set (i := 8) sc_names.nd rfl (Or.inl rfl) (pe_lst pa_nil))
      (pss_cons (ps_for PassesOwn.never rfl (pi_range1 rfl B.range (pa_cons (pv 1) pa_nil)) (pg_name (i := 9) sc_names.nd rfl (Or.inl rfl))
        (pss_cons (ps_set (i := 10) sc_names.nd rfl (Or.inl rfl) (pe_ix ix_str (pv 2) (pe_op op_mod (pe_op op_add (pv 3) (pe_op op_mul (pv 4) (pv 9))) pe_int) (fun _ _ => rfl)))
        (pss_one (ps_expr (pe_bm PySem.F.plainAttrs_list PySem.F.slot_list_append PySem.F.type_list_append mt_append (pv 8)
          (pa_cons (pe_op op_add_str (pe_op op_add_str (pe_slice sl_str (pv 5) po_none (po_some (pv 6))) (pv 10)) (pe_slice sl_str (pv 5) (po_some (pv 6)) (po_some (pe_op op_add (pv 6) (pv 7))))) pa_nil))))))
      (pss_one (ps_ret (pv 8)))))))))), ?_⟩
    refine ⟨_, rfl, W, 26, n + 10, rfl, by decide, by decide, hW, fun H1 bg hbg s1 w1 => ?_⟩
    -- apart
    refine ⟨by decide, fun p1 n1 => ?_⟩
    have w1' : WellAt (n + 10) (upd H1 p1 (.lst [.int 1, .int 3, .int 5, .int 7, .int 9, .int 11, .int 15, .int 17])) W := w1.new n1
    have pW1 : p1 ≠ W := (w1.ne n1).symm
    refine ⟨_, rfl, W, 8, n + 9, rfl, by decide, by decide, w1', fun H2 j hj s2 w2 => ?_⟩
    have e2 : H2 p1 = some (.lst [.int 1, .int 3, .int 5, .int 7, .int 9, .int 11, .int 15, .int 17]) := s2 _ _ pW1 upd_same
    obtain ⟨ap, hap, hap2⟩ : ∃ ap : Nat, ap ∈ [1, 3, 5, 7, 9, 11, 15, 17] ∧ atI [V.int 1, .int 3, .int 5, .int 7, .int 9, .int 11, .int 15, .int 17] (j : Int) = some (V.int (ap : Int)) := by
      have : j = 0 ∨ j = 1 ∨ j = 2 ∨ j = 3 ∨ j = 4 ∨ j = 5 ∨ j = 6 ∨ j = 7 := by omega
      rcases this with e | e | e | e | e | e | e | e <;> subst e
      · exact ⟨1, by decide, rfl⟩
      · exact ⟨3, by decide, rfl⟩
      · exact ⟨5, by decide, rfl⟩
      · exact ⟨7, by decide, rfl⟩
      · exact ⟨9, by decide, rfl⟩
      · exact ⟨11, by decide, rfl⟩
      · exact ⟨15, by decide, rfl⟩
      · exact ⟨17, by decide, rfl⟩
    refine ⟨p1, _, _, _, rfl, rfl, .of e2, hap2, ?_⟩
    have sm2 : Sm W H H2 := (s1.new n1).trans s2
    -- base
    refine ⟨⟨_, rfl⟩, 7, rfl, by decide, by decide, fun L nL => ?_⟩
    refine lc_it (walk_range (lo := 0) (n := (7 : Int).toNat)) (fun i H' => ∃ cs : List Nat, H' L = some (.lst (cs.map fun c => V.str (S [c]))) ∧ cs.length = i ∧ (∀ c ∈ cs, 97 ≤ c ∧ c ≤ 122) ∧ Sm W H2 H' ∧ WellAt (n + 2 + (7 - i)) H' W)
      ⟨[], upd_same, rfl, by simp, Sm.new .rfl' nL, w2.new nL⟩ (fun _ _ _ _ => trivial) ?_ ?_
    · rintro i x H3 H3' hi ⟨cs, eL, hcs, hc, s3, w3⟩ ⟨rfl, rfl⟩
      have hi7 : i < 7 := hi
      refine ⟨rfl, ?_⟩
      refine ⟨_, rfl, _, rfl, W, 26, n + 2 + (7 - (i + 1)), rfl, by decide, by decide, w3.mono (by omega), fun H4 c hc4 s4 w4 => ?_⟩
      have LW : L ≠ W := (w2.ne nL).symm
      refine ⟨_, _, _, rfl, rfl, abc_len, abc_at hc4, _, s4 _ _ LW eL, ?_, cs ++ [97 + c], ?_, ?_, ?_, ?_, ?_⟩
      · rw [List.length_map, hcs]
        exact Nat.lt_trans hi7 (by decide)
      · rw [upd_same, List.map_append]
        rfl
      · rw [List.length_append, hcs]
        rfl
      · intro x hx
        rcases List.mem_append.mp hx with hx | hx
        · exact hc x hx
        · rw [List.mem_singleton.mp hx]
          omega
      · exact (s3.trans s4).mut nL
      · exact w4.upd LW.symm
    · rintro H3 ⟨cs, eL, hcs, hc, s3, w3⟩
      refine ⟨_, L, cs.map (fun c => S [c]), rfl, rfl, .inl (.of (by rw [eL, List.map_map]; rfl)), ?_, ?_⟩
      · have e7 : cs.length = 7 := hcs
        rw [List.length_map, sum_signs, e7, len_empty]
        decide
      rw [join_signs]
      have sm3 : Sm W H H3 := sm2.trans s3
      have hcs7 : cs.length = 7 := hcs
      have w3' : WellAt (n + 2) H3 W := w3.mono (by omega)
      -- spot, more
      refine ⟨_, rfl, W, 8, n + 1, rfl, by decide, by decide, w3', fun H4 sp hsp s4 w4 => ?_⟩
      refine ⟨_, rfl, _, rfl, _, _, rfl, rfl, W, 8 - sp, n, ?_, by omega, by omega, w4, fun H5 mo hmo s5 w5 => ?_⟩
      · show [V.ref W, V.int (8 - (sp : Int))] = [V.ref W, V.int ((8 - sp : Nat) : Int)]
        rw [show ((8 - sp : Nat) : Int) = 8 - (sp : Int) by omega]
      have sm5 : Sm W H H5 := (sm3.trans s4).trans s5
      -- found = []
      refine ⟨by decide, fun p np => ?_⟩
      have npH : H p = none := sm5.free hW np ⟨n, w5⟩
      have pW : p ≠ W := (w5.ne np).symm
      refine ⟨_, rfl, (t : Int), rfl, by omega, by omega, ?_⟩
      rw [show ((t : Int)).toNat = t by omega]
      refine for_range (lo := 0) (n := t) (fun i σ H' => ∃ v1 v2 : Option V, σ = [some (.ref W), some (.int t), some (.str abc), some (.int bg), some (.int ap), some (.str (S cs)), some (.int sp), some (.int mo), some (.ref p), v1, v2] ∧
          H' p = some (.lst (((List.range i).map (nmOf cs sp mo bg ap)).map V.str)) ∧ Sm W H5 H' ∧ WellAt n H' W)
        ⟨none, none, rfl, upd_same, Sm.new .rfl' np, w5.new np⟩ ?_ ?_
      · rintro i σ H6 hi ⟨v1, v2, rfl, e6, s6, w6⟩
        have hm : (bg + ap * i) % 26 < 26 := Nat.mod_lt _ (by decide)
        have ez : ((bg : Int) + (ap : Int) * (0 + (i : Int))) % 26 = (((bg + ap * i) % 26 : Nat) : Int) := by
          rw [Int.zero_add]
          omega
        have hap17 : ap ≤ 17 := by
          simp only [List.mem_cons, List.not_mem_nil, or_false] at hap
          omega
        refine ⟨_, rfl, _, rfl, _, rfl, _, rfl, _, _, rfl, rfl, .inl ⟨by omega, by omega⟩, _, _, rfl, rfl, _, _, rfl, rfl, by walk_at "z", ?_⟩
        refine ⟨_, _, _, rfl, rfl, abc_len, by rw [ez]; exact abc_at hm, ?_⟩
        have hcut1 : (cutS (S cs) none (some (sp : Int))) = S (cs.take sp) := by
          rw [cutS_S, hcs7, HT.sIx_none, HT.sIx_nat, List.drop_zero, Nat.min_eq_left (by omega), Nat.sub_zero]
        have hcut2 : (cutS (S cs) (some (sp : Int)) (some ((sp : Int) + (mo : Int)))) = S ((cs.drop sp).take mo) := by
          rw [show ((sp : Int) + (mo : Int)) = ((sp + mo : Nat) : Int) by omega, cutS_S, hcs7, HT.sIx_nat, HT.sIx_nat, Nat.min_eq_left (by omega), Nat.min_eq_left (by omega), Nat.add_sub_cancel_left]
        have hl7 : (S cs).length ≤ sizeLine := by rw [S_len, hcs7]; decide
        have hL : ∀ m : List Nat, m.length ≤ 100 → m.length ≤ sizeLine := fun m h => Nat.le_trans h (by decide)
        refine ⟨_, rfl, .inl ⟨rfl, _, .inl (.inl e6)⟩, _, rfl, _, rfl, _, rfl, _, rfl, hl7, _, rfl, _, _, rfl, rfl, ?_, _, rfl, _, rfl, _, rfl, _, rfl, _, rfl, _, _, rfl, rfl, _, rfl, _, rfl, hl7, _, _, rfl, rfl, ?_, _, _, _, rfl, rfl, e6, ?_, _, _, rfl, ?_, ?_, ?_⟩
        · rw [hcut1, S_len]
          refine line100 ?_
          have : (cs.take sp).length ≤ 7 := by rw [List.length_take, hcs7]; omega
          show _ + 1 ≤ 1000
          omega
        · rw [hcut1, hcut2, sapp_len, S_len, S_len]
          refine line100 ?_
          have h1 : (cs.take sp).length ≤ 7 := by rw [List.length_take, hcs7]; omega
          have h2 : ((cs.drop sp).take mo).length ≤ 7 := by rw [List.length_take, List.length_drop, hcs7]; omega
          show _ + 1 + _ ≤ 1000
          omega
        · rw [List.length_map, List.length_map, List.length_range]
          exact line100' (by omega)
        · rw [upd_same, hcut1, hcut2, List.range_succ, List.map_append, List.map_append]
          have : S (cs.take sp) ++ (⟨#[97 + (bg + ap * i) % 26]⟩ : Str) ++ S ((cs.drop sp).take mo) = nmOf cs sp mo bg ap i := by
            show S (cs.take sp) ++ S [97 + (bg + ap * i) % 26] ++ S ((cs.drop sp).take mo) = _
            rw [S_app, S_app]
            unfold nmOf
            rw [List.append_assoc]
            rfl
          rw [this]
          rfl
        · exact s6.mut np
        · exact w6.upd pW.symm
      · rintro σ H6 ⟨v1, v2, rfl, e6, s6, w6⟩
        refine ⟨_, rfl, q H6 p ((List.range t).map (nmOf cs sp mo bg ap)) (sm5.trans s6) w6 npH pW e6 (by simp) (nm_nodup hap h0) ?_⟩
        intro s hs
        obtain ⟨k, _, rfl⟩ := List.mem_map.mp hs
        exact nm_ok hcs7 hc (by omega)
end
end T10

set_option maxHeartbeats 1000000
local macro_rules | `(tactic| walk_at "z") => `(tactic| ((try dsimp only); first | assumption | omega | decide | (simp only [List.length_cons, List.length_nil]; first | decide | omega)))
namespace T10
open PySem L2 PyProof.Rows TX
section
variable {P : Program} {w : World} {K : PySem.W.Frag} {mg : Str → Option Value} {base : Heap}
abbrev N_pairs : List Str := ["_law_well_here", "_law_names_here", "_law_found", "_law_k", "_law_name"]
theorem sc_pairs : FnScope N_pairs ["_law_well_here", "_law_names_here"] (defScope s_pairs) := ⟨rfl, rfl, rfl, by decide +kernel, rfl, by decide +kernel, by decide +kernel⟩
def sp_pairs : Sp := fun vs H Q _ => ∃ (W Nn : Addr) (ns : List Str) (n : Nat), vs = [.ref W, .ref Nn] ∧ H Nn = some (.lst (ns.map V.str)) ∧ Nn ≠ W ∧ ns.Nodup ∧ ns.length ≤ 26 ∧ WellAt (n + ns.length) H W ∧
  ∀ (H' : Hp) (p : Addr) (ps : List TM.Pr), Sm W H H' → WellAt n H' W → H p = none → p ≠ W → PairsAt H' p ps → ps.map Prod.fst = ns → TM.Valid [] ps → Q (.ref p) H'
theorem ok_pairs {f fD : Addr} {fd fdD : FuncData} (F : Fn K mg "_law_pairs" s_pairs ["_law_well_here", "_law_names_here"] f fd) (B : Bn mg) (D : Fn K mg "_law_draw" s_draw ["_law_well_here", "_law_top"] fD fdD) :
    FnOk P w K mg base CX0 2 f fd ["_law_well_here", "_law_names_here"] sp_pairs := by
  have GD : FnOk P w K mg base CX0 1 fD fdD ["_law_well_here", "_law_top"] sp_draw := ok_draw D
  refine F.F.ok sc_pairs (fun vs H Q E h => ?_) (fun cdv A outer s H vs Q E hr h => ?_)
  · obtain ⟨W, Nn, ns, n, rfl, _⟩ := h
    rfl
  · obtain ⟨W, Nn, ns, n, rfl, hN, hNW, hnd, hl, hW, q⟩ := h
    have hu := hu_of hr
    refine ⟨_, pss_cons (ps_set (i := 2) sc_pairs.nd rfl (Or.inl rfl) (pe_lst pa_nil))
      (pss_cons (ps_for PassesOwn.never rfl (pi_enum rfl B.enum (pa_cons (pv 1) pa_nil)) (pg_tup rfl (pgs_cons (pg_name (i := 3) sc_pairs.nd rfl (Or.inl rfl)) (pgs_cons (pg_name (i := 4) sc_pairs.nd rfl (Or.inl rfl)) pgs_nil)))
        (pss_one (ps_expr (pe_bm PySem.F.plainAttrs_list PySem.F.slot_list_append PySem.F.type_list_append mt_append (pv 2)
          (pa_cons (pe_tup (pa_cons (pv 4) (pa_cons (pe_ix ix_list (pe_op op_cat (pe_lst (pa_cons pe_non pa_nil)) (pv 1)) (pe_call GD hr rfl D.g D.F.kp D.b .nil pass0 (pa_cons (pv 0) (pa_cons (pe_op op_add (pv 3) pe_int) pa_nil))) (fun _ _ => rfl)) pa_nil))) pa_nil)))))
      (pss_one (ps_ret (pv 2)))), ?_⟩
    refine ⟨by decide, fun p np => ?_⟩
    have pW : p ≠ W := (hW.ne np).symm
    have npN : Nn ≠ p := ne_of_none hN np
    refine ⟨_, rfl, Nn, ns.map V.str, rfl, .of (by rw [upd_ne npN]; exact hN), ?_⟩
    refine for_it (walk_enum (xs := ns.map V.str)) (fun i σ H' => ∃ (ps : List TM.Pr) (as : List Addr) (v1 v2 : Option V), σ = [some (.ref W), some (.ref Nn), some (.ref p), v1, v2] ∧
        H' p = some (.lst (as.map V.ref)) ∧ TupsAt H' as ps ∧ ps.map Prod.fst = ns.take i ∧ TM.Valid [] ps ∧ Sm W H H' ∧ WellAt (n + (ns.length - i)) H' W)
      ⟨[], [], none, none, rfl, upd_same, .nil, rfl, trivial, Sm.new .rfl' np, hW.new np⟩ ?_ ?_ ?_
    · rintro i σ H1 hi ⟨ps, as, v1, v2, rfl, e1, t1, m1, va, s1, w1⟩
      exact .of (s1 _ _ hNW hN)
    · rintro i x σ H1 H1' hi ⟨ps, as, v1, v2, rfl, e1, t1, m1, va, s1, w1⟩ ⟨T, x1, x2, rfl, nT, rfl, hx1, hx2⟩
      rw [List.length_map] at hi
      obtain rfl : V.int (i : Int) = x1 := Option.some.inj hx1
      obtain ⟨nm, hnm, rfl⟩ : ∃ nm, ns[i]? = some nm ∧ x2 = V.str nm := by
        have h2 : (ns.map V.str)[i]? = some x2 := hx2
        rw [List.getElem?_map, List.getElem?_eq_getElem hi] at h2
        exact ⟨ns[i], List.getElem?_eq_getElem hi, (Option.some.inj h2).symm⟩
      have wT := w1.new (o := .tup [.int (i : Int), .str nm]) nT
      have sT : Sm W H (upd H1 T (.tup [.int (i : Int), .str nm])) := s1.new nT
      refine ⟨T, _, rfl, .of upd_same, rfl, ?_⟩
      have eT : ∀ o, (upd H1 T o) p = some (.lst (as.map V.ref)) := fun o => by rw [upd_ne (ne_of_none e1 nT)]; exact e1
      refine ⟨_, _, rfl, _, _, rfl, rfl, ?_⟩
      refine ⟨_, rfl, .inl ⟨rfl, _, .inl (.inl (eT _))⟩, _, rfl, by decide, fun c nc => ?_⟩
      have wc := wT.new (o := .lst [.non]) nc
      have sc := sT.new (o := .lst [.non]) nc
      have ec : upd (upd H1 T (.tup [.int (i : Int), .str nm])) c (.lst [.non]) p = some (.lst (as.map V.ref)) := by rw [upd_ne (ne_of_none (eT _) nc)]; exact eT _
      refine ⟨_, rfl, c, Nn, _, _, rfl, rfl, upd_same, sc _ _ hNW hN, ?_, fun r nr => ?_⟩
      · show 1 + _ ≤ sizeLine
        rw [List.length_map]
        exact line100 (by omega)
      have wr := wc.new (o := .lst ([.non] ++ ns.map V.str)) nr
      have sr := sc.new (o := .lst ([.non] ++ ns.map V.str)) nr
      have rW : r ≠ W := (wc.ne nr).symm
      refine ⟨_, rfl, _, rfl, _, _, rfl, rfl, W, i + 1, n + (ns.length - (i + 1)), rfl, by omega, by omega, wr.mono (by omega), fun H2 k hk s2 w2 => ?_⟩
      have er : H2 r = some (.lst ([.non] ++ ns.map V.str)) := s2 _ _ rW upd_same
      obtain ⟨o, ho, hov⟩ : ∃ o : Option Str, atI ([V.non] ++ ns.map V.str) (k : Int) = some (optV o) ∧ ∀ x, o = some x → x ∈ ns.take i := by
        cases k with
        | zero => exact ⟨none, atI_nat (j := 0) rfl, fun x e => nomatch e⟩
        | succ k =>
          have hk' : k < ns.length := by omega
          refine ⟨some ns[k], atI_nat ?_, fun x e => ?_⟩
          · show (V.non :: ns.map V.str)[k + 1]? = _
            rw [List.getElem?_cons_succ, List.getElem?_map, List.getElem?_eq_getElem hk']
            rfl
          · cases e
            rw [List.mem_take_iff_getElem]
            exact ⟨k, by omega, rfl⟩
      refine ⟨r, _, _, _, rfl, rfl, .of er, ho, two_le, fun y ny => ?_⟩
      have e2 : H2 p = some (.lst (as.map V.ref)) := s2 _ _ pW (by rw [upd_ne (ne_of_none ec nr)]; exact ec)
      have t2 : TupsAt H2 as ps := ((((t1.same (Same.new nT)).same (Same.new nc)).same (Same.new nr)).sm s2 ⟨_, wr⟩)
      have ey : ∀ o, (upd H2 y o) p = some (.lst (as.map V.ref)) := fun o => by rw [upd_ne (ne_of_none e2 ny)]; exact e2
      have hal : as.length = ps.length := t2.len
      have hpl : ps.length = i := by
        have := congrArg List.length m1
        rw [List.length_map, List.length_take] at this
        omega
      refine ⟨p, _, _, rfl, rfl, ey _, ?_, ps ++ [(nm, o)], as ++ [y], _, _, rfl, ?_, ?_, ?_, ?_, ?_, ?_⟩
      · rw [List.length_map]
        exact line100' (by omega)
      · rw [upd_same, List.map_append]
        rfl
      · exact ((t2.same (Same.new ny)).snoc (q := (nm, o)) upd_same).put (ey _)
      · rw [List.map_append, m1, List.take_add_one, hnm]
        rfl
      · refine TM.valid_app va ?_
        rw [List.nil_append, m1]
        refine ⟨fun hc => ?_, hov, trivial⟩
        rw [List.mem_take_iff_getElem] at hc
        obtain ⟨j, hj, ej⟩ := hc
        have e4 : ns[i] = nm := by
          rw [List.getElem?_eq_getElem hi] at hnm
          exact Option.some.inj hnm
        have := (List.getElem_inj hnd (i := j) (j := i)).mp (ej.trans e4.symm)
        omega
      · exact (((sr.trans s2).new ny)).mut np
      · exact (w2.new ny).upd pW.symm
    · rintro σ H1 ⟨ps, as, v1, v2, rfl, e1, t1, m1, va, s1, w1⟩
      rw [List.length_map] at m1 w1
      rw [List.take_length] at m1
      refine ⟨_, rfl, q H1 p ps s1 (w1.mono (by omega)) np pW ⟨as, e1, t1⟩ m1 va⟩
end
end T10

set_option maxHeartbeats 1000000
local macro_rules | `(tactic| walk_at "z") => `(tactic| ((try dsimp only); first | assumption | omega | decide | (simp only [List.length_cons, List.length_nil]; first | decide | omega)))
namespace T10
open PySem L2 PyProof.Rows TX
section
variable {P : Program} {w : World} {K : PySem.W.Frag} {mg : Str → Option Value} {base : Heap}
/-- the constants of the module -/
structure Cn (mg : Str → Option Value) : Prop where
  longest : ∃ t, mg "LONGEST_NAME" = some (.int 8 t)
  most : ∃ t, mg "MOST_COLUMNS" = some (.int 8 t)
theorem sc_is_name : FnScope ["thing", "sign"] ["thing"] (defScope s_is_name) := ⟨rfl, rfl, rfl, by decide +kernel, rfl, by decide +kernel, by decide +kernel⟩
def sp_is_name : Sp := fun vs H Q _ => ∃ (x : Str), vs = [.str x] ∧ TM.NameOk x ∧ ∀ H', Same H H' → Q (.bl true) H'
theorem ok_is_name {f : Addr} {fd : FuncData} (F : Fn K mg "is_name" s_is_name ["thing"] f fd) (B : Bn mg) (C : Cn mg) : FnOk P w K mg base CX0 1 f fd ["thing"] sp_is_name := by
  refine F.F.ok sc_is_name (fun vs H Q E h => ?_) (fun cdv A outer s H vs Q E hr h => ?_)
  · obtain ⟨x, rfl, _⟩ := h
    rfl
  · obtain ⟨x, rfl, ⟨n1, n2, n3⟩, q⟩ := h
    have hu := hu_of hr
    obtain ⟨tl, hlg⟩ := C.longest
    refine ⟨_, pss_cons (ps_if (PW.pt (pw_or (pt_not (pt_val (pe_callB call_isi (by rfl) B.isi boot_isinstance (pa_cons (pv 0) (pa_cons (pe_bltn (v := .ty "str") (by rfl) B.str boot_str rfl) pa_nil)))))
        (pw_or1 (pt_not (pt_chain op_le op_le pe_int (pe_callB call_len_str (by rfl) B.len PySem.boot_len (pa_cons (pv 0) pa_nil)) (pe_glob (v := .int 8) (by rfl) hlg ⟨_, rfl⟩)))))) (pss_one (ps_ret pe_bl)) pss_nil)
      (pss_one (ps_ret (pe_callB (cr_all rfl) (by rfl) B.all boot_all (pa_cons (pe_lc (own := [("sign", 1)]) (g := gName 1) (tt := tYes) rfl sc_is_name.nd (pi_str (pv 0)) (blkOk_by (N := ["thing", "sign"]) (sc := defScope s_is_name) (by decide +kernel))
          (fun _ _ _ _ _ => pg_name (i := 1) sc_is_name.nd rfl (Or.inl rfl)) (fun _ _ _ _ _ => pts_nil)
          (fun _ _ _ _ _ => pe_chain op_le_str op_le_str pe_str (pv 1) pe_str)) pa_nil)))), ?_⟩
    refine ⟨_, rfl, _, _, _, _, true, rfl, .ty _, .base (.str _), kit_ty (by decide +kernel), _, rfl, ?_⟩
    refine ⟨_, rfl, x, rfl, line100 (by omega), _, _, rfl, rfl, true, ?_, _, _, rfl, rfl, true, ?_, ?_⟩
    · exact congrArg V.bl (decide_eq_true (show (1 : Int) ≤ (x.length : Int) by omega))
    · exact congrArg V.bl (decide_eq_true (show (x.length : Int) ≤ 8 by omega))
    refine ⟨_, rfl, x, rfl, fun L nL => ?_⟩
    refine lc_it walk_str (fun i H' => H' L = some (.lst (List.replicate i (V.bl true))) ∧ Same H H') ⟨upd_same, Same.new nL⟩ (fun _ _ _ _ => trivial) ?_ ?_
    · rintro i v H1 H1' hi ⟨e1, s1⟩ ⟨rfl, c, hc, rfl⟩
      have hcm : c ∈ x.cps.toList := by
        rw [Array.mem_toList_iff]
        exact Array.mem_of_getElem? hc
      obtain ⟨c1, c2⟩ := n3 c hcm
      refine ⟨rfl, ?_⟩
      have l1 : ¬ ([c] < (Str.ofString "a").cps.toList) := by
        rw [str_a, S_cps, lt_sign]
        omega
      have l2 : ¬ ((Str.ofString "z").cps.toList < [c]) := by
        rw [str_z, S_cps, lt_sign]
        omega
      refine ⟨_, rfl, _, _, rfl, rfl, true, ?_, _, _, rfl, rfl, ?_⟩
      · show V.bl (!decide ([c] < (Str.ofString "a").cps.toList)) = V.bl true
        rw [decide_eq_false l1]
        rfl
      · refine ⟨_, e1, ?_, ?_, Same.mut s1 nL⟩
        · rw [List.length_replicate]
          have : x.cps.size ≤ 8 := n2
          exact line100' (by omega)
        · rw [upd_same, List.replicate_succ']
          show some (HO.lst (List.replicate i (V.bl true) ++ [V.bl (!decide ((Str.ofString "z").cps.toList < [c]))])) = _
          rw [decide_eq_false l2]
          rfl
    · rintro H1 ⟨e1, s1⟩
      refine ⟨L, List.replicate x.cps.size true, rfl, .of (by rw [e1, List.map_replicate]), ?_⟩
      have : (List.replicate x.cps.size true).all id = true := by
        rw [List.all_eq_true]
        intro b hb
        rw [List.eq_of_mem_replicate hb]
        rfl
      rw [this]
      exact q _ s1
/-- is_name_in asked of a dict of names -/
theorem sc_is_name_in : FnScope ["thing", "names"] ["thing", "names"] (defScope s_is_name_in) := ⟨rfl, rfl, rfl, by decide +kernel, rfl, by decide +kernel, by decide +kernel⟩
def sp_is_name_inD : Sp := fun vs H Q _ => ∃ (x : Str) (d : Addr) (kvs : List (Key × V)), vs = [.str x, .ref d] ∧ TM.NameOk x ∧ H d = some (.dK kvs) ∧ ∀ H', Same H H' → Q (.bl (valV kvs (Sum.inr x : Key)).isSome) H'
theorem ok_is_name_inD {f fN : Addr} {fd fdN : FuncData} (F : Fn K mg "is_name_in" s_is_name_in ["thing", "names"] f fd) (B : Bn mg) (C : Cn mg) (FN : Fn K mg "is_name" s_is_name ["thing"] fN fdN) : FnOk P w K mg base CX0 2 f fd ["thing", "names"] sp_is_name_inD := by
  have GN : FnOk P w K mg base CX0 1 fN fdN ["thing"] sp_is_name := ok_is_name FN B C
  refine F.F.ok sc_is_name_in (fun vs H Q E h => ?_) (fun cdv A outer s H vs Q E hr h => ?_)
  · obtain ⟨x, d, kvs, rfl, _⟩ := h
    rfl
  · obtain ⟨x, d, kvs, rfl, hx, hd, q⟩ := h
    have hu := hu_of hr
    refine ⟨_, pss_one (ps_ret (pe_and (pe_call GN hr rfl FN.g FN.F.kp FN.b .nil pass0 (pa_cons (pv 0) pa_nil)) (pe_one (pe_cmp (pc_din hu (pv 0) (pv 1)))))), ?_⟩
    refine ⟨_, rfl, x, rfl, hx, fun H1 s1 => ⟨true, rfl, ?_⟩⟩
    exact ⟨_, rfl, _, rfl, d, _, rfl, DGet.k (k := Sum.inr x) (s1 _ _ hd), q H1 s1⟩
/-- a pair that may stand behind those told -/
theorem sc_is_pair : FnScope ["thing", "overs", "column", "upper"] ["thing", "overs"] (defScope s_is_pair) := ⟨rfl, rfl, rfl, by decide +kernel, rfl, by decide +kernel, by decide +kernel⟩
def sp_is_pair : Sp := fun vs H Q _ => ∃ (a d : Addr) (c : Str) (o : Option Str) (ps : List TM.Pr), vs = [.ref a, .ref d] ∧ H a = some (.tup [.str c, optV o]) ∧ H d = some (.dK (kvsOf ps)) ∧ (ps.map Prod.fst).Nodup ∧ TM.NameOk c ∧ c ∉ ps.map Prod.fst ∧
  (∀ x, o = some x → x ∈ ps.map Prod.fst ∧ TM.NameOk x) ∧ ∀ H', Same H H' → Q (.bl true) H'
theorem ok_is_pair {f fN fC : Addr} {fd fdN fdC : FuncData} (F : Fn K mg "_is_pair" s_is_pair ["thing", "overs"] f fd) (B : Bn mg) (C : Cn mg) (FN : Fn K mg "is_name" s_is_name ["thing"] fN fdN) (FC : Fn K mg "is_name_in" s_is_name_in ["thing", "names"] fC fdC) :
    FnOk P w K mg base CX0 3 f fd ["thing", "overs"] sp_is_pair := by
  have GN : FnOk P w K mg base CX0 1 fN fdN ["thing"] sp_is_name := ok_is_name FN B C
  have GC : FnOk P w K mg base CX0 2 fC fdC ["thing", "names"] sp_is_name_inD := ok_is_name_inD FC B C FN
  refine F.F.ok sc_is_pair (fun vs H Q E h => ?_) (fun cdv A outer s H vs Q E hr h => ?_)
  · obtain ⟨a, d, c, o, ps, rfl, _⟩ := h
    rfl
  · obtain ⟨a, d, c, o, ps, rfl, ha, hd, hnd, hc, hcn, ho, q⟩ := h
    have hu := hu_of hr
    have hr1 : Room 1 _ := hr.mono (by decide)
    refine ⟨_, pss_cons (ps_if (PW.pt (pw_or (pt_not (pt_val (pe_callB call_isi (by rfl) B.isi boot_isinstance (pa_cons (pv 0) (pa_cons (pe_bltn (v := .ty "tuple") (by rfl) B.tuple boot_tuple rfl) pa_nil)))))
        (pw_or1 (pt_cmpR op_ne (pe_callB call_len_seq (by rfl) B.len PySem.boot_len (pa_cons (pv 0) pa_nil)) pe_int (nomark _))))) (pss_one (ps_ret pe_bl)) pss_nil)
      (pss_cons (ps_asg (pv 0) (pg_tup rfl (pgs_cons (pg_name (i := 2) sc_is_pair.nd rfl (Or.inl rfl)) (pgs_cons (pg_name (i := 3) sc_is_pair.nd rfl (Or.inl rfl)) pgs_nil))))
      (pss_cons (ps_if (PW.pt (pw_or (pt_not (pt_val (pe_call GN hr1 rfl FN.g FN.F.kp FN.b .nil pass0 (pa_cons (pv 2) pa_nil)))) (pw_or1 (pt_cmp (pc_din hu (pv 2) (pv 1)))))) (pss_one (ps_ret pe_bl)) pss_nil)
      (pss_one (ps_ret (pe_or (pe_cmp (pc_isN (pv 3))) (pe_one (pe_call GC hr rfl FC.g FC.F.kp FC.b .nil pass0 (pa_cons (pv 3) (pa_cons (pv 1) pa_nil))))))))), ?_⟩
    refine ⟨_, rfl, _, _, _, _, true, rfl, .ty _, .base (.tup ha), kit_ty (by decide +kernel), _, rfl, ?_⟩
    refine ⟨_, rfl, a, _, rfl, .inr (.of ha), rfl, _, rfl, ?_⟩
    refine ⟨_, rfl, a, _, rfl, .of ha, rfl, _, _, rfl, _, _, rfl, rfl, ?_⟩
    refine ⟨_, rfl, c, rfl, hc, fun H1 s1 => ⟨true, rfl, ?_⟩⟩
    refine ⟨_, rfl, _, rfl, d, _, rfl, DGet.k (k := Sum.inr c) (s1 _ _ hd), _, rfl, ?_⟩
    rw [kvs_none hcn]
    cases o with
    | none => exact ⟨_, rfl, true, rfl, q H1 s1⟩
    | some x =>
      obtain ⟨hx, nx⟩ := ho x rfl
      refine ⟨_, rfl, false, rfl, ?_⟩
      refine ⟨_, rfl, _, rfl, x, d, _, rfl, nx, s1 _ _ hd, fun H2 s2 => ?_⟩
      obtain ⟨⟨x', o'⟩, hm, rfl⟩ := List.mem_map.mp hx
      rw [kvs_some hnd hm]
      exact q H2 (s1.trans s2)
end
end T10

set_option maxHeartbeats 1000000
namespace T10
open PySem L2 PyProof.Rows TX
section
variable {P : Program} {w : World} {K : PySem.W.Frag} {mg : Str → Option Value} {base : Heap}
/-- the defs of the program that all trees' proofs call -/
structure Kd (K : PySem.W.Frag) (mg : Str → Option Value) (fN fC fP fT fO : Addr) (dN dC dP dT dO : FuncData) : Prop where
  B : Bn mg
  C : Cn mg
  isn : Fn K mg "is_name" s_is_name ["thing"] fN dN
  isc : Fn K mg "is_name_in" s_is_name_in ["thing", "names"] fC dC
  isp : Fn K mg "_is_pair" s_is_pair ["thing", "overs"] fP dP
  told : Fn K mg "_told_overs" s_told ["pairs"] fT dT
  ord : Fn K mg "_in_order" s_in_order ["overs", "upper"] fO dO
variable {fN fC fP fT fO : Addr} {dN dC dP dT dO : FuncData}
theorem sc_told : FnScope ["pairs", "overs", "at", "pair"] ["pairs"] (defScope s_told) := ⟨rfl, rfl, rfl, by decide +kernel, rfl, by decide +kernel, by decide +kernel⟩
def sp_told : Sp := fun vs H Q _ => ∃ (L : Addr) (ps : List TM.Pr), vs = [.ref L] ∧ PairsAt H L ps ∧ TM.Valid [] ps ∧ ps.length ≤ 8 ∧ (∀ x ∈ ps.map Prod.fst, TM.NameOk x) ∧
  ∀ H' d, Same H H' → H d = none → H' d = some (.dK (kvsOf ps)) → Q (.ref d) H'
theorem ok_told (T : Kd K mg fN fC fP fT fO dN dC dP dT dO) : FnOk P w K mg base CX0 4 fT dT ["pairs"] sp_told := by
  have GP : FnOk P w K mg base CX0 3 fP dP ["thing", "overs"] sp_is_pair := ok_is_pair T.isp T.B T.C T.isn T.isc
  refine T.told.F.ok sc_told (fun vs H Q E h => ?_) (fun cdv A outer s H vs Q E hr h => ?_)
  · obtain ⟨L, ps, rfl, _⟩ := h
    rfl
  · obtain ⟨L, ps, rfl, ⟨as, hL, ht⟩, va, hl8, hnm, q⟩ := h
    have hu := hu_of hr
    have B := T.B
    obtain ⟨tl, hmo⟩ := T.C.most
    have hal := ht.len
    have hnd := TM.valid_nodup va
    refine ⟨_, pss_cons (ps_if (pt_not (pt_val (pe_callB call_isi (by rfl) B.isi boot_isinstance (pa_cons (pv 0) (pa_cons (pe_bltn (v := .ty "list") (by rfl) B.list boot_list rfl) pa_nil))))) (pss_one ps_never) pss_nil)
      (pss_cons (ps_set (i := 1) sc_told.nd rfl (Or.inl rfl) pe_dnewK)
      (pss_cons (ps_for PassesOwn.never rfl (pi_enum rfl B.enum (pa_cons (pv 0) pa_nil)) (pg_tup rfl (pgs_cons (pg_name (i := 2) sc_told.nd rfl (Or.inl rfl)) (pgs_cons (pg_name (i := 3) sc_told.nd rfl (Or.inl rfl)) pgs_nil)))
        (pss_cons (ps_if (PW.pt (pw_or (pt_cmpR op_ge (pv 2) (pe_glob (v := .int 8) (by rfl) hmo ⟨_, rfl⟩) (nomark _)) (pw_or1 (pt_not (pt_val (pe_call GP hr rfl T.isp.g T.isp.F.kp T.isp.b .nil pass0 (pa_cons (pv 3) (pa_cons (pv 1) pa_nil)))))))) (pss_one ps_never) pss_nil)
        (pss_one (ps_dput hu (pv 1) (pe_ix ix_tup (pv 3) pe_int (fun _ _ => rfl)) (pe_ix ix_tup (pv 3) pe_int (fun _ _ => rfl)) rfl))))
      (pss_one (ps_ret (pv 1))))), ?_⟩
    refine ⟨_, rfl, _, _, _, _, true, rfl, .ty _, .base (.lst hL), kit_ty (by decide +kernel), _, rfl, ?_⟩
    intro d nd
    have hLd : L ≠ d := ne_of_none hL nd
    refine ⟨_, rfl, L, as.map V.ref, rfl, .of (by rw [upd_ne hLd]; exact hL), ?_⟩
    refine for_it (walk_enum (xs := as.map V.ref)) (fun i σ H' => ∃ v1 v2 : Option V, σ = [some (.ref L), some (.ref d), v1, v2] ∧ H' d = some (.dK (kvsOf (ps.take i))) ∧ Same H H')
      ⟨none, none, rfl, upd_same, Same.new nd⟩ (fun i σ H1 hi ⟨_, _, _, _, s1⟩ => .of (s1 _ _ hL)) ?_ ?_
    · rintro i x σ H1 H1' hi ⟨v1, v2, rfl, e1, s1⟩ ⟨T', x1, x2, rfl, nT, rfl, hx1, hx2⟩
      rw [List.length_map] at hi
      obtain rfl : V.int (i : Int) = x1 := Option.some.inj hx1
      have hi' : i < ps.length := by omega
      obtain ⟨a, ha, rfl⟩ : ∃ a, as[i]? = some a ∧ x2 = V.ref a := by
        have h2 : (as.map V.ref)[i]? = some x2 := hx2
        rw [List.getElem?_map, List.getElem?_eq_getElem hi] at h2
        exact ⟨as[i], List.getElem?_eq_getElem hi, (Option.some.inj h2).symm⟩
      obtain ⟨⟨c, o⟩, hq, hta⟩ := ht.get ha
      obtain ⟨hc, ho⟩ := TM.valid_at va hq
      rw [List.nil_append] at hc ho
      have sT : Same H (upd H1 T' (.tup [.int (i : Int), .ref a])) := s1.trans (Same.new nT)
      have e1' : upd H1 T' (.tup [.int (i : Int), .ref a]) d = some (.dK (kvsOf (ps.take i))) := by rw [upd_ne (ne_of_none e1 nT)]; exact e1
      have hcm : c ∈ ps.map Prod.fst := List.mem_map.mpr ⟨(c, o), List.mem_of_getElem? hq, rfl⟩
      have hsub : ∀ x, x ∈ (ps.take i).map Prod.fst → x ∈ ps.map Prod.fst := fun x hx => by
        rw [List.map_take] at hx
        exact List.mem_of_mem_take hx
      have hndi : ((ps.take i).map Prod.fst).Nodup := TM.valid_nodup (TM.valid_take i va)
      refine ⟨T', _, rfl, .of upd_same, rfl, _, _, rfl, _, _, rfl, rfl, ?_⟩
      refine ⟨_, rfl, _, _, rfl, rfl, _, rfl, ite2 (fun hge => ?_) (fun _ => ?_)⟩
      · have := of_decide_eq_true hge
        omega
      refine ⟨_, rfl, _, rfl, a, d, c, o, ps.take i, rfl, sT _ _ hta, e1', hndi, hnm c hcm, hc, fun x hx => ⟨ho x hx, hnm x (hsub x (ho x hx))⟩, fun H2 s2 => ⟨true, rfl, ?_⟩⟩
      have sa2 : H2 a = some (.tup [.str c, optV o]) := s2 _ _ (sT _ _ hta)
      have sd2 := s2 _ _ e1'
      refine ⟨_, rfl, a, _, _, _, rfl, rfl, .of sa2, atI_nat (j := 1) rfl, _, rfl, _, rfl, a, _, _, _, rfl, rfl, .of sa2, atI_nat (j := 0) rfl, d, _, rfl, DPut.k (k := Sum.inr c) sd2 ?_, _, _, rfl, ?_, ?_⟩
      · rw [kvs_len, List.length_take]
        exact line100' (by omega)
      · rw [upd_same, kvs_put hc, List.take_add_one, hq]
        rfl
      · exact Same.mut (sT.trans s2) nd
    · rintro σ H1 ⟨v1, v2, rfl, e1, s1⟩
      rw [List.length_map, hal, List.take_length] at e1
      exact ⟨_, rfl, q H1 d s1 nd e1⟩
end
end T10

set_option maxHeartbeats 1000000
namespace T10
open PySem L2 PyProof.Rows TX
section
variable {P : Program} {w : World} {K : PySem.W.Frag} {mg : Str → Option Value} {base : Heap}
variable {fN fC fP fT fO : Addr} {dN dC dP dT dO : FuncData}
theorem sc_in_order : FnScope ["overs", "upper", "found", "column"] ["overs", "upper"] (defScope s_in_order) := ⟨rfl, rfl, rfl, by decide +kernel, rfl, by decide +kernel, by decide +kernel⟩
def sp_in_order (n : Nat) : Sp := fun vs H Q _ => ∃ (d : Addr) (od : Obj) (ps : List TM.Pr) (u : Option Str), vs = [.ref d, optV u] ∧ H d = some (.frz od (.dK (kvsOf ps))) ∧ TM.Valid [] ps ∧ ps.length ≤ 8 ∧ TM.Below ps u n ∧
  ∀ H' p, Same H H' → H p = none → H' p = some (.lst ((TM.ord ps u).map V.str)) → Q (.ref p) H'
theorem len2 {n : Nat} {vs : List V} {H : Hp} {Q : VK} {E : XK} (h : sp_in_order n vs H Q E) : vs.length = 2 := by
  obtain ⟨d, od, ps, u, rfl, _⟩ := h
  rfl
theorem ok_in_order (T : Kd K mg fN fC fP fT fO dN dC dP dT dO) : ∀ n : Nat, FnOk P w K mg base CX0 n fO dO ["overs", "upper"] (sp_in_order n)
  | 0 => ⟨fun vs H Q E h => len2 h, fun A outer s H args us vs Q E hr e b r h => by
      obtain ⟨d, od, ps, u, rfl, _, _, _, ⟨pre, t, _, hlt, _⟩, _⟩ := h
      exact absurd hlt (Nat.not_lt_zero _)⟩
  | n + 1 => by
    have G := ok_in_order T n
    refine T.ord.F.ok sc_in_order (fun vs H Q E h => len2 h) (fun cdv A outer s H vs Q E hr h => ?_)
    obtain ⟨d, od, ps, u, rfl, hd, va, hl8, hb, q⟩ := h
    have hu := hu_of hr
    refine ⟨_, pss_cons (ps_set (i := 2) sc_in_order.nd rfl (Or.inl rfl) (pe_lst pa_nil))
      (pss_cons (ps_for PassesOwn.never rfl (pi_keys (pv 0)) (pg_name (i := 3) sc_in_order.nd rfl (Or.inl rfl))
        (pss_one (ps_if (pt_cmpR op_eq (pe_dget hu (pv 0) (pv 3) (fun _ _ => rfl)) (pv 1) (nomark _))
          (pss_one (ps_expr (pe_bm PySem.F.plainAttrs_list PySem.F.slot_list_extend PySem.F.type_list_extend mt_extend (pv 2)
            (pa_cons (pe_op op_cat (pe_lst (pa_cons (pv 3) pa_nil)) (pe_call G hr rfl T.ord.g T.ord.F.kp T.ord.b .nil pass0 (pa_cons (pv 0) (pa_cons (pv 3) pa_nil)))) pa_nil)))) pss_nil)))
      (pss_one (ps_ret (pv 2)))), ?_⟩
    refine ⟨by decide, fun p np => ?_⟩
    have hdp : d ≠ p := ne_of_none hd np
    refine ⟨_, rfl, d, od, rfl, .inl ⟨_, by rw [upd_ne hdp]; exact hd, ?_⟩⟩
    refine for_it (walk_keys (kvs := kvsOf ps)) (fun i σ H' => ∃ v : Option V, σ = [some (.ref d), some (optV u), some (.ref p), v] ∧ H' p = some (.lst (((ps.take i).flatMap (TM.step ps u)).map V.str)) ∧ Same H H')
      ⟨none, rfl, upd_same, Same.new np⟩ (fun i σ H1 _ ⟨_, _, _, s1⟩ => s1 _ _ hd) ?_ ?_
    · rintro i x σ H0 H1 hi ⟨v, rfl, e1, s1⟩ ⟨rfl, k, y, hk, rfl⟩
      rw [kvs_len] at hi
      obtain ⟨⟨c, o⟩, hq⟩ : ∃ q, ps[i]? = some q := ⟨ps[i], List.getElem?_eq_getElem hi⟩
      rw [kvs_get, hq] at hk
      obtain ⟨rfl, rfl⟩ := Prod.mk.inj (Option.some.inj hk)
      have hnd := TM.valid_nodup va
      have hv : valV (kvsOf ps) (Sum.inr c : Key) = some (optV o) := kvs_some hnd (List.mem_of_getElem? hq)
      refine ⟨_, rfl, _, rfl, d, optV o, rfl, .inl ⟨_, Sum.inr c, .inr ⟨od, s1 _ _ hd⟩, rfl, hv.symm⟩, _, rfl, ?_, _, rfl, ite2 (fun he => ?_) (fun he => ?_)⟩
      · cases o <;> cases u <;> rfl
      · have ho : o = u := optV_inj (of_decide_eq_true he)
        have hb2 : TM.Below ps (some c) n := TM.below_at va hq (ho ▸ hb)
        refine ⟨_, rfl, .inl ⟨rfl, _, .inl (.inl e1)⟩, _, rfl, by show 1 ≤ sizeLine; decide, fun c1 nc1 => ?_⟩
        have sc1 : Same H1 (upd H1 c1 (.lst [.str c])) := Same.new nc1
        refine ⟨_, rfl, _, rfl, d, od, ps, some c, rfl, sc1 _ _ (s1 _ _ hd), va, hl8, hb2, fun H2 r s2 nr er => ?_⟩
        have ep2 : H2 p = some (.lst (((ps.take i).flatMap (TM.step ps u)).map V.str)) := s2 _ _ (sc1 _ _ e1)
        have ec1 : H2 c1 = some (.lst [.str c]) := s2 _ _ upd_same
        have hol : (TM.ord ps (some c)).length ≤ 8 := Nat.le_trans (TM.ord_le va _) hl8
        refine ⟨c1, r, _, _, rfl, rfl, ec1, er, ?_, fun r2 nr2 => ?_⟩
        · show 1 + _ ≤ sizeLine
          rw [List.length_map]
          exact line100 (by omega)
        have ep3 : ∀ o, (upd H2 r2 o) p = some (.lst (((ps.take i).flatMap (TM.step ps u)).map V.str)) := fun o => by rw [upd_ne (ne_of_none ep2 nr2)]; exact ep2
        refine ⟨p, r2, _, _, rfl, rfl, ep3 _, upd_same, ?_, _, rfl, ?_, ?_⟩
        · have hf : ((ps.take i).flatMap (TM.step ps u)).length ≤ 9 * (ps.take i).length := TM.flat_le fun q _ => by
            unfold TM.step
            split
            · have := TM.ord_le va (some q.1)
              rw [List.length_cons]
              omega
            · exact Nat.zero_le _
          rw [List.length_take] at hf
          rw [List.length_map, List.length_append, List.length_map]
          exact line100 (by show _ + (1 + _) ≤ 1000; omega)
        · rw [upd_same, TM.ord_take hq]
          have : TM.step ps u (c, o) = c :: TM.ord ps (some c) := if_pos ho
          rw [this, List.map_append]
          rfl
        · exact Same.mut (((s1.trans sc1).trans s2).trans (Same.new nr2)) np
      · have ho : ¬ o = u := fun z => he (decide_eq_true (congrArg optV z))
        refine ⟨_, rfl, ?_, s1⟩
        rw [TM.ord_take hq]
        have : TM.step ps u (c, o) = [] := if_neg ho
        rw [this, List.append_nil]
        exact e1
    · rintro σ H1 ⟨v, rfl, e1, s1⟩
      refine ⟨_, rfl, q H1 p s1 np ?_⟩
      rw [kvs_len, List.take_length] at e1
      rw [e1, TM.ord_flat va u]
end
end T10

set_option maxHeartbeats 1000000
namespace T10
open PySem L2 PyProof.Rows TX
section
variable {P : Program} {w : World} {K : PySem.W.Frag} {mg : Str → Option Value} {base : Heap}
variable {fN fC fP fT fO : Addr} {dN dC dP dT dO : FuncData}
theorem sc_tinit : FnScope ["self", "pairs", "told", "column"] ["self", "pairs"] (defScope s_tinit) := ⟨rfl, rfl, rfl, by decide +kernel, rfl, by decide +kernel, by decide +kernel⟩
def sp_tinit (C : Addr) : Sp := fun vs H Q _ => ∃ (p L dx : Addr) (ps : List TM.Pr), vs = [.ref p, .ref L] ∧ H p = some (.ins C dx []) ∧ PairsAt H L ps ∧ TM.Valid [] ps ∧ ps.length ≤ 8 ∧ (∀ x ∈ ps.map Prod.fst, TM.NameOk x) ∧
  ∀ H', TreeAt C H' p (TM.mk ps none) → (∀ b o, b ≠ p → H b = some o → H' b = some o) → (∀ b o z, b ≠ p → H b = some o → TreeAt C (upd H' b z) p (TM.mk ps none)) → Q .non H'
theorem ok_tinit {f C : Addr} {fd : FuncData} (F : Fun K "__init__" "Tree.__init__" s_tinit f fd) (T : Kd K mg fN fC fP fT fO dN dC dP dT dO) (c : Tc K mg C) : FnOk P w K mg base CX0 10 f fd ["self", "pairs"] (sp_tinit C) := by
  have GT : FnOk P w K mg base CX0 4 fT dT ["pairs"] sp_told := ok_told T
  have GO : FnOk P w K mg base CX0 9 fO dO ["overs", "upper"] (sp_in_order 9) := ok_in_order T 9
  refine F.ok sc_tinit (fun vs H Q E h => ?_) (fun cdv A outer s H vs Q E hr h => ?_)
  · obtain ⟨p, L, dx, ps, rfl, _⟩ := h
    rfl
  · obtain ⟨p, L, dx, ps, rfl, hp, hL, va, hl8, hnm, q⟩ := h
    have hu := hu_of hr
    have hr4 : Room 4 _ := hr.mono (by decide)
    refine ⟨_, pss_cons (ps_set (i := 2) sc_tinit.nd rfl (Or.inr rfl) (pe_call GT hr4 rfl T.told.g T.told.F.kp T.told.b .nil pass0 (pa_cons (pv 1) pa_nil)))
      (pss_cons (ps_lock (ps_fld (pv 0) (pe_call GO hr rfl T.ord.g T.ord.F.kp T.ord.b .nil pass0 (pa_cons (pv 2) (pa_cons pe_non pa_nil))) rfl))
      (pss_one (ps_fld (pv 0) (pe_dc (own := [("column", 3)]) (g := gName 3) (tt := tYes) rfl sc_tinit.nd (pi_list (pe_fld (pv 0) rfl)) (blkOk_by (N := ["self", "pairs", "told", "column"]) (sc := defScope s_tinit) (by decide +kernel))
        (fun _ _ _ _ _ => pg_name (i := 3) sc_tinit.nd rfl (Or.inl rfl)) (fun _ _ _ _ _ => pts_nil) (fun _ _ _ _ _ => pv 3) (fun _ _ _ _ _ => pe_dget hu (pv 2) (pv 3) (fun _ _ => rfl))) rfl))), ?_⟩
    refine ⟨_, rfl, L, ps, rfl, hL, va, hl8, hnm, fun H1 d s1 nd ed => ?_⟩
    have ndp : p ≠ d := ne_of_none hp nd
    refine ⟨d, _, ed, trivial, fun od => ?_⟩
    have sf : ∀ b o, b ≠ d → H1 b = some o → upd H1 d (.frz od (.dK (kvsOf ps))) b = some o := fun b o hb e => by rw [upd_ne hb]; exact e
    refine ⟨_, rfl, d, od, ps, none, rfl, upd_same, va, hl8, TM.below_top ps (by omega), fun H2 l s2 nl el => ?_⟩
    have ep1 : H1 p = some (.ins C dx []) := s1 _ _ hp
    have ep2 : H2 p = some (.ins C dx []) := s2 _ _ (sf _ _ ndp ep1)
    have ed2 : H2 d = some (.frz od (.dK (kvsOf ps))) := s2 _ _ upd_same
    have nld : l ≠ d := fun z => by rw [z, upd_same] at nl; cases nl
    have nlp : l ≠ p := fun z => by rw [z, sf _ _ ndp ep1] at nl; cases nl
    refine ⟨_, rfl, p, C, dx, [], rfl, ep2, c.cl, c.nC, by show 0 < 1000; decide, by rw [upd_ne ndp.symm]; exact ed2, ?_⟩
    generalize hH3 : upd (upd H2 p (.ins C dx (putF "_columns" (.ref l) []))) d (.dK (kvsOf ps)) = H3
    have e3p : H3 p = some (.ins C dx (putF "_columns" (.ref l) [])) := by rw [← hH3, upd_ne ndp, upd_same]
    have e3d : H3 d = some (.dK (kvsOf ps)) := by rw [← hH3, upd_same]
    have e3l : H3 l = some (.lst ((TM.ord ps none).map V.str)) := by rw [← hH3, upd_ne nld, upd_ne nlp]; exact el
    have s3 : ∀ b o, b ≠ p → H b = some o → H3 b = some o := fun b o hb e => by
      have hbd : b ≠ d := ne_of_none e nd
      rw [← hH3, upd_ne hbd, upd_ne hb]
      exact s2 _ _ (sf _ _ hbd (s1 _ _ e))
    have lk : (putF "_columns" (V.ref l) [] : List (Str × V)).lookup ("_columns" : Str) = some (.ref l) := by rw [lookup_putF, if_pos rfl]
    refine ⟨_, rfl, p, C, dx, _, _, rfl, e3p, c.cl, c.nC, lk, l, rfl, ⟨_, .of e3l⟩, fun Dn nDn => ?_⟩
    have F := foOk_mk va hl8 hnm
    have hfn : (TM.flat (TM.mk ps none) none).map Prod.fst = TM.ord ps none := TM.flat_names _ _
    have hnd := TM.valid_nodup va
    refine dc_walk (walk_list (xs := (TM.ord ps none).map V.str)) (fun i h => h Dn = some (.dK (kvsOf ((TM.flat (TM.mk ps none) none).take i))) ∧ Same H3 h)
      ⟨upd_same, Same.new nDn⟩ (fun i h _ ⟨_, s⟩ => .of (s _ _ e3l)) ?_ ?_
    · rintro i x h h' hi ⟨e4, s4⟩ ⟨rfl, hx⟩
      rw [List.length_map] at hi
      have hfl : (TM.flat (TM.mk ps none) none).length = (TM.ord ps none).length := by rw [← hfn, List.length_map]
      obtain ⟨⟨cn, o⟩, hq⟩ : ∃ q, (TM.flat (TM.mk ps none) none)[i]? = some q := ⟨_, List.getElem?_eq_getElem (by omega)⟩
      have hxn : x = V.str cn := by
        rw [← hfn, List.getElem?_map, List.getElem?_map, hq] at hx
        exact (Option.some.inj hx).symm
      subst hxn
      have hv := kvs_some hnd (TM.mk_sub (List.mem_of_getElem? hq))
      refine ⟨rfl, ?_⟩
      refine ⟨_, rfl, _, rfl, _, rfl, d, optV o, rfl, .inl ⟨_, Sum.inr cn, .inl (s4 _ _ e3d), rfl, hv.symm⟩, _, Sum.inr cn, rfl, e4, ?_, ?_, ?_⟩
      · rw [kvs_len, List.length_take]
        have := F.le
        have e5 : (TM.names (TM.mk ps none)) = TM.ord ps none := rfl
        rw [e5] at this
        exact line100' (by omega)
      · have hc : cn ∉ ((TM.flat (TM.mk ps none) none).take i).map Prod.fst := by
          intro hm
          rw [List.map_take, hfn, List.mem_take_iff_getElem] at hm
          obtain ⟨j, hj, ej⟩ := hm
          have ei : (TM.ord ps none)[i] = cn := by
            have h1 : (TM.ord ps none)[i]? = some cn := by rw [← hfn, List.getElem?_map, hq]; rfl
            rw [List.getElem?_eq_getElem hi] at h1
            exact Option.some.inj h1
          have := (List.getElem_inj (TM.ord_nodup va) (i := j) (j := i)).mp (ej.trans ei.symm)
          omega
        rw [upd_same, kvs_put hc, List.take_add_one, hq]
        rfl
      · exact Same.mut s4 nDn
    · rintro h ⟨e4, s4⟩
      rw [List.length_map] at e4
      have hfl : (TM.flat (TM.mk ps none) none).length = (TM.ord ps none).length := by rw [← hfn, List.length_map]
      rw [← hfl, List.take_length] at e4
      refine ⟨_, rfl, p, C, dx, _, rfl, s4 _ _ e3p, c.cl, c.nO, by show 1 < 1000; decide, ?_⟩
      have nDp : Dn ≠ p := fun z => by rw [z, e3p] at nDn; cases nDn
      have nlD : l ≠ Dn := fun z => by rw [← z, e3l] at nDn; cases nDn
      have nlH : H l = none := by
        cases e : H l with
        | none => rfl
        | some o =>
          rw [upd_ne nld, s1 _ _ e] at nl
          cases nl
      have nDH : H Dn = none := by
        cases e : H Dn with
        | none => rfl
        | some o =>
          rw [s3 Dn o nDp e] at nDn
          cases nDn
      refine q _ ⟨dx, l, Dn, upd_same, ?_, ?_⟩ (fun b o hb e => ?_) fun b o z hb e => ⟨dx, l, Dn, ?_, ?_, ?_⟩
      · rw [upd_ne nlp]
        exact s4 _ _ e3l
      · rw [upd_ne nDp]
        exact e4
      · rw [upd_ne hb]
        exact s4 _ _ (s3 b o hb e)
      · rw [upd_ne hb.symm, upd_same]
        rfl
      · rw [upd_ne (ne_of_none e nlH).symm, upd_ne nlp]
        exact s4 _ _ e3l
      · rw [upd_ne (ne_of_none e nDH).symm, upd_ne nDp]
        exact e4
end
end T10

set_option maxHeartbeats 1000000
namespace T10
open PySem L2 PyProof.Rows TX
section
variable {P : Program} {w : World} {K : PySem.W.Frag} {mg : Str → Option Value} {base : Heap}
theorem sc_tcolumns : FnScope ["self"] ["self"] (defScope s_tcolumns) := ⟨rfl, rfl, rfl, by decide +kernel, rfl, by decide +kernel, by decide +kernel⟩
def sp_tcolumns (C : Addr) : Sp := fun vs H Q _ => ∃ (p : Addr) (f : TM.Fo), vs = [.ref p] ∧ TreeAt C H p f ∧ ∀ H' L, Same H H' → H L = none → H' L = some (.lst ((TM.names f).map V.str)) → Q (.ref L) H'
theorem ok_tcolumns {f C : Addr} {fd : FuncData} (F : Fun K "columns" "Tree.columns" s_tcolumns f fd) (B : Bn mg) (c : Tc K mg C) : FnOk P w K mg base CX0 1 f fd ["self"] (sp_tcolumns C) := by
  refine F.ok sc_tcolumns (fun vs H Q E h => ?_) (fun cdv A outer s H vs Q E hr h => ?_)
  · obtain ⟨p, g, rfl, _⟩ := h
    rfl
  · obtain ⟨p, g, rfl, ⟨dx, l, d, h1, h2, h3⟩, q⟩ := h
    refine ⟨_, pss_one (ps_ret (pe_callTy call_list_of (by rfl) B.list boot_list (pa_cons (pe_fld (pv 0) rfl) pa_nil))), ?_⟩
    exact ⟨_, rfl, p, C, dx, _, _, rfl, h1, c.cl, c.nC, tflds_col _ _, l, _, rfl, .inl (.of h2), fun L nL => q _ L (Same.new nL) nL upd_same⟩
theorem sc_tpairs : FnScope ["self", "column"] ["self"] (defScope s_tpairs) := ⟨rfl, rfl, rfl, by decide +kernel, rfl, by decide +kernel, by decide +kernel⟩
def sp_tpairs (C : Addr) : Sp := fun vs H Q _ => ∃ (p : Addr) (f : TM.Fo), vs = [.ref p] ∧ TreeAt C H p f ∧ FoOk f ∧ ∀ H' L, Same H H' → H L = none → PairsAt H' L (TM.flat f none) → Q (.ref L) H'
theorem ok_tpairs {f C : Addr} {fd : FuncData} (F : Fun K "pairs" "Tree.pairs" s_tpairs f fd) (B : Bn mg) (c : Tc K mg C) : FnOk P w K mg base CX0 1 f fd ["self"] (sp_tpairs C) := by
  refine F.ok sc_tpairs (fun vs H Q E h => ?_) (fun cdv A outer s H vs Q E hr h => ?_)
  · obtain ⟨p, g, rfl, _⟩ := h
    rfl
  · obtain ⟨p, g, rfl, ⟨dx, l, d, h1, h2, h3⟩, ok, q⟩ := h
    have hu := hu_of hr
    have hfn : (TM.flat g none).map Prod.fst = TM.names g := TM.flat_names _ _
    have hfl : (TM.flat g none).length = (TM.names g).length := by rw [← hfn, List.length_map]
    have hle := ok.le
    refine ⟨_, pss_one (ps_ret (pe_lc (own := [("column", 1)]) (g := gName 1) (tt := tYes) (te := tTup (tCons (tVar 1) (tCons (tDGet (tFld K (tVar 0) "_over") (tVar 1)) tNil))) rfl sc_tpairs.nd (pi_list (pe_fld (pv 0) rfl)) (blkOk_by (N := ["self", "column"]) (sc := defScope s_tpairs) (by decide +kernel))
        (fun _ _ _ _ _ => pg_name (i := 1) sc_tpairs.nd rfl (Or.inl rfl)) (fun _ _ _ _ _ => pts_nil)
        (fun _ _ _ _ _ => pe_tup (pa_cons (pv 1) (pa_cons (pe_dget hu (pe_fld (pv 0) rfl) (pv 1) (fun _ _ => rfl)) pa_nil))))), ?_⟩
    refine ⟨_, rfl, p, C, dx, _, _, rfl, h1, c.cl, c.nC, tflds_col _ _, l, rfl, ⟨_, .of h2⟩, fun L nL => ?_⟩
    refine lc_it (walk_list (xs := (TM.names g).map V.str)) (fun i h => ∃ as, h L = some (.lst (as.map V.ref)) ∧ TupsAt h as ((TM.flat g none).take i) ∧ Same H h)
      ⟨[], upd_same, .nil, Same.new nL⟩ (fun i h _ ⟨_, _, _, s⟩ => .of (s _ _ h2)) ?_ ?_
    · rintro i x h h' hi ⟨as, e4, t4, s4⟩ ⟨rfl, hx⟩
      rw [List.length_map] at hi
      obtain ⟨⟨cn, o⟩, hq⟩ : ∃ q, (TM.flat g none)[i]? = some q := ⟨_, List.getElem?_eq_getElem (by omega)⟩
      have hxn : x = V.str cn := by
        rw [← hfn, List.getElem?_map, List.getElem?_map, hq] at hx
        exact (Option.some.inj hx).symm
      subst hxn
      have hv : valV (kvsOf (TM.flat g none)) (Sum.inr cn : Key) = some (optV o) := kvs_some (by rw [hfn]; exact ok.nd) (List.mem_of_getElem? hq)
      refine ⟨rfl, ?_⟩
      refine ⟨_, rfl, _, rfl, p, C, dx, _, _, rfl, s4 _ _ h1, c.cl, c.nO, tflds_over _ _, _, rfl, d, optV o, rfl, .inl ⟨_, Sum.inr cn, .inl (s4 _ _ h3), rfl, hv.symm⟩, two_le, fun y ny => ?_⟩
      have e5 : ∀ o, upd h' y o L = some (.lst (as.map V.ref)) := fun o => by rw [upd_ne (ne_of_none e4 ny)]; exact e4
      refine ⟨_, e5 _, ?_, as ++ [y], ?_, ?_, ?_⟩
      · rw [List.length_map, t4.len, List.length_take]
        exact line100' (by omega)
      · rw [upd_same, List.map_append]
        rfl
      · rw [List.take_add_one, hq]
        exact ((t4.same (Same.new ny)).snoc (q := (cn, o)) upd_same).put (e5 _)
      · exact Same.mut (s4.trans (Same.new ny)) nL
    · rintro h ⟨as, e4, t4, s4⟩
      rw [List.length_map, ← hfl, List.take_length] at t4
      exact q h L s4 nL ⟨as, e4, t4⟩
theorem sc_tlen : FnScope ["self"] ["self"] (defScope s_tlen) := ⟨rfl, rfl, rfl, by decide +kernel, rfl, by decide +kernel, by decide +kernel⟩
def sp_tlen (C : Addr) : Sp := fun vs H Q _ => ∃ (p : Addr) (f : TM.Fo), vs = [.ref p] ∧ TreeAt C H p f ∧ Q (.int (TM.names f).length) H
theorem ok_tlen {f C : Addr} {fd : FuncData} (F : Fun K "__len__" "Tree.__len__" s_tlen f fd) (B : Bn mg) (c : Tc K mg C) : FnOk P w K mg base CX0 1 f fd ["self"] (sp_tlen C) := by
  refine F.ok sc_tlen (fun vs H Q E h => ?_) (fun cdv A outer s H vs Q E hr h => ?_)
  · obtain ⟨p, g, rfl, _⟩ := h
    rfl
  · obtain ⟨p, g, rfl, ⟨dx, l, d, h1, h2, h3⟩, q⟩ := h
    refine ⟨_, pss_one (ps_ret (pe_callB call_len_seq (by rfl) B.len PySem.boot_len (pa_cons (pe_fld (pv 0) rfl) pa_nil))), ?_⟩
    refine ⟨_, rfl, p, C, dx, _, _, rfl, h1, c.cl, c.nC, tflds_col _ _, l, _, rfl, .inl (.of h2), ?_⟩
    rw [List.length_map]
    exact q
theorem sc_teq : FnScope ["self", "other"] ["self", "other"] (defScope s_teq) := ⟨rfl, rfl, rfl, by decide +kernel, rfl, by decide +kernel, by decide +kernel⟩
/-- two trees of one forest -/
def SameTree (C : Addr) : Addr → Addr → Hp → Prop := fun a b H => ∃ f, TreeAt C H a f ∧ TreeAt C H b f ∧ FoOk f
theorem ok_teq {f C : Addr} {fd : FuncData} (F : Fun K "__eq__" "Tree.__eq__" s_teq f fd) (B : Bn mg) (c : Tc K mg C) : FnOk P w K mg base CX0 1 f fd ["self", "other"] (spEq (SameTree C)) := by
  refine F.ok sc_teq (fun vs H Q E h => ?_) (fun cdv A outer s H vs Q E hr h => ?_)
  · obtain ⟨a, b, rfl, _⟩ := h
    rfl
  · obtain ⟨a, b, rfl, ⟨g, ⟨dx, l, d, h1, h2, h3⟩, ⟨dx', l', d', h1', h2', h3'⟩, ok⟩, q⟩ := h
    have hu := hu_of hr
    have hu0 := hr.units0
    have hu64 := hr.units
    refine ⟨_, pss_one (ps_ret (pe_and (pe_callB call_isi (by rfl) B.isi boot_isinstance (pa_cons (pv 1) (pa_cons (pe_glob (v := .ref C) (by rfl) c.g rfl) pa_nil)))
      (pe_and (pe_cmpR (op_eqD hu64) (pe_fld (pv 0) rfl) (pe_fld (pv 1) rfl) (nomark _)) (pe_one (pe_cmpR (op_eq_dictA hu0) (pe_fld (pv 0) rfl) (pe_fld (pv 1) rfl) (nomark _)))))), ?_⟩
    refine ⟨_, rfl, _, _, _, _, true, rfl, .own C, .base (.ins h1' c.cl c.ins.ha c.ins.hn c.ins.htk c.ins.hm), c.ins.me, true, rfl, ?_⟩
    refine ⟨_, rfl, a, C, dx, _, _, rfl, h1, c.cl, c.nC, tflds_col _ _, _, rfl, b, C, dx', _, _, rfl, h1', c.cl, c.nC, tflds_col _ _, _, _, DpS h2, DpS h2', shS ok.ok, shS ok.ok, true, ?_, ?_⟩
    · rw [eqv_dS, decide_eq_true rfl]
    refine ⟨_, rfl, a, C, dx, _, _, rfl, h1, c.cl, c.nO, tflds_over _ _, _, rfl, b, C, dx', _, _, rfl, h1', c.cl, c.nO, tflds_over _ _, d, d', _, _, rfl, rfl, h3, h3', rfl, ?_, q H fun _ _ h => h⟩
    intro p hp
    obtain ⟨⟨x, o⟩, hm, rfl⟩ := List.mem_map.mp hp
    refine ⟨kvs_some ?_ hm, ?_⟩
    · rw [TM.flat_names]
      exact ok.nd
    · cases o <;> rfl
end
end T10

set_option maxHeartbeats 1000000
namespace T10
open PySem L2 PyProof.Rows TX TY
section
variable {P : Program} {w : World} {K : PySem.W.Frag} {mg : Str → Option Value} {base : Heap}
variable {fN fC fP fT fO : Addr} {dN dC dP dT dO : FuncData}
/-- is_name_in asked of a list of names -/
def sp_is_name_inL : Sp := fun vs H Q _ => ∃ (x : Str) (d : Addr) (ns : List Str), vs = [.str x, .ref d] ∧ TM.NameOk x ∧ H d = some (.lst (ns.map V.str)) ∧ ∀ H', Same H H' → Q (.bl (decide (x ∈ ns))) H'
theorem ok_is_name_inL (T : Kd K mg fN fC fP fT fO dN dC dP dT dO) : FnOk P w K mg base CX0 2 fC dC ["thing", "names"] sp_is_name_inL := by
  have GN : FnOk P w K mg base CX0 1 fN dN ["thing"] sp_is_name := ok_is_name T.isn T.B T.C
  refine T.isc.F.ok sc_is_name_in (fun vs H Q E h => ?_) (fun cdv A outer s H vs Q E hr h => ?_)
  · obtain ⟨x, d, ns, rfl, _⟩ := h
    rfl
  · obtain ⟨x, d, ns, rfl, hx, hd, q⟩ := h
    have hu := hu_of hr
    refine ⟨_, pss_one (ps_ret (pe_and (pe_call GN hr rfl T.isn.g T.isn.F.kp T.isn.b .nil pass0 (pa_cons (pv 0) pa_nil)) (pe_one (pe_cmpR op_in_seq (pv 0) (pv 1) rfl)))), ?_⟩
    refine ⟨_, rfl, x, rfl, hx, fun H1 s1 => ⟨true, rfl, ?_⟩⟩
    refine ⟨_, rfl, _, rfl, d, _, rfl, .inl (.of (s1 _ _ hd)), rfl, TX.flat_strs _, ?_⟩
    show Q (.bl (inV (.str x) (ns.map V.str))) H1
    rw [inV_str]
    exact q H1 s1
variable {C fc fv fa fb fk fi : Addr} {dc dv da db dk di : FuncData}
theorem sc_tcheck : FnScope ["self", "column"] ["self", "column"] (defScope s_tcheck) := ⟨rfl, rfl, rfl, by decide +kernel, rfl, by decide +kernel, by decide +kernel⟩
def sp_tcheck (C : Addr) : Sp := fun vs H Q _ => ∃ (p : Addr) (f : TM.Fo) (x : Str), vs = [.ref p, .str x] ∧ TreeAt C H p f ∧ FoOk f ∧ x ∈ TM.names f ∧ ∀ H', Same H H' → Q .non H'
theorem ok_tcheck (F : Fun K "check_column" "Tree.check_column" s_tcheck fc dc) (T : Kd K mg fN fC fP fT fO dN dC dP dT dO) (c : Tc K mg C) : FnOk P w K mg base CX0 3 fc dc ["self", "column"] (sp_tcheck C) := by
  have GC : FnOk P w K mg base CX0 2 fC dC ["thing", "names"] sp_is_name_inL := ok_is_name_inL T
  refine F.ok sc_tcheck (fun vs H Q E h => ?_) (fun cdv A outer s H vs Q E hr h => ?_)
  · obtain ⟨p, g, x, rfl, _⟩ := h
    rfl
  · obtain ⟨p, g, x, rfl, ⟨dx, l, d, h1, h2, h3⟩, ok, hx, q⟩ := h
    refine ⟨_, pss_one (ps_if (pt_not (pt_val (pe_call GC hr rfl T.isc.g T.isc.F.kp T.isc.b .nil pass0 (pa_cons (pv 1) (pa_cons (pe_fld (pv 0) rfl) pa_nil))))) (pss_one ps_never) pss_nil), ?_⟩
    refine ⟨_, rfl, _, rfl, p, C, dx, _, _, rfl, h1, c.cl, c.nC, tflds_col _ _, x, l, TM.names g, rfl, ok.ok x hx, h2, fun H1 s1 => ⟨_, rfl, ?_⟩⟩
    rw [decide_eq_true hx]
    exact q H1 s1
/-- over -/
theorem sc_tover : FnScope ["self", "column"] ["self", "column"] (defScope s_tover) := ⟨rfl, rfl, rfl, by decide +kernel, rfl, by decide +kernel, by decide +kernel⟩
def sp_tover (C : Addr) : Sp := fun vs H Q _ => ∃ (p : Addr) (f : TM.Fo) (x : Str) (a : List Str) (k : TM.Fo), vs = [.ref p, .str x] ∧ TreeAt C H p f ∧ FoOk f ∧ TM.loc f x = some (a, k) ∧ ∀ H', Same H H' → Q (optV (TM.lastOr a none)) H'
theorem nochk (l d : Addr) : (tflds l d).lookup ("check_column" : Str) = none := tflds_no l d (by decide +kernel) (by decide +kernel)
theorem ok_tover (F : Fun K "over" "Tree.over" s_tover fv dv) (M : Mt K C "check_column" "Tree.check_column" s_tcheck ["self", "column"] fc dc) (T : Kd K mg fN fC fP fT fO dN dC dP dT dO) (c : Tc K mg C) : FnOk P w K mg base CX0 4 fv dv ["self", "column"] (sp_tover C) := by
  have GK : FnOk P w K mg base CX0 3 fc dc ["self", "column"] (sp_tcheck C) := ok_tcheck M.F T c
  refine F.ok sc_tover (fun vs H Q E h => ?_) (fun cdv A outer s H vs Q E hr h => ?_)
  · obtain ⟨p, g, x, a, k, rfl, _⟩ := h
    rfl
  · obtain ⟨p, g, x, a, k, rfl, tr, ok, hx, q⟩ := h
    have hu := hu_of hr
    obtain ⟨dx, l, d, h1, h2, h3⟩ := id tr
    refine ⟨_, pss_cons (ps_expr (pe_meth (pv 0) c.cl M.me GK hr M.b .nil pass0 (pa_cons (pv 1) pa_nil))) (pss_one (ps_ret (pe_dget hu (pe_fld (pv 0) rfl) (pv 1) (fun _ _ => rfl)))), ?_⟩
    refine ⟨_, rfl, p, dx, _, rfl, h1, nochk _ _, _, rfl, p, g, x, rfl, tr, ok, TM.loc_mem hx, fun H1 s1 => ?_⟩
    refine ⟨_, rfl, p, C, dx, _, _, rfl, s1 _ _ h1, c.cl, c.nO, tflds_over _ _, _, rfl, d, _, rfl, .inl ⟨_, Sum.inr x, .inl (s1 _ _ h3), rfl, (over_get ok hx).symm⟩, q H1 s1⟩
/-- above -/
theorem sc_tabove : FnScope ["self", "column", "found", "upper"] ["self", "column"] (defScope s_tabove) := ⟨rfl, rfl, rfl, by decide +kernel, rfl, by decide +kernel, by decide +kernel⟩
def sp_tabove (C : Addr) : Sp := fun vs H Q _ => ∃ (p : Addr) (f : TM.Fo) (x : Str) (a : List Str) (k : TM.Fo), vs = [.ref p, .str x] ∧ TreeAt C H p f ∧ FoOk f ∧ TM.loc f x = some (a, k) ∧ ∀ H' L, Same H H' → H L = none → H' L = some (.lst (a.map V.str)) → Q (.ref L) H'
theorem ok_tabove (F : Fun K "above" "Tree.above" s_tabove fa da) (M : Mt K C "check_column" "Tree.check_column" s_tcheck ["self", "column"] fc dc) (T : Kd K mg fN fC fP fT fO dN dC dP dT dO) (c : Tc K mg C) : FnOk P w K mg base CX0 4 fa da ["self", "column"] (sp_tabove C) := by
  have GK : FnOk P w K mg base CX0 3 fc dc ["self", "column"] (sp_tcheck C) := ok_tcheck M.F T c
  refine F.ok sc_tabove (fun vs H Q E h => ?_) (fun cdv A outer s H vs Q E hr h => ?_)
  · obtain ⟨p, g, x, a, k, rfl, _⟩ := h
    rfl
  · obtain ⟨p, g, x, a, k, rfl, tr, ok, hx, q⟩ := h
    have hu := hu_of hr
    obtain ⟨dx, l, d, h1, h2, h3⟩ := id tr
    have nd := sc_tabove.nd
    refine ⟨_, pss_cons (ps_expr (pe_meth (pv 0) c.cl M.me GK hr M.b .nil pass0 (pa_cons (pv 1) pa_nil)))
      (pss_cons (ps_set (i := 2) nd rfl (Or.inl rfl) (pe_lst pa_nil))
      (pss_cons (ps_set (i := 3) nd rfl (Or.inl rfl) (pe_dget hu (pe_fld (pv 0) rfl) (pv 1) (fun _ _ => rfl)))
      (pss_cons (ps_while PassesOwn.never (pt_cmp (pc_notN (pv 3)))
        (pss_cons (ps_expr (pe_bm PySem.F.plainAttrs_list PySem.F.slot_list_append PySem.F.type_list_append mt_append (pv 2) (pa_cons (pv 3) pa_nil)))
        (pss_one (ps_set (i := 3) nd rfl (Or.inl rfl) (pe_dget hu (pe_fld (pv 0) rfl) (pv 3) (fun _ _ => rfl))))))
      (pss_one (ps_ret (pe_revL (pv 2))))))), ?_⟩
    refine ⟨_, rfl, p, dx, _, rfl, h1, nochk _ _, _, rfl, p, g, x, rfl, tr, ok, TM.loc_mem hx, fun H1 s1 => ?_⟩
    refine ⟨by decide, fun L nL => ?_⟩
    have s2 : Same H (upd H1 L (.lst [])) := s1.trans (Same.new nL)
    have nLH : H L = none := s1.free nL
    refine ⟨_, rfl, p, C, dx, _, _, rfl, s2 _ _ h1, c.cl, c.nO, tflds_over _ _, _, rfl, d, _, rfl, .inl ⟨_, Sum.inr x, .inl (s2 _ _ h3), rfl, (over_get ok hx).symm⟩, ?_⟩
    have hal : a.length ≤ 8 := by
      have := (TM.loc_sub hx).length_le
      have h8 := ok.le
      rw [List.length_append] at this
      omega
    refine ⟨fun m σ H' => ∃ r b : List Str, r.length = m ∧ a = r ++ b ∧ σ = [some (.ref p), some (.str x), some (.ref L), some (optV (TM.lastOr r none))] ∧ H' L = some (.lst ((b.reverse).map V.str)) ∧ Same H H',
      ⟨a.length, a, [], rfl, by simp, rfl, upd_same, s2⟩, ?_⟩
    rintro m σ H2 ⟨r, b, rfl, eab, rfl, e2, s3⟩
    refine ⟨_, rfl, _, rfl, ?_⟩
    rcases List.eq_nil_or_concat r with rfl | ⟨r', u, rfl⟩
    · have e0 : optV (TM.lastOr [] none) = V.non := rfl
      rw [e0]
      show _
      refine ⟨_, rfl, L, _, rfl, .of e2, fun L2 nL2 => ?_⟩
      refine q _ L2 (s3.trans (Same.new nL2)) (s3.free nL2) ?_
      rw [upd_same, ← List.map_reverse, List.reverse_reverse, eab]
      rfl
    · have e0 : optV (TM.lastOr (r'.concat u) none) = V.str u := by rw [List.concat_eq_append, TM.lastOr_snoc]; rfl
      rw [e0]
      have ea : a = r' ++ u :: b := by rw [eab, List.concat_eq_append]; simp
      obtain ⟨q1, hu1, _⟩ := TM.loc_up ok.nd hx r' b u ea
      refine ⟨fun σ' H' => ∃ r b : List Str, r.length = r'.length ∧ a = r ++ b ∧ σ' = [some (.ref p), some (.str x), some (.ref L), some (optV (TM.lastOr r none))] ∧ H' L = some (.lst ((b.reverse).map V.str)) ∧ Same H H',
        fun σ' H' z => ⟨r'.length, by simp, z⟩, ?_⟩
      have hbl : b.length ≤ 8 := by
        have := congrArg List.length ea
        rw [List.length_append, List.length_cons] at this
        omega
      refine ⟨_, rfl, .inl ⟨rfl, _, .inl (.inl e2)⟩, _, rfl, L, _, _, rfl, rfl, e2, ?_, ?_⟩
      · rw [List.length_map, List.length_reverse]
        exact line100' (by omega)
      have s4 : Same H (upd H2 L (.lst ((b.reverse).map V.str ++ [.str u]))) := Same.mut s3 nLH
      refine ⟨_, rfl, p, C, dx, _, _, rfl, s4 _ _ h1, c.cl, c.nO, tflds_over _ _, _, rfl, d, _, rfl, .inl ⟨_, Sum.inr u, .inl (s4 _ _ h3), rfl, (over_get ok hu1).symm⟩, ?_⟩
      refine ⟨r', u :: b, rfl, ea, rfl, ?_, s4⟩
      rw [upd_same, List.reverse_cons, List.map_append]
      rfl
/-- beneath -/
theorem sc_tbeneath : FnScope ["self", "column", "name"] ["self", "column"] (defScope s_tbeneath) := ⟨rfl, rfl, rfl, by decide +kernel, rfl, by decide +kernel, by decide +kernel⟩
def sp_tbeneath (C : Addr) : Sp := fun vs H Q _ => ∃ (p : Addr) (f : TM.Fo) (x : Str) (a : List Str) (k : TM.Fo), vs = [.ref p, .str x] ∧ TreeAt C H p f ∧ FoOk f ∧ TM.loc f x = some (a, k) ∧
  ∀ H' L, Same H H' → H L = none → H' L = some (.lst ((x :: TM.names k).map V.str)) → Q (.ref L) H'
theorem noabv (l d : Addr) : (tflds l d).lookup ("above" : Str) = none := tflds_no l d (by decide +kernel) (by decide +kernel)
theorem ok_tbeneath (F : Fun K "beneath" "Tree.beneath" s_tbeneath fb db) (M : Mt K C "check_column" "Tree.check_column" s_tcheck ["self", "column"] fc dc) (MA : Mt K C "above" "Tree.above" s_tabove ["self", "column"] fa da)
    (T : Kd K mg fN fC fP fT fO dN dC dP dT dO) (c : Tc K mg C) : FnOk P w K mg base CX0 5 fb db ["self", "column"] (sp_tbeneath C) := by
  have GK : FnOk P w K mg base CX0 3 fc dc ["self", "column"] (sp_tcheck C) := ok_tcheck M.F T c
  have GA : FnOk P w K mg base CX0 4 fa da ["self", "column"] (sp_tabove C) := ok_tabove MA.F M T c
  refine F.ok sc_tbeneath (fun vs H Q E h => ?_) (fun cdv A outer s H vs Q E hr h => ?_)
  · obtain ⟨p, g, x, a, k, rfl, _⟩ := h
    rfl
  · obtain ⟨p, g, x, a, k, rfl, tr, ok, hx, q⟩ := h
    have hu := hu_of hr
    obtain ⟨dx, l, d, h1, h2, h3⟩ := id tr
    have nd := sc_tbeneath.nd
    have r3 : Room 3 _ := hr.mono (by decide)
    refine ⟨_, pss_cons (ps_expr (pe_meth (pv 0) c.cl M.me GK r3 M.b .nil pass0 (pa_cons (pv 1) pa_nil)))
      (pss_one (ps_ret (pe_lc (own := [("name", 2)]) (g := gName 2) (tt := tOr (tTest (tOp rEq (tVar 2) (tVar 1))) (tTest (tOp (rIn K false) (tVar 1) (tMeth C "above" (sp_tabove C) [] E0 (tVar 0) (tCons (tVar 2) tNil))))) (te := tVar 2) rfl nd (pi_list (pe_fld (pv 0) rfl))
          (blkOk_by (N := ["self", "column", "name"]) (sc := defScope s_tbeneath) (by decide +kernel)) (fun _ _ _ _ _ => pg_name (i := 2) nd rfl (Or.inl rfl))
          (fun _ _ _ _ _ => pts_one (PW.pt (pw_or (pt_cmpR op_eq (pv 2) (pv 1) (nomark _)) (pw_or1 (pt_cmpR op_in_seq (pv 1) (pe_meth (pv 0) c.cl MA.me GA hr MA.b .nil pass0 (pa_cons (pv 2) pa_nil)) rfl))))) (fun _ _ _ _ _ => pv 2)))), ?_⟩
    refine ⟨_, rfl, p, dx, _, rfl, h1, nochk _ _, _, rfl, p, g, x, rfl, tr, ok, TM.loc_mem hx, fun H1 s1 => ?_⟩
    refine ⟨_, rfl, p, C, dx, _, _, rfl, s1 _ _ h1, c.cl, c.nC, tflds_col _ _, l, rfl, ⟨_, .of (s1 _ _ h2)⟩, fun L nL => ?_⟩
    have hle := ok.le
    have fin : ((TM.names g).filter fun n => decide (n ∈ x :: TM.names k)) = x :: TM.names k := TM.filter_mem ok.nd (TM.seg_sub hx)
    refine lc_it (walk_list (xs := (TM.names g).map V.str)) (fun i h => h L = some (.lst ((((TM.names g).take i).filter fun n => decide (n ∈ x :: TM.names k)).map V.str)) ∧ Same H1 h)
      ⟨upd_same, Same.new nL⟩ (fun i h _ ⟨_, s⟩ => .of (s _ _ (s1 _ _ h2))) ?_ ?_
    · rintro i v h h' hi ⟨e4, s4⟩ ⟨rfl, hv⟩
      rw [List.length_map] at hi
      obtain ⟨n, hn, rfl⟩ : ∃ n, (TM.names g)[i]? = some n ∧ v = V.str n := by
        rw [List.getElem?_map, List.getElem?_eq_getElem hi] at hv
        exact ⟨_, List.getElem?_eq_getElem hi, (Option.some.inj hv).symm⟩
      have hnm : n ∈ TM.names g := List.mem_of_getElem? hn
      obtain ⟨an, kn, hln⟩ := TM.loc_names hnm
      have ht : (TM.names g).take (i + 1) = (TM.names g).take i ++ [n] := by rw [List.take_add_one, hn]; rfl
      have hlen : ∀ l : List Str, l = ((TM.names g).take i).filter (fun n => decide (n ∈ x :: TM.names k)) → l.length < sizeLine := by
        intro l e
        rw [e]
        have := List.length_filter_le (fun n => decide (n ∈ x :: TM.names k)) ((TM.names g).take i)
        rw [List.length_take] at this
        exact line100' (by omega)
      have put : ∀ (hh : Hp), n ∈ x :: TM.names k → hh L = some (.lst ((((TM.names g).take i).filter fun n => decide (n ∈ x :: TM.names k)).map V.str)) → Same H1 hh →
          (upd hh L (.lst ((((TM.names g).take i).filter fun n => decide (n ∈ x :: TM.names k)).map V.str ++ [.str n])) L = some (.lst ((((TM.names g).take (i + 1)).filter fun n => decide (n ∈ x :: TM.names k)).map V.str)) ∧ Same H1 (upd hh L (.lst ((((TM.names g).take i).filter fun n => decide (n ∈ x :: TM.names k)).map V.str ++ [.str n])))) := by
        intro hh hm he hs
        refine ⟨?_, Same.mut hs nL⟩
        rw [upd_same, ht, List.filter_append, List.filter_cons_of_pos (p := fun n => decide (n ∈ x :: TM.names k)) (a := n) (l := []) (decide_eq_true hm), List.map_append]
        rfl
      refine ⟨rfl, ?_⟩
      refine ⟨_, rfl, _, rfl, rfl, _, rfl, ?_⟩
      by_cases hxn : n = x
      · rw [decide_eq_true (congrArg V.str hxn)]
        refine ⟨_, rfl, _, e4, ?_, put _ (by rw [hxn]; exact List.mem_cons_self) e4 s4⟩
        rw [List.length_map]
        exact hlen _ rfl
      · rw [decide_eq_false (fun z : V.str n = V.str x => hxn (V.str.inj z))]
        have s5 := s1.trans s4
        refine ⟨_, rfl, _, rfl, p, dx, _, rfl, s5 _ _ h1, noabv _ _, _, rfl, p, g, n, an, kn, rfl, tr.same s5, ok, hln, fun H5 L5 s6 n5 e5 => ?_⟩
        refine ⟨L5, _, rfl, .inl (.of e5), rfl, TX.flat_strs _, _, rfl, ?_⟩
        show if inV (V.str x) (an.map V.str) = true then _ else _
        rw [inV_str]
        have eL5 := s6 _ _ e4
        have hiff : x ∈ an ↔ n ∈ TM.names k := TM.up_down ok.nd hx hln
        by_cases hm : x ∈ an
        · rw [decide_eq_true hm]
          refine ⟨_, rfl, _, eL5, ?_, put _ (List.mem_cons_of_mem _ (hiff.mp hm)) eL5 (s4.trans s6)⟩
          rw [List.length_map]
          exact hlen _ rfl
        · rw [decide_eq_false hm]
          refine ⟨?_, s4.trans s6⟩
          have hno : n ∉ x :: TM.names k := fun z => (List.mem_cons.mp z).elim hxn fun z => hm (hiff.mpr z)
          rw [ht, List.filter_append, List.filter_cons_of_neg (p := fun n => decide (n ∈ x :: TM.names k)) (a := n) (l := []) (fun z => hno (of_decide_eq_true z)), List.filter_nil, List.append_nil]
          exact eL5
    · rintro h ⟨e4, s4⟩
      rw [List.length_map, List.take_length, fin] at e4
      exact q h L (s1.trans s4) (s1.free nL) e4
end
end T10

set_option maxHeartbeats 1000000
namespace T10
open PySem L2 PyProof.Rows TX TY
section
variable {P : Program} {w : World} {K : PySem.W.Frag} {mg : Str → Option Value} {base : Heap}
variable {fN fC fP fT fO : Addr} {dN dC dP dT dO : FuncData}
variable {C fc fv fa fb fk fi : Addr} {dc dv da db dk di : FuncData}
theorem sc_tchildren : FnScope ["self", "column", "name"] ["self", "column"] (defScope s_tchildren) := ⟨rfl, rfl, rfl, by decide +kernel, rfl, by decide +kernel, by decide +kernel⟩
/-- the tops, or what stands right beneath a name -/
def Kids (f : TM.Fo) (o : Option Str) (ks : List Str) : Prop := (o = none ∧ ks = TM.tops f) ∨ ∃ x a k, o = some x ∧ TM.loc f x = some (a, k) ∧ ks = TM.tops k
theorem lastOr_none (a : List Str) : TM.lastOr a none = a.getLast? := by unfold TM.lastOr; cases a.getLast? <;> rfl
theorem kids_iff {f : TM.Fo} (ok : FoOk f) {o : Option Str} {ks : List Str} (h : Kids f o ks) {n : Str} {an : List Str} {kn : TM.Fo} (hn : TM.loc f n = some (an, kn)) : TM.lastOr an none = o ↔ n ∈ ks := by
  rw [lastOr_none]
  rcases h with ⟨rfl, rfl⟩ | ⟨x, a, k, rfl, hx, rfl⟩
  · rw [TM.loc_top ok.nd, List.getLast?_eq_none_iff]
    constructor
    · rintro rfl
      exact ⟨kn, hn⟩
    · rintro ⟨q, h⟩
      rw [hn] at h
      exact (Prod.mk.inj (Option.some.inj h)).1
  · exact TM.kid_iff ok.nd (List.nodup_cons.mp (TM.sub_nodup ok.nd hx)).2 hx hn
theorem kids_sub {f : TM.Fo} {o : Option Str} {ks : List Str} (h : Kids f o ks) : ks.Sublist (TM.names f) := by
  rcases h with ⟨rfl, rfl⟩ | ⟨x, a, k, rfl, hx, rfl⟩
  · exact TM.tops_sub f
  · exact (TM.tops_sub k).trans ((List.sublist_cons_self _ _).trans (TM.seg_sub hx))
def sp_tchildren (C : Addr) : Sp := fun vs H Q _ => ∃ (p : Addr) (f : TM.Fo) (o : Option Str) (ks : List Str), vs = [.ref p, optV o] ∧ TreeAt C H p f ∧ FoOk f ∧ Kids f o ks ∧ ∀ H' L, Same H H' → H L = none → H' L = some (.lst (ks.map V.str)) → Q (.ref L) H'
theorem scal_opt (o u : Option Str) : scal (optV o) (optV u) = true := by cases o <;> cases u <;> rfl
theorem dec_opt (o u : Option Str) : decide (optV o = optV u) = decide (o = u) := by
  by_cases h : o = u
  · rw [decide_eq_true h, decide_eq_true (congrArg optV h)]
  · rw [decide_eq_false h, decide_eq_false fun z => h (optV_inj z)]
theorem ok_tchildren (F : FunD K "children" "Tree.children" (defArgs s_tchildren) (defBody s_tchildren) (defScope s_tchildren) [.non] [] fk dk) (M : Mt K C "check_column" "Tree.check_column" s_tcheck ["self", "column"] fc dc)
    (T : Kd K mg fN fC fP fT fO dN dC dP dT dO) (c : Tc K mg C) : FnOk P w K mg base CX0 4 fk dk ["self", "column"] (sp_tchildren C) := by
  have GK : FnOk P w K mg base CX0 3 fc dc ["self", "column"] (sp_tcheck C) := ok_tcheck M.F T c
  refine F.ok sc_tchildren (fun vs H Q E h => ?_) (fun cdv A outer s H vs Q E hr h => ?_)
  · obtain ⟨p, g, o, ks, rfl, _⟩ := h
    rfl
  · obtain ⟨p, g, o, ks, rfl, tr, ok, hk, q⟩ := h
    have hu := hu_of hr
    obtain ⟨dx, l, d, h1, h2, h3⟩ := id tr
    have nd := sc_tchildren.nd
    refine ⟨_, pss_cons (ps_if (pt_cmp (pc_notN (pv 1))) (pss_one (ps_expr (pe_meth (pv 0) c.cl M.me GK hr M.b .nil pass0 (pa_cons (pv 1) pa_nil)))) pss_nil)
      (pss_one (ps_ret (pe_lc (own := [("name", 2)]) (g := gName 2) (tt := tTest (tOp rEq (tDGet (tFld K (tVar 0) "_over") (tVar 2)) (tVar 1))) (te := tVar 2) rfl nd (pi_list (pe_fld (pv 0) rfl))
          (blkOk_by (N := ["self", "column", "name"]) (sc := defScope s_tchildren) (by decide +kernel)) (fun _ _ _ _ _ => pg_name (i := 2) nd rfl (Or.inl rfl))
          (fun _ _ _ _ _ => pts_one (pt_cmpR op_eq (pe_dget hu (pe_fld (pv 0) rfl) (pv 2) (fun _ _ => rfl)) (pv 1) (nomark _))) (fun _ _ _ _ _ => pv 2)))), ?_⟩
    have hle := ok.le
    have fin : ((TM.names g).filter fun n => decide (n ∈ ks)) = ks := TM.filter_mem ok.nd (kids_sub hk)
    -- the comprehension, whatever was checked
    have comp : ∀ H1, Same H H1 → tLc (iList K (tFld K (tVar 0) "_columns")) (gName 2) (tTest (tOp rEq (tDGet (tFld K (tVar 0) "_over") (tVar 2)) (tVar 1))) (tVar 2) [2] [some (.ref p), some (optV o), none] H1 Q := by
      intro H1 s1
      refine lc_all (K := K) (l := l) (xs := (TM.names g).map V.str) (g := id) (p := fun v => decide (v ∈ ks.map V.str)) ⟨_, rfl, p, C, dx, _, _, rfl, s1 _ _ h1, c.cl, c.nC, tflds_col _ _, rfl, fun _ _ e => e⟩ mono_fld (.of (s1 _ _ h2)) (by rw [List.length_map]; omega) ?_ ?_ ?_
      · intro x hx h s2 h' s3 Q' q'
        obtain ⟨n, hn, rfl⟩ := List.mem_map.mp hx
        obtain ⟨an, kn, hln⟩ := TM.loc_names hn
        have s4 := (s1.trans s2).trans s3
        refine ⟨_, rfl, p, C, dx, _, _, rfl, s4 _ _ h1, c.cl, c.nO, tflds_over _ _, _, rfl, d, _, rfl, .inl ⟨_, Sum.inr n, .inl (s4 _ _ h3), rfl, (over_get ok hln).symm⟩, _, rfl, scal_opt _ _, _, rfl, ?_⟩
        rw [dec_opt]
        have e : decide (TM.lastOr an none = o) = decide (V.str n ∈ ks.map V.str) := by
          have i := kids_iff ok hk hln
          by_cases hm : n ∈ ks
          · rw [decide_eq_true (i.mpr hm), decide_eq_true (List.mem_map.mpr ⟨n, hm, rfl⟩)]
          · rw [decide_eq_false fun z => hm (i.mp z), decide_eq_false]
            intro z
            obtain ⟨m, hm2, e2⟩ := List.mem_map.mp z
            exact hm (V.str.inj e2 ▸ hm2)
        rw [e]
        exact q' h' fun _ _ e => e
      · intro x hx _ h s2
        exact ee_var rfl
      · intro L h s2 nL e
        refine q h L (s1.trans s2) (s1.free nL) ?_
        rw [e, List.map_id, filter_strs (TM.names g) (fun n => decide (n ∈ ks)) _ fun n _ => ?_, fin]
        by_cases hm : n ∈ ks
        · rw [decide_eq_true hm, decide_eq_true (List.mem_map.mpr ⟨n, hm, rfl⟩)]
        · rw [decide_eq_false hm, decide_eq_false]
          intro z
          obtain ⟨m, hm2, e2⟩ := List.mem_map.mp z
          exact hm (V.str.inj e2 ▸ hm2)
    rcases id hk with ⟨rfl, _⟩ | ⟨x, a, k, rfl, hx, _⟩
    · exact ⟨_, rfl, _, rfl, comp H fun _ _ e => e⟩
    · refine ⟨_, rfl, _, rfl, ?_⟩
      exact ⟨_, rfl, p, dx, _, rfl, h1, nochk _ _, _, rfl, p, g, x, rfl, tr, ok, TM.loc_mem hx, fun H1 s1 => comp H1 s1⟩
end
end T10

set_option maxHeartbeats 2000000
/-! Rules of our own: != of an instance whose class has an own __eq__ alone; == of one, whatever it says. -/
namespace TY
open PySem L2 PyProof.Rows TX
section
variable {prog : Program} {w : World} {A : Around} {E : Value → Shared → Prop} {s : Shared} {K : PySem.W.Frag} {x C f : Addr} {ox : Obj} {od : Option Obj} {b tb : Value}
theorem ifBound_B {M : Model} {id : String} {name : Str} {args : List Value} {Q : Option Value → Shared → Prop} (X : K.In s.heap) (I : PySem.W.InstAt s.heap x ox C od) (hs : PySem.W.findIn K (.ref C) name = some (some (.builtin id)))
    (hb : ∀ self, bindSpecial (.builtin id) self = pure (.builtin id, [self])) (h : wpAny M A (call (.builtin id) (.ref x :: args)) (fun v => Q (some v)) E s) : wpAny M A (callSpecialIfBound? (.ref x) name args) Q E s := by
  simp only [callSpecialIfBound?, bindSpecialIfBound?]
  refine wpAny_holding (wpAny_bind (wpAny_bind (wpAny_bind (I.type.here ((PySem.W.looks_findIn X hs).here ?_)))))
  refine wpAny_bind (wpAny_askSetting (wpAny_ite ?_))
  have fin : wpAny M A (call (.builtin id) ([.ref x] ++ args) >>= fun v => pure (some v)) Q E s := wpAny_bind (wpAny_mono h (fun v s' h' => wpAny_pure h') fun _ _ h' => h')
  rw [hb]
  split
  · exact wpAny_bind (wpAny_pure (wpAny_pure (by exact fin)))
  · exact wpAny_tryCatch (wpAny_bind (wpAny_pure (wpAny_pure (by exact fin))))
theorem objNe_own (hu : A.units < cLine) (X : K.In s.heap) (I : PySem.W.InstAt s.heap x ox C od) (hs : PySem.W.findIn K (.ref C) "__eq__" = some (some (.ref f))) (hf : PySem.W.isFn K (.ref f) = true) {Q : Fin → Shared → Prop}
    (h : wpAny (model prog w) A (call (.ref f) [.ref x, b]) (fun v s' => ∃ r, v = .bool r ∧ Q (.done (.ret (.bool (!r)))) s') E s) : wpAny (model prog w) A (Builtin.«object.__ne__» ⟨[.ref x, b], []⟩) Q E s := by
  have step : ∀ {Q' : Option Value → Shared → Prop}, (∀ r s', Q (.done (.ret (.bool (!r)))) s' → Q' (some (.bool r)) s') → wpAny (model prog w) A (callSpecialIfBound? (.ref x) "__eq__" [b]) Q' E s := fun hq =>
    PySem.W.ifBound_K X I hs hf (wpAny_mono h (fun v s' ⟨r, e, q⟩ => by subst e; exact hq r s' q) fun _ _ e => e)
  unfold Builtin.«object.__ne__»
  repeat (first | with_reducible refine wpAny_cRoomFor hu ?_ | with_reducible refine step (fun r s' q => ?_) | wp_step)
  exact q
theorem looks_obj {M : Model} (X : K.In s.heap) (I : PySem.W.InstAt s.heap x ox C od) (hm : PySem.W.mroIn K C (.type "object") = some true) : PySem.W.Looks M s.heap (isInstance (.ref x) (.type "object")) true := I.type.andThen (PySem.W.looks_mroIn X hm)
/-- x != b, the class having an own __eq__ alone -/
theorem ne_own {Q : Value → Shared → Prop} (hu : A.units + 1 < cLine) (X : K.In s.heap) (I : PySem.W.InstAt s.heap x ox C od) (hm : PySem.W.mroIn K C (.type "object") = some true) (hb : PySem.W.Looks (model prog w) s.heap (typeOf b) tb) (hn : PySem.W.notFirst K C tb = true)
    (hne : PySem.W.findIn K (.ref C) "__ne__" = some (some (.builtin "object.__ne__"))) (hs : PySem.W.findIn K (.ref C) "__eq__" = some (some (.ref f))) (hf : PySem.W.isFn K (.ref f) = true)
    (h : wpAny (model prog w) A.in1 (call (.ref f) [.ref x, b]) (fun v s' => ∃ r, v = .bool r ∧ Q (.bool (!r)) s') E s) : wpAny (model prog w) A (richCompare .NotEq (.ref x) b) Q E s := by
  have one : wpAny (model prog w) A (tryCompare (.ref x) (cmpInfo .NotEq).2.1 b) (fun r s' => ∃ v, r = some v ∧ Q v s') E s := by
    unfold tryCompare
    refine wpAny_bind (ifBound_B X I hne F.slot_tuple_iterator_ne.bind (wpAny_call (codeAny_call_builtin F.slot_tuple_iterator_ne.plain F.cmpEntry_ne ?_)))
    refine @PySem.W.check_slot (model prog w) _ _ s "object.__ne__" "object" "__ne__" (.ref x) [b] [] _ F.cmpKind_ne F.cmpSplit_ne (looks_obj X I hm) (F.cmpArgs_ne _ _) ?_
    refine objNe_own (by show A.in1.units < cLine; have : A.in1.units = A.units + 1 := rfl; omega) X I hs hf (wpAny_mono h (fun v s' ⟨r, e, q⟩ => ⟨r, e, ?_⟩) fun _ _ e => e)
    exact wpAny_pure ⟨_, rfl, q⟩
  unfold richCompare
  simp only [oneThing_ref]
  refine wpAny_holding (wpAny_bind (wpAny_cRoomFor (Nat.lt_of_succ_lt hu) ?_))
  refine wpAny_bind (I.type.here (wpAny_bind (hb.here ?_)))
  split
  · rename_i q
    have e : PySem.W.subIn K tb (.ref C) = some false := by
      rcases Bool.or_eq_true_iff.mp hn with e | e
      · rw [beq_iff_eq.mp e] at q; simp at q
      · exact beq_iff_eq.mp e
    refine wpAny_bind ((PySem.W.looks_subIn X e).here ?_)
    simp only [Bool.false_eq_true, if_false]
    refine wpAny_bind (wpAny_mono one (fun r s' z => ?_) fun _ _ e => e)
    obtain ⟨v, rfl, hq⟩ := z
    exact wpAny_pure hq
  · refine wpAny_bind (wpAny_pure ?_)
    simp only [Bool.false_eq_true, if_false]
    refine wpAny_bind (wpAny_mono one (fun r s' z => ?_) fun _ _ e => e)
    obtain ⟨v, rfl, hq⟩ := z
    exact wpAny_pure hq
end
/-! ### as expressions -/
section
variable {X : Cx} {CX : CXT} {n : Nat} {C f : Addr} {fd : FuncData} {ps : List Str} {sp : Sp} {E : XK}
/-- x == y and x != y by an own __eq__ -/
def rOwnEq (K : PySem.W.Frag) (C : Addr) (sp : Sp) (E : XK) (neg : Bool) : R2 := fun x y H Q => ∃ (a dx : Addr) (fs : List (Str × V)) (t : Value), x = .ref a ∧ H a = some (.ins C dx fs) ∧ TyX K H y t ∧ PySem.W.notFirst K C t = true ∧
  sp [x, y] H (fun v H' => ∃ r, v = .bl r ∧ Q (.bl (if neg = true then !r else r)) H') E
theorem run_own {A : Around} {pins : List (Addr × Obj)} {s : Shared} {σ : L2.St} {H : Hp} {x y : V} {v u : Value} {Q : VK} (F : FnOk X.prog X.w X.K X.mg X.base CX n f fd ps sp) (hb : Binds X.K fd ps []) (hx : Passes CX X E) (hr : Room n A) (hf : A.frames = X.A.frames)
    (I : Inv X pins σ H s) (rx : RelV x v) (ry : RelV y u) (h : sp [x, y] H Q E) : wpAny (model X.prog X.w) A (call (.ref f) [v, u]) (EP X pins σ Q) X.xe s := by
  have e0 : Env0 X.prog X.w X.K X.mg X.base A X.stack s H := by
    have e := I.env0
    exact ⟨by rw [hf]; exact e.frames, e.mod, e.bs, e.bsz, e.funs, e.frf, e.hok, e.bare⟩
  have hl := F.len _ _ _ _ h
  have r2 : Vals [x, y] [v, u] := .cons rx (.cons ry .nil)
  refine wpAny_call (codeAny_mono (F.run A X.stack s H ⟨[v, u], []⟩ [v, u] [x, y] _ E hr e0 (by
    have := hb s [v, u] I.kIn (by simpa using hl)
    simpa using this) r2 h) fun r s' hq => ?_)
  cases r with
  | error e => exact hx pins σ H s e s' I hq
  | ok fl =>
    cases fl with
    | ret w => exact I.after hq
    | next => exact False.elim hq
    | brk => exact False.elim hq
    | cont => exact False.elim hq
theorem op_eqOwn (F : FnOk X.prog X.w X.K X.mg X.base CX n f fd ps sp) (hs : PySem.W.findIn X.K (.ref C) "__eq__" = some (some (.ref f))) (hf : PySem.W.isFn X.K (.ref f) = true) (hb : Binds X.K fd ps []) (hx : Passes CX X E) (hr : Room n X.A) :
    OpR X (compareOp .Eq) (rOwnEq X.K C sp E false) := by
  intro pins s σ H x y v u Q I rx ry h
  obtain ⟨a, dx, fs, t, rfl, ha, ty, hn, q⟩ := h
  cases (show v = Value.ref a from rx)
  obtain ⟨mA, J, _⟩ := ins_get I.hok ha
  obtain ⟨od, J, _⟩ := J.look
  obtain ⟨P, Z, p, _⟩ := kit_of I ry ty
  obtain ⟨m, hF⟩ := I.fr
  refine PySem.W.cmp_ofEq (PySem.W.cmp_K (op := .Eq) (tb := t) hr.units0 hF I.ok.mod.kin J (Z.ty _ _ I.kIn p) hn hs hf ?_)
  refine wpAny_mono (run_own F hb hx hr rfl I rx ry q) (fun w s' z => ?_) fun _ _ e => e
  obtain ⟨z', H', I', rz, r, ez, qz⟩ := z
  subst ez
  cases (show w = Value.bool r from rz)
  exact ⟨.bl r, H', I', rfl, qz⟩
theorem op_neOwn (F : FnOk X.prog X.w X.K X.mg X.base CX n f fd ps sp) (hm : PySem.W.mroIn X.K C (.type "object") = some true) (hne : PySem.W.findIn X.K (.ref C) "__ne__" = some (some (.builtin "object.__ne__")))
    (hs : PySem.W.findIn X.K (.ref C) "__eq__" = some (some (.ref f))) (hf : PySem.W.isFn X.K (.ref f) = true) (hb : Binds X.K fd ps []) (hx : Passes CX X E) (hr : Room (n + 1) X.A) : OpR X (compareOp .NotEq) (rOwnEq X.K C sp E true) := by
  intro pins s σ H x y v u Q I rx ry h
  obtain ⟨a, dx, fs, t, rfl, ha, ty, hn, q⟩ := h
  cases (show v = Value.ref a from rx)
  obtain ⟨mA, J, _⟩ := ins_get I.hok ha
  obtain ⟨od, J, _⟩ := J.look
  obtain ⟨P, Z, p, _⟩ := kit_of I ry ty
  have hr1 : Room n X.A.in1 := hr.in1
  have hu : X.A.units + 1 < cLine := by
    have := hr1.units0
    exact this
  refine PySem.W.cmp_ofNotEq (ne_own hu I.kIn J hm (Z.ty _ _ I.kIn p) hn hne hs hf ?_)
  refine wpAny_mono (run_own F hb hx hr1 rfl I rx ry q) (fun w s' z => ?_) fun _ _ e => e
  obtain ⟨z', H', I', rz, r, ez, qz⟩ := z
  subst ez
  cases (show w = Value.bool r from rz)
  exact ⟨r, rfl, .bl (!r), H', I', rfl, qz⟩
end
end TY

set_option maxHeartbeats 2000000
/-! Rules of our own: dict == dict that may be False; str(o) by an own __str__. -/
namespace TQ
open PySem L2 PyProof.Rows TX TY
section
variable {κ : Type} [DecidableEq κ]
/-- whether each entry has its like -/
def likes (ls : List (κ × V)) (p : κ × V) : Bool := match valV ls p.1 with
  | some y => eqV p.2 y
  | none => false
theorem hits_any {A : Around} {s : Shared} {ls : List (κ × V)} {vb : List (κ × Value)} (rb : KV ls vb) (fb : ∀ p ∈ ls, flatV p.2 = true) : ∀ {ks : List (κ × V)} {va : List (κ × Value)}, KV ks va → (∀ p ∈ ks, flatV p.2 = true) → PySem.W.KeqHits A s vb va (ks.all (likes ls)) := by
  intro ks va ra
  unfold KV at ra
  induction ra with
  | nil => intro _; exact .nil
  | @cons p q ps qs h t ih =>
    intro hp
    obtain ⟨k, v⟩ := q
    obtain ⟨h1, h2⟩ := h
    have h1' : p.1 = k := h1
    subst h1'
    have rr := rb.val p.1
    rw [List.all_cons]
    cases e : valV ls p.1 with
    | none =>
      have e2 : likes ls p = false := by unfold likes; rw [e]
      rw [e] at rr
      rw [e2, Bool.false_and]
      refine .miss ?_
      cases hv : valueAt vb p.1 with
      | none => rfl
      | some y => rw [hv] at rr; cases rr
    | some y =>
      have e2 : likes ls p = eqV p.2 y := by unfold likes; rw [e]
      rw [e] at rr
      rw [e2]
      obtain ⟨u, hu, ru⟩ := rr.some_of
      have fy : flatV y = true := by
        unfold valV at e
        rw [Option.map_eq_some_iff] at e
        obtain ⟨q, hq, rfl⟩ := e
        exact fb q (List.mem_of_find?_eq_some hq)
      exact .hit hu (eqAt_V h2 ru (hp p List.mem_cons_self) fy) (ih fun q hq => hp q (List.mem_cons_of_mem _ hq))
end
section
variable {X : Cx}
/-- d == e -/
def rEqDB : R2 := fun x y H Q => ∃ a b ks ls, x = .ref a ∧ y = .ref b ∧ H a = some (.dK ks) ∧ H b = some (.dK ls) ∧ (∀ p ∈ ks, flatV p.2 = true) ∧ (∀ p ∈ ls, flatV p.2 = true) ∧ Q (.bl (ks.length == ls.length && ks.all (likes ls))) H
theorem op_eqDB (hu : X.A.units < cLine) : OpR X (compareOp .Eq) rEqDB := by
  intro pins s σ H x y v u Q I rx ry h
  obtain ⟨a, b, ks, ls, rfl, rfl, ea, eb, fa, fb, q⟩ := h
  cases (show v = Value.ref a from rx)
  cases (show u = Value.ref b from ry)
  obtain ⟨_, ya, va, ra, da⟩ := (show ObjOk X.prog X.w H s.heap a (.dK ks) from I.hok a _ ea)
  obtain ⟨_, yb, vb, rb, db⟩ := (show ObjOk X.prog X.w H s.heap b (.dK ls) from I.hok b _ eb)
  have la : va.length = ks.length := ra.length.symm
  have lb : vb.length = ls.length := rb.length.symm
  refine PySem.W.keq_eq (knd := mixKind X.prog X.w) (r := ks.all (likes ls)) ya yb da db hu (fun _ => hits_any rb fb ra fa) (fin_bl I q ?_)
  rw [la, lb]
theorem mi_str {P : Program} {w : World} {v : Value} {S : PySem.Spec} (hs : ∀ (A : Around) (R : Result → Shared → Prop) (s : Shared), S A R s → wpAny (model P w) A.in1 (Builtin.Str.strOf v) (fun r s' => R (.ok (.ret r)) s') (fun e s' => R (.error e) s') s) :
    MeetsIn P w (Builtin.«str.__new__» ⟨[.type "str", v], []⟩) S := MeetsIn.of_wp fun A R s h => by
  rw [str_new_tree v]
  exact wpAny_bind (wpAny_pure (wpAny_bind (wpAny_of_eq isSubtype_str_str (wpAny_bind (wpAny_mono (hs A R s h) (fun r s' h' => wpAny_pure ⟨_, rfl, h'⟩) fun _ _ e => e)))))
/-- str(o) by an own __str__ -/
def rStrO (C : Addr) (sp : Sp) (E : XK) : List V → Hp → VK → Prop := fun xs H Q => ∃ a dx fs, xs = [.ref a] ∧ H a = some (.ins C dx fs) ∧ sp [.ref a] H (fun v H' => ∃ y : Str, v = .str y ∧ Q (.str y) H') E
theorem call_strO {CX : CXT} {C f : Addr} {fd : FuncData} {ps : List Str} {sp : Sp} {E : XK} {n : Nat} (G : FnOk X.prog X.w X.K X.mg X.base CX n f fd ps sp) (hs : PySem.W.findIn X.K (.ref C) "__str__" = some (some (.ref f)))
    (hf : PySem.W.isFn X.K (.ref f) = true) (hb : Binds X.K fd ps []) (hx : Passes CX X E) (hr : Room (n + 2) X.A) : CallR X (.type "str") (rStrO C sp E) := by
  intro pins s σ H xs us Q I r h
  obtain ⟨a, dx, fs, rfl, ha, hsp⟩ := h
  obtain ⟨u, rfl, rx⟩ := vals1 r
  cases rx
  obtain ⟨mA, J, _⟩ := ins_get I.hok ha
  obtain ⟨od, J, _⟩ := J.look
  obtain ⟨m, hF⟩ := I.fr
  have hin : Room (n + 1) X.A.in1 := hr.in1
  have h1 : Room n X.A.in1.in1 := hin.in1
  refine callType_newIn (T := "str") (S := fun A' R s' => wpAny (model X.prog X.w) A'.in1 (Builtin.Str.strOf (.ref a)) (fun r s' => R (.ok (.ret r)) s') (fun e s' => R (.error e) s') s') F.called_str (by decide) (F.typeCall_str_1 _) (F.newCall_str_1 _) (fun obj => F.args_object_init_2 obj _) F.entry_str_new
    (mi_str fun A' R s' h => h) ?_
  show wpAny _ X.A.in1.in1 (Builtin.Str.strOf (.ref a)) _ _ s
  unfold Builtin.Str.strOf
  refine wpAny_bind (m := cRoomFor "str" _) (wpAny_cRoomFor h1.units0 ?_)
  refine wpAny_bind (m := callSpecial? (.ref a) (PySem.Str.ofString "__str__")) (PySem.W.special_fn I.kIn J hs (beq_iff_eq.mp hf) ?_)
  have e0 : Env0 X.prog X.w X.K X.mg X.base X.A.in1.in1 X.stack s H := by
    have e := I.env0
    exact ⟨e.frames, e.mod, e.bs, e.bsz, e.funs, e.frf, e.hok, e.bare⟩
  have hl := G.len _ _ _ _ hsp
  refine wpAny_call (codeAny_mono (G.run X.A.in1.in1 X.stack s H ⟨[.ref a], []⟩ [.ref a] [.ref a] _ E h1 e0 (by
    have := hb s [.ref a] I.kIn (by simpa using hl)
    simpa using this) (.cons rfl .nil) hsp) fun r s' hq => ?_)
  cases r with
  | error e => exact hx pins σ H s e s' I hq
  | ok fl =>
    cases fl with
    | ret u =>
      obtain ⟨z, H', I', rz, y, ez, q⟩ := I.after hq
      subst ez
      obtain ⟨t, rfl⟩ := rz
      refine wpAny_bind (wpAny_pure ?_)
      exact wpAny_pure ⟨typeIs_str _ _ _, .str y, H', I', ⟨t, rfl⟩, q⟩
    | next => exact False.elim hq
    | brk => exact False.elim hq
    | cont => exact False.elim hq
end
end TQ

/-! The text of a forest. -/
namespace TT
open PySem L2 PyProof.Rows TX TM
def cm : Str := ","
def word (c : Str) (ws : List Str) : Str := if ws = [] then c else c ++ ("(" ++ Txt.join cm ws ++ ")")
def txts : Fo → List Str
  | .nil => []
  | .cons c k r => word c (txts k) :: txts r
theorem s_assoc (a b c : Str) : a ++ b ++ c = a ++ (b ++ c) := by
  rw [S_eta a, S_eta b, S_eta c, S_app, S_app, S_app, S_app, List.append_assoc]
theorem word_some {c : Str} {ws : List Str} (h : ws ≠ []) : word c ws = Str.empty ++ c ++ "(" ++ Txt.join cm ws ++ ")" := by
  have e0 : Str.empty ++ c = c := by
    have : Str.empty = S [] := rfl
    rw [this, S_eta c, S_app, List.nil_append]
  unfold word
  rw [if_neg h, e0, s_assoc, s_assoc, s_assoc]
theorem jn (ws : List Str) : Txt.join cm ws = Str.join cm ws := by
  show Builtin.Str.glued cm ws = _
  rw [StrLaws.glued_eq_join]
theorem join_len : ∀ ws : List Str, (Txt.join cm ws).length ≤ (ws.map (·.length)).sum + ws.length := by
  intro ws
  rw [jn]
  induction ws with
  | nil => exact Nat.zero_le _
  | cons x r ih =>
    cases r with
    | nil =>
      show x.length ≤ _
      rw [List.map_cons, List.sum_cons]
      omega
    | cons y t =>
      show (x ++ cm ++ Str.join cm (y :: t)).length ≤ _
      rw [sapp_len, sapp_len, List.map_cons, List.sum_cons, List.length_cons]
      have : cm.length = 1 := by decide +kernel
      omega
theorem join_pos {x : Str} {ws : List Str} (h : 1 ≤ x.length) : 1 ≤ (Txt.join cm (x :: ws)).length := by
  rw [jn]
  cases ws with
  | nil => exact h
  | cons y t =>
    show 1 ≤ (x ++ cm ++ Str.join cm (y :: t)).length
    rw [sapp_len, sapp_len]
    omega
theorem word_ge (c : Str) (ws : List Str) : c.length ≤ (word c ws).length := by
  unfold word
  split
  · exact Nat.le_refl _
  · rw [sapp_len]
    omega
theorem brak_len (z : Str) : ("(" ++ z ++ ")" : Str).length = z.length + 2 := by
  rw [sapp_len, sapp_len]
  have h1 : ("(" : Str).length = 1 := by decide +kernel
  have h2 : (")" : Str).length = 1 := by decide +kernel
  omega
/-- all words of a forest are short -/
theorem txts_len : ∀ (f : Fo), (∀ x ∈ names f, x.length ≤ 8) → ((txts f).map (·.length)).sum + (txts f).length ≤ 12 * (names f).length
  | .nil, _ => Nat.le_refl _
  | .cons c k r, h => by
    have e0 : names (.cons c k r) = c :: (names k ++ names r) := rfl
    rw [e0] at h ⊢
    have hk := txts_len k fun x hx => h x (List.mem_cons_of_mem _ (List.mem_append_left _ hx))
    have hr := txts_len r fun x hx => h x (List.mem_cons_of_mem _ (List.mem_append_right _ hx))
    have hc := h c List.mem_cons_self
    show ((word c (txts k) :: txts r).map (·.length)).sum + (word c (txts k) :: txts r).length ≤ _
    rw [List.map_cons, List.sum_cons, List.length_cons, List.length_cons, List.length_append]
    have hw : (word c (txts k)).length ≤ c.length + 2 + (((txts k).map (·.length)).sum + (txts k).length) := by
      unfold word
      split
      · omega
      · rw [sapp_len, brak_len]
        have := join_len (txts k)
        omega
    omega
theorem txts_nil {f : Fo} : txts f = [] ↔ names f = [] := by
  cases f with
  | nil => exact ⟨fun _ => rfl, fun _ => rfl⟩
  | cons c k r => exact ⟨fun h => (nomatch h), fun h => (nomatch h)⟩
theorem txts_pos {f : Fo} (h : ∀ x ∈ names f, 1 ≤ x.length) (hn : txts f ≠ []) : 1 ≤ (Txt.join cm (txts f)).length := by
  cases f with
  | nil => exact absurd rfl hn
  | cons c k r =>
    show 1 ≤ (Txt.join cm (word c (txts k) :: txts r)).length
    exact join_pos (Nat.le_trans (h c List.mem_cons_self) (word_ge _ _))
/-- the part beneath a top -/
def kid (f : Fo) (c : Str) : Fo := match loc f c with
  | some (_, q) => q
  | none => .nil
theorem txts_tops : ∀ {f : Fo}, (names f).Nodup → txts f = (tops f).map fun c => word c (txts (kid f c))
  | .nil, _ => rfl
  | .cons d k r, hn => by
    obtain ⟨n1, n2, n3, n4, n5⟩ := nd_parts hn
    show word d (txts k) :: txts r = (d :: tops r).map _
    rw [List.map_cons]
    have e1 : kid (.cons d k r) d = k := by unfold kid; rw [loc_here]
    rw [e1, txts_tops n4]
    congr 1
    apply List.map_congr_left
    intro x hx
    have hx' := (tops_sub r).subset hx
    have : kid (.cons d k r) x = kid r x := by
      unfold kid
      rw [loc_by (fun (z : d = x) => n2 (z ▸ hx')) (loc_none fun z => n5 _ z hx')]
    rw [this]
/-- as the pairs tell it -/
def wstep (ps : List Pr) (u : Option Str) (p : Pr) : List Str := if p.2 = u then [word p.1 (txts (mk ps (some p.1)))] else []
theorem txts_suffix {ps : List Pr} (va : Valid [] ps) (u : Option Str) : ∀ (t pre : List Pr), ps = pre ++ t → txts (mk t u) = t.flatMap (wstep ps u)
  | [], _, _ => rfl
  | (c, o) :: r, pre, e => by
    have hi : ps[pre.length]? = some (c, o) := by rw [e]; simp
    have h2 := ahead_at va hi
    have e4 : ps.take (pre.length + 1) = pre ++ [(c, o)] := by
      rw [e, show pre ++ (c, o) :: r = (pre ++ [(c, o)]) ++ r by simp, List.take_append_of_le_length (by simp), List.take_of_length_le (by simp)]
    have h1 : mk ps (some c) = mk r (some c) := by
      have e2 : ps = ps.take (pre.length + 1) ++ r := by rw [e4, e]; simp
      rw [e2, mk_skip h2]
    have ih := txts_suffix va u r (pre ++ [(c, o)]) (by rw [e]; simp)
    rw [List.flatMap_cons, ← ih]
    unfold wstep
    rw [h1]
    by_cases ho : o = u
    · have e5 : mk ((c, o) :: r) u = .cons c (mk r (some c)) (mk r u) := if_pos ho
      rw [e5]
      simp only [ho, if_true]
      rfl
    · have e5 : mk ((c, o) :: r) u = mk r u := if_neg ho
      rw [e5]
      simp [ho]
theorem txts_flat {ps : List Pr} (va : Valid [] ps) (u : Option Str) : txts (mk ps u) = ps.flatMap (wstep ps u) := txts_suffix va u ps [] rfl
theorem wtake {ps : List Pr} {u : Option Str} {i : Nat} {q : Pr} (h : ps[i]? = some q) : (ps.take (i + 1)).flatMap (wstep ps u) = (ps.take i).flatMap (wstep ps u) ++ wstep ps u q := by
  rw [List.take_add_one, h, List.flatMap_append]
  show _ ++ (wstep ps u q ++ []) = _
  rw [List.append_nil]
end TT

set_option maxHeartbeats 1000000
/-! Tuples: slices and sums of any kind read once; rows of whole numbers. -/
namespace TW
open PySem L2 PyProof.Rows TX
section
variable {K : PySem.W.Frag}
theorem cutV_whole {xs : List V} {lo hi : Option Int} (h : HT.sIx xs.length 0 lo = 0 ∧ HT.sIx xs.length xs.length hi = xs.length) : cutV xs lo hi = xs := by
  unfold cutV
  rw [h.1, h.2]
  simp
/-- t[lo:hi] -/
theorem sl_both {xs : List V} {lo hi : Option Int} {a : Addr} {H : Hp} {Q : VK} (h : H a = some (.tup xs)) (q : ∀ p H', Same H H' → H' p = some (.tup (cutV xs lo hi)) → Q (.ref p) H') : rSlA K (.ref a) lo hi H Q := by
  refine ⟨a, xs, rfl, .of h, fun w => q a H same_rfl ?_, fun _ p np => q p _ (Same.new np) upd_same⟩
  rw [h, cutV_whole w]
/-- t + u -/
theorem cat_both {xs ys : List V} {a b : Addr} {H : Hp} {Q : VK} (h : H a = some (.tup xs)) (k : H b = some (.tup ys)) (hl : xs.length + ys.length ≤ 1000) (q : ∀ p H', Same H H' → H' p = some (.tup (xs ++ ys)) → Q (.ref p) H') : rCatA K (.ref a) (.ref b) H Q := by
  refine ⟨a, b, xs, ys, rfl, rfl, .of h, .of k, line100 hl, fun e => ?_, fun _ e => ?_, fun _ _ p np => q p _ (Same.new np) upd_same⟩
  · subst e
    exact q b H same_rfl k
  · subst e
    refine q a H same_rfl ?_
    rw [h, List.append_nil]
theorem cut_take {xs : List V} {n : Nat} : cutV xs none (some (n : Int)) = xs.take n := by
  unfold cutV
  rw [HT.sIx_none, HT.sIx_nat, List.drop_zero, Nat.sub_zero]
  rcases Nat.le_total n xs.length with h | h
  · rw [Nat.min_eq_left h]
  · rw [Nat.min_eq_right h, List.take_of_length_le h, List.take_of_length_le (Nat.le_refl _)]
theorem cut_drop {xs : List V} {n : Nat} : cutV xs (some (n : Int)) none = xs.drop n := by
  unfold cutV
  rw [HT.sIx_none, HT.sIx_nat]
  rcases Nat.le_total n xs.length with h | h
  · rw [Nat.min_eq_left h, List.take_of_length_le (by rw [List.length_drop]; omega)]
  · rw [Nat.min_eq_right h, List.drop_of_length_le h, List.drop_of_length_le (Nat.le_refl _), List.take_nil]
theorem cut_mid {xs : List V} {n m : Nat} : cutV xs (some (n : Int)) (some (m : Int)) = (xs.drop n).take (m - n) := by
  unfold cutV
  rw [HT.sIx_nat, HT.sIx_nat]
  rcases Nat.le_total n xs.length with h | h
  · rw [Nat.min_eq_left h]
    rcases Nat.le_total m xs.length with h2 | h2
    · rw [Nat.min_eq_left h2]
    · rw [Nat.min_eq_right h2, List.take_of_length_le (Nat.le_of_eq List.length_drop), List.take_of_length_le (by rw [List.length_drop]; omega)]
  · rw [Nat.min_eq_right h, List.drop_of_length_le h, List.drop_of_length_le (Nat.le_refl _)]
    simp
end
/-- what a draw leaves as it was -/
theorem well_strs {H : Hp} {W l : Addr} {ns : List Str} (w : ∃ n, WellAt n H W) (h : H l = some (.lst (ns.map V.str))) : l ≠ W := by
  rintro rfl
  obtain ⟨n, a, b, c, e, _⟩ := w
  rw [h] at e
  cases ns with
  | nil => cases e
  | cons x r =>
    have e2 := Option.some.inj e
    injection e2 with e3
    rw [List.map_cons] at e3
    injection e3 with e4 _
    cases e4
theorem well_no {H : Hp} {W l : Addr} {o : HO} (w : ∃ n, WellAt n H W) (h : H l = some o) (k : ∀ xs, o ≠ .lst xs) : l ≠ W := by
  rintro rfl
  obtain ⟨n, a, b, c, e, _⟩ := w
  rw [h] at e
  exact k _ (Option.some.inj e)
theorem _root_.TX.TreeAt.sm {C W : Addr} {H H' : Hp} {p : Addr} {f : TM.Fo} (t : TreeAt C H p f) (s : Sm W H H') (w : ∃ n, WellAt n H W) : TreeAt C H' p f := by
  obtain ⟨dx, l, d, h1, h2, h3⟩ := t
  exact ⟨dx, l, d, s _ _ (well_no w h1 fun _ z => by cases z) h1, s _ _ (well_strs w h2) h2, s _ _ (well_no w h3 fun _ z => by cases z) h3⟩
theorem tup_sm {W : Addr} {H H' : Hp} {p : Addr} {xs : List V} (h : H p = some (.tup xs)) (s : Sm W H H') (w : ∃ n, WellAt n H W) : H' p = some (.tup xs) := s _ _ (well_no w h fun _ z => by cases z) h
/-- a whole number -/
def wholeV : V → Bool
  | .int _ => true
  | _ => false
/-- a value that no memory is asked for -/
def plainV : V → Bool
  | .int _ => true
  | .bl _ => true
  | .non => true
  | .str _ => true
  | _ => false
def numV : V → Bool
  | .int _ => true
  | .bl _ => true
  | _ => false
def truthV : V → Bool
  | .bl _ => true
  | _ => false
theorem whole_num (v : V) : wholeV v = (numV v && !truthV v) := by cases v <;> rfl
theorem plain_ty {K : PySem.W.Frag} {H : Hp} {v : V} (h : plainV v = true) : ∃ t, TyOf K H v (.type t) ∧ kitB t "int" = some (numV v) ∧ kitB t "bool" = some (truthV v) := by
  cases v with
  | int i => exact ⟨_, .int i, (by decide +kernel : kitB "int" "int" = some true), (by decide +kernel : kitB "int" "bool" = some false)⟩
  | bl b => exact ⟨_, .bl b, (by decide +kernel : kitB "bool" "int" = some true), (by decide +kernel : kitB "bool" "bool" = some true)⟩
  | non => exact ⟨_, .non, (by decide +kernel : kitB "NoneType" "int" = some false), (by decide +kernel : kitB "NoneType" "bool" = some false)⟩
  | str s => exact ⟨_, .str s, (by decide +kernel : kitB "str" "int" = some false), (by decide +kernel : kitB "str" "bool" = some false)⟩
  | _ => cases h
/-- a thing that may be a row of so many values; whether it is one -/
def RowLike (H : Hp) (v : V) (many : Nat) (b : Bool) : Prop :=
  (∃ a xs, v = .ref a ∧ H a = some (.tup xs) ∧ xs.length ≤ 100 ∧ xs.all plainV = true ∧ b = (decide (xs.length = many) && xs.all wholeV)) ∨
  (b = false ∧ (v = .non ∨ (∃ s, v = .str s) ∨ (∃ i, v = .int i) ∨ ∃ a xs, v = .ref a ∧ H a = some (.lst xs)))
theorem RowLike.same {H H' : Hp} {v : V} {many : Nat} {b : Bool} (h : RowLike H v many b) (s : Same H H') : RowLike H' v many b := by
  rcases h with ⟨a, xs, e1, e2, e3⟩ | ⟨e1, e2 | e2 | e2 | ⟨a, xs, e2, e3⟩⟩
  · exact .inl ⟨a, xs, e1, s _ _ e2, e3⟩
  · exact .inr ⟨e1, .inl e2⟩
  · exact .inr ⟨e1, .inr (.inl e2)⟩
  · exact .inr ⟨e1, .inr (.inr (.inl e2))⟩
  · exact .inr ⟨e1, .inr (.inr (.inr ⟨a, xs, e2, s _ _ e3⟩))⟩
/-- a row of whole numbers -/
theorem row_like {H : Hp} {a : Addr} {xs : List V} {n : Nat} (h : H a = some (.tup xs)) (hl : xs.length = n) (hn : n ≤ 100) (hw : xs.all wholeV = true) : RowLike H (.ref a) n true := by
  refine .inl ⟨a, xs, rfl, h, by omega, ?_, ?_⟩
  · rw [List.all_eq_true] at hw ⊢
    intro x hx
    have := hw x hx
    cases x <;> first | rfl | cases this
  · rw [decide_eq_true hl, hw]
    rfl
theorem row_of {H : Hp} {v : V} {n : Nat} (h : RowLike H v n true) : ∃ a xs, v = .ref a ∧ H a = some (.tup xs) ∧ xs.length = n ∧ xs.all wholeV = true := by
  rcases h with ⟨a, xs, e1, e2, e3, e4, e5⟩ | ⟨e1, _⟩
  · have := e5.symm
    rw [Bool.and_eq_true, decide_eq_true_iff] at this
    exact ⟨a, xs, e1, e2, this.1, this.2⟩
  · cases e1
end TW
namespace TM
open PySem L2
/-- beneath a name there is its part of the forest -/
theorem mk_loc : ∀ {t : List Pr} {seen : List Str} {u : Option Str} {c : Str} {a : List Str} {k : Fo}, Valid seen t → (∀ x, u = some x → x ∈ seen) → loc (mk t u) c = some (a, k) → mk t (some c) = k
  | [], _, u, c, a, k, _, _, h => by
    have h' : loc Fo.nil c = some (a, k) := h
    unfold loc at h'
    cases h'
  | (d, o) :: r, seen, u, c, a, k, ⟨h1, h2, h3⟩, hu, h => by
    have hin : ∀ {v : Option Str} {a' : List Str} {k' : Fo}, loc (mk r v) c = some (a', k') → c ∈ r.map Prod.fst := fun {v a' k'} g => by
      have := loc_mem g
      rw [← flat_names _ v] at this
      obtain ⟨p, hp, rfl⟩ := List.mem_map.mp this
      exact List.mem_map.mpr ⟨p, mk_sub hp, rfl⟩
    have out : c ∈ r.map Prod.fst → o ≠ some c := fun hc e => valid_notin h3 (List.mem_append_left _ (h2 c e)) hc
    have skip : o ≠ some c → mk ((d, o) :: r) (some c) = mk r (some c) := fun e => if_neg e
    by_cases ho : o = u
    · have e0 : mk ((d, o) :: r) u = .cons d (mk r (some d)) (mk r u) := if_pos ho
      rw [e0] at h
      rcases loc_cases h with ⟨rfl, rfl, rfl⟩ | ⟨_, b, rfl, g⟩ | ⟨_, _, g⟩
      · exact skip fun e => h1 (h2 d e)
      · rw [skip (out (hin g))]
        exact mk_loc h3 (fun x e => by cases e; simp) g
      · rw [skip (out (hin g))]
        exact mk_loc h3 (fun x e => List.mem_append_left _ (hu x e)) g
    · have e0 : mk ((d, o) :: r) u = mk r u := if_neg ho
      rw [e0] at h
      rw [skip (out (hin h))]
      exact mk_loc h3 (fun x e => List.mem_append_left _ (hu x e)) h
theorem ord_loc {ps : List Pr} {c : Str} {a : List Str} {k : Fo} (va : Valid [] ps) (h : loc (mk ps none) c = some (a, k)) : ord ps (some c) = names k := by
  unfold ord
  rw [mk_loc (u := none) va (fun _ e => by cases e) h]
end TM

set_option maxHeartbeats 2000000
namespace T10
open PySem L2 PyProof.Rows TX TY TQ TT
section
variable {P : Program} {w : World} {K : PySem.W.Frag} {mg : Str → Option Value} {base : Heap}
variable {fN fC fP fT fO : Addr} {dN dC dP dT dO : FuncData}
variable {C fc fv fa fb fk fi : Addr} {dc dv da db dk di : FuncData}
/-- is_above -/
theorem sc_tisabove : FnScope ["self", "one", "other"] ["self", "one", "other"] (defScope s_tisabove) := ⟨rfl, rfl, rfl, by decide +kernel, rfl, by decide +kernel, by decide +kernel⟩
def sp_tisabove (C : Addr) : Sp := fun vs H Q _ => ∃ (p : Addr) (f : TM.Fo) (x y : Str) (a : List Str) (k : TM.Fo), vs = [.ref p, .str x, .str y] ∧ TreeAt C H p f ∧ FoOk f ∧ x ∈ TM.names f ∧ TM.loc f y = some (a, k) ∧ ∀ H', Same H H' → Q (.bl (decide (x ∈ a))) H'
theorem ok_tisabove (F : Fun K "is_above" "Tree.is_above" s_tisabove fi di) (M : Mt K C "check_column" "Tree.check_column" s_tcheck ["self", "column"] fc dc) (MA : Mt K C "above" "Tree.above" s_tabove ["self", "column"] fa da)
    (T : Kd K mg fN fC fP fT fO dN dC dP dT dO) (c : Tc K mg C) : FnOk P w K mg base CX0 5 fi di ["self", "one", "other"] (sp_tisabove C) := by
  have GK : FnOk P w K mg base CX0 3 fc dc ["self", "column"] (sp_tcheck C) := ok_tcheck M.F T c
  have GA : FnOk P w K mg base CX0 4 fa da ["self", "column"] (sp_tabove C) := ok_tabove MA.F M T c
  refine F.ok sc_tisabove (fun vs H Q E h => ?_) (fun cdv A outer s H vs Q E hr h => ?_)
  · obtain ⟨p, g, x, y, a, k, rfl, _⟩ := h
    rfl
  · obtain ⟨p, g, x, y, a, k, rfl, tr, ok, hx, hy, q⟩ := h
    obtain ⟨dx, l, d, h1, h2, h3⟩ := id tr
    have r3 : Room 3 _ := hr.mono (by decide)
    refine ⟨_, pss_cons (ps_expr (pe_meth (pv 0) c.cl M.me GK r3 M.b .nil pass0 (pa_cons (pv 1) pa_nil)))
      (pss_one (ps_ret (pe_cmpR op_in_seq (pv 1) (pe_meth (pv 0) c.cl MA.me GA hr MA.b .nil pass0 (pa_cons (pv 2) pa_nil)) rfl))), ?_⟩
    refine ⟨_, rfl, p, dx, _, rfl, h1, nochk _ _, _, rfl, p, g, x, rfl, tr, ok, hx, fun H1 s1 => ?_⟩
    refine ⟨_, rfl, _, rfl, p, dx, _, rfl, s1 _ _ h1, noabv _ _, _, rfl, p, g, y, a, k, rfl, tr.same s1, ok, hy, fun H2 L s2 nL e2 => ?_⟩
    refine ⟨L, _, rfl, .inl (.of e2), rfl, TX.flat_strs _, ?_⟩
    show Q (.bl (inV (.str x) (a.map V.str))) H2
    rw [inV_str]
    exact q H2 (s1.trans s2)
abbrev N_order : List Str := ["_law_pairs_here", "_law_over", "_law_found", "_law_name", "_law_head"]
theorem sc_order : FnScope N_order ["_law_pairs_here", "_law_over"] (defScope s_order) := ⟨rfl, rfl, rfl, by decide +kernel, rfl, by decide +kernel, by decide +kernel⟩
/-- the order of a list of pairs, beneath u -/
def sp_order (n : Nat) : Sp := fun vs H Q _ => ∃ (L : Addr) (ps : List TM.Pr) (u : Option Str), vs = [.ref L, optV u] ∧ PairsAt H L ps ∧ TM.Valid [] ps ∧ ps.length ≤ 8 ∧ TM.Below ps u n ∧
  ∀ H' p, Same H H' → H p = none → H' p = some (.lst ((TM.ord ps u).map V.str)) → Q (.ref p) H'
theorem len2o {n : Nat} {vs : List V} {H : Hp} {Q : VK} {E : XK} (h : sp_order n vs H Q E) : vs.length = 2 := by
  obtain ⟨L, ps, u, rfl, _⟩ := h
  rfl
theorem ok_order {f : Addr} {fd : FuncData} (F : Fn K mg "_law_order" s_order ["_law_pairs_here", "_law_over"] f fd) : ∀ n : Nat, FnOk P w K mg base CX0 n f fd ["_law_pairs_here", "_law_over"] (sp_order n)
  | 0 => ⟨fun vs H Q E h => len2o h, fun A outer s H args us vs Q E hr e b r h => by
      obtain ⟨L, ps, u, rfl, _, _, _, ⟨pre, t, _, hlt, _⟩, _⟩ := h
      exact absurd hlt (Nat.not_lt_zero _)⟩
  | n + 1 => by
    have G := ok_order F n
    refine F.F.ok sc_order (fun vs H Q E h => len2o h) (fun cdv A outer s H vs Q E hr h => ?_)
    obtain ⟨L, ps, u, rfl, hP, va, hl8, hb, q⟩ := h
    have hu := hu_of hr
    have nd := sc_order.nd
    refine ⟨_, pss_cons (ps_set (i := 2) nd rfl (Or.inl rfl) (pe_lst pa_nil))
      (pss_cons (ps_for PassesOwn.never rfl (pi_list (pv 0)) (pg_tup rfl (pgs_cons (pg_name (i := 3) nd rfl (Or.inl rfl)) (pgs_cons (pg_name (i := 4) nd rfl (Or.inl rfl)) pgs_nil)))
        (pss_one (ps_if (pt_cmpR op_eq (pv 4) (pv 1) (nomark _))
          (pss_one (ps_set (i := 2) nd rfl (Or.inl rfl) (pe_op op_cat (pe_op op_cat (pv 2) (pe_lst (pa_cons (pv 3) pa_nil))) (pe_call G hr rfl F.g F.F.kp F.b .nil pass0 (pa_cons (pv 0) (pa_cons (pv 3) pa_nil)))))) pss_nil)))
      (pss_one (ps_ret (pv 2)))), ?_⟩
    obtain ⟨as, eL, ta⟩ := id hP
    have hal := ta.len
    refine ⟨by decide, fun p np => ?_⟩
    have s0 : Same H (upd H p (.lst [])) := Same.new np
    refine ⟨_, rfl, L, rfl, ⟨_, .of (s0 _ _ eL)⟩, ?_⟩
    refine for_it (walk_list (xs := as.map V.ref)) (fun i σ h => ∃ (p' : Addr) (v3 v4 : Option V), σ = [some (.ref L), some (optV u), some (.ref p'), v3, v4] ∧ h p' = some (.lst (((ps.take i).flatMap (TM.step ps u)).map V.str)) ∧ H p' = none ∧ Same H h)
      ⟨p, none, none, rfl, upd_same, np, s0⟩ (fun i σ h _ ⟨_, _, _, _, _, _, s⟩ => .of (s _ _ eL)) ?_ ?_
    · rintro i x σ h h' hi ⟨p', v3, v4, rfl, e1, np', s1⟩ ⟨rfl, hx⟩
      rw [List.length_map] at hi
      obtain ⟨a, ha, rfl⟩ : ∃ a, as[i]? = some a ∧ x = V.ref a := by
        rw [List.getElem?_map, List.getElem?_eq_getElem hi] at hx
        exact ⟨as[i], List.getElem?_eq_getElem hi, (Option.some.inj hx).symm⟩
      obtain ⟨⟨c, o⟩, hq, hta⟩ := ta.get ha
      have hf : ((ps.take i).flatMap (TM.step ps u)).length ≤ 9 * (ps.take i).length := TM.flat_le fun q _ => by
        unfold TM.step
        split
        · have := TM.ord_le va (some q.1)
          rw [List.length_cons]
          omega
        · exact Nat.zero_le _
      rw [List.length_take] at hf
      refine ⟨a, _, rfl, .of (s1 _ _ hta), rfl, _, _, rfl, _, _, rfl, rfl, ?_⟩
      refine ⟨_, rfl, _, rfl, scal_opt _ _, _, rfl, ite2 (fun he => ?_) (fun he => ?_)⟩
      · have ho : o = u := optV_inj (of_decide_eq_true he)
        have hb2 : TM.Below ps (some c) n := TM.below_at va hq (ho ▸ hb)
        refine ⟨_, rfl, _, rfl, by show 1 ≤ sizeLine; decide, fun c1 nc1 => ?_⟩
        have e2 : upd h' c1 (.lst [.str c]) p' = some (.lst (((ps.take i).flatMap (TM.step ps u)).map V.str)) := by rw [upd_ne (ne_of_none e1 nc1)]; exact e1
        refine ⟨p', c1, _, _, rfl, rfl, e2, upd_same, ?_, fun p2 np2 => ?_⟩
        · rw [List.length_map]
          show _ + 1 ≤ sizeLine
          exact line100 (by omega)
        have s2 := ((s1.trans (Same.new (o := .lst [.str c]) nc1)).trans (Same.new (o := .lst (((ps.take i).flatMap (TM.step ps u)).map V.str ++ [.str c])) np2))
        have e3 : upd (upd h' c1 (.lst [.str c])) p2 (.lst (((ps.take i).flatMap (TM.step ps u)).map V.str ++ [.str c])) p2 = some (.lst ((((ps.take i).flatMap (TM.step ps u)) ++ [c]).map V.str)) := by rw [upd_same, List.map_append]; rfl
        generalize upd (upd h' c1 (.lst [.str c])) p2 (.lst (((ps.take i).flatMap (TM.step ps u)).map V.str ++ [.str c])) = H2 at s2 e3 ⊢
        refine ⟨_, rfl, _, rfl, L, ps, some c, rfl, hP.same s2, va, hl8, hb2, fun H3 r s3 nr er => ?_⟩
        have hol : (TM.ord ps (some c)).length ≤ 8 := Nat.le_trans (TM.ord_le va _) hl8
        refine ⟨p2, r, _, _, rfl, rfl, s3 _ _ e3, er, ?_, fun p4 np4 => ?_⟩
        · rw [List.length_map, List.length_map, List.length_append, List.length_singleton]
          exact line100 (by omega)
        have s4 := s2.trans s3
        refine ⟨p4, _, _, rfl, ?_, s4.free np4, s4.trans (Same.new np4)⟩
        rw [upd_same, TM.ord_take hq]
        have : TM.step ps u (c, o) = c :: TM.ord ps (some c) := if_pos ho
        rw [this, ← List.map_append, List.append_assoc]
        rfl
      · have ho : ¬ o = u := fun z => he (decide_eq_true (congrArg optV z))
        refine ⟨p', _, _, rfl, ?_, np', s1⟩
        rw [TM.ord_take hq]
        have : TM.step ps u (c, o) = [] := if_neg ho
        rw [this, List.append_nil]
        exact e1
    · rintro σ h ⟨p', v3, v4, rfl, e1, np', s1⟩
      rw [List.length_map, hal, List.take_length] at e1
      refine ⟨_, rfl, q h p' s1 np' ?_⟩
      rw [e1, TM.ord_flat va u]
abbrev N_above : List Str := ["_law_pairs_here", "_law_name", "_law_overs", "_law_found"]
theorem sc_labove : FnScope N_above ["_law_pairs_here", "_law_name"] (defScope s_above) := ⟨rfl, rfl, rfl, by decide +kernel, rfl, by decide +kernel, by decide +kernel⟩
def sp_labove : Sp := fun vs H Q _ => ∃ (L : Addr) (ps : List TM.Pr) (x : Str) (a : List Str) (k : TM.Fo), vs = [.ref L, .str x] ∧ PairsAt H L ps ∧ TM.Valid [] ps ∧ ps.length ≤ 8 ∧ (∀ x ∈ ps.map Prod.fst, TM.NameOk x) ∧ TM.loc (TM.mk ps none) x = some (a, k) ∧
  ∀ H' p, Same H H' → H p = none → H' p = some (.lst (a.map V.str)) → Q (.ref p) H'
theorem ok_labove {f : Addr} {fd : FuncData} (F : Fn K mg "_law_above" s_above ["_law_pairs_here", "_law_name"] f fd) (B : Bn mg) : FnOk P w K mg base CX0 1 f fd ["_law_pairs_here", "_law_name"] sp_labove := by
  refine F.F.ok sc_labove (fun vs H Q E h => ?_) (fun cdv A outer s H vs Q E hr h => ?_)
  · obtain ⟨L, ps, x, a, k, rfl, _⟩ := h
    rfl
  · obtain ⟨L, ps, x, a, k, rfl, ⟨as, eL, ta⟩, va, l8, okn, hx, q⟩ := h
    have hu := hu_of hr
    have nd := sc_labove.nd
    have fo := foOk_mk va l8 okn
    have nod := TM.valid_nodup va
    have get : ∀ {c : Str} {a1 : List Str} {k1 : TM.Fo}, TM.loc (TM.mk ps none) c = some (a1, k1) → valV (kvsOf ps) (Sum.inr c : Key) = some (optV (TM.lastOr a1 none)) := fun h => kvs_some nod (TM.mk_sub (TM.loc_flat none h))
    refine ⟨_, pss_cons (ps_set (i := 2) nd rfl (Or.inl rfl) (pe_callTy (call_dP rfl) (by rfl) B.dict boot_dict (pa_cons (pv 0) pa_nil)))
      (pss_cons (ps_set (i := 3) nd rfl (Or.inl rfl) (pe_lst pa_nil))
      (pss_cons (ps_while PassesOwn.never (pt_cmp (pc_notN (pe_dget hu (pv 2) (pv 1) (fun _ _ => rfl))))
        (pss_cons (ps_set (i := 1) nd rfl (Or.inl rfl) (pe_dget hu (pv 2) (pv 1) (fun _ _ => rfl)))
        (pss_one (ps_set (i := 3) nd rfl (Or.inl rfl) (pe_op op_cat (pe_lst (pa_cons (pv 1) pa_nil)) (pv 3))))))
      (pss_one (ps_ret (pv 3))))), ?_⟩
    have hal : a.length ≤ 8 := by
      have := (TM.loc_sub hx).length_le
      have h8 := fo.le
      rw [List.length_append] at this
      omega
    refine ⟨_, rfl, L, as, kvsOf ps, rfl, .of eL, pairs_es ta, fun d ndd => ?_⟩
    refine ⟨by decide, fun p np => ?_⟩
    have ed : upd (upd H d (.dK (mergeK [] (kvsOf ps)))) p (.lst []) d = some (.dK (kvsOf ps)) := by rw [upd_ne (ne_of_none upd_same np), upd_same, merge_nil nod]
    have s0 : Same H (upd (upd H d (.dK (mergeK [] (kvsOf ps)))) p (.lst [])) := (Same.new ndd).trans (Same.new np)
    have npH : H p = none := (Same.new ndd).free np
    have e0 : upd (upd H d (.dK (mergeK [] (kvsOf ps)))) p (.lst []) p = some (.lst []) := upd_same
    generalize upd (upd H d (.dK (mergeK [] (kvsOf ps)))) p (.lst []) = H0 at ed s0 e0 ⊢
    refine ⟨fun m σ H' => ∃ (r b : List Str) (c : Str) (kc : TM.Fo) (p' : Addr), r.length = m ∧ a = r ++ b ∧ TM.loc (TM.mk ps none) c = some (r, kc) ∧ σ = [some (.ref L), some (.str c), some (.ref d), some (.ref p')] ∧ H' p' = some (.lst (b.map V.str)) ∧ H p' = none ∧ Same H0 H',
      ⟨a.length, a, [], x, k, p, rfl, by simp, hx, rfl, e0, npH, same_rfl⟩, ?_⟩
    rintro m σ H2 ⟨r, b, c, kc, p', rfl, eab, hc, rfl, e2, np', s3⟩
    have hbl : b.length ≤ 8 := by
      have := congrArg List.length eab
      rw [List.length_append] at this
      omega
    refine ⟨_, rfl, _, rfl, d, _, rfl, .inl ⟨_, Sum.inr c, .inl (s3 _ _ ed), rfl, (get hc).symm⟩, _, rfl, ?_⟩
    rcases List.eq_nil_or_concat r with rfl | ⟨r', u, rfl⟩
    · have e3 : optV (TM.lastOr [] none) = V.non := rfl
      rw [e3]
      refine ⟨_, rfl, ?_⟩
      exact q H2 p' (s0.trans s3) np' (by rw [e2, eab]; rfl)
    · have e3 : optV (TM.lastOr (r'.concat u) none) = V.str u := by rw [List.concat_eq_append, TM.lastOr_snoc]; rfl
      have gc := get hc
      rw [e3] at gc ⊢
      have ea : a = r' ++ u :: b := by rw [eab, List.concat_eq_append]; simp
      obtain ⟨q1, hu1, _⟩ := TM.loc_up fo.nd hx r' b u ea
      refine ⟨fun σ' H' => ∃ (r b : List Str) (c : Str) (kc : TM.Fo) (p' : Addr), r.length = r'.length ∧ a = r ++ b ∧ TM.loc (TM.mk ps none) c = some (r, kc) ∧ σ' = [some (.ref L), some (.str c), some (.ref d), some (.ref p')] ∧ H' p' = some (.lst (b.map V.str)) ∧ H p' = none ∧ Same H0 H',
        fun σ' H' z => ⟨r'.length, by simp, z⟩, ?_⟩
      refine ⟨_, rfl, _, rfl, d, _, rfl, .inl ⟨_, Sum.inr c, .inl (s3 _ _ ed), rfl, gc.symm⟩, ?_⟩
      refine ⟨_, rfl, by show 1 ≤ sizeLine; decide, fun p2 np2 => ?_⟩
      refine ⟨_, rfl, p2, p', _, _, rfl, rfl, upd_same, (Same.new np2) _ _ e2, ?_, fun p3 np3 => ?_⟩
      · rw [List.length_map]
        show 1 + _ ≤ sizeLine
        exact line100 (by omega)
      have s4 : Same H0 (upd (upd H2 p2 (.lst [.str u])) p3 (.lst ([V.str u] ++ b.map V.str))) := (s3.trans (Same.new np2)).trans (Same.new np3)
      refine ⟨r', u :: b, u, q1, p3, rfl, ea, hu1, rfl, upd_same, ?_, s4⟩
      exact (s0.trans (s3.trans (Same.new np2))).free np3
end
end T10

set_option maxHeartbeats 2000000
namespace T10
open PySem L2 PyProof.Rows TX TY TQ TT
section
variable {P : Program} {w : World} {K : PySem.W.Frag} {mg : Str → Option Value} {base : Heap}
variable {fN fC fP fT fO : Addr} {dN dC dP dT dO : FuncData}
variable {C fc fk fW : Addr} {dc dk dW : FuncData}
/-- children, by themselves and told; the texts -/
structure Wd (K : PySem.W.Frag) (mg : Str → Option Value) (C fc fk fW : Addr) (dc dk dW : FuncData) : Prop where
  chk : Mt K C "check_column" "Tree.check_column" s_tcheck ["self", "column"] fc dc
  chF : FunD K "children" "Tree.children" (defArgs s_tchildren) (defBody s_tchildren) (defScope s_tchildren) [.non] [] fk dk
  chM : Meth K C "children" fk
  ch1 : ∃ ds, Vals [.non] ds ∧ Binds K dk ["self", "column"] ds
  ch2 : Binds K dk ["self", "column"] []
  wr : Fn K mg "_written" s_written ["tree", "column"] fW dW
theorem nochl (l d : Addr) : (tflds l d).lookup ("children" : Str) = none := tflds_no l d (by decide +kernel) (by decide +kernel)
abbrev N_wr : List Str := ["tree", "column", "children", "inner", "child"]
theorem sc_wr : FnScope N_wr ["tree", "column"] (defScope s_written) := ⟨rfl, rfl, rfl, by decide +kernel, rfl, by decide +kernel, by decide +kernel⟩
def sp_wr (C : Addr) (n : Nat) : Sp := fun vs H Q _ => ∃ (t : Addr) (f : TM.Fo) (x : Str) (a : List Str) (k : TM.Fo), vs = [.ref t, .str x] ∧ TreeAt C H t f ∧ FoOk f ∧ TM.loc f x = some (a, k) ∧ (TM.names k).length < n ∧ ∀ H', Same H H' → Q (.str (word x (txts k))) H'
theorem len_wr {n : Nat} {vs : List V} {H : Hp} {Q : VK} {E : XK} (h : sp_wr C n vs H Q E) : vs.length = 2 := by
  obtain ⟨t, f, x, a, k, rfl, _⟩ := h
  rfl
theorem sub_ok {f : TM.Fo} {x : Str} {a : List Str} {k : TM.Fo} (ok : FoOk f) (h : TM.loc f x = some (a, k)) : (TM.names k).Nodup ∧ (∀ y ∈ TM.names k, TM.NameOk y) ∧ (TM.names k).length ≤ 7 := by
  have h1 := TM.seg_sub h
  have h2 := h1.length_le
  have h3 := ok.le
  rw [List.length_cons] at h2
  exact ⟨(List.nodup_cons.mp (TM.sub_nodup ok.nd h)).2, fun y hy => ok.ok y (h1.subset (List.mem_cons_of_mem _ hy)), by omega⟩
theorem ok_wr (T : Kd K mg fN fC fP fT fO dN dC dP dT dO) (c : Tc K mg C) (M : Wd K mg C fc fk fW dc dk dW) : ∀ n : Nat, FnOk P w K mg base CX0 (4 + n) fW dW ["tree", "column"] (sp_wr C n)
  | 0 => ⟨fun vs H Q E h => len_wr h, fun A outer s H args us vs Q E hr e b r h => by
      obtain ⟨t, f, x, a, k, rfl, _, _, _, hlt, _⟩ := h
      exact absurd hlt (Nat.not_lt_zero _)⟩
  | n + 1 => by
    have B := T.B
    have G := ok_wr T c M n
    have GC : FnOk P w K mg base CX0 4 fk dk ["self", "column"] (sp_tchildren C) := ok_tchildren M.chF M.chk T c
    refine M.wr.F.ok sc_wr (fun vs H Q E h => len_wr h) (fun cdv A outer s H vs Q E hr h => ?_)
    obtain ⟨t, f, x, a, k, rfl, tr, ok, hl, hlt, q⟩ := h
    have r4 : Room 4 _ := hr.mono (show 4 ≤ 4 + n by omega)
    have nd := sc_wr.nd
    refine ⟨_, pss_cons (ps_set (i := 2) nd rfl (Or.inl rfl) (pe_meth (pv 0) c.cl M.chM GC r4 M.ch2 .nil pass0 (pa_cons (pv 1) pa_nil)))
      (pss_cons (ps_if (pt_cmpR op_eq (pe_callB call_len_seq (by rfl) B.len PySem.boot_len (pa_cons (pv 2) pa_nil)) pe_int (nomark _)) (pss_one (ps_ret (pv 1))) pss_nil)
      (pss_cons (ps_set (i := 3) nd rfl (Or.inl rfl) (pe_join pe_str (pe_lc (own := [("child", 4)]) (g := gName 4) (tt := tYes) (te := tCall (sp_wr C n) [] E0 (tCons (tVar 0) (tCons (tVar 4) tNil))) rfl nd (pi_list (pv 2)) (blkOk_by (N := N_wr) (sc := defScope s_written) (by decide +kernel))
          (fun _ _ _ _ _ => pg_name (i := 4) nd rfl (Or.inl rfl)) (fun _ _ _ _ _ => pts_nil) (fun _ _ _ _ _ => pe_call G hr rfl M.wr.g M.wr.F.kp M.wr.b .nil pass0 (pa_cons (pv 0) (pa_cons (pv 4) pa_nil))))))
      (pss_one (ps_ret (pe_joined (.cons (pe_fmt (pv 1)) (.cons pe_str (.cons (pe_fmt (pv 3)) (.cons pe_str .nil))))))))), ?_⟩
    obtain ⟨dx, l, d, h1, h2, h3⟩ := id tr
    obtain ⟨nk, okk, lek⟩ := sub_ok ok hl
    have tk := txts_tops nk
    have hle := (TM.tops_sub k).length_le
    refine ⟨_, rfl, t, dx, _, rfl, h1, nochl _ _, _, rfl, t, f, some x, TM.tops k, rfl, tr, ok, .inr ⟨x, a, k, rfl, hl, rfl⟩, fun H1 L s1 nL eL => ?_⟩
    refine ⟨_, rfl, L, _, rfl, .inl (.of eL), rfl, _, rfl, ?_⟩
    rw [List.length_map]
    by_cases hz : (TM.tops k).length = 0
    · rw [decide_eq_true (show V.int ((TM.tops k).length : Int) = V.int 0 by rw [hz]; rfl)]
      have : txts k = [] := by rw [tk, List.eq_nil_of_length_eq_zero hz]; rfl
      have e : word x (txts k) = x := by rw [this]; exact if_pos rfl
      rw [e] at q
      exact ⟨_, rfl, q H1 s1⟩
    rw [decide_eq_false (fun z : V.int ((TM.tops k).length : Int) = V.int 0 => hz (by injection z with z; omega))]
    have hne : txts k ≠ [] := by
      rw [tk]
      intro z
      exact hz (by rw [List.map_eq_nil_iff] at z; rw [z]; rfl)
    have tl := txts_len k fun y hy => (okk y hy).2.1
    have cm1 : (Str.ofString ",").length = 1 := by decide +kernel
    refine ⟨⟨_, rfl⟩, _, rfl, L, rfl, ⟨_, .of eL⟩, fun D nD => ?_⟩
    refine lc_it (walk_list (xs := (TM.tops k).map V.str)) (fun i h => h D = some (.lst (((TM.tops k).take i).map fun y => V.str (word y (txts (kid k y))))) ∧ Same H1 h)
      ⟨upd_same, Same.new nD⟩ (fun i h _ ⟨_, s⟩ => .of (s _ _ eL)) ?_ ?_
    · rintro i v h h' hi ⟨e4, s4⟩ ⟨rfl, hv⟩
      rw [List.length_map] at hi
      obtain ⟨y, hy, rfl⟩ : ∃ n, (TM.tops k)[i]? = some n ∧ v = V.str n := by
        rw [List.getElem?_map, List.getElem?_eq_getElem hi] at hv
        exact ⟨_, List.getElem?_eq_getElem hi, (Option.some.inj hv).symm⟩
      have hym : y ∈ TM.tops k := List.mem_of_getElem? hy
      obtain ⟨ky, hky⟩ := (TM.loc_top nk).mp hym
      have ekid : kid k y = ky := by unfold kid; rw [hky]
      have hdown := TM.loc_down ok.nd hl hky
      have hlen : (TM.names ky).length < n := by
        have := (TM.seg_sub hky).length_le
        rw [List.length_cons] at this
        omega
      refine ⟨rfl, ?_⟩
      refine ⟨_, rfl, _, rfl, t, f, y, _, ky, rfl, (tr.same s1).same s4, ok, hdown, hlen, fun h5 s5 => ?_⟩
      refine ⟨_, s5 _ _ e4, ?_, ?_, Same.mut (s4.trans s5) nD⟩
      · rw [List.length_map, List.length_take]
        exact line100' (by omega)
      · rw [upd_same, List.take_add_one, hy, List.map_append, ← ekid]
        rfl
    · rintro h ⟨e4, s4⟩
      rw [List.length_map, List.take_length] at e4
      have e5 : h D = some (.lst ((txts k).map V.str)) := by rw [e4, tk, List.map_map]; rfl
      refine ⟨_, D, txts k, rfl, rfl, .inl (.of e5), ?_, ?_⟩
      · rw [cm1]
        omega
      have jl := join_len (txts k)
      have cx := (ok.ok x (TM.loc_mem hl)).2.1
      have c1 : (Str.ofString "(").length = 1 := by decide +kernel
      have c2 : (Str.ofString ")").length = 1 := by decide +kernel
      have ce : Str.empty.length = 0 := rfl
      have jl2 : (Txt.join cm (txts k)).length ≤ 100 := by omega
      refine ⟨_, rfl, .inl ⟨_, rfl, line100 (by omega), _, rfl, ?_, _, rfl, ?_, _, rfl, .inl ⟨_, rfl, ?_, _, rfl, ?_, _, rfl, ?_, ?_⟩⟩⟩
      · rw [sapp_len]; exact line100 (by omega)
      · rw [sapp_len, sapp_len]; exact line100 (by omega)
      · exact line100 (by show (Txt.join cm (txts k)).length ≤ 1000; omega)
      · rw [sapp_len, sapp_len, sapp_len]; exact line100 (by show _ + (Txt.join cm (txts k)).length ≤ 1000; omega)
      · rw [sapp_len, sapp_len, sapp_len, sapp_len]; exact line100 (by show _ + (Txt.join cm (txts k)).length + _ ≤ 1000; omega)
      · rw [word_some hne] at q
        exact q h (s1.trans s4)
theorem sc_tstr : FnScope ["self", "column"] ["self"] (defScope s_tstr) := ⟨rfl, rfl, rfl, by decide +kernel, rfl, by decide +kernel, by decide +kernel⟩
def sp_tstr (C : Addr) : Sp := fun vs H Q _ => ∃ (t : Addr) (f : TM.Fo), vs = [.ref t] ∧ TreeAt C H t f ∧ FoOk f ∧ ∀ H', Same H H' → Q (.str (Txt.join cm (txts f))) H'
theorem ok_tstr {f : Addr} {fd : FuncData} (F : Fun K "__str__" "Tree.__str__" s_tstr f fd) (T : Kd K mg fN fC fP fT fO dN dC dP dT dO) (c : Tc K mg C) (M : Wd K mg C fc fk fW dc dk dW) : FnOk P w K mg base CX0 14 f fd ["self"] (sp_tstr C) := by
  have B := T.B
  have G : FnOk P w K mg base CX0 13 fW dW ["tree", "column"] (sp_wr C 9) := ok_wr T c M 9
  have GC : FnOk P w K mg base CX0 4 fk dk ["self", "column"] (sp_tchildren C) := ok_tchildren M.chF M.chk T c
  obtain ⟨dsk, vdk, bdk⟩ := M.ch1
  refine F.ok sc_tstr (fun vs H Q E h => ?_) (fun cdv A outer s H vs Q E hr h => ?_)
  · obtain ⟨t, f, rfl, _⟩ := h
    rfl
  · obtain ⟨t, f, rfl, tr, ok, q⟩ := h
    have r4 : Room 4 _ := hr.mono (by decide)
    have nd := sc_tstr.nd
    refine ⟨_, pss_one (ps_ret (pe_join pe_str (pe_lc (own := [("column", 1)]) (g := gName 1) (tt := tYes) (te := tCall (sp_wr C 9) [] E0 (tCons (tVar 0) (tCons (tVar 1) tNil))) rfl nd (pi_list (pe_meth0 (pv 0) c.cl M.chM GC r4 bdk vdk pass0)) (blkOk_by (N := ["self", "column"]) (sc := defScope s_tstr) (by decide +kernel))
          (fun _ _ _ _ _ => pg_name (i := 1) nd rfl (Or.inl rfl)) (fun _ _ _ _ _ => pts_nil) (fun _ _ _ _ _ => pe_call G hr rfl M.wr.g M.wr.F.kp M.wr.b .nil pass0 (pa_cons (pv 0) (pa_cons (pv 1) pa_nil)))))), ?_⟩
    obtain ⟨dx, l, d, h1, h2, h3⟩ := id tr
    have tk := txts_tops ok.nd
    have hle := (TM.tops_sub f).length_le
    have le8 := ok.le
    have tl := txts_len f fun y hy => (ok.ok y hy).2.1
    have cm1 : (Str.ofString ",").length = 1 := by decide +kernel
    refine ⟨⟨_, rfl⟩, _, rfl, t, dx, _, rfl, h1, nochl _ _, t, f, none, TM.tops f, rfl, tr, ok, .inl ⟨rfl, rfl⟩, fun H1 L s1 nL eL => ?_⟩
    refine ⟨L, rfl, ⟨_, .of eL⟩, fun D nD => ?_⟩
    refine lc_it (walk_list (xs := (TM.tops f).map V.str)) (fun i h => h D = some (.lst (((TM.tops f).take i).map fun y => V.str (word y (txts (kid f y))))) ∧ Same H1 h)
      ⟨upd_same, Same.new nD⟩ (fun i h _ ⟨_, s⟩ => .of (s _ _ eL)) ?_ ?_
    · rintro i v h h' hi ⟨e4, s4⟩ ⟨rfl, hv⟩
      rw [List.length_map] at hi
      obtain ⟨y, hy, rfl⟩ : ∃ n, (TM.tops f)[i]? = some n ∧ v = V.str n := by
        rw [List.getElem?_map, List.getElem?_eq_getElem hi] at hv
        exact ⟨_, List.getElem?_eq_getElem hi, (Option.some.inj hv).symm⟩
      obtain ⟨ky, hky⟩ := (TM.loc_top ok.nd).mp (List.mem_of_getElem? hy)
      have ekid : kid f y = ky := by unfold kid; rw [hky]
      have hlen : (TM.names ky).length < 9 := by
        have := (TM.seg_sub hky).length_le
        rw [List.length_cons] at this
        omega
      refine ⟨rfl, ?_⟩
      refine ⟨_, rfl, _, rfl, t, f, y, _, ky, rfl, (tr.same s1).same s4, ok, hky, hlen, fun h5 s5 => ?_⟩
      refine ⟨_, s5 _ _ e4, ?_, ?_, Same.mut (s4.trans s5) nD⟩
      · rw [List.length_map, List.length_take]
        exact line100' (by omega)
      · rw [upd_same, List.take_add_one, hy, List.map_append, ← ekid]
        rfl
    · rintro h ⟨e4, s4⟩
      rw [List.length_map, List.take_length] at e4
      have e5 : h D = some (.lst ((txts f).map V.str)) := by rw [e4, tk, List.map_map]; rfl
      refine ⟨_, D, txts f, rfl, rfl, .inl (.of e5), ?_, ?_⟩
      · rw [cm1]
        omega
      exact q h (s1.trans s4)
end
end T10

/-! Forests told in other orders; trees and dicts of pairs compared. -/
namespace TF
open PySem L2 PyProof.Rows TX TM TQ
theorem mk_fold {ps : List Pr} (va : Valid [] ps) (u : Option Str) : ∀ (t pre : List Pr), ps = pre ++ t → mk t u = (t.filter fun p => decide (p.2 = u)).foldr (fun p r => .cons p.1 (mk ps (some p.1)) r) .nil
  | [], _, _ => rfl
  | (c, o) :: r, pre, e => by
    have hi : ps[pre.length]? = some (c, o) := by rw [e]; simp
    have h2 := ahead_at va hi
    have e4 : ps.take (pre.length + 1) = pre ++ [(c, o)] := by
      rw [e, show pre ++ (c, o) :: r = (pre ++ [(c, o)]) ++ r by simp, List.take_append_of_le_length (by simp), List.take_of_length_le (by simp)]
    have h1 : mk ps (some c) = mk r (some c) := by
      have e2 : ps = ps.take (pre.length + 1) ++ r := by rw [e4, e]; simp
      rw [e2, mk_skip h2]
    have ih := mk_fold va u r (pre ++ [(c, o)]) (by rw [e]; simp)
    by_cases ho : o = u
    · have e5 : mk ((c, o) :: r) u = .cons c (mk r (some c)) (mk r u) := if_pos ho
      rw [e5, List.filter_cons_of_pos (by simpa using ho), List.foldr_cons, ← ih, h1]
    · have e5 : mk ((c, o) :: r) u = mk r u := if_neg ho
      rw [e5, List.filter_cons_of_neg (by simpa using ho), ih]
theorem mk_same {ps qs : List Pr} (va : Valid [] ps) (vb : Valid [] qs) (h : ∀ u, (ps.filter fun p => decide (p.2 = u)) = qs.filter fun p => decide (p.2 = u)) : ∀ (n : Nat) (u : Option Str), Below ps u n → mk ps u = mk qs u
  | 0, u, ⟨pre, t, _, hlt, _⟩ => absurd hlt (Nat.not_lt_zero _)
  | n + 1, u, b => by
    rw [mk_fold va u ps [] rfl, mk_fold vb u qs [] rfl, ← h u]
    have hin : ∀ p ∈ ps.filter (fun p => decide (p.2 = u)), mk ps (some p.1) = mk qs (some p.1) := fun p hp => by
      obtain ⟨hm, hu⟩ := List.mem_filter.mp hp
      obtain ⟨c, o⟩ := p
      have hu : o = u := of_decide_eq_true hu
      obtain ⟨i, hi⟩ := List.getElem?_of_mem hm
      exact mk_same va vb h n (some c) (below_at va hi (hu.symm ▸ b))
    generalize (ps.filter fun p => decide (p.2 = u)) = L at hin ⊢
    induction L with
    | nil => rfl
    | cons p r ih =>
      rw [List.foldr_cons, List.foldr_cons, ih fun q hq => hin q (List.mem_cons_of_mem _ hq), hin p List.mem_cons_self]
theorem valid_of : ∀ {l : List Pr} {seen : List Str}, (seen ++ l.map Prod.fst).Nodup → (∀ i c o, l[i]? = some (c, o) → ∀ x, o = some x → x ∈ seen ++ (l.take i).map Prod.fst) → Valid seen l
  | [], _, _, _ => trivial
  | (c, o) :: r, seen, hn, h => by
    have hn' : (seen ++ [c] ++ r.map Prod.fst).Nodup := by
      rw [List.append_assoc]
      exact hn
    refine ⟨fun hc => ?_, fun x hx => by simpa using h 0 c o rfl x hx, valid_of hn' fun i d v hd x hx => ?_⟩
    · have := (List.nodup_append.mp hn).2.2 c hc c (by simp)
      exact this rfl
    · have := h (i + 1) d v (by simpa using hd) x hx
      rw [List.take_succ_cons, List.map_cons] at this
      simpa [List.append_assoc] using this
/-- what is told of the pairs' dict is what is told of the tree's -/
theorem flat_mem {ps : List Pr} (va : Valid [] ps) {p : Pr} : p ∈ flat (mk ps none) none ↔ p ∈ ps := by
  refine ⟨mk_sub, fun hp => ?_⟩
  have hx : p.1 ∈ names (mk ps none) := (ord_perm va).mem_iff.mpr (List.mem_map.mpr ⟨p, hp, rfl⟩)
  rw [← flat_names _ none] at hx
  obtain ⟨q, hq, e⟩ := List.mem_map.mp hx
  have hq' := mk_sub hq
  have nd := valid_nodup va
  have : q = p := by
    obtain ⟨i, hi, ei⟩ := List.mem_iff_getElem.mp hq'
    obtain ⟨j, hj, ej⟩ := List.mem_iff_getElem.mp hp
    have hi' : i < (ps.map Prod.fst).length := by rw [List.length_map]; exact hi
    have hj' : j < (ps.map Prod.fst).length := by rw [List.length_map]; exact hj
    have : (ps.map Prod.fst)[i] = (ps.map Prod.fst)[j] := by rw [List.getElem_map, List.getElem_map, ei, ej, e]
    have := (List.getElem_inj nd).mp this
    subst this
    rw [← ei, ej]
  exact this ▸ hq
theorem same_keys : ∀ {ps qs : List Pr}, ps.map Prod.fst = qs.map Prod.fst → (ps.map Prod.fst).Nodup → (∀ p ∈ ps, p ∈ qs) → ps = qs
  | [], [], _, _, _ => rfl
  | [], _ :: _, h, _, _ => by cases h
  | _ :: _, [], h, _, _ => by cases h
  | (c, o) :: r, (d, v) :: t, h, hn, hm => by
    rw [List.map_cons, List.map_cons] at h
    injection h with h1 h2
    have h1 : c = d := h1
    subst h1
    rw [List.map_cons, List.nodup_cons] at hn
    have e1 : (c, o) = (c, v) := by
      rcases List.mem_cons.mp (hm (c, o) List.mem_cons_self) with e | e
      · exact e
      · exact absurd (List.mem_map.mpr ⟨(c, o), e, rfl⟩) (h2 ▸ hn.1)
    have ih := same_keys h2 hn.2 fun p hp => by
      rcases List.mem_cons.mp (hm p (List.mem_cons_of_mem _ hp)) with e | e
      · exact absurd (List.mem_map.mpr ⟨p, hp, by rw [e]⟩) hn.1
      · exact e
    rw [e1, ih]
theorem flat_inj {ps qs : List Pr} (va : Valid [] ps) (vb : Valid [] qs) (h : ps.map Prod.fst = qs.map Prod.fst) : flat (mk ps none) none = flat (mk qs none) none ↔ ps = qs := by
  refine ⟨fun e => same_keys h (valid_nodup va) fun p hp => ?_, fun e => by rw [e]⟩
  rw [← flat_mem vb, ← e]
  exact (flat_mem va).mpr hp
theorem eqV_opt (o v : Option Str) : eqV (optV o) (optV v) = decide (o = v) := by
  cases o with
  | none =>
    cases v with
    | none => rfl
    | some y => rfl
  | some x =>
    cases v with
    | none => rfl
    | some y =>
      show (x == y) = _
      by_cases h : x = y <;> simp [h]
theorem like_iff {ps : List Pr} (hn : (ps.map Prod.fst).Nodup) {c : Str} {o : Option Str} : likes (kvsOf ps) ((Sum.inr c : Key), optV o) = decide ((c, o) ∈ ps) := by
  unfold likes
  by_cases hc : c ∈ ps.map Prod.fst
  · obtain ⟨⟨c', v⟩, hm, e⟩ := List.mem_map.mp hc
    have e : c' = c := e
    subst e
    rw [kvs_some hn hm]
    show eqV (optV o) (optV v) = _
    rw [eqV_opt]
    by_cases h : o = v
    · subst h
      rw [decide_eq_true rfl, decide_eq_true hm]
    · rw [decide_eq_false h, decide_eq_false]
      intro z
      have : (c', o) = (c', v) := by
        obtain ⟨i, hi, ei⟩ := List.mem_iff_getElem.mp z
        obtain ⟨j, hj, ej⟩ := List.mem_iff_getElem.mp hm
        have hi' : i < (ps.map Prod.fst).length := by rw [List.length_map]; exact hi
        have hj' : j < (ps.map Prod.fst).length := by rw [List.length_map]; exact hj
        have : (ps.map Prod.fst)[i] = (ps.map Prod.fst)[j] := by rw [List.getElem_map, List.getElem_map, ei, ej]
        have := (List.getElem_inj hn).mp this
        subst this
        rw [← ei, ej]
      exact h (Prod.mk.inj this).2
  · rw [kvs_none hc]
    show false = _
    rw [decide_eq_false]
    intro z
    exact hc (List.mem_map.mpr ⟨_, z, rfl⟩)
theorem likes_all {qs ps : List Pr} (h : qs.map Prod.fst = ps.map Prod.fst) (hn : (ps.map Prod.fst).Nodup) : ((kvsOf qs).length == (kvsOf ps).length && (kvsOf qs).all (likes (kvsOf ps))) = decide (qs = ps) := by
  have hl : qs.length = ps.length := by
    have := congrArg List.length h
    simpa using this
  have e1 : ((kvsOf qs).length == (kvsOf ps).length) = true := by rw [kvs_len, kvs_len, hl]; simp
  rw [e1, Bool.true_and]
  by_cases e : qs = ps
  · subst e
    rw [decide_eq_true rfl, List.all_eq_true]
    intro p hp
    obtain ⟨⟨c, o⟩, hm, rfl⟩ := List.mem_map.mp hp
    show likes (kvsOf qs) ((Sum.inr c : Key), optV o) = true
    rw [like_iff hn, decide_eq_true hm]
  · rw [decide_eq_false e]
    cases hall : (kvsOf qs).all (likes (kvsOf ps)) with
    | false => rfl
    | true =>
      rw [List.all_eq_true] at hall
      refine absurd (same_keys h (h ▸ hn) fun p hp => ?_) e
      obtain ⟨c, o⟩ := p
      have := hall ((Sum.inr c : Key), optV o) (List.mem_map.mpr ⟨(c, o), hp, rfl⟩)
      rw [like_iff hn] at this
      exact of_decide_eq_true this
theorem flat_opt (ps : List Pr) : ∀ p ∈ kvsOf ps, flatV p.2 = true := by
  intro p hp
  obtain ⟨⟨c, o⟩, _, rfl⟩ := List.mem_map.mp hp
  cases o <;> rfl
/-! by floors -/
theorem depth_over {f : Fo} (hn : (names f).Nodup) {c x : Str} {a : List Str} {k : Fo} (h : loc f c = some (a, k)) (e : lastOr a none = some x) : ∃ b q, loc f x = some (b, q) ∧ a.length = b.length + 1 := by
  unfold lastOr at e
  cases hg : a.getLast? with
  | none => rw [hg] at e; cases e
  | some y =>
    rw [hg] at e
    cases e
    obtain ⟨b, rfl⟩ := List.getLast?_eq_some_iff.mp hg
    obtain ⟨q, h1, _⟩ := loc_up hn h b [] x rfl
    exact ⟨b, q, h1, by simp⟩
theorem depth_top {a : List Str} (e : lastOr a none = none) : a.length = 0 := by
  unfold lastOr at e
  cases hg : a.getLast? with
  | none => rw [List.getLast?_eq_none_iff.mp hg]; rfl
  | some y => rw [hg] at e; cases e
/-- how deep the i-th name stands -/
def fl (ps : List Pr) (j : Nat) : Nat := match ps[j]? with
  | some (c, _) => (match loc (mk ps none) c with
    | some (a, _) => a.length
    | none => 0)
  | none => 0
theorem fl_over {ps : List Pr} (va : Valid [] ps) {j : Nat} {c x : Str} (h : ps[j]? = some (c, some x)) : ∃ i, (∃ o, ps[i]? = some (x, o)) ∧ fl ps j = fl ps i + 1 := by
  have hc : c ∈ names (mk ps none) := (ord_perm va).mem_iff.mpr (List.mem_map.mpr ⟨_, List.mem_of_getElem? h, rfl⟩)
  obtain ⟨a, k, hl⟩ := loc_names hc
  have e1 := kvs_some (valid_nodup va) (List.mem_of_getElem? h)
  have e2 := kvs_some (valid_nodup va) (mk_sub (loc_flat none hl))
  rw [e1] at e2
  have e3 : lastOr a none = some x := (optV_inj (Option.some.inj e2)).symm
  obtain ⟨b, q, hb, hlen⟩ := depth_over (ord_nodup va) hl e3
  have hx : x ∈ ps.map Prod.fst := (ord_perm va).mem_iff.mp (loc_mem hb)
  obtain ⟨⟨x', o⟩, hm, e⟩ := List.mem_map.mp hx
  have e : x' = x := e
  subst e
  obtain ⟨i, hi⟩ := List.getElem?_of_mem hm
  refine ⟨i, ⟨o, hi⟩, ?_⟩
  unfold fl
  rw [h, hi]
  dsimp only
  rw [hl, hb]
  exact hlen
theorem fl_top {ps : List Pr} (va : Valid [] ps) {j : Nat} {c : Str} (h : ps[j]? = some (c, none)) : fl ps j = 0 := by
  have hc : c ∈ names (mk ps none) := (ord_perm va).mem_iff.mpr (List.mem_map.mpr ⟨_, List.mem_of_getElem? h, rfl⟩)
  obtain ⟨a, k, hl⟩ := loc_names hc
  have e1 := kvs_some (valid_nodup va) (List.mem_of_getElem? h)
  have e2 := kvs_some (valid_nodup va) (mk_sub (loc_flat none hl))
  rw [e1] at e2
  have e3 : lastOr a none = none := (optV_inj (Option.some.inj e2)).symm
  unfold fl
  rw [h]
  dsimp only
  rw [hl]
  exact depth_top e3
/-- all that stand right beneath one stand on one floor -/
theorem fl_same {ps : List Pr} (va : Valid [] ps) {i j : Nat} {c d : Str} {u : Option Str} (hi : ps[i]? = some (c, u)) (hj : ps[j]? = some (d, u)) : fl ps i = fl ps j := by
  cases u with
  | none => rw [fl_top va hi, fl_top va hj]
  | some x =>
    obtain ⟨m, ⟨o, hm⟩, e1⟩ := fl_over va hi
    obtain ⟨n, ⟨v, hn⟩, e2⟩ := fl_over va hj
    have : m = n := by
      obtain ⟨hm1, hm2⟩ := List.getElem?_eq_some_iff.mp hm
      obtain ⟨hn1, hn2⟩ := List.getElem?_eq_some_iff.mp hn
      have : (ps.map Prod.fst)[m]'(by rw [List.length_map]; exact hm1) = (ps.map Prod.fst)[n]'(by rw [List.length_map]; exact hn1) := by rw [List.getElem_map, List.getElem_map, hm2, hn2]
      exact (List.getElem_inj (valid_nodup va)).mp this
    rw [e1, e2, this]
/-- the order by floors -/
def ahd (ps : List Pr) (i j : Nat) : Prop := fl ps i < fl ps j ∨ (fl ps i = fl ps j ∧ i < j)
theorem floors {ps : List Pr} (va : Valid [] ps) {js : List Nat} (hp : js.Perm (List.range ps.length)) (hs : js.Pairwise (ahd ps)) :
    Valid [] (js.filterMap fun j => ps[j]?) ∧ mk (js.filterMap fun j => ps[j]?) none = mk ps none := by
  have all : ∀ l : List Nat, (∀ j ∈ l, j < ps.length) → (l.filterMap fun j => ps[j]?).length = l.length := by
    intro l
    induction l with
    | nil => intro _; rfl
    | cons j r ih =>
      intro h
      rw [List.filterMap_cons, List.getElem?_eq_getElem (h j List.mem_cons_self)]
      simp only [List.length_cons]
      rw [ih fun i hi => h i (List.mem_cons_of_mem _ hi)]
  have hlt : ∀ j ∈ js, j < ps.length := fun j hj => List.mem_range.mp (hp.mem_iff.mp hj)
  have self : (List.range ps.length).filterMap (fun j => ps[j]?) = ps := by
    apply List.ext_getElem?
    intro i
    have : ∀ n, n ≤ ps.length → (List.range n).filterMap (fun j => ps[j]?) = ps.take n := by
      intro n
      induction n with
      | zero => intro _; rfl
      | succ n ih =>
        intro hn
        rw [List.range_succ, List.filterMap_append, ih (by omega), List.take_add_one, List.getElem?_eq_getElem (by omega)]
        simp [List.getElem?_eq_getElem (show n < ps.length by omega)]
    rw [this _ (Nat.le_refl _), List.take_length]
  have pm : (js.filterMap fun j => ps[j]?).Perm ps := by
    have := hp.filterMap fun j => ps[j]?
    rwa [self] at this
  have nd := valid_nodup va
  have nd' : ((js.filterMap fun j => ps[j]?).map Prod.fst).Nodup := (List.Perm.nodup_iff (pm.map Prod.fst)).mpr nd
  have get : ∀ {i : Nat} {q : Pr}, (js.filterMap fun j => ps[j]?)[i]? = some q → ∃ j, js[i]? = some j ∧ ps[j]? = some q := by
    have gen : ∀ (l : List Nat), (∀ j ∈ l, j < ps.length) → ∀ {i : Nat} {q : Pr}, (l.filterMap fun j => ps[j]?)[i]? = some q → ∃ j, l[i]? = some j ∧ ps[j]? = some q := by
      intro l
      induction l with
      | nil => intro _ i q h; simp at h
      | cons j r ih =>
        intro hl i q h
        rw [List.filterMap_cons, List.getElem?_eq_getElem (hl j List.mem_cons_self)] at h
        cases i with
        | zero =>
          refine ⟨j, rfl, ?_⟩
          rw [List.getElem?_eq_getElem (hl j List.mem_cons_self)]
          simpa using h
        | succ i => exact ih (fun i hi => hl i (List.mem_cons_of_mem _ hi)) (by simpa using h)
    intro i q h
    exact gen js hlt h
  have tk : ∀ i, ((js.filterMap fun j => ps[j]?).take i) = (js.take i).filterMap fun j => ps[j]? := by
    have gen : ∀ (l : List Nat), (∀ j ∈ l, j < ps.length) → ∀ i, (l.filterMap fun j => ps[j]?).take i = (l.take i).filterMap fun j => ps[j]? := by
      intro l
      induction l with
      | nil => intro _ i; simp
      | cons j r ih =>
        intro hl i
        cases i with
        | zero => rfl
        | succ i =>
          rw [List.take_succ_cons, List.filterMap_cons, List.filterMap_cons, List.getElem?_eq_getElem (hl j List.mem_cons_self)]
          simp only [List.take_succ_cons]
          rw [ih (fun i hi => hl i (List.mem_cons_of_mem _ hi)) i]
    exact gen js hlt
  have vb : Valid [] (js.filterMap fun j => ps[j]?) := by
    refine valid_of nd' fun i c o h x hx => ?_
    subst hx
    obtain ⟨j, hj, hpj⟩ := get h
    obtain ⟨m, ⟨o, hm⟩, e⟩ := fl_over va hpj
    have hml : m < ps.length := (List.getElem?_eq_some_iff.mp hm).1
    have hmj : m ∈ js := hp.mem_iff.mpr (List.mem_range.mpr hml)
    obtain ⟨n, hn, en⟩ := List.mem_iff_getElem.mp hmj
    obtain ⟨hi, ei⟩ := List.getElem?_eq_some_iff.mp hj
    have hni : n < i := by
      rcases Nat.lt_trichotomy n i with h1 | h1 | h1
      · exact h1
      · subst h1
        rw [en] at ei
        subst ei
        omega
      · have := List.pairwise_iff_getElem.mp hs i n hi hn h1
        rw [ei, en] at this
        rcases this with h2 | h2 <;> omega
    rw [List.nil_append, tk]
    refine List.mem_map.mpr ⟨(x, o), List.mem_filterMap.mpr ⟨m, ?_, hm⟩, rfl⟩
    rw [List.mem_take_iff_getElem]
    exact ⟨n, by omega, en⟩
  refine ⟨vb, mk_same vb va (fun u => ?_) _ none (below_top _ (Nat.lt_succ_self _))⟩
  -- the same ones stand right beneath each, in one order
  have e1 : ∀ l : List Nat, (l.filterMap fun j => ps[j]?).filter (fun p => decide (p.2 = u)) = (l.filter fun j => match ps[j]? with | some p => decide (p.2 = u) | none => false).filterMap fun j => ps[j]? := by
    intro l
    induction l with
    | nil => rfl
    | cons j r ih =>
      rw [List.filterMap_cons]
      cases hj : ps[j]? with
      | none =>
        rw [List.filter_cons_of_neg (by rw [hj]; exact Bool.false_ne_true)]
        exact ih
      | some p =>
        by_cases hpu : p.2 = u
        · rw [List.filter_cons_of_pos (by simpa using hpu), List.filter_cons_of_pos (by rw [hj]; simpa using hpu), List.filterMap_cons, hj, ih]
        · rw [List.filter_cons_of_neg (by simpa using hpu), List.filter_cons_of_neg (by rw [hj]; simpa using hpu), ih]
  rw [e1 js]
  have e2 := e1 (List.range ps.length)
  rw [self] at e2
  rw [e2]
  congr 1
  refine perm_eq (R := fun i j => i < j) (fun a b h1 h2 => by omega) (hp.filter _) ?_ (List.Pairwise.filter _ List.pairwise_lt_range)
  refine List.Pairwise.imp_of_mem ?_ (List.Pairwise.filter _ hs)
  intro a b ha hb hab
  have fa := (List.mem_filter.mp ha).2
  have fb := (List.mem_filter.mp hb).2
  cases hpa : ps[a]? with
  | none => rw [hpa] at fa; cases fa
  | some p =>
    cases hpb : ps[b]? with
    | none => rw [hpb] at fb; cases fb
    | some q =>
      rw [hpa] at fa
      rw [hpb] at fb
      have fa := of_decide_eq_true fa
      have fb := of_decide_eq_true fb
      obtain ⟨c, o⟩ := p
      obtain ⟨d, v⟩ := q
      have fa : o = u := fa
      have fb : v = u := fb
      subst fa fb
      have := fl_same va hpa hpb
      rcases hab with h | ⟨_, h⟩
      · omega
      · exact h
end TF

set_option maxHeartbeats 2000000
namespace T10
open PySem L2 PyProof.Rows TX TY TQ TT TF
section
variable {P : Program} {w : World} {K : PySem.W.Frag} {mg : Str → Option Value} {base : Heap}
variable {fN fC fP fT fO : Addr} {dN dC dP dT dO : FuncData}
/-- one forest told twice: alike just where the pairs are -/
def sameF (f g : TM.Fo) : Bool := decide (TM.flat f none = TM.flat g none)
def sp_teqG (C : Addr) : Sp := fun vs H Q _ => ∃ (a : Addr) (y : V) (f : TM.Fo), vs = [.ref a, y] ∧ TreeAt C H a f ∧ FoOk f ∧
  ((∃ b g, y = .ref b ∧ TreeAt C H b g ∧ FoOk g ∧ ∀ H', Same H H' → Q (.bl (sameF f g)) H') ∨ (∃ t, TyX K H y t ∧ PySem.W.kitOne K t (.ref C) = some false ∧ ∀ H', Same H H' → Q (.bl false) H'))
theorem ok_teqG {f C : Addr} {fd : FuncData} (F : Fun K "__eq__" "Tree.__eq__" s_teq f fd) (B : Bn mg) (c : Tc K mg C) : FnOk P w K mg base CX0 1 f fd ["self", "other"] (sp_teqG (K := K) C) := by
  refine F.ok sc_teq (fun vs H Q E h => ?_) (fun cdv A outer s H vs Q E hr h => ?_)
  · obtain ⟨a, y, f, rfl, _⟩ := h
    rfl
  · obtain ⟨a, y, f, rfl, ⟨dx, l, d, h1, h2, h3⟩, ok, q⟩ := h
    have hu := hu_of hr
    have hu0 := hr.units0
    have hu64 := hr.units
    refine ⟨_, pss_one (ps_ret (pe_and (pe_callB call_isi (by rfl) B.isi boot_isinstance (pa_cons (pv 1) (pa_cons (pe_glob (v := .ref C) (by rfl) c.g rfl) pa_nil)))
      (pe_and (pe_cmpR (op_eqD hu64) (pe_fld (pv 0) rfl) (pe_fld (pv 1) rfl) (nomark _)) (pe_one (pe_cmpR (op_eqDB hu0) (pe_fld (pv 0) rfl) (pe_fld (pv 1) rfl) (nomark _)))))), ?_⟩
    rcases q with ⟨b, g, rfl, ⟨dx', l', d', h1', h2', h3'⟩, okg, q⟩ | ⟨t, ht, hk, q⟩
    · refine ⟨_, rfl, _, _, _, _, true, rfl, .own C, .base (.ins h1' c.cl c.ins.ha c.ins.hn c.ins.htk c.ins.hm), c.ins.me, true, rfl, ?_⟩
      refine ⟨_, rfl, a, C, dx, _, _, rfl, h1, c.cl, c.nC, tflds_col _ _, _, rfl, b, C, dx', _, _, rfl, h1', c.cl, c.nC, tflds_col _ _, _, _, DpS h2, DpS h2', shS ok.ok, shS okg.ok, _, rfl, ?_⟩
      rw [eqv_dS]
      by_cases hn : TM.names f = TM.names g
      · rw [decide_eq_true hn]
        refine ⟨_, rfl, a, C, dx, _, _, rfl, h1, c.cl, c.nO, tflds_over _ _, _, rfl, b, C, dx', _, _, rfl, h1', c.cl, c.nO, tflds_over _ _, d, d', _, _, rfl, rfl, h3, h3', flat_opt _, flat_opt _, ?_⟩
        rw [likes_all (by rw [TM.flat_names, TM.flat_names, hn]) (by rw [TM.flat_names]; exact okg.nd)]
        exact q H same_rfl
      · rw [decide_eq_false hn]
        have : sameF f g = false := decide_eq_false fun e => hn (by rw [← TM.flat_names f none, ← TM.flat_names g none, e])
        rw [this] at q
        exact q H same_rfl
    · exact ⟨_, rfl, _, _, _, _, false, rfl, .own C, ht, hk, false, rfl, q H same_rfl⟩
/-- the statement's own text -/
abbrev N_text : List Str := ["_law_pairs_here", "_law_over", "_law_words", "_law_name", "_law_head", "_law_inner"]
theorem sc_text : FnScope N_text ["_law_pairs_here", "_law_over"] (defScope s_text) := ⟨rfl, rfl, rfl, by decide +kernel, rfl, by decide +kernel, by decide +kernel⟩
def sp_text (n : Nat) : Sp := fun vs H Q _ => ∃ (L : Addr) (ps : List TM.Pr) (u : Option Str), vs = [.ref L, optV u] ∧ PairsAt H L ps ∧ TM.Valid [] ps ∧ ps.length ≤ 8 ∧ (∀ x ∈ ps.map Prod.fst, TM.NameOk x) ∧ TM.Below ps u n ∧
  ∀ H', Same H H' → Q (.str (Txt.join cm (txts (TM.mk ps u)))) H'
theorem len2t {n : Nat} {vs : List V} {H : Hp} {Q : VK} {E : XK} (h : sp_text n vs H Q E) : vs.length = 2 := by
  obtain ⟨L, ps, u, rfl, _⟩ := h
  rfl
theorem names_mk {ps : List TM.Pr} {u : Option Str} {x : Str} (h : x ∈ TM.names (TM.mk ps u)) : x ∈ ps.map Prod.fst := by
  rw [← TM.flat_names _ u] at h
  obtain ⟨p, hp, rfl⟩ := List.mem_map.mp h
  exact List.mem_map.mpr ⟨p, TM.mk_sub hp, rfl⟩
theorem ok_text {f : Addr} {fd : FuncData} (F : Fn K mg "_law_text" s_text ["_law_pairs_here", "_law_over"] f fd) (B : Bn mg) : ∀ n : Nat, FnOk P w K mg base CX0 n f fd ["_law_pairs_here", "_law_over"] (sp_text n)
  | 0 => ⟨fun vs H Q E h => len2t h, fun A outer s H args us vs Q E hr e b r h => by
      obtain ⟨L, ps, u, rfl, _, _, _, _, ⟨pre, t, _, hlt, _⟩, _⟩ := h
      exact absurd hlt (Nat.not_lt_zero _)⟩
  | n + 1 => by
    have G := ok_text F B n
    refine F.F.ok sc_text (fun vs H Q E h => len2t h) (fun cdv A outer s H vs Q E hr h => ?_)
    obtain ⟨L, ps, u, rfl, hP, va, hl8, okn, hb, q⟩ := h
    have hu := hu_of hr
    have nd := sc_text.nd
    refine ⟨_, pss_cons (ps_set (i := 2) nd rfl (Or.inl rfl) (pe_lst pa_nil))
      (pss_cons (ps_for PassesOwn.never rfl (pi_list (pv 0)) (pg_tup rfl (pgs_cons (pg_name (i := 3) nd rfl (Or.inl rfl)) (pgs_cons (pg_name (i := 4) nd rfl (Or.inl rfl)) pgs_nil)))
        (pss_one (ps_if (pt_cmpR op_eq (pv 4) (pv 1) (nomark _))
          (pss_cons (ps_set (i := 5) nd rfl (Or.inl rfl) (pe_call G hr rfl F.g F.F.kp F.b .nil pass0 (pa_cons (pv 0) (pa_cons (pv 3) pa_nil))))
          (pss_one (ps_expr (pe_bm PySem.F.plainAttrs_list PySem.F.slot_list_append PySem.F.type_list_append mt_append (pv 2)
            (pa_cons (pe_op op_add_str (pv 3) (pe_ix ix_list (pe_lst (pa_cons pe_str (pa_cons (pe_op op_add_str (pe_op op_add_str pe_str (pv 5)) pe_str) pa_nil)))
              (pe_callTy call_int1 (by rfl) B.int boot_int (pa_cons (pe_cmpR op_ne (pv 5) pe_str (nomark _)) pa_nil)) (fun _ _ => rfl))) pa_nil))))) pss_nil)))
      (pss_one (ps_ret (pe_join pe_str (pv 2))))), ?_⟩
    obtain ⟨as, eL, ta⟩ := id hP
    have hal := ta.len
    have cm1 : (Str.ofString ",").length = 1 := by decide +kernel
    -- all words are short
    have wlen : ∀ v, ((txts (TM.mk ps v)).map (·.length)).sum + (txts (TM.mk ps v)).length ≤ 100 := fun v => by
      have h1 := txts_len (TM.mk ps v) fun x hx => (okn x (names_mk hx)).2.1
      have h2 : (TM.names (TM.mk ps v)).length ≤ ps.length := TM.ord_le va v
      omega
    refine ⟨by decide, fun p np => ?_⟩
    refine ⟨_, rfl, L, rfl, ⟨_, .of ((Same.new np) _ _ eL)⟩, ?_⟩
    refine for_it (walk_list (xs := as.map V.ref)) (fun i σ h => ∃ (v3 v4 v5 : Option V), σ = [some (.ref L), some (optV u), some (.ref p), v3, v4, v5] ∧ h p = some (.lst (((ps.take i).flatMap (wstep ps u)).map V.str)) ∧ Same H h)
      ⟨none, none, none, rfl, upd_same, Same.new np⟩ (fun i σ h _ ⟨_, _, _, _, _, s⟩ => .of (s _ _ eL)) ?_ ?_
    · rintro i x σ h h' hi ⟨v3, v4, v5, rfl, e1, s1⟩ ⟨rfl, hx⟩
      rw [List.length_map] at hi
      obtain ⟨a, ha, rfl⟩ : ∃ a, as[i]? = some a ∧ x = V.ref a := by
        rw [List.getElem?_map, List.getElem?_eq_getElem hi] at hx
        exact ⟨as[i], List.getElem?_eq_getElem hi, (Option.some.inj hx).symm⟩
      obtain ⟨⟨c, o⟩, hq, hta⟩ := ta.get ha
      have hf : ((ps.take i).flatMap (wstep ps u)).length ≤ 1 * (ps.take i).length := TM.flat_le fun q _ => by
        unfold wstep
        split
        · exact Nat.le_refl _
        · exact Nat.zero_le _
      rw [List.length_take] at hf
      refine ⟨a, _, rfl, .of (s1 _ _ hta), rfl, _, _, rfl, _, _, rfl, rfl, ?_⟩
      refine ⟨_, rfl, _, rfl, scal_opt _ _, _, rfl, ite2 (fun he => ?_) (fun he => ?_)⟩
      · have ho : o = u := optV_inj (of_decide_eq_true he)
        have hb2 : TM.Below ps (some c) n := TM.below_at va hq (ho ▸ hb)
        refine ⟨_, rfl, _, rfl, L, ps, some c, rfl, hP.same s1, va, hl8, okn, hb2, fun h2 s2 => ?_⟩
        have wl := wlen (some c)
        have jl := join_len (txts (TM.mk ps (some c)))
        have cc : c.length ≤ 8 := (okn c (List.mem_map.mpr ⟨_, List.mem_of_getElem? hq, rfl⟩)).2.1
        obtain ⟨z, hz⟩ : ∃ z, z = Txt.join cm (txts (TM.mk ps (some c))) := ⟨_, rfl⟩
        rw [← hz] at jl
        have hbr := brak_len z
        have c1 : (Str.ofString "(").length = 1 := by decide +kernel
        rw [← hz]
        refine ⟨_, rfl, .inl ⟨rfl, _, .inl (.inl (s2 _ _ e1))⟩, _, rfl, _, rfl, _, _, rfl, rfl, ?_, _, _, rfl, rfl, ?_, by show 2 ≤ sizeLine; decide, fun p1 np1 => ?_⟩
        · exact line100 (by omega)
        · rw [sapp_len]
          have c2 : (Str.ofString ")").length = 1 := by decide +kernel
          exact line100 (by omega)
        refine ⟨_, rfl, rfl, .inr ⟨_, rfl, ?_⟩⟩
        have ep1 : ∀ o, upd h2 p1 o p = some (.lst (((ps.take i).flatMap (wstep ps u)).map V.str)) := fun o => by rw [upd_ne (ne_of_none (s2 _ _ e1) np1)]; exact s2 _ _ e1
        have fin : ∀ y : Str, y = word c (txts (TM.mk ps (some c))) → ∃ (a : Addr) (xs : List V) (y_1 : V), V.ref p = V.ref a ∧ [V.str y] = [y_1] ∧ upd h2 p1 (.lst [.str (Str.ofString ""), .str ("(" ++ z ++ ")")]) a = some (.lst xs) ∧ xs.length < sizeLine ∧
            ∃ (v3 v4 v5 : Option V), [some (V.ref L), some (optV u), some (V.ref p), some (V.str c), some (optV o), some (V.str z)] = [some (V.ref L), some (optV u), some (V.ref p), v3, v4, v5] ∧
              upd (upd h2 p1 (.lst [.str (Str.ofString ""), .str ("(" ++ z ++ ")")])) a (.lst (xs ++ [y_1])) p = some (.lst (((ps.take (i + 1)).flatMap (wstep ps u)).map V.str)) ∧ Same H (upd (upd h2 p1 (.lst [.str (Str.ofString ""), .str ("(" ++ z ++ ")")])) a (.lst (xs ++ [y_1]))) := fun y hy => by
          refine ⟨p, _, _, rfl, rfl, ep1 _, ?_, _, _, _, rfl, ?_, ?_⟩
          · rw [List.length_map]
            exact line100' (by omega)
          · rw [upd_same, wtake hq]
            have : wstep ps u (c, o) = [word c (txts (TM.mk ps (some c)))] := if_pos ho
            rw [this, List.map_append, hy]
            rfl
          · exact Same.mut ((s1.trans s2).trans (Same.new np1)) np
        by_cases hn : txts (TM.mk ps (some c)) = []
        · have ez : z = Str.ofString "" := by rw [hz, hn]; rfl
          have : decide (V.str z = V.str (Str.ofString "")) = true := decide_eq_true (by rw [ez])
          refine ⟨p1, _, 0, .str (Str.ofString ""), rfl, ?_, .of upd_same, rfl, ?_⟩
          · rw [this]
            rfl
          refine ⟨_, _, rfl, rfl, ?_, ?_⟩
          · show c.length + _ ≤ sizeLine
            have : (Str.ofString "").length = 0 := len_empty
            exact line100 (by omega)
          · refine fin _ ?_
            have e0 : c ++ (Str.ofString "") = c := by
              have : (Str.ofString "") = S [] := by rfl
              rw [this, S_eta c, S_app, List.append_nil]
            rw [e0, hn]
            exact (if_pos rfl).symm
        · have hp := txts_pos (f := TM.mk ps (some c)) (fun x hx => (okn x (names_mk hx)).1) hn
          rw [← hz] at hp
          have : decide (V.str z = V.str (Str.ofString "")) = false := decide_eq_false fun e => by
            have e2 : z = Str.ofString "" := V.str.inj e
            rw [e2, len_empty] at hp
            omega
          refine ⟨p1, _, 1, .str ("(" ++ z ++ ")"), rfl, ?_, .of upd_same, rfl, ?_⟩
          · rw [this]
            rfl
          refine ⟨_, _, rfl, rfl, ?_, ?_⟩
          · show c.length + _ ≤ sizeLine
            rw [hbr]
            exact line100 (by omega)
          · refine fin _ ?_
            rw [hz]
            exact (if_neg hn).symm
      · have ho : ¬ o = u := fun z => he (decide_eq_true (congrArg optV z))
        refine ⟨_, _, _, rfl, ?_, s1⟩
        rw [wtake hq]
        have : wstep ps u (c, o) = [] := if_neg ho
        rw [this, List.append_nil]
        exact e1
    · rintro σ h ⟨v3, v4, v5, rfl, e1, s1⟩
      rw [List.length_map, hal, List.take_length, ← txts_flat va u] at e1
      have wl := wlen u
      refine ⟨⟨_, rfl⟩, _, rfl, _, p, txts (TM.mk ps u), rfl, rfl, .inl (.of e1), ?_, q h s1⟩
      rw [cm1]
      omega
end
end T10

set_option maxHeartbeats 4000000
namespace T10
open PySem L2 PyProof.Rows TX TY TQ TT TF
def rLn (K : PySem.W.Frag) : List V → Hp → VK → Prop := fun xs H Q => ∃ p ys, xs = [.ref p] ∧ (SqL K H p ys ∨ SqT K H p ys) ∧ Q (.int ys.length) H
theorem call_ln {X : Cx} : CallR X (.builtin "len") (rLn X.K) := call_len_seq
theorem paired_snoc {α β : Type} {R : α → β → Prop} {as : List α} {bs : List β} {a : α} {b : β} (h : Paired R as bs) (r : R a b) : Paired R (as ++ [a]) (bs ++ [b]) := by
  induction h with
  | nil => exact .cons r .nil
  | cons h _ ih => exact .cons h ih
theorem paired_at {α β : Type} {R : α → β → Prop} {as : List α} {bs : List β} (h : Paired R as bs) : ∀ {i : Nat} {a : α}, as[i]? = some a → ∃ b, bs[i]? = some b ∧ R a b := by
  induction h with
  | nil => intro i a h; simp at h
  | cons hd _ ih =>
    intro i a h
    cases i with
    | zero =>
      rw [List.getElem?_cons_zero] at h
      cases h
      exact ⟨_, rfl, hd⟩
    | succ i => exact ih (by simpa using h)
/-- the two numbers of a pair -/
def two (H : Hp) (v : V) : Int × Int := match v with
  | .ref t => (match H t with
    | some (.tup [.int x, .int y]) => (x, y)
    | _ => (0, 0))
  | _ => (0, 0)
theorem two_at {H : Hp} {t : Addr} {x y : Int} (h : H t = some (.tup [.int x, .int y])) : two H (.ref t) = (x, y) := by
  unfold two
  dsimp only
  rw [h]
section
variable {P : Program} {w : World} {K : PySem.W.Frag} {mg : Str → Option Value} {base : Heap}
abbrev N_fl : List Str := ["_law_pairs_here", "_law_floors", "_law_k", "_law_name", "_law_head", "_law_floor"]
theorem sc_fl : FnScope N_fl ["_law_pairs_here"] (defScope s_by_floors) := ⟨rfl, rfl, rfl, by decide +kernel, rfl, by decide +kernel, by decide +kernel⟩
def sp_fl : Sp := fun vs H Q _ => ∃ (L : Addr) (ps : List TM.Pr), vs = [.ref L] ∧ PairsAt H L ps ∧ TM.Valid [] ps ∧ ps.length ≤ 8 ∧ (∀ x ∈ ps.map Prod.fst, TM.NameOk x) ∧
  ∀ H' p qs, Same H H' → H p = none → PairsAt H' p qs → TM.Valid [] qs → TM.mk qs none = TM.mk ps none → qs.length = ps.length → Q (.ref p) H'
theorem ok_fl {f fA : Addr} {fd dA : FuncData} (F : Fn K mg "_law_by_floors" s_by_floors ["_law_pairs_here"] f fd) (B : Bn mg) (Ab : Fn K mg "_law_above" s_above ["_law_pairs_here", "_law_name"] fA dA) : FnOk P w K mg base CX0 2 f fd ["_law_pairs_here"] sp_fl := by
  have GA : FnOk P w K mg base CX0 1 fA dA ["_law_pairs_here", "_law_name"] sp_labove := ok_labove Ab B
  refine F.F.ok sc_fl (fun vs H Q E h => ?_) (fun cdv A outer s H vs Q E hr h => ?_)
  · obtain ⟨L, ps, rfl, _⟩ := h
    rfl
  · obtain ⟨L, ps, rfl, hP, va, hl8, okn, q⟩ := h
    have nd := sc_fl.nd
    refine ⟨_, pss_cons (ps_setLc (i := 1) (own := [("_law_k", 2), ("_law_name", 3), ("_law_head", 4)]) (g := gTup K 2 (gCons (gName 2) (gCons (gTup K 2 (gCons (gName 3) (gCons (gName 4) gNil))) gNil))) (tt := tYes)
          (te := tTup (tCons (tCB (rLn K) (tCons (tCall sp_labove [] E0 (tCons (tVar 0) (tCons (tVar 3) tNil))) tNil)) (tCons (tVar 2) tNil))) (by rfl) nd rfl rfl (sw_true rfl rfl rfl (by decide +kernel)) (pi_enum rfl B.enum (pa_cons (pv 0) pa_nil))
          (blkOk_by (N := N_fl) (sc := defScope s_by_floors) (by decide +kernel)) (fun _ _ _ _ _ => pg_tup rfl (pgs_cons (pg_name (i := 2) nd rfl (Or.inl rfl)) (pgs_cons (pg_tup rfl (pgs_cons (pg_name (i := 3) nd rfl (Or.inl rfl)) (pgs_cons (pg_name (i := 4) nd rfl (Or.inl rfl)) pgs_nil))) pgs_nil)))
          (fun _ _ _ _ _ => pts_nil) (fun _ _ _ _ _ => pe_tup (pa_cons (pe_callB call_ln (by rfl) B.len PySem.boot_len (pa_cons (pe_call GA hr rfl Ab.g Ab.F.kp Ab.b .nil pass0 (pa_cons (pv 0) (pa_cons (pv 3) pa_nil))) pa_nil)) (pa_cons (pv 2) pa_nil))))
      (pss_one (ps_ret (pe_lc (own := [("_law_floor", 5), ("_law_k", 2)]) (g := gTup K 2 (gCons (gName 5) (gCons (gName 2) gNil))) (tt := tYes) (te := tOp (rIxL K) (tVar 0) (tVar 2)) rfl nd (pi_list (pe_callB cr_sortedPO (by rfl) B.sorted (by decide +kernel) (pa_cons (pv 1) pa_nil)))
          (blkOk_by (N := N_fl) (sc := defScope s_by_floors) (by decide +kernel)) (fun _ _ _ _ _ => pg_tup rfl (pgs_cons (pg_name (i := 5) nd rfl (Or.inl rfl)) (pgs_cons (pg_name (i := 2) nd rfl (Or.inl rfl)) pgs_nil)))
          (fun _ _ _ _ _ => pts_nil) (fun _ _ _ _ _ => pe_ix ix_list (pv 0) (pv 2) (fun _ _ => rfl))))), ?_⟩
    obtain ⟨as, eL, ta⟩ := id hP
    have hal := ta.len
    have fo := foOk_mk va hl8 okn
    -- the floors
    refine ⟨_, rfl, L, _, rfl, .of eL, fun D nD => ?_⟩
    refine lc_it (walk_enum (xs := as.map V.ref)) (fun i h => ∃ ts : List Addr, h D = some (.lst (ts.map V.ref)) ∧ Paired (fun t j => h t = some (.tup [.int (fl ps j : Int), .int (j : Int)]) ∧ t ≠ D) ts (List.range i) ∧ Same H h)
      ⟨[], upd_same, .nil, Same.new nD⟩ (fun i h _ ⟨_, _, _, s⟩ => .of (s _ _ eL)) ?_ ?_
    · rintro i x h h' hi ⟨ts, e4, t4, s4⟩ ⟨T', x1, x2, rfl, nT, rfl, hx1, hx2⟩
      rw [List.length_map] at hi
      obtain rfl : V.int (i : Int) = x1 := Option.some.inj hx1
      obtain ⟨a, ha, rfl⟩ : ∃ a, as[i]? = some a ∧ x2 = V.ref a := by
        have h2 : (as.map V.ref)[i]? = some x2 := hx2
        rw [List.getElem?_map, List.getElem?_eq_getElem hi] at h2
        exact ⟨as[i], List.getElem?_eq_getElem hi, (Option.some.inj h2).symm⟩
      obtain ⟨⟨c, o⟩, hq, hta⟩ := ta.get ha
      have sT : Same h (upd h T' (.tup [.int (i : Int), .ref a])) := Same.new nT
      have eT : upd h T' (.tup [.int (i : Int), .ref a]) T' = some (.tup [.int (i : Int), .ref a]) := upd_same
      generalize upd h T' (.tup [.int (i : Int), .ref a]) = h5 at sT eT ⊢
      have s5 := s4.trans sT
      have hc : c ∈ TM.names (TM.mk ps none) := (TM.ord_perm va).mem_iff.mpr (List.mem_map.mpr ⟨_, List.mem_of_getElem? hq, rfl⟩)
      obtain ⟨ab, kc, hl⟩ := TM.loc_names hc
      have efl : fl ps i = ab.length := by
        unfold fl
        rw [hq]
        dsimp only
        rw [hl]
      refine ⟨T', _, rfl, .of eT, rfl, _, _, rfl, _, _, rfl, a, _, rfl, .of (s5 _ _ hta), rfl, _, _, rfl, _, _, rfl, rfl, rfl, ?_⟩
      refine ⟨rfl, ?_⟩
      refine ⟨_, rfl, _, rfl, L, ps, c, ab, kc, rfl, hP.same s5, va, hl8, okn, hl, fun h6 p s6 np ep => ?_⟩
      refine ⟨p, _, rfl, .inl (.of ep), _, rfl, two_le, fun y ny => ?_⟩
      have e6 := s6 _ _ (sT _ _ e4)
      have e7 : ∀ o, upd h6 y o D = some (.lst (ts.map V.ref)) := fun o => by rw [upd_ne (ne_of_none e6 ny)]; exact e6
      have hts := Paired.length t4
      rw [List.length_range] at hts
      refine ⟨_, e7 _, ?_, ts ++ [y], ?_, ?_, ?_⟩
      · rw [List.length_map, hts]
        exact line100' (by omega)
      · rw [upd_same, List.map_append]
        rfl
      · rw [List.range_succ]
        have yD : y ≠ D := (ne_of_none e6 ny).symm
        refine paired_snoc (Paired.mapP t4 fun t j e => ⟨by rw [upd_ne e.2]; exact ((sT.trans s6).trans (Same.new ny)) _ _ e.1, e.2⟩) ⟨?_, yD⟩
        rw [upd_ne yD, upd_same, efl, List.length_map]
      · exact Same.mut ((s5.trans s6).trans (Same.new ny)) nD
    rintro H1 ⟨ts, e1, t1, s1⟩
    rw [List.length_map] at t1
    have tl := Paired.length t1
    rw [List.length_range] at tl
    have facts : ∀ v ∈ ts.map V.ref, ∃ (t : Addr) (j : Nat), v = V.ref t ∧ j < as.length ∧ H1 t = some (.tup [.int (fl ps j : Int), .int (j : Int)]) := fun v hv => by
      obtain ⟨t, ht, rfl⟩ := List.mem_map.mp hv
      obtain ⟨i, hi⟩ := List.getElem?_of_mem ht
      obtain ⟨j, hj, e, _⟩ := paired_at t1 hi
      exact ⟨t, j, rfl, List.mem_range.mp (List.mem_of_getElem? hj), e⟩
    refine ⟨_, rfl, D, ts.map V.ref, two H1, rfl, .of e1, fun v hv => ?_, fun ys p srt stb np => ?_⟩
    · obtain ⟨t, j, rfl, _, e⟩ := facts v hv
      exact ⟨t, rfl, by rw [two_at e]; exact e⟩
    have pm := stb.perm
    have fy : ∀ v ∈ ys, ∃ (t : Addr) (j : Nat), v = V.ref t ∧ j < as.length ∧ H1 t = some (.tup [.int (fl ps j : Int), .int (j : Int)]) := fun v hv => facts v (pm.mem_iff.mp hv)
    obtain ⟨js, hjs⟩ : ∃ js, js = ys.map fun v => (two H1 v).2.toNat := ⟨_, rfl⟩
    have hrange : (ts.map V.ref).map (fun v => (two H1 v).2.toNat) = List.range as.length := by
      apply List.ext_getElem?
      intro i
      rw [List.getElem?_map, List.getElem?_map]
      by_cases hi : i < as.length
      · have hti : ts[i]? = some ts[i] := List.getElem?_eq_getElem (by omega)
        obtain ⟨j, hj, e, _⟩ := paired_at t1 hti
        rw [List.getElem?_range hi] at hj
        cases hj
        rw [hti, List.getElem?_range hi]
        show some ((two H1 (V.ref ts[i])).2.toNat) = some i
        rw [two_at e]
        rfl
      · rw [List.getElem?_eq_none (by omega), List.getElem?_eq_none (by rw [List.length_range]; omega)]
        rfl
    have hpj : js.Perm (List.range ps.length) := by
      rw [← hal, ← hrange, hjs]
      exact pm.map _
    have hnd : js.Nodup := (List.Perm.nodup_iff hpj).mpr List.nodup_range
    have hsj : js.Pairwise (ahd ps) := by
      have h1 : js.Pairwise fun i j => ¬ (fl ps j < fl ps i ∨ (fl ps j = fl ps i ∧ j < i)) := by
        rw [hjs, List.pairwise_map]
        refine List.Pairwise.imp_of_mem (fun {a b} ha hb h => ?_) srt
        obtain ⟨ta, ja, rfl, _, ea⟩ := fy a ha
        obtain ⟨tb, jb, rfl, _, eb⟩ := fy b hb
        have h2 := SrtO.lexB_no.mp h
        rw [two_at ea, two_at eb] at h2 ⊢
        dsimp only at h2 ⊢
        rw [Int.toNat_natCast, Int.toNat_natCast]
        omega
      refine List.Pairwise.imp (fun {i j} h => ?_) (h1.and hnd)
      obtain ⟨h2, h3⟩ := h
      unfold ahd
      omega
    obtain ⟨vq, eq⟩ := floors va hpj hsj
    have ylen : ys.length = as.length := by rw [pm.length_eq, List.length_map, tl]
    have jlen : js.length = as.length := by rw [hjs, List.length_map, ylen]
    have npH : H p = none := s1.free np
    have ep : upd H1 p (.lst ys) p = some (.lst ys) := upd_same
    have s2 : Same H1 (upd H1 p (.lst ys)) := Same.new np
    generalize upd H1 p (.lst ys) = H2 at ep s2 ⊢
    have t2 := s1.trans s2
    refine ⟨p, rfl, ⟨_, .of ep⟩, fun D2 nD2 => ?_⟩
    refine lc_it (walk_list (xs := ys)) (fun i h => ∃ bs : List Addr, h D2 = some (.lst (bs.map V.ref)) ∧ TupsAt h bs ((js.take i).filterMap fun j => ps[j]?) ∧ bs.length = i ∧ Same H2 h)
      ⟨[], upd_same, .nil, rfl, Same.new nD2⟩ (fun i h _ ⟨_, _, _, _, s⟩ => .of (s _ _ ep)) ?_ ?_
    · rintro i v h h' hi ⟨bs, e4, t4, l4, s4⟩ ⟨rfl, hv⟩
      obtain ⟨t, j, rfl, hj, et⟩ := fy v (List.mem_of_getElem? hv)
      have ejs : js[i]? = some j := by
        rw [hjs, List.getElem?_map, hv]
        show some ((two H1 (V.ref t)).2.toNat) = some j
        rw [two_at et]
        rfl
      have haj : as[j]? = some as[j] := List.getElem?_eq_getElem hj
      obtain ⟨q', hq', hta⟩ := ta.get haj
      have s5 := t2.trans s4
      refine ⟨t, _, rfl, .of (s4 _ _ (s2 _ _ et)), rfl, _, _, rfl, _, _, rfl, rfl, ?_⟩
      refine ⟨rfl, ?_⟩
      refine ⟨_, rfl, _, rfl, L, as.map V.ref, (j : Int), .ref as[j], rfl, rfl, .of (s5 _ _ eL), atI_nat (by rw [List.getElem?_map, haj]; rfl), ?_⟩
      refine ⟨_, e4, ?_, bs ++ [as[j]], ?_, ?_, ?_, Same.mut s4 nD2⟩
      · rw [List.length_map]
        exact line100' (by omega)
      · rw [upd_same, List.map_append]
        rfl
      · have e6 : (js.take (i + 1)).filterMap (fun j => ps[j]?) = (js.take i).filterMap (fun j => ps[j]?) ++ [q'] := by
          rw [List.take_add_one, ejs, List.filterMap_append]
          show _ ++ ([j].filterMap fun j => ps[j]?) = _
          rw [List.filterMap_cons, hq']
          rfl
        rw [e6]
        exact (t4.snoc (s5 _ _ hta)).put e4
      · rw [List.length_append, List.length_singleton, l4]
    · rintro h ⟨bs, e4, t4, l4, s4⟩
      rw [ylen, ← jlen, List.take_length] at t4
      refine q h D2 _ (t2.trans s4) (t2.free nD2) ⟨bs, e4, t4⟩ vq eq ?_
      rw [← t4.len, l4, ylen, hal]
end
end T10

set_option maxHeartbeats 1000000
/-! Things as data: equal to themselves. -/
namespace TD
open PySem L2 PyProof.Rows TX TW
/-- a plain value as data -/
def dV : V → PyData
  | .int i => .int i
  | .bl b => .bool b
  | .str s => .str s
  | _ => .none
theorem Dp_plain {K : PySem.W.Frag} {H : Hp} {v : V} (h : plainV v = true) : Dp K H v (dV v) := by
  cases v with
  | int i => exact .int i
  | bl b => exact .bl b
  | str s => exact .str s
  | non => exact .non
  | _ => cases h
theorem DpAll_plain {K : PySem.W.Frag} {H : Hp} : ∀ {xs : List V}, xs.all plainV = true → DpAll K H xs (xs.map dV)
  | [], _ => .nil
  | x :: r, h => by
    rw [List.all_cons, Bool.and_eq_true] at h
    exact .cons (Dp_plain h.1) (DpAll_plain h.2)
theorem Dp_tup {K : PySem.W.Frag} {H : Hp} {a : Addr} {xs : List V} (h : H a = some (.tup xs)) (p : xs.all plainV = true) : Dp K H (.ref a) (.tuple (xs.map dV)) := .tup (.of h) (DpAll_plain p)
theorem whole_plain {xs : List V} (h : xs.all wholeV = true) : xs.all plainV = true := by
  rw [List.all_eq_true] at h ⊢
  intro x hx
  have := h x hx
  cases x <;> first | rfl | cases this
/-- whole numbers alone -/
theorem can_whole {xs : List V} (h : xs.all wholeV = true) : PyData.canLayAll0 (xs.map dV) = true := by
  induction xs with
  | nil => rfl
  | cons x r ih =>
    rw [List.all_cons, Bool.and_eq_true] at h
    rw [List.map_cons]
    unfold PyData.canLayAll0
    rw [ih h.2]
    cases x <;> first | rfl | cases h.1
theorem dep_plain (xs : List V) : PyData.depthAll (xs.map dV) = 0 := by
  induction xs with
  | nil => rfl
  | cons x r ih =>
    rw [List.map_cons]
    unfold PyData.depthAll
    rw [ih]
    cases x <;> rfl
theorem can_tup {xs : List V} (h : xs.all wholeV = true) : PyData.canLay0 (.tuple (xs.map dV)) = true := by unfold PyData.canLay0; exact can_whole h
theorem dep_tup (xs : List V) : PyData.depth (.tuple (xs.map dV)) = 1 := by unfold PyData.depth; rw [dep_plain]
theorem shaped_of {d : PyData} (h : PyData.canLay0 d = true) (k : PyData.depth d ≤ 64) : SeqAt.shaped d = true := by
  unfold SeqAt.shaped
  rw [h, decide_eq_true k]
  rfl
theorem can2 {a b : PyData} (h : PyData.canLay0 a = true) (k : PyData.canLay0 b = true) : PyData.canLay0 (.tuple [a, b]) = true := by
  unfold PyData.canLay0 PyData.canLayAll0 PyData.canLayAll0 PyData.canLayAll0
  rw [h, k]
  rfl
theorem dep2 (a b : PyData) : PyData.depth (.tuple [a, b]) = 1 + max (PyData.depth a) (PyData.depth b) := by
  show PyData.depthAll [a, b] + 1 = _
  show max (PyData.depth a) (max (PyData.depth b) 0) + 1 = _
  omega
theorem canL {xs : List PyData} (h : ∀ x ∈ xs, PyData.canLay0 x = true) : PyData.canLay0 (.list xs) = true := by
  unfold PyData.canLay0
  induction xs with
  | nil => rfl
  | cons x r ih =>
    unfold PyData.canLayAll0
    rw [h x List.mem_cons_self, ih fun y hy => h y (List.mem_cons_of_mem _ hy)]
    rfl
theorem depL {xs : List PyData} {n : Nat} (h : ∀ x ∈ xs, PyData.depth x ≤ n) : PyData.depth (.list xs) ≤ n + 1 := by
  have : PyData.depthAll xs ≤ n := by
    induction xs with
    | nil => exact Nat.zero_le _
    | cons x r ih =>
      unfold PyData.depthAll
      have h1 := h x List.mem_cons_self
      have h2 := ih fun y hy => h y (List.mem_cons_of_mem _ hy)
      omega
  unfold PyData.depth
  omega
theorem eqv_same {d e : PyData} (h : PyData.canLay0 d = true) (k : d = e) : PyData.eqv d e = true := by
  subst k
  exact SeqAt.eqv_refl d h
end TD

set_option maxHeartbeats 4000000
namespace T10
open PySem L2 PyProof.Rows TX TY TQ TT TF TW TD
section
variable {P : Program} {w : World} {K : PySem.W.Frag} {mg : Str → Option Value} {base : Heap}
variable {fN fC fP fT fO : Addr} {dN dC dP dT dO : FuncData}
/-- all that a tree tells -/
structure Tl (K : PySem.W.Frag) (mg : Str → Option Value) (C hc hp hl hv ha hb hi hs hk hm hw : Addr) (gc gp gl gv ga gb gi gs gk gm gw : FuncData) : Prop where
  c : Tc K mg C
  cols : Mt K C "columns" "Tree.columns" s_tcolumns ["self"] hc gc
  prs : Mt K C "pairs" "Tree.pairs" s_tpairs ["self"] hp gp
  len : Mt K C "__len__" "Tree.__len__" s_tlen ["self"] hl gl
  ovr : Mt K C "over" "Tree.over" s_tover ["self", "column"] hv gv
  abv : Mt K C "above" "Tree.above" s_tabove ["self", "column"] ha ga
  ben : Mt K C "beneath" "Tree.beneath" s_tbeneath ["self", "column"] hb gb
  isa : Mt K C "is_above" "Tree.is_above" s_tisabove ["self", "one", "other"] hi gi
  str : Mt K C "__str__" "Tree.__str__" s_tstr ["self"] hs gs
  W : Wd K mg C hm hk hw gm gk gw
/-- the statement's defs that tell by themselves -/
structure Lt (K : PySem.W.Frag) (mg : Str → Option Value) (jO jA jT jF : Addr) (eO eA eT eF : FuncData) : Prop where
  ord : Fn K mg "_law_order" s_order ["_law_pairs_here", "_law_over"] jO eO
  abv : Fn K mg "_law_above" s_above ["_law_pairs_here", "_law_name"] jA eA
  txt : Fn K mg "_law_text" s_text ["_law_pairs_here", "_law_over"] jT eT
  flo : Fn K mg "_law_by_floors" s_by_floors ["_law_pairs_here"] jF eF
variable {C hc hp hl hv ha hb hi hs hk hm hw : Addr} {gc gp gl gv ga gb gi gs gk gm gw : FuncData}
variable {jO jA jT jF : Addr} {eO eA eT eF : FuncData}
abbrev N_tells : List Str := ["_law_tree", "_law_pairs_here", "_law_order_here", "_law_overs", "_law_name", "_law_above_here", "_law_below", "_law_children", "_law_told", "_law_some", "_law_other"]
theorem sc_tells : FnScope N_tells ["_law_tree", "_law_pairs_here"] (defScope s_tells) := ⟨rfl, rfl, rfl, by decide +kernel, rfl, by decide +kernel, by decide +kernel⟩
def sp_tells (C : Addr) : Sp := fun vs H Q _ => ∃ (t L : Addr) (ps : List TM.Pr), vs = [.ref t, .ref L] ∧ TreeAt C H t (TM.mk ps none) ∧ PairsAt H L ps ∧ TM.Valid [] ps ∧ ps.length ≤ 8 ∧ (∀ x ∈ ps.map Prod.fst, TM.NameOk x) ∧ ∀ H', Same H H' → Q (.bl true) H'
theorem nopr (l d : Addr) : (tflds l d).lookup ("pairs" : Str) = none := tflds_no l d (by decide +kernel) (by decide +kernel)
theorem nocols (l d : Addr) : (tflds l d).lookup ("columns" : Str) = none := tflds_no l d (by decide +kernel) (by decide +kernel)
theorem noov (l d : Addr) : (tflds l d).lookup ("over" : Str) = none := tflds_no l d (by decide +kernel) (by decide +kernel)
theorem noben (l d : Addr) : (tflds l d).lookup ("beneath" : Str) = none := tflds_no l d (by decide +kernel) (by decide +kernel)
theorem noisa (l d : Addr) : (tflds l d).lookup ("is_above" : Str) = none := tflds_no l d (by decide +kernel) (by decide +kernel)
/-- [(name, overs[name]) for name in order] -/
theorem rd_prC {H : Hp} {O d : Addr} {ps : List TM.Pr} {s : L2.St} {Q : VK} (va : TM.Valid [] ps) (ok : FoOk (TM.mk ps none)) (hO : H O = some (.lst ((TM.names (TM.mk ps none)).map V.str))) (hd : H d = some (.dK (kvsOf ps))) (g2 : s[2]? = some (some (.ref O))) (g3 : s[3]? = some (some (.ref d))) (hs : s.length = 11)
    (q : ∀ H' L, Same H H' → H L = none → PairsAt H' L (TM.flat (TM.mk ps none) none) → Q (.ref L) H') : tLc (iList K (tVar 2)) (gName 4) tYes (tTup (tCons (tVar 4) (tCons (tDGet (tVar 3) (tVar 4)) tNil))) [4] s H Q := by
  have hfn : (TM.flat (TM.mk ps none) none).map Prod.fst = TM.names (TM.mk ps none) := TM.flat_names _ _
  have hfl : (TM.flat (TM.mk ps none) none).length = (TM.names (TM.mk ps none)).length := by rw [← hfn, List.length_map]
  have le := ok.le
  refine ⟨_, g2, O, rfl, ⟨_, .of hO⟩, fun D nD => ?_⟩
  refine lc_it (walk_list (xs := (TM.names (TM.mk ps none)).map V.str)) (fun i h => ∃ as, h D = some (.lst (as.map V.ref)) ∧ TupsAt h as ((TM.flat (TM.mk ps none) none).take i) ∧ Same H h)
    ⟨[], upd_same, .nil, Same.new nD⟩ (fun i h _ ⟨_, _, _, s⟩ => .of (s _ _ hO)) ?_ ?_
  · rintro i x h h' hi ⟨as, e4, t4, s4⟩ ⟨rfl, hx⟩
    rw [List.length_map] at hi
    obtain ⟨⟨cn, o⟩, hq⟩ : ∃ q, (TM.flat (TM.mk ps none) none)[i]? = some q := ⟨_, List.getElem?_eq_getElem (by omega)⟩
    have hxn : x = V.str cn := by
      rw [← hfn, List.getElem?_map, List.getElem?_map, hq] at hx
      exact (Option.some.inj hx).symm
    subst hxn
    have hv := kvs_some (TM.valid_nodup va) (TM.mk_sub (List.mem_of_getElem? hq))
    refine ⟨?_, ?_⟩
    · show (((s.set 4 none).set 4 _).set 4 none) = s.set 4 none
      rw [List.set_set, List.set_set]
    have k4 : ((wipe s [4]).set 4 (some (V.str cn)))[4]? = some (some (.str cn)) := by
      show ((s.set 4 none).set 4 _)[4]? = _
      rw [List.getElem?_set_self (by rw [List.length_set]; omega)]
    have k3 : ((wipe s [4]).set 4 (some (V.str cn)))[3]? = some (some (.ref d)) := by
      show ((s.set 4 none).set 4 _)[3]? = _
      rw [List.set_set, List.getElem?_set_ne (by decide)]
      exact g3
    refine ⟨_, k4, _, k3, _, k4, d, optV o, rfl, .inl ⟨_, Sum.inr cn, .inl (s4 _ _ hd), rfl, hv.symm⟩, two_le, fun y ny => ?_⟩
    have e5 : ∀ o, upd h' y o D = some (.lst (as.map V.ref)) := fun o => by rw [upd_ne (ne_of_none e4 ny)]; exact e4
    refine ⟨_, e5 _, ?_, as ++ [y], ?_, ?_, ?_⟩
    · rw [List.length_map, t4.len, List.length_take]
      exact line100' (by omega)
    · rw [upd_same, List.map_append]
      rfl
    · rw [List.take_add_one, hq]
      exact ((t4.same (Same.new ny)).snoc (q := (cn, o)) upd_same).put (e5 _)
    · exact Same.mut (s4.trans (Same.new ny)) nD
  · rintro h ⟨as, e4, t4, s4⟩
    rw [List.length_map, ← hfl, List.take_length] at t4
    exact q h D s4 nD ⟨as, e4, t4⟩
theorem sq_asg {te : TE} {g : TG} {B : TS} {D : Ends} {s : L2.St} {H : Hp} (h : te s H fun x H1 => g x s H1 (B D)) : tSeq (tAsg te g) B D s H := h
theorem ok_tells {f : Addr} {fd : FuncData} (F : Fn K mg "_law_tells" s_tells ["_law_tree", "_law_pairs_here"] f fd) (T : Kd K mg fN fC fP fT fO dN dC dP dT dO) (M : Tl K mg C hc hp hl hv ha hb hi hs hk hm hw gc gp gl gv ga gb gi gs gk gm gw) (Lw : Lt K mg jO jA jT jF eO eA eT eF) :
    FnOk P w K mg base CX0 17 f fd ["_law_tree", "_law_pairs_here"] (sp_tells C) := by
  have B := T.B
  have c := M.c
  have GC : FnOk P w K mg base CX0 1 hc gc ["self"] (sp_tcolumns C) := ok_tcolumns M.cols.F B c
  have GP : FnOk P w K mg base CX0 1 hp gp ["self"] (sp_tpairs C) := ok_tpairs M.prs.F B c
  have GL : FnOk P w K mg base CX0 1 hl gl ["self"] (sp_tlen C) := ok_tlen M.len.F B c
  have GV : FnOk P w K mg base CX0 4 hv gv ["self", "column"] (sp_tover C) := ok_tover M.ovr.F M.W.chk T c
  have GA : FnOk P w K mg base CX0 4 ha ga ["self", "column"] (sp_tabove C) := ok_tabove M.abv.F M.W.chk T c
  have GB : FnOk P w K mg base CX0 5 hb gb ["self", "column"] (sp_tbeneath C) := ok_tbeneath M.ben.F M.W.chk M.abv T c
  have GI : FnOk P w K mg base CX0 5 hi gi ["self", "one", "other"] (sp_tisabove C) := ok_tisabove M.isa.F M.W.chk M.abv T c
  have GK : FnOk P w K mg base CX0 4 hk gk ["self", "column"] (sp_tchildren C) := ok_tchildren M.W.chF M.W.chk T c
  have GS : FnOk P w K mg base CX0 14 hs gs ["self"] (sp_tstr C) := ok_tstr M.str.F T c M.W
  have LO : FnOk P w K mg base CX0 9 jO eO ["_law_pairs_here", "_law_over"] (sp_order 9) := ok_order Lw.ord 9
  have LA : FnOk P w K mg base CX0 1 jA eA ["_law_pairs_here", "_law_name"] sp_labove := ok_labove Lw.abv B
  have LT : FnOk P w K mg base CX0 9 jT eT ["_law_pairs_here", "_law_over"] (sp_text 9) := ok_text Lw.txt B 9
  obtain ⟨dsk, vdk, bdk⟩ := M.W.ch1
  refine F.F.ok sc_tells (fun vs H Q E h => ?_) (fun cdv A outer s H vs Q E hr h => ?_)
  · obtain ⟨t, L, ps, rfl, _⟩ := h
    rfl
  · obtain ⟨t, L, ps, rfl, tr, hP, va, hl8, okn, q⟩ := h
    have hu := hu_of hr
    have hu64 := hr.units
    have r1 : Room 1 _ := hr.mono (by decide)
    have r2 : Room 2 _ := hr.mono (by decide)
    have r4 : Room 4 _ := hr.mono (by decide)
    have r5 : Room 5 _ := hr.mono (by decide)
    have r9 : Room 9 _ := hr.mono (by decide)
    have nd := sc_tells.nd
    refine ⟨_, pss_cons (ps_set (i := 2) nd rfl (Or.inl rfl) (pe_call LO r9 rfl Lw.ord.g Lw.ord.F.kp Lw.ord.b .nil pass0 (pa_cons (pv 1) (pa_cons pe_non pa_nil))))
      (pss_cons (ps_set (i := 3) nd rfl (Or.inr rfl) (pe_callTy (call_dP rfl) (by rfl) B.dict boot_dict (pa_cons (pv 1) pa_nil)))
      (pss_cons (ps_if (PW.pt (pw_or (pt_cmpR (op_neD hu64) (pe_meth0 (pv 0) c.cl M.cols.me GC r1 M.cols.b .nil pass0) (pv 2) (nomark _))
          (pw_or (pt_cmpR (op_neD hu64) (pe_meth0 (pv 0) c.cl M.prs.me GP r1 M.prs.b .nil pass0) (pe_lc (own := [("_law_name", 4)]) (g := gName 4) (tt := tYes) (te := tTup (tCons (tVar 4) (tCons (tDGet (tVar 3) (tVar 4)) tNil))) rfl nd (pi_list (pv 2))
              (blkOk_by (N := N_tells) (sc := defScope s_tells) (by decide +kernel)) (fun _ _ _ _ _ => pg_name (i := 4) nd rfl (Or.inl rfl)) (fun _ _ _ _ _ => pts_nil)
              (fun _ _ _ _ _ => pe_tup (pa_cons (pv 4) (pa_cons (pe_dget hu (pv 3) (pv 4) (fun _ _ => rfl)) pa_nil)))) (nomark _))
          (pw_or1 (pt_cmpR op_ne (pe_callB (call_lenO GL M.len.me.at_ M.len.me.fn M.len.b pass0 r2) (by rfl) B.len PySem.boot_len (pa_cons (pv 0) pa_nil)) (pe_callB call_len_seq (by rfl) B.len PySem.boot_len (pa_cons (pv 2) pa_nil)) (nomark _)))))) (pss_one (ps_ret pe_bl)) pss_nil)
      (pss_cons (ps_if (PW.pt (pw_or (pt_cmpR (op_neD hu64) (pe_meth0 (pv 0) c.cl M.W.chM GK r4 bdk vdk pass0) (pe_lc (own := [("_law_name", 4)]) (g := gName 4) (te := tVar 4) rfl nd (pi_list (pv 2))
              (blkOk_by (N := N_tells) (sc := defScope s_tells) (by decide +kernel)) (fun _ _ _ _ _ => pg_name (i := 4) nd rfl (Or.inl rfl)) (fun _ _ _ _ _ => pts_one (pt_cmp (pc_isN (pe_dget hu (pv 3) (pv 4) (fun _ _ => rfl)))))
              (fun _ _ _ _ _ => pv 4)) (nomark _))
          (pw_or1 (pt_cmpR op_ne (pe_callTy (call_strO GS M.str.me.at_ M.str.me.fn M.str.b pass0 hr) (by rfl) B.str boot_str (pa_cons (pv 0) pa_nil)) (pe_call LT r9 rfl Lw.txt.g Lw.txt.F.kp Lw.txt.b .nil pass0 (pa_cons (pv 1) (pa_cons pe_non pa_nil))) (nomark _))))) (pss_one (ps_ret pe_bl)) pss_nil)
      (pss_cons (ps_for PassesOwn.never rfl (pi_list (pv 2)) (pg_name (i := 4) nd rfl (Or.inr rfl))
        (pss_cons (ps_set (i := 5) nd rfl (Or.inr rfl) (pe_call LA r1 rfl Lw.abv.g Lw.abv.F.kp Lw.abv.b .nil pass0 (pa_cons (pv 1) (pa_cons (pv 4) pa_nil))))
        (pss_cons (ps_set (i := 6) nd rfl (Or.inl rfl) (pe_op op_cat (pe_lst (pa_cons (pv 4) pa_nil)) (pe_call LO r9 rfl Lw.ord.g Lw.ord.F.kp Lw.ord.b .nil pass0 (pa_cons (pv 1) (pa_cons (pv 4) pa_nil)))))
        (pss_cons (ps_setLc (i := 7) (own := [("_law_other", 10)]) (g := gName 10) (tt := tTest (tOp rEq (tDGet (tVar 3) (tVar 10)) (tVar 4))) (te := tVar 10) (by rfl) nd rfl rfl (sw_true rfl rfl rfl (by decide +kernel)) (pi_list (pv 2))
              (blkOk_by (N := N_tells) (sc := defScope s_tells) (by decide +kernel)) (fun _ _ _ _ _ => pg_name (i := 10) nd rfl (Or.inl rfl)) (fun _ _ _ _ _ => pts_one (pt_cmpR op_eq (pe_dget hu (pv 3) (pv 10) (fun _ _ => rfl)) (pv 4) (nomark _)))
              (fun _ _ _ _ _ => pv 10))
        (pss_cons (ps_set (i := 8) nd rfl (Or.inl rfl) (pe_lst (pa_cons (pe_meth (pv 0) c.cl M.abv.me GA r4 M.abv.b .nil pass0 (pa_cons (pv 4) pa_nil)) (pa_cons (pe_meth (pv 0) c.cl M.ben.me GB r5 M.ben.b .nil pass0 (pa_cons (pv 4) pa_nil)) (pa_cons (pe_meth (pv 0) c.cl M.W.chM GK r4 M.W.ch2 .nil pass0 (pa_cons (pv 4) pa_nil)) pa_nil)))))
        (pss_cons (ps_if (PW.pt (pw_or (pt_cmpR op_ne (pe_meth (pv 0) c.cl M.ovr.me GV r4 M.ovr.b .nil pass0 (pa_cons (pv 4) pa_nil)) (pe_dget hu (pv 3) (pv 4) (fun _ _ => rfl)) (nomark _))
            (pw_or (pt_cmpR (op_neD hu64) (pv 8) (pe_lst (pa_cons (pv 5) (pa_cons (pv 6) (pa_cons (pv 7) pa_nil)))) (nomark _))
            (pw_or1 (pt_cmpR (op_neD hu64) (pe_meth (pv 0) c.cl M.W.chM GK r4 M.W.ch2 .nil pass0 (pa_cons pe_non pa_nil)) (pe_meth0 (pv 0) c.cl M.W.chM GK r4 bdk vdk pass0) (nomark _)))))) (pss_one (ps_ret pe_bl)) pss_nil)
        (pss_cons (ps_if (pt_cmpR (op_neD hu64) (pe_lc (own := [("_law_other", 10)]) (g := gName 10) (tt := tYes) (te := tMeth C "is_above" (sp_tisabove C) [] E0 (tVar 0) (tCons (tVar 10) (tCons (tVar 4) tNil))) rfl nd (pi_list (pv 2))
              (blkOk_by (N := N_tells) (sc := defScope s_tells) (by decide +kernel)) (fun _ _ _ _ _ => pg_name (i := 10) nd rfl (Or.inl rfl)) (fun _ _ _ _ _ => pts_nil) (fun _ _ _ _ _ => pe_meth (pv 0) c.cl M.isa.me GI r5 M.isa.b .nil pass0 (pa_cons (pv 10) (pa_cons (pv 4) pa_nil))))
            (pe_lc (own := [("_law_other", 10)]) (g := gName 10) (tt := tYes) (te := tOp (rIn K false) (tVar 10) (tVar 5)) rfl nd (pi_list (pv 2))
              (blkOk_by (N := N_tells) (sc := defScope s_tells) (by decide +kernel)) (fun _ _ _ _ _ => pg_name (i := 10) nd rfl (Or.inl rfl)) (fun _ _ _ _ _ => pts_nil) (fun _ _ _ _ _ => pe_cmpR op_in_seq (pv 10) (pv 5) rfl)) (nomark _)) (pss_one (ps_ret pe_bl)) pss_nil)
        (pss_one (ps_for PassesOwn.never rfl (pi_list (pe_op op_cat (pv 8) (pe_lst (pa_cons (pe_meth0 (pv 0) c.cl M.cols.me GC r1 M.cols.b .nil pass0) (pa_cons (pe_meth0 (pv 0) c.cl M.prs.me GP r1 M.prs.b .nil pass0) (pa_cons (pe_meth0 (pv 0) c.cl M.W.chM GK r4 bdk vdk pass0) pa_nil)))))) (pg_name (i := 9) nd rfl (Or.inl rfl))
          (pss_one (ps_expr (pe_bm PySem.F.plainAttrs_list PySem.F.slot_list_append PySem.F.type_list_append mt_append (pv 9) (pa_cons pe_str pa_nil)))))))))))))
      (pss_one (ps_ret (pe_cmpR (op_eqD hu64) (pe_meth0 (pv 0) c.cl M.cols.me GC r1 M.cols.b .nil pass0) (pv 2) (nomark _)))))))), ?_⟩
    obtain ⟨as, eL, ta⟩ := id hP
    have fo := foOk_mk va hl8 okn
    have nod := TM.valid_nodup va
    have le8 := fo.le
    refine ⟨_, rfl, L, ps, none, rfl, hP, va, hl8, TM.below_top ps (by omega), fun H1 O s1 nO eO => ?_⟩
    refine ⟨_, rfl, L, as, kvsOf ps, rfl, .of (s1 _ _ eL), pairs_es (ta.same s1), fun d ndd => ?_⟩
    have ed : upd H1 d (.dK (mergeK [] (kvsOf ps))) d = some (.dK (kvsOf ps)) := by rw [upd_same, merge_nil nod]
    have s2 : Same H (upd H1 d (.dK (mergeK [] (kvsOf ps)))) := s1.trans (Same.new ndd)
    have eO : upd H1 d (.dK (mergeK [] (kvsOf ps))) O = some (.lst ((TM.names (TM.mk ps none)).map V.str)) := (Same.new ndd) _ _ eO
    generalize upd H1 d (.dK (mergeK [] (kvsOf ps))) = H2 at ed s2 eO ⊢
    have tr2 := tr.same s2
    have hP2 := hP.same s2
    obtain ⟨dx, l, dd, h1, _, _⟩ := id tr2
    have dget : ∀ {x : Str} {a : List Str} {k : TM.Fo}, TM.loc (TM.mk ps none) x = some (a, k) → valV (kvsOf ps) (Sum.inr x : Key) = some (optV (TM.lastOr a none)) := fun hl => kvs_some nod (TM.mk_sub (TM.loc_flat none hl))
    -- columns, pairs, length
    refine ⟨_, rfl, t, dx, _, rfl, h1, nocols _ _, t, _, rfl, tr2, fun H3 L3 s3 n3 e3 => ?_⟩
    refine ⟨_, rfl, _, _, DpS e3, DpS (s3 _ _ eO), shS fo.ok, shS fo.ok, _, rfl, ?_⟩
    rw [eqv_dS, decide_eq_true rfl]
    refine ⟨_, rfl, t, dx, _, rfl, s3 _ _ h1, nopr _ _, t, _, rfl, tr2.same s3, fo, fun H4 L4 s4 n4 p4 => ?_⟩
    have t4 := s3.trans s4
    refine rd_prC (K := K) va fo (t4 _ _ eO) (t4 _ _ ed) rfl rfl rfl fun H5 L5 s5 n5 p5 => ?_
    have t5 := t4.trans s5
    have pk := PsOk.flat fo
    refine ⟨_, _, (p4.same s5).dp, p5.dp, shP pk, shP pk, _, rfl, ?_⟩
    rw [eqv_dP, decide_eq_true rfl]
    refine ⟨_, rfl, t, dx, _, rfl, t5 _ _ h1, t, _, rfl, tr2.same t5, _, rfl, by omega, ?_⟩
    refine ⟨_, rfl, O, _, rfl, .inl (.of (t5 _ _ eO)), rfl, _, rfl, ?_⟩
    rw [List.length_map, decide_eq_true rfl]
    -- the tops, the text
    refine ⟨_, rfl, t, dx, _, rfl, t5 _ _ h1, nochl _ _, t, _, none, TM.tops (TM.mk ps none), rfl, tr2.same t5, fo, .inl ⟨rfl, rfl⟩, fun H6 L6 s6 n6 e6 => ?_⟩
    have t6 := t5.trans s6
    have dec_of : ∀ {b : Bool} {n : Str} {ks : List Str}, (b = true ↔ n ∈ ks) → b = decide (V.str n ∈ ks.map V.str) := fun {b n ks} i => by
      by_cases hm : n ∈ ks
      · rw [decide_eq_true (List.mem_map.mpr ⟨n, hm, rfl⟩)]
        exact i.mpr hm
      · rw [decide_eq_false]
        · cases b with
          | false => rfl
          | true => exact absurd (i.mp rfl) hm
        · intro z
          obtain ⟨m, hm2, e2⟩ := List.mem_map.mp z
          exact hm (V.str.inj e2 ▸ hm2)
    have finF : ∀ {ks : List Str}, ks.Sublist (TM.names (TM.mk ps none)) → (((TM.names (TM.mk ps none)).map V.str).filter fun v => decide (v ∈ ks.map V.str)) = ks.map V.str := fun {ks} hk => by
      rw [filter_strs (TM.names (TM.mk ps none)) (fun n => decide (n ∈ ks)) _ fun n _ => (dec_of (by simp)).symm, TM.filter_mem fo.nd hk]
    dsimp only [List.map]
    refine lc_all (K := K) (l := O) (xs := (TM.names (TM.mk ps none)).map V.str) (g := id) (p := fun v => decide (v ∈ (TM.tops (TM.mk ps none)).map V.str)) ⟨_, rfl, rfl, fun _ _ e => e⟩ mono_var (.of (t6 _ _ eO)) (by rw [List.length_map]; omega) ?_ ?_ ?_
    · intro x hx h s7 h' s8 Q' q'
      obtain ⟨n, hn, rfl⟩ := List.mem_map.mp hx
      obtain ⟨an, kn, hln⟩ := TM.loc_names hn
      have s9 := (t6.trans s7).trans s8
      refine ⟨_, rfl, _, rfl, d, _, rfl, .inl ⟨_, Sum.inr n, .inl (s9 _ _ ed), rfl, (dget hln).symm⟩, _, rfl, ?_⟩
      rw [optV_ne_none, dec_of (b := (TM.lastOr an none).isNone) (n := n) (ks := TM.tops (TM.mk ps none)) ?_]
      · exact q' h' same_rfl
      · rw [Option.isNone_iff_eq_none]
        exact kids_iff fo (o := none) (.inl ⟨rfl, rfl⟩) hln
    · intro x hx _ h s7
      exact ee_var rfl
    intro L7 H7 s7 n7 e7
    rw [List.map_id, finF (TM.tops_sub _)] at e7
    have t7 := t6.trans s7
    have okt : ∀ x ∈ TM.tops (TM.mk ps none), TM.NameOk x := fun x hx => fo.ok x ((TM.tops_sub _).subset hx)
    refine ⟨_, _, DpS (s7 _ _ e6), DpS e7, shS okt, shS okt, _, rfl, ?_⟩
    rw [eqv_dS, decide_eq_true rfl]
    refine ⟨_, rfl, t, dx, _, rfl, t7 _ _ h1, t, _, rfl, tr2.same t7, fo, fun H8 s8 => ⟨_, rfl, ?_⟩⟩
    have t8 := t7.trans s8
    refine ⟨_, rfl, L, ps, none, rfl, hP2.same t8, va, hl8, okn, TM.below_top ps (by omega), fun H9 s9 => ⟨rfl, _, rfl, ?_⟩⟩
    have t9 := t8.trans s9
    rw [decide_eq_true rfl]
    -- name by name
    refine ⟨_, rfl, O, rfl, ⟨_, .of (t9 _ _ eO)⟩, ?_⟩
    refine for_it (walk_list (xs := (TM.names (TM.mk ps none)).map V.str)) (fun i σ h => ∃ (v4 v5 v6 v7 v8 v9 : Option V), σ = [some (.ref t), some (.ref L), some (.ref O), some (.ref d), v4, v5, v6, v7, v8, v9, none] ∧ Same H2 h)
      ⟨_, _, _, _, _, _, rfl, t9⟩ (fun i σ h _ ⟨_, _, _, _, _, _, _, s⟩ => .of (s _ _ eO)) ?_ ?_
    · rintro i v σ hA hA' hi ⟨v4, v5, v6, v7, v8, v9, rfl, sA⟩ ⟨rfl, hv⟩
      rw [List.length_map] at hi
      obtain ⟨n, hn, rfl⟩ : ∃ n, (TM.names (TM.mk ps none))[i]? = some n ∧ v = V.str n := by
        rw [List.getElem?_map, List.getElem?_eq_getElem hi] at hv
        exact ⟨_, List.getElem?_eq_getElem hi, (Option.some.inj hv).symm⟩
      have hnm : n ∈ TM.names (TM.mk ps none) := List.mem_of_getElem? hn
      obtain ⟨a, k, hl⟩ := TM.loc_names hnm
      have hsub := TM.loc_sub hl
      have hal : a.length ≤ 7 := by
        have := hsub.length_le
        rw [List.length_append, List.length_singleton] at this
        omega
      obtain ⟨nk, okk, lek⟩ := sub_ok fo hl
      have oka : ∀ x ∈ a, TM.NameOk x := fun x hx => fo.ok x (hsub.subset (List.mem_append_left _ hx))
      have okb : ∀ x ∈ n :: TM.names k, TM.NameOk x := fun x hx => (List.mem_cons.mp hx).elim (fun e => e ▸ fo.ok n hnm) (okk x)
      have okt : ∀ x ∈ TM.tops k, TM.NameOk x := fun x hx => okk x ((TM.tops_sub k).subset hx)
      have ltk := (TM.tops_sub k).length_le
      -- above, below
      refine ⟨_, rfl, _, rfl, L, ps, n, a, k, rfl, hP2.same sA, va, hl8, okn, hl, fun hB pA sB npA epA => ?_⟩
      have tB := sA.trans sB
      refine ⟨_, rfl, by show 1 ≤ sizeLine; decide, fun p1 np1 => ?_⟩
      have sC1 : Same hB (upd hB p1 (.lst [.str n])) := Same.new np1
      have ep1 : upd hB p1 (.lst [.str n]) p1 = some (.lst [.str n]) := upd_same
      generalize upd hB p1 (.lst [.str n]) = hC at sC1 ep1 ⊢
      have tC := tB.trans sC1
      refine ⟨_, rfl, _, rfl, L, ps, some n, rfl, hP2.same tC, va, hl8, ⟨[], ps, rfl, by omega, fun _ h => nomatch h⟩, fun hD p2 sD np2 ep2 => ?_⟩
      rw [TM.ord_loc va hl] at ep2
      refine ⟨p1, p2, _, _, rfl, rfl, sD _ _ ep1, ep2, ?_, fun p3 np3 => ?_⟩
      · rw [List.length_map]
        show 1 + _ ≤ sizeLine
        exact line100 (by omega)
      have sE : Same hD (upd hD p3 (.lst ([.str n] ++ (TM.names k).map V.str))) := Same.new np3
      have ep3 : upd hD p3 (.lst ([.str n] ++ (TM.names k).map V.str)) p3 = some (.lst ((n :: TM.names k).map V.str)) := upd_same
      generalize upd hD p3 (.lst ([.str n] ++ (TM.names k).map V.str)) = hE at sE ep3 ⊢
      have tE := (tC.trans sD).trans sE
      have epAE := ((sC1.trans sD).trans sE) _ _ epA
      -- children
      dsimp only [gName]
      refine sq_asg ?_
      refine lc_all (K := K) (l := O) (xs := (TM.names (TM.mk ps none)).map V.str) (g := id) (p := fun v => decide (v ∈ (TM.tops k).map V.str)) ⟨_, rfl, rfl, fun _ _ e => e⟩ mono_var (.of (tE _ _ eO)) (by rw [List.length_map]; omega) ?_ ?_ ?_
      · intro x hx h s7 h' s8 Q' q'
        obtain ⟨m, hm, rfl⟩ := List.mem_map.mp hx
        obtain ⟨am, km, hlm⟩ := TM.loc_names hm
        have s9 := (tE.trans s7).trans s8
        refine ⟨_, rfl, _, rfl, d, _, rfl, .inl ⟨_, Sum.inr m, .inl (s9 _ _ ed), rfl, (dget hlm).symm⟩, _, rfl, scal_opt _ (some n), _, rfl, ?_⟩
        have e0 : decide (optV (TM.lastOr am none) = V.str n) = decide (TM.lastOr am none = some n) := dec_opt _ (some n)
        rw [e0, dec_of (b := decide (TM.lastOr am none = some n)) (n := m) (ks := TM.tops k) ?_]
        · exact q' h' same_rfl
        · rw [decide_eq_true_iff]
          exact kids_iff fo (o := some n) (.inr ⟨n, a, k, rfl, hl, rfl⟩) hlm
      · intro x hx _ h s7
        exact ee_var rfl
      intro p4 hF sF np4 ep4
      rw [List.map_id, finF ((TM.tops_sub k).trans ((List.sublist_cons_self _ _).trans (TM.seg_sub hl)))] at ep4
      have tF := tE.trans sF
      -- told
      refine ⟨_, rfl, t, dx, _, rfl, tF _ _ h1, noabv _ _, _, rfl, t, _, n, a, k, rfl, tr2.same tF, fo, hl, fun hG m1 sG nm1 em1 => ?_⟩
      have tG := tF.trans sG
      refine ⟨_, rfl, t, dx, _, rfl, tG _ _ h1, noben _ _, _, rfl, t, _, n, a, k, rfl, tr2.same tG, fo, hl, fun hH m2 sH nm2 em2 => ?_⟩
      have tH := tG.trans sH
      refine ⟨_, rfl, t, dx, _, rfl, tH _ _ h1, nochl _ _, _, rfl, t, _, some n, TM.tops k, rfl, tr2.same tH, fo, .inr ⟨n, a, k, rfl, hl, rfl⟩, fun hI m3 sI nm3 em3 => ?_⟩
      have tI := tH.trans sI
      refine ⟨by show 3 ≤ sizeLine; decide, fun m4 nm4 => ?_⟩
      have sJ : Same hI (upd hI m4 (.lst [.ref m1, .ref m2, .ref m3])) := Same.new nm4
      have em4 : upd hI m4 (.lst [.ref m1, .ref m2, .ref m3]) m4 = some (.lst [.ref m1, .ref m2, .ref m3]) := upd_same
      generalize upd hI m4 (.lst [.ref m1, .ref m2, .ref m3]) = hJ at sJ em4 ⊢
      have tJ := tI.trans sJ
      have em1J := ((sH.trans sI).trans sJ) _ _ em1
      have em2J := (sI.trans sJ) _ _ em2
      have em3J := sJ _ _ em3
      have sFJ := ((sG.trans sH).trans sI).trans sJ
      have epAJ := (sF.trans sFJ) _ _ epAE
      have ep3J := (sF.trans sFJ) _ _ ep3
      have ep4J := sFJ _ _ ep4
      -- over
      refine ⟨_, rfl, t, dx, _, rfl, tJ _ _ h1, noov _ _, _, rfl, t, _, n, a, k, rfl, tr2.same tJ, fo, hl, fun hK sK => ?_⟩
      have tK := tJ.trans sK
      refine ⟨_, rfl, _, rfl, d, _, rfl, .inl ⟨_, Sum.inr n, .inl (tK _ _ ed), rfl, (dget hl).symm⟩, scal_opt _ _, _, rfl, ?_⟩
      rw [decide_eq_true rfl]
      -- the three lists
      refine ⟨_, rfl, _, rfl, _, rfl, _, rfl, by show 3 ≤ sizeLine; decide, fun m5 nm5 => ?_⟩
      have sL : Same hK (upd hK m5 (.lst [.ref pA, .ref p3, .ref p4])) := Same.new nm5
      have em5 : upd hK m5 (.lst [.ref pA, .ref p3, .ref p4]) m5 = some (.lst [.ref pA, .ref p3, .ref p4]) := upd_same
      generalize upd hK m5 (.lst [.ref pA, .ref p3, .ref p4]) = hL at sL em5 ⊢
      have tL := tK.trans sL
      have sKL := sK.trans sL
      have can3 : ∀ {ns : List Str}, (∀ x ∈ ns, TM.NameOk x) → PyData.canLay0 (dS ns) = true := fun h => by unfold dS PyData.canLay0; exact canS h
      have dep3 : ∀ ns : List Str, PyData.depth (dS ns) ≤ 1 := fun ns => by unfold dS PyData.depth; rw [depS]; exact Nat.le_refl _
      have c3 : PyData.canLay0 (.list [dS a, dS (n :: TM.names k), dS (TM.tops k)]) = true := canL fun y hy => by
        simp only [List.mem_cons, List.not_mem_nil, or_false] at hy
        rcases hy with e | e | e <;> subst e
        · exact can3 oka
        · exact can3 okb
        · exact can3 okt
      have s3' : SeqAt.shaped (.list [dS a, dS (n :: TM.names k), dS (TM.tops k)]) = true := shaped_of c3 (Nat.le_trans (depL (n := 1) fun y hy => by
        simp only [List.mem_cons, List.not_mem_nil, or_false] at hy
        rcases hy with e | e | e <;> subst e <;> exact dep3 _) (by decide))
      have three : ∀ {h : Hp} {z z1 z2 z3 : Addr}, h z = some (.lst [.ref z1, .ref z2, .ref z3]) → h z1 = some (.lst (a.map V.str)) → h z2 = some (.lst ((n :: TM.names k).map V.str)) → h z3 = some (.lst ((TM.tops k).map V.str)) → Dp K h (.ref z) (.list [dS a, dS (n :: TM.names k), dS (TM.tops k)]) :=
        fun e e1 e2 e3 => .lst (.of e) (.cons (DpS e1) (.cons (DpS e2) (.cons (DpS e3) .nil)))
      refine ⟨_, _, three (sKL _ _ em4) (sKL _ _ em1J) (sKL _ _ em2J) (sKL _ _ em3J), three em5 (sKL _ _ epAJ) (sKL _ _ ep3J) (sKL _ _ ep4J), s3', s3', _, rfl, ?_⟩
      rw [eqv_same c3 rfl]
      -- children of none
      refine ⟨_, rfl, t, dx, _, rfl, tL _ _ h1, nochl _ _, ?_⟩
      refine ⟨t, _, none, TM.tops (TM.mk ps none), rfl, tr2.same tL, fo, .inl ⟨rfl, rfl⟩, fun hM m6 sM nm6 em6 => ?_⟩
      have tM := tL.trans sM
      refine ⟨_, rfl, t, dx, _, rfl, tM _ _ h1, nochl _ _, t, _, none, TM.tops (TM.mk ps none), rfl, tr2.same tM, fo, .inl ⟨rfl, rfl⟩, fun hN m7 sN nm7 em7 => ?_⟩
      have tN := tM.trans sN
      have okT : ∀ x ∈ TM.tops (TM.mk ps none), TM.NameOk x := fun x hx => fo.ok x ((TM.tops_sub _).subset hx)
      refine ⟨_, _, DpS (sN _ _ em6), DpS em7, shS okT, shS okT, _, rfl, ?_⟩
      rw [eqv_dS, decide_eq_true rfl]
      -- is_above
      obtain ⟨bs, hbs⟩ : ∃ bs, bs = (TM.names (TM.mk ps none)).map fun o => decide (o ∈ a) := ⟨_, rfl⟩
      have gmap : ∀ g : V → V, (∀ o ∈ TM.names (TM.mk ps none), g (.str o) = .bl (decide (o ∈ a))) → ((TM.names (TM.mk ps none)).map V.str).map g = bs.map V.bl := fun g hg => by
        rw [hbs, List.map_map, List.map_map]
        exact List.map_congr_left fun o ho => hg o ho
      obtain ⟨gB, hgB⟩ : ∃ g : V → V, ∀ o, g (.str o) = .bl (decide (o ∈ a)) := ⟨fun v => match v with | .str o => .bl (decide (o ∈ a)) | _ => .non, fun o => rfl⟩
      rw [if_neg (by decide : ¬ (!true) = true)]
      dsimp only [tNext, tSeq, tIfS, tTest, tOp, List.map]
      refine lc_all (K := K) (l := O) (xs := (TM.names (TM.mk ps none)).map V.str) (g := gB) (p := fun _ => true) ⟨_, rfl, rfl, fun _ _ e => e⟩ mono_var (.of (tN _ _ eO)) (by rw [List.length_map]; omega) (fun v hv h5 s5 => et_yes) ?_ ?_
      · intro x hx _ h s7 h' s8 Q' q'
        obtain ⟨m, hm, rfl⟩ := List.mem_map.mp hx
        have s9 := (tN.trans s7).trans s8
        refine ⟨_, rfl, t, dx, _, rfl, s9 _ _ h1, noisa _ _, _, rfl, _, rfl, t, _, m, n, a, k, rfl, tr2.same s9, fo, hm, hl, fun h2 s2 => ?_⟩
        rw [← hgB m]
        exact q' h2 s2
      intro b1 hO1 sO1 nb1 eb1
      rw [filter_yes, gmap gB fun o _ => hgB o] at eb1
      have tO := tN.trans sO1
      have epAO := ((((sKL.trans sM).trans sN).trans sO1)) _ _ epAJ
      refine lc_all (K := K) (l := O) (xs := (TM.names (TM.mk ps none)).map V.str) (g := gB) (p := fun _ => true) ⟨_, rfl, rfl, fun _ _ e => e⟩ mono_var (.of (tO _ _ eO)) (by rw [List.length_map]; omega) (fun v hv h5 s5 => et_yes) ?_ ?_
      · intro x hx _ h s7 h' s8 Q' q'
        obtain ⟨m, hm, rfl⟩ := List.mem_map.mp hx
        refine ⟨_, rfl, _, rfl, pA, _, rfl, .inl (.of (s8 _ _ (s7 _ _ epAO))), rfl, TX.flat_strs _, ?_⟩
        show Q' (.bl (inV (.str m) (a.map V.str))) h'
        rw [inV_str, ← hgB m]
        exact q' h' same_rfl
      intro b2 hP1 sP1 nb2 eb2
      rw [filter_yes, gmap gB fun o _ => hgB o] at eb2
      have tP := tO.trans sP1
      refine ⟨_, _, Dp_bools (sP1 _ _ eb1), Dp_bools eb2, bool_data _, bool_data _, _, rfl, ?_⟩
      rw [bool_refl]
      -- what is told is changed
      have u4 := ((((sKL.trans sM).trans sN).trans sO1).trans sP1)
      refine ⟨_, rfl, _, rfl, t, dx, _, rfl, tP _ _ h1, nocols _ _, t, _, rfl, tr2.same tP, fun hQ q1 sQ nq1 eq1 => ?_⟩
      have tQ := tP.trans sQ
      refine ⟨_, rfl, t, dx, _, rfl, tQ _ _ h1, nopr _ _, t, _, rfl, tr2.same tQ, fo, fun hR q2 sR nq2 pq2 => ?_⟩
      have tR := tQ.trans sR
      obtain ⟨aq, eq2, _⟩ := id pq2
      refine ⟨_, rfl, t, dx, _, rfl, tR _ _ h1, nochl _ _, t, _, none, TM.tops (TM.mk ps none), rfl, tr2.same tR, fo, .inl ⟨rfl, rfl⟩, fun hS q3 sS nq3 eq3 => ?_⟩
      have tS := tR.trans sS
      refine ⟨by show 3 ≤ sizeLine; decide, fun q4 nq4 => ?_⟩
      have sT : Same hS (upd hS q4 (.lst [.ref q1, .ref q2, .ref q3])) := Same.new nq4
      have w4 := (((u4.trans sQ).trans sR).trans sS).trans sT
      refine ⟨m4, q4, _, _, rfl, rfl, w4 _ _ em4, upd_same, by show 3 + 3 ≤ sizeLine; decide, fun q5 nq5 => ?_⟩
      have sU : Same (upd hS q4 (.lst [.ref q1, .ref q2, .ref q3])) (upd (upd hS q4 (.lst [.ref q1, .ref q2, .ref q3])) q5 (.lst ([.ref m1, .ref m2, .ref m3] ++ [.ref q1, .ref q2, .ref q3]))) := Same.new nq5
      have eq5 : upd (upd hS q4 (.lst [.ref q1, .ref q2, .ref q3])) q5 (.lst ([.ref m1, .ref m2, .ref m3] ++ [.ref q1, .ref q2, .ref q3])) q5 = some (.lst (([m1, m2, m3, q1, q2, q3] : List Addr).map V.ref)) := upd_same
      generalize upd (upd hS q4 (.lst [.ref q1, .ref q2, .ref q3])) q5 (.lst ([.ref m1, .ref m2, .ref m3] ++ [.ref q1, .ref q2, .ref q3])) = hU at sU eq5 ⊢
      have tU := (tS.trans sT).trans sU
      have x4 := w4.trans sU
      refine ⟨q5, rfl, ⟨_, .of eq5⟩, ?_⟩
      have six : ∀ z ∈ ([m1, m2, m3, q1, q2, q3] : List Addr), z ≠ q5 ∧ H2 z = none ∧ ∃ xs, hU z = some (.lst xs) ∧ xs.length ≤ 20 := by
        have ne5 : ∀ z o, (upd hS q4 (.lst [.ref q1, .ref q2, .ref q3])) z = some o → z ≠ q5 := fun z o e => ne_of_none e nq5
        intro z hz
        simp only [List.mem_cons, List.not_mem_nil, or_false] at hz
        rcases hz with e | e | e | e | e | e <;> subst e
        · exact ⟨ne5 _ _ (w4 _ _ em1J), tF.free nm1, _, x4 _ _ em1J, by rw [List.length_map]; omega⟩
        · exact ⟨ne5 _ _ (w4 _ _ em2J), tG.free nm2, _, x4 _ _ em2J, by rw [List.length_map, List.length_cons]; omega⟩
        · exact ⟨ne5 _ _ (w4 _ _ em3J), tH.free nm3, _, x4 _ _ em3J, by rw [List.length_map]; omega⟩
        · exact ⟨ne5 _ _ (((sR.trans sS).trans sT) _ _ eq1), tP.free nq1, _, ((((sR.trans sS).trans sT).trans sU) _ _ eq1), by rw [List.length_map]; omega⟩
        · refine ⟨ne5 _ _ ((sS.trans sT) _ _ eq2), tQ.free nq2, _, (((sS.trans sT).trans sU) _ _ eq2), ?_⟩
          have hfl : aq.length = (TM.flat (TM.mk ps none) none).length := by
            obtain ⟨aq', e1, t1⟩ := id pq2
            rw [eq2] at e1
            have e2 := Option.some.inj e1
            injection e2 with e3
            have := congrArg List.length e3
            rw [List.length_map, List.length_map] at this
            rw [this]
            exact t1.len
          have : (TM.flat (TM.mk ps none) none).length = (TM.names (TM.mk ps none)).length := by rw [← TM.flat_names _ none, List.length_map]
          rw [List.length_map]
          omega
        · exact ⟨ne5 _ _ (sT _ _ eq3), tR.free nq3, _, (sT.trans sU) _ _ eq3, by rw [List.length_map]; have := (TM.tops_sub (TM.mk ps none)).length_le; omega⟩
      refine for_it (walk_list (xs := ([m1, m2, m3, q1, q2, q3] : List Addr).map V.ref)) (fun j σ h => ∃ (v9 : Option V), σ = [some (.ref t), some (.ref L), some (.ref O), some (.ref d), some (.str n), some (.ref pA), some (.ref p3), some (.ref p4), some (.ref m4), v9, none] ∧ Same H2 h ∧
          h q5 = some (.lst (([m1, m2, m3, q1, q2, q3] : List Addr).map V.ref)) ∧ ∀ z ∈ ([m1, m2, m3, q1, q2, q3] : List Addr), ∃ xs, h z = some (.lst xs) ∧ xs.length ≤ 20 + j)
        ⟨v9, rfl, tU, eq5, fun z hz => (six z hz).2.2⟩ (fun j σ h _ ⟨_, _, _, e, _⟩ => .of e) ?_ ?_
      · rintro j v σ h h' hj ⟨v9', rfl, sV, e5, hall⟩ ⟨rfl, hv⟩
        obtain ⟨z, hz, rfl⟩ : ∃ z, z ∈ ([m1, m2, m3, q1, q2, q3] : List Addr) ∧ v = V.ref z := by
          obtain ⟨z, hz, e⟩ := List.mem_map.mp (List.mem_of_getElem? hv)
          exact ⟨z, hz, e.symm⟩
        obtain ⟨xs, ex, lx⟩ := hall z hz
        obtain ⟨hz5, hz2, _⟩ := six z hz
        have hj6 : j < 6 := hj
        refine ⟨_, rfl, .inl ⟨rfl, _, .inl (.inl ex)⟩, z, xs, _, rfl, rfl, ex, line100' (by omega), _, rfl, Same.mut sV hz2, by rw [upd_ne hz5.symm]; exact e5, fun y hy => ?_⟩
        by_cases hyz : y = z
        · subst hyz
          exact ⟨_, upd_same, by rw [List.length_append, List.length_singleton]; omega⟩
        · obtain ⟨ys, ey, ly⟩ := hall y hy
          exact ⟨ys, by rw [upd_ne hyz]; exact ey, by omega⟩
      · rintro σ h ⟨v9', rfl, sV, _, _⟩
        exact ⟨_, _, _, _, _, _, rfl, sV⟩
    · rintro σ h ⟨v4, v5, v6, v7, v8, v9, rfl, sA⟩
      refine ⟨_, rfl, t, dx, _, rfl, sA _ _ h1, nocols _ _, t, _, rfl, tr2.same sA, fun H3 L3 s3 n3 e3 => ?_⟩
      refine ⟨_, rfl, _, _, DpS e3, DpS ((sA.trans s3) _ _ eO), shS fo.ok, shS fo.ok, ?_⟩
      rw [eqv_dS, decide_eq_true rfl]
      exact q H3 ((s2.trans sA).trans s3)
end
end T10

set_option maxHeartbeats 4000000
namespace T10
open PySem L2 PyProof.Rows TX TY TQ TT TF TW TD
section
variable {P : Program} {w : World} {K : PySem.W.Frag} {mg : Str → Option Value} {base : Heap}
variable {fN fC fP fT fO : Addr} {dN dC dP dT dO : FuncData}
/-- trees are made and held against each other -/
structure Td (K : PySem.W.Frag) (mg : Str → Option Value) (C fI fq : Addr) (dI dq : FuncData) : Prop where
  iF : Fun K "__init__" "Tree.__init__" s_tinit fI dI
  iM : Mk K C fI
  iB : Binds K dI ["self", "pairs"] []
  eq : Mt K C "__eq__" "Tree.__eq__" s_teq ["self", "other"] fq dq
  ne : PySem.W.findIn K (.ref C) "__ne__" = some (some (.builtin "object.__ne__"))
  kl : PySem.W.kitOne K (.type "list") (.ref C) = some false
  kn : PySem.W.kitOne K (.type "NoneType") (.ref C) = some false
  nl : PySem.W.notFirst K C (.type "list") = true
  nn : PySem.W.notFirst K C (.type "NoneType") = true
  ns : PySem.W.notFirst K C (.ref C) = true
/-- the defs that draw, and the one that asks -/
structure Ld (K : PySem.W.Frag) (mg : Str → Option Value) (gD gN gP gT : Addr) (eD eN eP eT : FuncData) : Prop where
  draw : Fn K mg "_law_draw" s_draw ["_law_well_here", "_law_top"] gD eD
  nms : Fn K mg "_law_names" s_names ["_law_well_here", "_law_count"] gN eN
  prs : Fn K mg "_law_pairs" s_pairs ["_law_well_here", "_law_names_here"] gP eP
  tel : Fn K mg "_law_tells" s_tells ["_law_tree", "_law_pairs_here"] gT eT
variable {C hc hp hl hv ha hb hi hs hk hm hw fI fq : Addr} {gc gp gl gv ga gb gi gs gk gm gw dI dq : FuncData}
variable {jO jA jT jF gD gN gP gT : Addr} {eO eA eT eF eD eN eP eU : FuncData}
abbrev N_right : List Str := ["_law_well_here", "_law_names_here", "_law_pairs_here", "_law_handed", "_law_tree", "_law_other", "_law_turned", "_law_same"]
theorem sc_right : FnScope N_right ["_law_well_here"] (defScope s_right) := ⟨rfl, rfl, rfl, by decide +kernel, rfl, by decide +kernel, by decide +kernel⟩
def sp_right : Sp := fun vs H Q _ => ∃ W : Addr, vs = [.ref W] ∧ WellAt 1000 H W ∧ ∀ H', Sm W H H' → Q (.bl true) H'
/-- a tree beside another, equal or not -/
theorem own_eq {H : Hp} {a b : Addr} {f g : TM.Fo} {neg : Bool} {Q : VK} (D : Td K mg C fI fq dI dq) (c : Tc K mg C) (h : TreeAt C H a f) (k : TreeAt C H b g) (ok : FoOk f) (okg : FoOk g) (q : ∀ H', Same H H' → Q (.bl (if neg = true then !sameF f g else sameF f g)) H') :
    rOwnEq K C (sp_teqG (K := K) C) E0 neg (.ref a) (.ref b) H Q := by
  obtain ⟨dx, l, d, h1, h2, h3⟩ := id h
  obtain ⟨dx', l', d', h1', h2', h3'⟩ := id k
  exact ⟨a, dx, _, .ref C, rfl, h1, .base (.ins h1' c.cl c.ins.ha c.ins.hn c.ins.htk c.ins.hm), D.ns, a, .ref b, f, rfl, h, ok, .inl ⟨b, g, rfl, k, okg, fun H' s => ⟨_, rfl, q H' s⟩⟩⟩
theorem own_list {H : Hp} {a b : Addr} {f : TM.Fo} {xs : List V} {Q : VK} (D : Td K mg C fI fq dI dq) (h : TreeAt C H a f) (k : H b = some (.lst xs)) (ok : FoOk f) (q : ∀ H', Same H H' → Q (.bl false) H') :
    rOwnEq K C (sp_teqG (K := K) C) E0 false (.ref a) (.ref b) H Q := by
  obtain ⟨dx, l, d, h1, h2, h3⟩ := id h
  exact ⟨a, dx, _, .type "list", rfl, h1, .base (.lst k), D.nl, a, .ref b, f, rfl, h, ok, .inr ⟨_, .base (.lst k), D.kl, fun H' s => ⟨_, rfl, q H' s⟩⟩⟩
theorem own_none {H : Hp} {a : Addr} {f : TM.Fo} {Q : VK} (D : Td K mg C fI fq dI dq) (h : TreeAt C H a f) (ok : FoOk f) (q : ∀ H', Same H H' → Q (.bl false) H') :
    rOwnEq K C (sp_teqG (K := K) C) E0 false (.ref a) .non H Q := by
  obtain ⟨dx, l, d, h1, h2, h3⟩ := id h
  exact ⟨a, dx, _, .type "NoneType", rfl, h1, .base .non, D.nn, a, .non, f, rfl, h, ok, .inr ⟨_, .base .non, D.kn, fun H' s => ⟨_, rfl, q H' s⟩⟩⟩
theorem ee_use {te : TE} {s : L2.St} {H : Hp} {v : V} {Q : VK} (h : Ee te s H v) (k : ∀ h', Same H h' → Q v h') : te s H Q := h H same_rfl Q k
theorem paired_take {α β : Type} {R : α → β → Prop} {as : List α} {bs : List β} (h : Paired R as bs) : ∀ n, Paired R (as.take n) (bs.take n) := by
  induction h with
  | nil => intro n; rw [List.take_nil, List.take_nil]; exact .nil
  | cons r _ ih =>
    intro n
    cases n with
    | zero => exact .nil
    | succ n => exact .cons r (ih n)
theorem _root_.TX.TupsAt.take {H : Hp} {as : List Addr} {ps : List TM.Pr} (h : TupsAt H as ps) (n : Nat) : TupsAt H (as.take n) (ps.take n) := paired_take h n
theorem ok_right {f : Addr} {fd : FuncData} (F : Fn K mg "_law_right" s_right ["_law_well_here"] f fd) (T : Kd K mg fN fC fP fT fO dN dC dP dT dO) (D : Td K mg C fI fq dI dq) (M : Tl K mg C hc hp hl hv ha hb hi hs hk hm hw gc gp gl gv ga gb gi gs gk gm gw) (Lw : Lt K mg jO jA jT jF eO eA eT eF)
    (L : Ld K mg gD gN gP gT eD eN eP eU) : FnOk P w K mg base CX0 18 f fd ["_law_well_here"] sp_right := by
  have B := T.B
  have c := M.c
  have GD : FnOk P w K mg base CX0 1 gD eD ["_law_well_here", "_law_top"] sp_draw := ok_draw L.draw
  have GN : FnOk P w K mg base CX0 2 gN eN ["_law_well_here", "_law_count"] sp_names := ok_names L.nms B L.draw
  have GR : FnOk P w K mg base CX0 2 gP eP ["_law_well_here", "_law_names_here"] sp_pairs := ok_pairs L.prs B L.draw
  have GT : FnOk P w K mg base CX0 17 gT eU ["_law_tree", "_law_pairs_here"] (sp_tells C) := ok_tells L.tel T M Lw
  have GI : FnOk P w K mg base CX0 10 fI dI ["self", "pairs"] (sp_tinit C) := ok_tinit D.iF T c
  have GP : FnOk P w K mg base CX0 1 hp gp ["self"] (sp_tpairs C) := ok_tpairs M.prs.F B c
  have GF : FnOk P w K mg base CX0 2 jF eF ["_law_pairs_here"] sp_fl := ok_fl Lw.flo B Lw.abv
  have GO : FnOk P w K mg base CX0 9 jO eO ["_law_pairs_here", "_law_over"] (sp_order 9) := ok_order Lw.ord 9
  have GE : FnOk P w K mg base CX0 1 fq dq ["self", "other"] (sp_teqG (K := K) C) := ok_teqG D.eq.F B c
  refine F.F.ok sc_right (fun vs H Q E h => ?_) (fun cdv A outer s H vs Q E hr h => ?_)
  · obtain ⟨W, rfl, _⟩ := h
    rfl
  · obtain ⟨W, rfl, hW, q⟩ := h
    have hu := hu_of hr
    have hu0 := hr.units0
    have hu64 := hr.units
    have r1 : Room 1 _ := hr.mono (by decide)
    have r2 : Room 2 _ := hr.mono (by decide)
    have r9 : Room 9 _ := hr.mono (by decide)
    have r11 : Room 11 _ := hr.mono (by decide)
    have nd := sc_right.nd
    refine ⟨_, pss_cons (ps_set (i := 1) nd rfl (Or.inl rfl) (pe_call GN r2 rfl L.nms.g L.nms.F.kp L.nms.b .nil pass0 (pa_cons (pv 0) (pa_cons (pe_ix ix_list (pe_lst (pa_cons pe_int (pa_cons pe_int (pa_cons pe_int (pa_cons pe_int (pa_cons pe_int (pa_cons pe_int (pa_cons pe_int (pa_cons pe_int pa_nil))))))))) (pe_call GD r1 rfl L.draw.g L.draw.F.kp L.draw.b .nil pass0 (pa_cons (pv 0) (pa_cons pe_int pa_nil))) (fun _ _ => rfl)) pa_nil))))
      (pss_cons (ps_set (i := 2) nd rfl (Or.inl rfl) (pe_call GR r2 rfl L.prs.g L.prs.F.kp L.prs.b .nil pass0 (pa_cons (pv 0) (pa_cons (pv 1) pa_nil))))
      (pss_cons (ps_set (i := 3) nd rfl (Or.inl rfl) (pe_callTy call_list_of (by rfl) B.list boot_list (pa_cons (pv 2) pa_nil)))
      (pss_cons (ps_set (i := 4) nd rfl (Or.inl rfl) (pe_make D.iM GI r11 rfl c.g D.iB .nil pass0 (pa_cons (pv 3) pa_nil)))
      (pss_cons (ps_if (pt_cmpR (op_neD hu64) (pv 3) (pv 2) (nomark _)) (pss_one (ps_ret pe_bl)) pss_nil)
      (pss_cons (ps_expr (pe_bm PySem.F.plainAttrs_list PySem.F.slot_list_append PySem.F.type_list_append mt_append (pv 3) (pa_cons (pe_tup (pa_cons pe_str (pa_cons pe_non pa_nil))) pa_nil)))
      (pss_cons (ps_if (PW.pt (pw_or (pt_not (pt_val (pe_call GT hr rfl L.tel.g L.tel.F.kp L.tel.b .nil pass0 (pa_cons (pv 4) (pa_cons (pv 2) pa_nil)))))
          (pw_or (pt_not (pt_val (pe_call GT hr rfl L.tel.g L.tel.F.kp L.tel.b .nil pass0 (pa_cons (pv 4) (pa_cons (pv 2) pa_nil)))))
          (pw_or (pt_cmpR (op_eqOwn GE D.eq.me.at_ D.eq.me.fn D.eq.b pass0 r1) (pv 4) (pv 2) (nomark _))
          (pw_or1 (pt_cmpR (op_eqOwn GE D.eq.me.at_ D.eq.me.fn D.eq.b pass0 r1) (pv 4) pe_non (nomark _))))))) (pss_one (ps_ret pe_bl)) pss_nil)
      (pss_cons (ps_for PassesOwn.never rfl (pi_list (pe_lst (pa_cons (pe_meth0 (pv 4) c.cl M.prs.me GP r1 M.prs.b .nil pass0) (pa_cons (pe_call GF r2 rfl Lw.flo.g Lw.flo.F.kp Lw.flo.b .nil pass0 (pa_cons (pv 2) pa_nil)) pa_nil)))) (pg_name (i := 5) nd rfl (Or.inl rfl))
        (pss_one (ps_if (PW.pt (pw_or (pt_not (pt_cmpR (op_eqOwn GE D.eq.me.at_ D.eq.me.fn D.eq.b pass0 r1) (pe_make D.iM GI r11 rfl c.g D.iB .nil pass0 (pa_cons (pv 5) pa_nil)) (pv 4) (nomark _)))
          (pw_or1 (pt_not (pt_val (pe_call GT hr rfl L.tel.g L.tel.F.kp L.tel.b .nil pass0 (pa_cons (pe_make D.iM GI r11 rfl c.g D.iB .nil pass0 (pa_cons (pv 5) pa_nil)) (pa_cons (pv 2) pa_nil)))))))) (pss_one (ps_ret pe_bl)) pss_nil)))
      (pss_cons (ps_if (pt_cmpR (op_eqD hu64) (pv 2) (pe_lst pa_nil) (nomark _)) (pss_one (ps_ret pe_bl)) pss_nil)
      (pss_cons (ps_set (i := 6) nd rfl (Or.inl rfl) (pe_call GR r2 rfl L.prs.g L.prs.F.kp L.prs.b .nil pass0 (pa_cons (pv 0) (pa_cons (pv 1) pa_nil))))
      (pss_cons (ps_set (i := 7) nd rfl (Or.inl rfl) (pe_and (pe_cmpR (op_eqD hu64) (pe_call GO r9 rfl Lw.ord.g Lw.ord.F.kp Lw.ord.b .nil pass0 (pa_cons (pv 6) (pa_cons pe_non pa_nil))) (pe_call GO r9 rfl Lw.ord.g Lw.ord.F.kp Lw.ord.b .nil pass0 (pa_cons (pv 2) (pa_cons pe_non pa_nil))) (nomark _))
          (pe_one (pe_cmpR (op_eqDB hu0) (pe_callTy (call_dP rfl) (by rfl) B.dict boot_dict (pa_cons (pv 6) pa_nil)) (pe_callTy (call_dP rfl) (by rfl) B.dict boot_dict (pa_cons (pv 2) pa_nil)) (nomark _)))))
      (pss_one (ps_ret (pe_and (pe_cmpR op_eq (pe_cmpR (op_eqOwn GE D.eq.me.at_ D.eq.me.fn D.eq.b pass0 r1) (pe_make D.iM GI r11 rfl c.g D.iB .nil pass0 (pa_cons (pv 6) pa_nil)) (pv 4) (nomark _)) (pv 7) (nomark _))
          (pe_and (pe_cmpR op_ne (pe_cmpR (op_neOwn GE c.ins.hm D.ne D.eq.me.at_ D.eq.me.fn D.eq.b pass0 r2) (pe_make D.iM GI r11 rfl c.g D.iB .nil pass0 (pa_cons (pv 6) pa_nil)) (pv 4) (nomark _)) (pv 7) (nomark _))
          (pe_one (pe_cmpR (op_neOwn GE c.ins.hm D.ne D.eq.me.at_ D.eq.me.fn D.eq.b pass0 r2) (pe_make D.iM GI r11 rfl c.g D.iB .nil pass0 (pa_cons (pe_slice sl_list (pv 2) po_none (po_some (pe_un un_neg pe_int))) pa_nil)) (pv 4) (nomark _))))))))))))))))), ?_⟩
    -- names
    refine ⟨_, rfl, by show 8 ≤ sizeLine; decide, fun p0 n0 => ?_⟩
    have s0 : Same H (upd H p0 (.lst [.int 3, .int 5, .int 8, .int 2, .int 1, .int 0, .int 4, .int 6])) := Same.new n0
    have e0 : upd H p0 (.lst [.int 3, .int 5, .int 8, .int 2, .int 1, .int 0, .int 4, .int 6]) p0 = some (.lst [.int 3, .int 5, .int 8, .int 2, .int 1, .int 0, .int 4, .int 6]) := upd_same
    generalize upd H p0 (.lst [.int 3, .int 5, .int 8, .int 2, .int 1, .int 0, .int 4, .int 6]) = H1 at s0 e0 ⊢
    have p0W : p0 ≠ W := (hW.ne n0).symm
    refine ⟨_, rfl, W, 8, 998, rfl, by decide, by decide, (hW.same s0).mono (by decide), fun H2 r8 hr8 s2 w2 => ?_⟩
    obtain ⟨t, ht, hv⟩ : ∃ t : Nat, t ≤ 8 ∧ atI [V.int 3, .int 5, .int 8, .int 2, .int 1, .int 0, .int 4, .int 6] (r8 : Int) = some (V.int t) := by
      have : r8 = 0 ∨ r8 = 1 ∨ r8 = 2 ∨ r8 = 3 ∨ r8 = 4 ∨ r8 = 5 ∨ r8 = 6 ∨ r8 = 7 := by omega
      rcases this with e | e | e | e | e | e | e | e <;> subst e
      · exact ⟨3, by decide, rfl⟩
      · exact ⟨5, by decide, rfl⟩
      · exact ⟨8, by decide, rfl⟩
      · exact ⟨2, by decide, rfl⟩
      · exact ⟨1, by decide, rfl⟩
      · exact ⟨0, by decide, rfl⟩
      · exact ⟨4, by decide, rfl⟩
      · exact ⟨6, by decide, rfl⟩
    refine ⟨p0, _, (r8 : Int), .int (t : Int), rfl, rfl, .of (s2 _ _ p0W e0), hv, ?_⟩
    refine ⟨W, t, 900, rfl, by omega, w2.mono (by omega), fun H3 Nn ns s3 w3 nNn NnW eNn lns ndn okn => ?_⟩
    have m3 : Sm W H H3 := ((Sm.of s0).trans s2).trans s3
    -- pairs
    refine ⟨_, rfl, _, rfl, W, Nn, ns, 800, rfl, eNn, NnW, ndn, by omega, w3.mono (by omega), fun H4 Lp ps s4 w4 nLp LpW hP hf va => ?_⟩
    have m4 := m3.trans s4
    have l8 : ps.length ≤ 8 := by rw [← List.length_map (f := Prod.fst), hf]; omega
    have okp : ∀ x ∈ ps.map Prod.fst, TM.NameOk x := by rw [hf]; exact okn
    have fo := foOk_mk va l8 okp
    have pok : PsOk ps := fun q hq => PsOk.flat fo q ((TF.flat_mem va).mpr hq)
    have eNn4 := s4 _ _ NnW eNn
    obtain ⟨as, eL, ta⟩ := id hP
    -- handed
    refine ⟨_, rfl, Lp, as.map V.ref, rfl, .inl (.of eL), fun Lh nLh => ?_⟩
    have s5 : Same H4 (upd H4 Lh (.lst (as.map V.ref))) := Same.new nLh
    have eLh : upd H4 Lh (.lst (as.map V.ref)) Lh = some (.lst (as.map V.ref)) := upd_same
    generalize upd H4 Lh (.lst (as.map V.ref)) = H5 at s5 eLh ⊢
    have hPh : PairsAt H5 Lh ps := ⟨as, eLh, ta.same s5⟩
    -- the tree
    refine ⟨_, rfl, fun x dx nx ndx hne => ?_⟩
    have sx : Same H5 (upd (upd H5 dx (.own x)) x (.ins C dx [])) := fun c o e => by rw [upd_ne (ne_of_none e nx), upd_ne (ne_of_none e ndx)]; exact e
    refine ⟨x, Lh, dx, ps, rfl, upd_same, hPh.same sx, va, l8, okp, fun H6 tx kx kz => ⟨rfl, ?_⟩⟩
    have s6 : Same H5 H6 := fun c o e => kx c o (ne_of_none e nx) (sx _ _ e)
    have hPh6 := hPh.same s6
    have hP6 := hP.same (s5.trans s6)
    have eLh6 := s6 _ _ eLh
    refine ⟨_, rfl, _, rfl, _, _, hPh6.dp, hP6.dp, shP pok, shP pok, _, rfl, ?_⟩
    rw [eqv_dP, decide_eq_true rfl]
    -- what was handed in is changed
    refine ⟨_, rfl, .inl ⟨rfl, _, .inl (.inl eLh6)⟩, two_le, fun tz ntz => ?_⟩
    have eLh7 : ∀ o, upd H6 tz o Lh = some (.lst (as.map V.ref)) := fun o => by rw [upd_ne (ne_of_none eLh6 ntz)]; exact eLh6
    refine ⟨Lh, _, _, rfl, rfl, eLh7 _, by rw [List.length_map, ta.len]; exact line100' (by omega), ?_⟩
    have nLhH : H Lh = none := m4.free hW nLh ⟨_, w4⟩
    have LhW : Lh ≠ W := (w4.ne nLh).symm
    have m7 : Sm W H (upd (upd H6 tz (.tup [.str "z", .non])) Lh (.lst (as.map V.ref ++ [.ref tz]))) := ((m4.trans (.of ((s5.trans s6).trans (Same.new ntz)))).mut nLhH)
    have w7 : WellAt 800 (upd (upd H6 tz (.tup [.str "z", .non])) Lh (.lst (as.map V.ref ++ [.ref tz]))) W := ((w4.same ((s5.trans s6).trans (Same.new ntz))).upd LhW.symm)
    have tx7 : TreeAt C (upd (upd H6 tz (.tup [.str "z", .non])) Lh (.lst (as.map V.ref ++ [.ref tz]))) x (TM.mk ps none) := by
      refine (kz Lh _ (.lst (as.map V.ref ++ [.ref tz])) (ne_of_none eLh nx) (sx _ _ eLh)).same fun c o e => ?_
      by_cases hc : c = Lh
      · subst hc
        rw [upd_same] at e ⊢
        exact e
      · rw [upd_ne hc] at e ⊢
        rw [upd_ne (ne_of_none e ntz)]
        exact e
    have neL : Lp ≠ Lh := fun z => by rw [← z, eL] at nLh; cases nLh
    have neN : Nn ≠ Lh := fun z => by rw [← z, eNn4] at nLh; cases nLh
    have s57 : ∀ c o, c ≠ Lh → H4 c = some o → upd (upd H6 tz (.tup [.str "z", .non])) Lh (.lst (as.map V.ref ++ [.ref tz])) c = some o := fun c o hc e => by
      rw [upd_ne hc]
      exact ((s5.trans s6).trans (Same.new ntz)) _ _ e
    have hP7 : PairsAt (upd (upd H6 tz (.tup [.str "z", .non])) Lh (.lst (as.map V.ref ++ [.ref tz]))) Lp ps :=
      ⟨as, s57 _ _ neL eL, (ta.same ((s5.trans s6).trans (Same.new ntz))).put (eLh7 _)⟩
    have eNn7 := s57 _ _ neN eNn4
    generalize upd (upd H6 tz (.tup [.str "z", .non])) Lh (.lst (as.map V.ref ++ [.ref tz])) = H7 at m7 w7 tx7 hP7 eNn7 ⊢
    -- told twice, beside a list and nothing
    refine ⟨_, rfl, _, rfl, x, Lp, ps, rfl, tx7, hP7, va, l8, okp, fun H8 s8 => ⟨true, rfl, ?_⟩⟩
    refine ⟨_, rfl, _, rfl, x, Lp, ps, rfl, tx7.same s8, hP7.same s8, va, l8, okp, fun H9 s9 => ⟨true, rfl, ?_⟩⟩
    have s79 := s8.trans s9
    have eL9 : ∃ xs, H9 Lp = some (.lst xs) := by
      obtain ⟨as', e', _⟩ := hP7.same s79
      exact ⟨_, e'⟩
    obtain ⟨xs9, eL9⟩ := eL9
    refine ⟨_, rfl, _, rfl, own_list D (tx7.same s79) eL9 fo fun H10 s10 => ⟨_, rfl, ?_⟩⟩
    have s710 := s79.trans s10
    refine ⟨_, rfl, ?_⟩
    dsimp only [tC]
    refine own_none D (tx7.same s710) fo fun H11 s11 => ⟨_, rfl, ?_⟩
    have s711 := s710.trans s11
    have tx11 := tx7.same s711
    have hP11 := hP7.same s711
    have m11 := m7.trans (.of s711)
    have w11 := w7.same s711
    have eNn11 := s711 _ _ eNn7
    obtain ⟨dxt, lt, dt, hxt, _, _⟩ := id tx11
    -- told in its own order, and floor by floor
    refine ⟨_, rfl, x, dxt, _, rfl, hxt, nopr _ _, x, _, rfl, tx11, fo, fun H12 q1 s12 nq1 pq1 => ?_⟩
    refine ⟨_, rfl, Lp, ps, rfl, hP11.same s12, va, l8, okp, fun H13 q2 qs s13 nq2 pq2 vq mq lq => ?_⟩
    refine ⟨by show 2 ≤ sizeLine; decide, fun ol nol => ?_⟩
    have s14 : Same H13 (upd H13 ol (.lst [.ref q1, .ref q2])) := Same.new nol
    have eol : upd H13 ol (.lst [.ref q1, .ref q2]) ol = some (.lst (([q1, q2] : List Addr).map V.ref)) := upd_same
    generalize upd H13 ol (.lst [.ref q1, .ref q2]) = H14 at s14 eol ⊢
    have s1114 := (s12.trans s13).trans s14
    have lfl : (TM.flat (TM.mk ps none) none).length ≤ 8 := by
      have := fo.le
      rwa [← TM.flat_names _ none, List.length_map] at this
    have two' : ∀ z ∈ ([q1, q2] : List Addr), ∃ zs, PairsAt H14 z zs ∧ TM.Valid [] zs ∧ zs.length ≤ 8 ∧ (∀ y ∈ zs.map Prod.fst, TM.NameOk y) ∧ TM.mk zs none = TM.mk ps none := by
      intro z hz
      simp only [List.mem_cons, List.not_mem_nil, or_false] at hz
      rcases hz with e | e <;> subst e
      · refine ⟨_, pq1.same (s13.trans s14), TM.valid_flat _ _ _ (fun _ h => nomatch h) (by simpa using fo.nd), lfl, fun y hy => ?_, TM.mk_own fo.nd⟩
        rw [TM.flat_names] at hy
        exact fo.ok y hy
      · refine ⟨_, pq2.same s14, vq, by omega, fun y hy => ?_, mq⟩
        have h1 := (TM.ord_perm vq).mem_iff.mpr hy
        have e : TM.ord qs none = TM.ord ps none := congrArg TM.names mq
        rw [e] at h1
        exact okp y ((TM.ord_perm va).mem_iff.mp h1)
    have sFT : sameF (TM.mk ps none) (TM.mk ps none) = true := decide_eq_true rfl
    refine ⟨ol, rfl, ⟨_, .of eol⟩, ?_⟩
    refine for_it (walk_list (xs := ([q1, q2] : List Addr).map V.ref)) (fun i σ h => ∃ v5 : Option V, σ = [some (.ref W), some (.ref Nn), some (.ref Lp), some (.ref Lh), some (.ref x), v5, none, none] ∧ Same H14 h)
      ⟨none, rfl, same_rfl⟩ (fun i σ h _ ⟨_, _, s⟩ => .of (s _ _ eol)) ?_ ?_
    · rintro i v σ h h' hi ⟨v5, rfl, sV⟩ ⟨rfl, hv5⟩
      obtain ⟨z, hz, rfl⟩ : ∃ z, z ∈ ([q1, q2] : List Addr) ∧ v = V.ref z := by
        obtain ⟨z, hz, e⟩ := List.mem_map.mp (List.mem_of_getElem? hv5)
        exact ⟨z, hz, e.symm⟩
      obtain ⟨zs, pz, vz, lz, oz, mz⟩ := two' z hz
      have pz' := pz.same sV
      refine ⟨_, rfl, fun y dy ny ndy hne2 => ?_⟩
      have sy : Same h' (upd (upd h' dy (.own y)) y (.ins C dy [])) := fun c o e => by rw [upd_ne (ne_of_none e ny), upd_ne (ne_of_none e ndy)]; exact e
      refine ⟨y, z, dy, zs, rfl, upd_same, pz'.same sy, vz, lz, oz, fun h2 ty ky _ => ⟨rfl, ?_⟩⟩
      rw [mz] at ty
      have s2' : Same h' h2 := fun c o e => ky c o (ne_of_none e ny) (sy _ _ e)
      have t2' := (s1114.trans sV).trans s2'
      refine ⟨_, rfl, own_eq D c ty (tx11.same t2') fo fo fun h3 s3' => ⟨_, rfl, ?_⟩⟩
      rw [if_neg Bool.false_ne_true, sFT]
      have t3' := t2'.trans s3'
      have pz3 := pz'.same (s2'.trans s3')
      refine ⟨_, rfl, fun y2 dy2 ny2 ndy2 hne3 => ?_⟩
      have sy2 : Same h3 (upd (upd h3 dy2 (.own y2)) y2 (.ins C dy2 [])) := fun c o e => by rw [upd_ne (ne_of_none e ny2), upd_ne (ne_of_none e ndy2)]; exact e
      refine ⟨y2, z, dy2, zs, rfl, upd_same, pz3.same sy2, vz, lz, oz, fun h4 ty2 ky2 _ => ⟨rfl, ?_⟩⟩
      rw [mz] at ty2
      have s4' : Same h3 h4 := fun c o e => ky2 c o (ne_of_none e ny2) (sy2 _ _ e)
      have t4' := t3'.trans s4'
      refine ⟨_, rfl, y2, Lp, ps, rfl, ty2, hP11.same t4', va, l8, okp, fun h5 s5' => ⟨true, rfl, ?_⟩⟩
      exact ⟨_, rfl, ((sV.trans s2').trans s3').trans (s4'.trans s5')⟩
    · rintro σ h ⟨v5, rfl, sV⟩
      have t14 := s1114.trans sV
      have hPh := hP11.same t14
      have txh := tx11.same t14
      have eNh := t14 _ _ eNn11
      have mh := m11.trans (.of t14)
      have wh := w11.same t14
      -- no columns
      refine ⟨_, rfl, by show 0 ≤ sizeLine; decide, fun p3 np3 => ?_⟩
      have s3 : Same h (upd h p3 (.lst [])) := Same.new np3
      refine ⟨_, _, (hPh.same s3).dp, (PairsAt.nil upd_same).dp, shP pok, shP (fun _ h => nomatch h), _, rfl, ?_⟩
      rw [eqv_dP]
      by_cases hnil : ps = []
      · rw [decide_eq_true hnil]
        exact q _ (mh.trans (.of s3))
      rw [decide_eq_false hnil]
      generalize upd h p3 (.lst []) = h3 at s3 ⊢
      have hP3 := hPh.same s3
      have tx3 := txh.same s3
      have eN3 := s3 _ _ eNh
      have m3' := mh.trans (.of s3)
      have w3' := wh.same s3
      -- pairs drawn anew
      refine ⟨_, rfl, _, rfl, W, Nn, ns, 700, rfl, eN3, NnW, ndn, by omega, w3'.mono (by omega), fun h4 Lt ts s4' w4' nLt LtW hT hft vt => ?_⟩
      have m4' := m3'.trans s4'
      have hP4 := hP3.sm s4' ⟨_, w3'⟩ LpW
      have tx4 := tx3.sm s4' ⟨_, w3'⟩
      have l8t : ts.length ≤ 8 := by rw [← List.length_map (f := Prod.fst), hft]; omega
      have okt : ∀ x ∈ ts.map Prod.fst, TM.NameOk x := by rw [hft]; exact okn
      have fot := foOk_mk vt l8t okt
      have hft' : ts.map Prod.fst = ps.map Prod.fst := hft.trans hf.symm
      have same_iff : sameF (TM.mk ts none) (TM.mk ps none) = decide (ts = ps) := decide_eq_decide.mpr (TF.flat_inj vt va hft')
      have notS : sameF (TM.mk (ps.take (ps.length - 1)) none) (TM.mk ps none) = false := by
        refine decide_eq_false fun e => ?_
        have h1 := congrArg List.length e
        have h2 : ∀ us : List TM.Pr, TM.Valid [] us → (TM.flat (TM.mk us none) none).length = us.length := fun us vu => by
          rw [← ord_len vu, ← TM.flat_names _ none, List.length_map]
        rw [h2 _ (TM.valid_take _ va), h2 _ va, List.length_take] at h1
        have : 0 < ps.length := List.length_pos_iff.mpr hnil
        omega
      dsimp only [gName]
      refine sq_asg (ee_use (v := .bl (decide (ts = ps))) ?_ fun h5 s5 => ?_)
      · intro h hs Q' q'
        have hTs := hT.same hs
        refine ⟨_, rfl, Lt, ts, none, rfl, hTs, vt, l8t, TM.below_top ts (by omega), fun h6 O1 s6 nO1 eO1 => ?_⟩
        refine ⟨_, rfl, Lp, ps, none, rfl, hP4.same (hs.trans s6), va, l8, TM.below_top ps (by omega), fun h7 O2 s7 nO2 eO2 => ?_⟩
        refine ⟨_, _, DpS (s7 _ _ eO1), DpS eO2, shS fot.ok, shS fo.ok, _, rfl, ?_⟩
        rw [eqv_dS]
        by_cases ho : TM.ord ts none = TM.ord ps none
        · rw [decide_eq_true ho]
          obtain ⟨at', eT, tT⟩ := id (hTs.same (s6.trans s7))
          obtain ⟨ap, eP, tP⟩ := id (hP4.same ((hs.trans s6).trans s7))
          refine ⟨_, rfl, Lt, at', kvsOf ts, rfl, .of eT, pairs_es tT, fun d1 nd1 => ?_⟩
          rw [merge_nil (TM.valid_nodup vt)]
          refine ⟨_, rfl, Lp, ap, kvsOf ps, rfl, .of ((Same.new nd1) _ _ eP), pairs_es (tP.same (Same.new nd1)), fun d2 nd2 => ?_⟩
          rw [merge_nil (TM.valid_nodup va)]
          refine ⟨d1, d2, _, _, rfl, rfl, (Same.new nd2) _ _ upd_same, upd_same, flat_opt _, flat_opt _, ?_⟩
          rw [likes_all hft' (TM.valid_nodup va)]
          exact q' _ ((s6.trans s7).trans ((Same.new nd1).trans (Same.new nd2)))
        · rw [decide_eq_false ho]
          have : decide (ts = ps) = false := decide_eq_false fun e => ho (by rw [e])
          rw [this] at q'
          exact q' _ (s6.trans s7)
      have hT5 := hT.same s5
      have hP5 := hP4.same s5
      have tx5 := tx4.same s5
      have qf : ∀ b : Bool, b = true → ∀ H', Same h4 H' → Q (.bl b) H' := fun b hb H' s' => by
        subst hb
        exact q H' (m4'.trans (.of s'))
      -- made of them, alike just where they are
      refine ⟨_, rfl, fun y dy ny ndy hne2 => ?_⟩
      have sy : Same h5 (upd (upd h5 dy (.own y)) y (.ins C dy [])) := fun c o e => by rw [upd_ne (ne_of_none e ny), upd_ne (ne_of_none e ndy)]; exact e
      refine ⟨y, Lt, dy, ts, rfl, upd_same, hT5.same sy, vt, l8t, okt, fun h6 ty ky _ => ⟨rfl, ?_⟩⟩
      have s6 : Same h5 h6 := fun c o e => ky c o (ne_of_none e ny) (sy _ _ e)
      refine ⟨_, rfl, own_eq D c ty (tx5.same s6) fot fo fun h7 s7 => ?_⟩
      rw [if_neg Bool.false_ne_true, same_iff]
      refine ⟨_, rfl, rfl, _, rfl, ?_⟩
      rw [decide_eq_true rfl]
      have s57 := s6.trans s7
      refine ⟨_, rfl, fun y2 dy2 ny2 ndy2 hne3 => ?_⟩
      have sy2 : Same h7 (upd (upd h7 dy2 (.own y2)) y2 (.ins C dy2 [])) := fun c o e => by rw [upd_ne (ne_of_none e ny2), upd_ne (ne_of_none e ndy2)]; exact e
      refine ⟨y2, Lt, dy2, ts, rfl, upd_same, (hT5.same s57).same sy2, vt, l8t, okt, fun h8 ty2 ky2 _ => ⟨rfl, ?_⟩⟩
      have s8' : Same h7 h8 := fun c o e => ky2 c o (ne_of_none e ny2) (sy2 _ _ e)
      have s58 := s57.trans s8'
      refine ⟨_, rfl, own_eq D c ty2 (tx5.same s58) fot fo fun h9 s9' => ?_⟩
      rw [if_pos rfl, same_iff]
      refine ⟨_, rfl, rfl, _, rfl, ?_⟩
      have hnot : (!decide (V.bl (!decide (ts = ps)) = V.bl (decide (ts = ps)))) = true := by
        cases decide (ts = ps) <;> rfl
      rw [hnot]
      have s59 := s58.trans s9'
      -- one fewer
      obtain ⟨ap, eP, tP⟩ := id (hP5.same s59)
      have lap : ap.length = ps.length := tP.len
      refine ⟨_, rfl, _, rfl, _, rfl, Lp, _, rfl, .of eP, fun sl nsl => ?_⟩
      have ec : cutV (ap.map V.ref) none (some (-1)) = (ap.take (ps.length - 1)).map V.ref := by
        unfold cutV
        rw [HT.sIx_none, List.length_map, lap]
        have : HT.sIx ps.length ps.length (some (-1)) = ps.length - 1 := by
          show ((-1 : Int) + (ps.length : Int)).toNat = _
          omega
        rw [this, List.drop_zero, List.map_take]
        rfl
      have hP10 : PairsAt (upd h9 sl (.lst (cutV (ap.map V.ref) none (some (-1))))) sl (ps.take (ps.length - 1)) := ⟨_, by rw [upd_same, ec], (TupsAt.take tP _).same (Same.new nsl)⟩
      have s10' : Same h9 (upd h9 sl (.lst (cutV (ap.map V.ref) none (some (-1))))) := Same.new nsl
      generalize upd h9 sl (.lst (cutV (ap.map V.ref) none (some (-1)))) = h10 at hP10 s10' ⊢
      have s510 := s59.trans s10'
      have l8k : (ps.take (ps.length - 1)).length ≤ 8 := by rw [List.length_take]; omega
      have okk : ∀ x ∈ (ps.take (ps.length - 1)).map Prod.fst, TM.NameOk x := fun x hx => okp x (((List.take_sublist _ _).map _).subset hx)
      have vk := TM.valid_take (ps.length - 1) va
      intro y3 dy3 ny3 ndy3 hne4
      have sy3 : Same h10 (upd (upd h10 dy3 (.own y3)) y3 (.ins C dy3 [])) := fun c o e => by rw [upd_ne (ne_of_none e ny3), upd_ne (ne_of_none e ndy3)]; exact e
      refine ⟨y3, sl, dy3, _, rfl, upd_same, hP10.same sy3, vk, l8k, okk, fun h11 ty3 ky3 _ => ⟨rfl, ?_⟩⟩
      have s11' : Same h10 h11 := fun c o e => ky3 c o (ne_of_none e ny3) (sy3 _ _ e)
      refine ⟨_, rfl, own_eq D c ty3 (tx5.same (s510.trans s11')) (foOk_mk vk l8k okk) fo fun h12 s12' => ?_⟩
      rw [if_pos rfl, notS]
      exact q _ (m4'.trans (.of (((s5.trans s510).trans s11').trans s12')))
end
end T10

set_option maxHeartbeats 2000000
namespace T10
open PySem L2 PyProof.Rows TX TY TQ TT TF TW TD
section
variable {P : Program} {w : World} {K : PySem.W.Frag} {mg : Str → Option Value} {base : Heap}
variable {fN fC fP fT fO : Addr} {dN dC dP dT dO : FuncData}
variable {C hc hp hl hv ha hb hi hs hk hm hw fI fq : Addr} {gc gp gl gv ga gb gi gs gk gm gw dI dq : FuncData}
variable {jO jA jT jF gD gN gP gT : Addr} {eO eA eT eF eD eN eP eU : FuncData}
theorem sc_law : FnScope ["_law_script", "_law_k", "_law_cell"] ["_law_script"] (defScope s_law) := ⟨rfl, rfl, rfl, by decide +kernel, rfl, by decide +kernel, by decide +kernel⟩
def sp_law (K : PySem.W.Frag) : Sp := fun vs H Q _ => ∃ (a : Addr) (ns : List Int), vs = [.ref a] ∧ SqL K H a (ns.map V.int) ∧ ns.length ≤ 63 ∧ ∀ H', Q (.bl true) H'
def ps3 : List TM.Pr := [("a", none), ("e", none), ("b", some "a")]
theorem va3 : TM.Valid [] ps3 := by
  refine ⟨by decide +kernel, (fun x e => by cases e), by decide +kernel, (fun x e => by cases e), by decide +kernel, (fun x e => by cases e; decide +kernel), trivial⟩
theorem ok3 : ∀ x ∈ ps3.map Prod.fst, TM.NameOk x := by
  unfold TM.NameOk
  decide +kernel
theorem nm3 : TM.names (TM.mk ps3 none) = [("a" : Str), "b", "e"] := by rfl
theorem ok_law {f gW gR : Addr} {fd eW eR : FuncData} (F : Fn K mg "law" s_law ["_law_script"] f fd) (FW : Fn K mg "_law_well" s_well ["_law_cell", "_law_k"] gW eW) (FR : Fn K mg "_law_right" s_right ["_law_well_here"] gR eR)
    (T : Kd K mg fN fC fP fT fO dN dC dP dT dO) (D : Td K mg C fI fq dI dq) (M : Tl K mg C hc hp hl hv ha hb hi hs hk hm hw gc gp gl gv ga gb gi gs gk gm gw) (Lw : Lt K mg jO jA jT jF eO eA eT eF)
    (L : Ld K mg gD gN gP gT eD eN eP eU) : FnOk P w K mg base CX0 19 f fd ["_law_script"] (sp_law K) := by
  have B := T.B
  have c := M.c
  have GW : FnOk P w K mg base CX0 1 gW eW ["_law_cell", "_law_k"] sp_well := ok_well FW B
  have GR : FnOk P w K mg base CX0 18 gR eR ["_law_well_here"] sp_right := ok_right FR T D M Lw L
  have GI : FnOk P w K mg base CX0 10 fI dI ["self", "pairs"] (sp_tinit C) := ok_tinit D.iF T c
  have GC : FnOk P w K mg base CX0 1 hc gc ["self"] (sp_tcolumns C) := ok_tcolumns M.cols.F B c
  have GS : FnOk P w K mg base CX0 14 hs gs ["self"] (sp_tstr C) := ok_tstr M.str.F T c M.W
  refine F.F.ok sc_law (fun vs H Q E h => ?_) (fun cdv A outer s H vs Q E hr h => ?_)
  · obtain ⟨a, ns, rfl, _⟩ := h
    rfl
  · obtain ⟨a, ns, rfl, hS, hl, q⟩ := h
    have hu64 := hr.units
    have r1 : Room 1 _ := hr.mono (by decide)
    have r11 : Room 11 _ := hr.mono (by decide)
    have r16 : Room 16 _ := hr.mono (by decide)
    refine ⟨_, pss_cons (ps_for PassesOwn.never rfl (pi_enum rfl B.enum (pa_cons (pe_op op_cat (pe_lst (pa_cons pe_int pa_nil)) (pe_slice sl_list (pv 0) po_none (po_some pe_int))) pa_nil))
        (pg_tup rfl (pgs_cons (pg_name (i := 1) sc_law.nd rfl (Or.inl rfl)) (pgs_cons (pg_name (i := 2) sc_law.nd rfl (Or.inl rfl)) pgs_nil)))
        (pss_one (ps_if (pt_not (pt_val (pe_call GR hr rfl FR.g FR.F.kp FR.b .nil pass0 (pa_cons (pe_call GW r1 rfl FW.g FW.F.kp FW.b .nil pass0 (pa_cons (pv 2) (pa_cons (pv 1) pa_nil))) pa_nil)))) (pss_one (ps_ret pe_bl)) pss_nil)))
      (pss_one (ps_ret (pe_and (pe_cmpR op_eq (pe_callTy (call_strO GS M.str.me.at_ M.str.me.fn M.str.b pass0 r16) (by rfl) B.str boot_str (pa_cons (pe_make D.iM GI r11 rfl c.g D.iB .nil pass0 (pa_cons (pe_lst pa_nil) pa_nil)) pa_nil)) pe_str (nomark _))
        (pe_one (pe_cmpR (op_eqD hu64) (pe_meth0 (pe_make D.iM GI r11 rfl c.g D.iB .nil pass0
          (pa_cons (pe_lst (pa_cons (pe_tup (pa_cons pe_str (pa_cons pe_non pa_nil))) (pa_cons (pe_tup (pa_cons pe_str (pa_cons pe_non pa_nil))) (pa_cons (pe_tup (pa_cons pe_str (pa_cons pe_str pa_nil))) pa_nil)))) pa_nil)) c.cl M.cols.me GC r1 M.cols.b .nil pass0)
          (pe_lst (pa_cons pe_str (pa_cons pe_str (pa_cons pe_str pa_nil)))) (nomark _)))))), ?_⟩
    refine ⟨by decide, fun p1 n1 => ?_⟩
    have hS1 : SqL K (upd H p1 (.lst [.int 0])) a (ns.map V.int) := (Same.new n1).seq hS
    refine ⟨_, rfl, _, rfl, a, _, rfl, hS1, fun p2 n2 => ?_⟩
    obtain ⟨ms, ems, lms⟩ : ∃ ms : List Int, cutV (ns.map V.int) none (some 8) = ms.map V.int ∧ ms.length ≤ 8 := by
      refine ⟨(ns.drop (HT.sIx ns.length 0 none)).take (HT.sIx ns.length ns.length (some 8) - HT.sIx ns.length 0 none), ?_, ?_⟩
      · unfold cutV
        rw [List.length_map, List.map_take, List.map_drop]
      · rw [List.length_take, HT.sIx_none, show (some (8 : Int)) = some ((8 : Nat) : Int) from rfl, HT.sIx_nat]
        omega
    have e1 : upd (upd H p1 (.lst [.int 0])) p2 (.lst (cutV (ns.map V.int) none (some 8))) p1 = some (.lst [.int 0]) := by rw [upd_ne (ne_of_none upd_same n2)]; exact upd_same
    refine ⟨p1, p2, _, _, rfl, rfl, e1, upd_same, ?_, fun p3 n3 => ?_⟩
    · rw [ems, List.length_map]
      show 1 + _ ≤ sizeLine
      exact line100 (by omega)
    rw [ems]
    have e3 : ∀ h, upd h p3 (.lst ([V.int 0] ++ ms.map V.int)) p3 = some (.lst ((0 :: ms).map V.int)) := fun h => upd_same
    refine ⟨p3, (0 :: ms).map V.int, rfl, .of (e3 _), ?_⟩
    refine for_it (walk_enum (xs := (0 :: ms).map V.int)) (fun i σ H' => ∃ v1 v2 : Option V, σ = [some (.ref a), v1, v2] ∧ H' p3 = some (.lst ((0 :: ms).map V.int)))
      ⟨none, none, rfl, e3 _⟩ (fun i σ H1 _ ⟨_, _, _, e⟩ => .of e) ?_ ?_
    · rintro i x σ H1 H1' hi ⟨v1, v2, rfl, e4⟩ ⟨T', x1, x2, rfl, nT, rfl, hx1, hx2⟩
      rw [List.length_map] at hi
      obtain rfl : V.int (i : Int) = x1 := Option.some.inj hx1
      obtain ⟨cell, rfl⟩ : ∃ c : Int, x2 = V.int c := by
        have h2 : ((0 :: ms).map V.int)[i]? = some x2 := hx2
        rw [List.getElem?_map, List.getElem?_eq_getElem hi] at h2
        exact ⟨_, (Option.some.inj h2).symm⟩
      have hi11 : i < 9 := by
        rw [List.length_cons] at hi
        omega
      have e5 : upd H1 T' (.tup [.int (i : Int), .int cell]) p3 = some (.lst ((0 :: ms).map V.int)) := by rw [upd_ne (ne_of_none e4 nT)]; exact e4
      refine ⟨T', _, rfl, .of upd_same, rfl, _, _, rfl, _, _, rfl, rfl, ?_⟩
      refine ⟨_, rfl, _, rfl, cell, (i : Int), rfl, by omega, by omega, fun H2 W s2 nW wW => ?_⟩
      have hne : p3 ≠ W := ne_of_none e5 nW
      refine ⟨W, rfl, wW.mono (by decide), fun H3 s3 => ⟨true, rfl, ?_⟩⟩
      exact ⟨_, _, rfl, s3 _ _ hne (s2 _ _ e5)⟩
    · rintro σ H1 ⟨v1, v2, rfl, e4⟩
      -- a tree of no columns
      refine ⟨by show 0 ≤ sizeLine; decide, fun L0 nL0 => ?_⟩
      have hp0 : PairsAt (upd H1 L0 (.lst [])) L0 [] := PairsAt.nil upd_same
      generalize upd H1 L0 (.lst []) = h1 at hp0 ⊢
      refine fun x dx nx ndx hne => ?_
      have sx : Same h1 (upd (upd h1 dx (.own x)) x (.ins C dx [])) := fun c o e => by rw [upd_ne (ne_of_none e nx), upd_ne (ne_of_none e ndx)]; exact e
      refine ⟨x, L0, dx, [], rfl, upd_same, hp0.same sx, trivial, by decide, (fun _ h => nomatch h), fun h2 tx kx _ => ⟨rfl, ?_⟩⟩
      obtain ⟨dx2, l2, d2, hx2, _, _⟩ := id tx
      refine ⟨x, _, _, rfl, hx2, x, _, rfl, tx, foOk_nil, fun h3 s3 => ⟨_, rfl, ?_⟩⟩
      refine ⟨rfl, _, rfl, ?_⟩
      have e0 : decide (V.str (Txt.join cm (txts (TM.mk [] none))) = V.str (Str.ofString "")) = true := by decide +kernel
      rw [e0]
      -- one of three
      refine ⟨two_le, fun A1 nA1 => ⟨two_le, fun A2 nA2 => ⟨two_le, fun A3 nA3 => ⟨by show 3 ≤ sizeLine; decide, fun L nL => ?_⟩⟩⟩⟩
      have g3 := fun o => Same.new (o := o) nL
      have g2 := fun o => (Same.new (o := .tup [.str "b", .str "a"]) nA3).trans (g3 o)
      have g1 := fun o => (Same.new (o := .tup [.str "e", .non]) nA2).trans (g2 o)
      have hP : ∀ h : Hp, h L = some (.lst [.ref A1, .ref A2, .ref A3]) → h A1 = some (.tup [.str "a", .non]) → h A2 = some (.tup [.str "e", .non]) → h A3 = some (.tup [.str "b", .str "a"]) → PairsAt h L ps3 :=
        fun h e0 e1 e2 e3 => ⟨[A1, A2, A3], e0, .cons e1 (.cons e2 (.cons e3 .nil))⟩
      have hp := hP _ upd_same (g1 _ _ _ upd_same) (g2 _ _ _ upd_same) (g3 _ _ _ upd_same)
      generalize upd (upd (upd (upd h3 A1 _) A2 _) A3 _) L _ = h4 at hp ⊢
      refine fun y dy ny ndy hny => ?_
      have sy : Same h4 (upd (upd h4 dy (.own y)) y (.ins C dy [])) := fun c o e => by rw [upd_ne (ne_of_none e ny), upd_ne (ne_of_none e ndy)]; exact e
      refine ⟨y, L, dy, ps3, rfl, upd_same, hp.same sy, va3, by decide, ok3, fun h5 ty ky _ => ⟨rfl, ?_⟩⟩
      obtain ⟨dy2, l2, d2, hy2, _, _⟩ := id ty
      refine ⟨y, dy2, _, rfl, hy2, nocols _ _, y, _, rfl, ty, fun h6 O s6 nO eO => ?_⟩
      rw [nm3] at eO
      refine ⟨by show 3 ≤ sizeLine; decide, fun B3 nB3 => ?_⟩
      have okn : ∀ x ∈ [("a" : Str), "b", "e"], TM.NameOk x := by
        unfold TM.NameOk
        decide +kernel
      refine ⟨_, _, DpS ((Same.new nB3) _ _ eO), DpS (ns := [("a" : Str), "b", "e"]) upd_same, shS okn, shS okn, ?_⟩
      rw [eqv_dS, decide_eq_true rfl]
      exact q _
end
end T10

set_option maxHeartbeats 4000000
namespace T10
open PySem L2 PyProof.Rows TX TY TQ TT TF TW TD
theorem nf_of {K : PySem.W.Frag} {C : Addr} {t : Value} (h : PySem.W.subIn K t (.ref C) = some false) : PySem.W.notFirst K C t = true := by
  unfold PySem.W.notFirst
  rw [h]
  simp
theorem all_mk {l : PySem.W.OpenLaw} {w : World} {K : PySem.W.Frag} {h : Heap} {mg : Str → Option Value} {fa f_is_name f_is_name_in f__told_overs f__is_pair f__in_order f__written f__law_well f__law_draw f__law_names f__law_pairs f__law_order f__law_above f__law_text f__law_by_floors f__law_tells f__law_right f_law c_Tree f_Tree___init__ f_Tree_columns f_Tree_pairs f_Tree_over f_Tree_above f_Tree_beneath f_Tree_is_above f_Tree_check_column f_Tree___len__ f_Tree___eq__ f_Tree___str__ f_Tree_children d_Tree_children : Addr} (X : K.In h) (G : h.Ns mainGlobals mg) (hfa : mg "law" = some (.ref fa))
    {od1 an1 : Option Addr} {sl1 : Array (Option Value)} {oc1 kV1 dc1 pm1 cd1 ct1 : Value}
    {od2 an2 : Option Addr} {sl2 : Array (Option Value)} {oc2 kV2 dc2 pm2 cd2 ct2 : Value}
    {od3 an3 : Option Addr} {sl3 : Array (Option Value)} {oc3 kV3 dc3 pm3 cd3 ct3 : Value}
    {od4 an4 : Option Addr} {sl4 : Array (Option Value)} {oc4 kV4 dc4 pm4 cd4 ct4 : Value}
    {od5 an5 : Option Addr} {sl5 : Array (Option Value)} {oc5 kV5 dc5 pm5 cd5 ct5 : Value}
    {od6 an6 : Option Addr} {sl6 : Array (Option Value)} {oc6 kV6 dc6 pm6 cd6 ct6 : Value}
    {od7 an7 : Option Addr} {sl7 : Array (Option Value)} {oc7 kV7 dc7 pm7 cd7 ct7 : Value}
    {od8 an8 : Option Addr} {sl8 : Array (Option Value)} {oc8 kV8 dc8 pm8 cd8 ct8 : Value}
    {od9 an9 : Option Addr} {sl9 : Array (Option Value)} {oc9 kV9 dc9 pm9 cd9 ct9 : Value}
    {od10 an10 : Option Addr} {sl10 : Array (Option Value)} {oc10 kV10 dc10 pm10 cd10 ct10 : Value}
    {od11 an11 : Option Addr} {sl11 : Array (Option Value)} {oc11 kV11 dc11 pm11 cd11 ct11 : Value}
    {od12 an12 : Option Addr} {sl12 : Array (Option Value)} {oc12 kV12 dc12 pm12 cd12 ct12 : Value}
    {od13 an13 : Option Addr} {sl13 : Array (Option Value)} {oc13 kV13 dc13 pm13 cd13 ct13 : Value}
    {od14 an14 : Option Addr} {sl14 : Array (Option Value)} {oc14 kV14 dc14 pm14 cd14 ct14 : Value}
    {od15 an15 : Option Addr} {sl15 : Array (Option Value)} {oc15 kV15 dc15 pm15 cd15 ct15 : Value}
    {od16 an16 : Option Addr} {sl16 : Array (Option Value)} {oc16 kV16 dc16 pm16 cd16 ct16 : Value}
    {od17 an17 : Option Addr} {sl17 : Array (Option Value)} {oc17 kV17 dc17 pm17 cd17 ct17 : Value}
    {od18 an18 : Option Addr} {sl18 : Array (Option Value)} {oc18 kV18 dc18 pm18 cd18 ct18 : Value}
    {od19 an19 : Option Addr} {sl19 : Array (Option Value)} {oc19 kV19 dc19 pm19 cd19 ct19 : Value}
    {od20 an20 : Option Addr} {sl20 : Array (Option Value)} {oc20 kV20 dc20 pm20 cd20 ct20 : Value}
    {od21 an21 : Option Addr} {sl21 : Array (Option Value)} {oc21 kV21 dc21 pm21 cd21 ct21 : Value}
    {od22 an22 : Option Addr} {sl22 : Array (Option Value)} {oc22 kV22 dc22 pm22 cd22 ct22 : Value}
    {od23 an23 : Option Addr} {sl23 : Array (Option Value)} {oc23 kV23 dc23 pm23 cd23 ct23 : Value}
    {od24 an24 : Option Addr} {sl24 : Array (Option Value)} {oc24 kV24 dc24 pm24 cd24 ct24 : Value}
    {od25 an25 : Option Addr} {sl25 : Array (Option Value)} {oc25 kV25 dc25 pm25 cd25 ct25 : Value}
    {od26 an26 : Option Addr} {sl26 : Array (Option Value)} {oc26 kV26 dc26 pm26 cd26 ct26 : Value}
    {od27 an27 : Option Addr} {sl27 : Array (Option Value)} {oc27 kV27 dc27 pm27 cd27 ct27 : Value}
    {od28 an28 : Option Addr} {sl28 : Array (Option Value)} {oc28 kV28 dc28 pm28 cd28 ct28 : Value}
    {od29 an29 dd29 : Option Addr} {sl29 ds29 : Array (Option Value)} {oc29 kV29 dc29 pm29 cd29 ct29 do29 : Value} {dn29 : Nat}
    {t_longest : Tok}
    {t_most : Tok}
    (a_is_name : PySem.W.nsIn K mainGlobals "is_name" = some (some (.ref f_is_name)))
    (l_is_name : K.lookup f_is_name = some ⟨oc1, od1, .func (PySem.W.fnOf "is_name" "is_name" (defArgs s_is_name) (defBody s_is_name) (defScope s_is_name) .none kV1 dc1 pm1 an1 cd1 ct1), sl1⟩)
    (o_is_name : PySem.W.codeIn K cd1 "is_name" = true)
    (k_is_name : PySem.W.keepIn K (.ref f_is_name) = true)
    (a_is_name_in : PySem.W.nsIn K mainGlobals "is_name_in" = some (some (.ref f_is_name_in)))
    (l_is_name_in : K.lookup f_is_name_in = some ⟨oc2, od2, .func (PySem.W.fnOf "is_name_in" "is_name_in" (defArgs s_is_name_in) (defBody s_is_name_in) (defScope s_is_name_in) .none kV2 dc2 pm2 an2 cd2 ct2), sl2⟩)
    (o_is_name_in : PySem.W.codeIn K cd2 "is_name_in" = true)
    (k_is_name_in : PySem.W.keepIn K (.ref f_is_name_in) = true)
    (a__told_overs : PySem.W.nsIn K mainGlobals "_told_overs" = some (some (.ref f__told_overs)))
    (l__told_overs : K.lookup f__told_overs = some ⟨oc3, od3, .func (PySem.W.fnOf "_told_overs" "_told_overs" (defArgs s_told) (defBody s_told) (defScope s_told) .none kV3 dc3 pm3 an3 cd3 ct3), sl3⟩)
    (o__told_overs : PySem.W.codeIn K cd3 "_told_overs" = true)
    (k__told_overs : PySem.W.keepIn K (.ref f__told_overs) = true)
    (a__is_pair : PySem.W.nsIn K mainGlobals "_is_pair" = some (some (.ref f__is_pair)))
    (l__is_pair : K.lookup f__is_pair = some ⟨oc4, od4, .func (PySem.W.fnOf "_is_pair" "_is_pair" (defArgs s_is_pair) (defBody s_is_pair) (defScope s_is_pair) .none kV4 dc4 pm4 an4 cd4 ct4), sl4⟩)
    (o__is_pair : PySem.W.codeIn K cd4 "_is_pair" = true)
    (k__is_pair : PySem.W.keepIn K (.ref f__is_pair) = true)
    (a__in_order : PySem.W.nsIn K mainGlobals "_in_order" = some (some (.ref f__in_order)))
    (l__in_order : K.lookup f__in_order = some ⟨oc5, od5, .func (PySem.W.fnOf "_in_order" "_in_order" (defArgs s_in_order) (defBody s_in_order) (defScope s_in_order) .none kV5 dc5 pm5 an5 cd5 ct5), sl5⟩)
    (o__in_order : PySem.W.codeIn K cd5 "_in_order" = true)
    (k__in_order : PySem.W.keepIn K (.ref f__in_order) = true)
    (a__written : PySem.W.nsIn K mainGlobals "_written" = some (some (.ref f__written)))
    (l__written : K.lookup f__written = some ⟨oc6, od6, .func (PySem.W.fnOf "_written" "_written" (defArgs s_written) (defBody s_written) (defScope s_written) .none kV6 dc6 pm6 an6 cd6 ct6), sl6⟩)
    (o__written : PySem.W.codeIn K cd6 "_written" = true)
    (k__written : PySem.W.keepIn K (.ref f__written) = true)
    (a__law_well : PySem.W.nsIn K mainGlobals "_law_well" = some (some (.ref f__law_well)))
    (l__law_well : K.lookup f__law_well = some ⟨oc7, od7, .func (PySem.W.fnOf "_law_well" "_law_well" (defArgs s_well) (defBody s_well) (defScope s_well) .none kV7 dc7 pm7 an7 cd7 ct7), sl7⟩)
    (o__law_well : PySem.W.codeIn K cd7 "_law_well" = true)
    (k__law_well : PySem.W.keepIn K (.ref f__law_well) = true)
    (a__law_draw : PySem.W.nsIn K mainGlobals "_law_draw" = some (some (.ref f__law_draw)))
    (l__law_draw : K.lookup f__law_draw = some ⟨oc8, od8, .func (PySem.W.fnOf "_law_draw" "_law_draw" (defArgs s_draw) (defBody s_draw) (defScope s_draw) .none kV8 dc8 pm8 an8 cd8 ct8), sl8⟩)
    (o__law_draw : PySem.W.codeIn K cd8 "_law_draw" = true)
    (k__law_draw : PySem.W.keepIn K (.ref f__law_draw) = true)
    (a__law_names : PySem.W.nsIn K mainGlobals "_law_names" = some (some (.ref f__law_names)))
    (l__law_names : K.lookup f__law_names = some ⟨oc9, od9, .func (PySem.W.fnOf "_law_names" "_law_names" (defArgs s_names) (defBody s_names) (defScope s_names) .none kV9 dc9 pm9 an9 cd9 ct9), sl9⟩)
    (o__law_names : PySem.W.codeIn K cd9 "_law_names" = true)
    (k__law_names : PySem.W.keepIn K (.ref f__law_names) = true)
    (a__law_pairs : PySem.W.nsIn K mainGlobals "_law_pairs" = some (some (.ref f__law_pairs)))
    (l__law_pairs : K.lookup f__law_pairs = some ⟨oc10, od10, .func (PySem.W.fnOf "_law_pairs" "_law_pairs" (defArgs s_pairs) (defBody s_pairs) (defScope s_pairs) .none kV10 dc10 pm10 an10 cd10 ct10), sl10⟩)
    (o__law_pairs : PySem.W.codeIn K cd10 "_law_pairs" = true)
    (k__law_pairs : PySem.W.keepIn K (.ref f__law_pairs) = true)
    (a__law_order : PySem.W.nsIn K mainGlobals "_law_order" = some (some (.ref f__law_order)))
    (l__law_order : K.lookup f__law_order = some ⟨oc11, od11, .func (PySem.W.fnOf "_law_order" "_law_order" (defArgs s_order) (defBody s_order) (defScope s_order) .none kV11 dc11 pm11 an11 cd11 ct11), sl11⟩)
    (o__law_order : PySem.W.codeIn K cd11 "_law_order" = true)
    (k__law_order : PySem.W.keepIn K (.ref f__law_order) = true)
    (a__law_above : PySem.W.nsIn K mainGlobals "_law_above" = some (some (.ref f__law_above)))
    (l__law_above : K.lookup f__law_above = some ⟨oc12, od12, .func (PySem.W.fnOf "_law_above" "_law_above" (defArgs s_above) (defBody s_above) (defScope s_above) .none kV12 dc12 pm12 an12 cd12 ct12), sl12⟩)
    (o__law_above : PySem.W.codeIn K cd12 "_law_above" = true)
    (k__law_above : PySem.W.keepIn K (.ref f__law_above) = true)
    (a__law_text : PySem.W.nsIn K mainGlobals "_law_text" = some (some (.ref f__law_text)))
    (l__law_text : K.lookup f__law_text = some ⟨oc13, od13, .func (PySem.W.fnOf "_law_text" "_law_text" (defArgs s_text) (defBody s_text) (defScope s_text) .none kV13 dc13 pm13 an13 cd13 ct13), sl13⟩)
    (o__law_text : PySem.W.codeIn K cd13 "_law_text" = true)
    (k__law_text : PySem.W.keepIn K (.ref f__law_text) = true)
    (a__law_by_floors : PySem.W.nsIn K mainGlobals "_law_by_floors" = some (some (.ref f__law_by_floors)))
    (l__law_by_floors : K.lookup f__law_by_floors = some ⟨oc14, od14, .func (PySem.W.fnOf "_law_by_floors" "_law_by_floors" (defArgs s_by_floors) (defBody s_by_floors) (defScope s_by_floors) .none kV14 dc14 pm14 an14 cd14 ct14), sl14⟩)
    (o__law_by_floors : PySem.W.codeIn K cd14 "_law_by_floors" = true)
    (k__law_by_floors : PySem.W.keepIn K (.ref f__law_by_floors) = true)
    (a__law_tells : PySem.W.nsIn K mainGlobals "_law_tells" = some (some (.ref f__law_tells)))
    (l__law_tells : K.lookup f__law_tells = some ⟨oc15, od15, .func (PySem.W.fnOf "_law_tells" "_law_tells" (defArgs s_tells) (defBody s_tells) (defScope s_tells) .none kV15 dc15 pm15 an15 cd15 ct15), sl15⟩)
    (o__law_tells : PySem.W.codeIn K cd15 "_law_tells" = true)
    (k__law_tells : PySem.W.keepIn K (.ref f__law_tells) = true)
    (a__law_right : PySem.W.nsIn K mainGlobals "_law_right" = some (some (.ref f__law_right)))
    (l__law_right : K.lookup f__law_right = some ⟨oc16, od16, .func (PySem.W.fnOf "_law_right" "_law_right" (defArgs s_right) (defBody s_right) (defScope s_right) .none kV16 dc16 pm16 an16 cd16 ct16), sl16⟩)
    (o__law_right : PySem.W.codeIn K cd16 "_law_right" = true)
    (k__law_right : PySem.W.keepIn K (.ref f__law_right) = true)
    (a_law : PySem.W.nsIn K mainGlobals "law" = some (some (.ref f_law)))
    (l_law : K.lookup f_law = some ⟨oc17, od17, .func (PySem.W.fnOf "law" "law" (defArgs s_law) (defBody s_law) (defScope s_law) .none kV17 dc17 pm17 an17 cd17 ct17), sl17⟩)
    (o_law : PySem.W.codeIn K cd17 "law" = true)
    (k_law : PySem.W.keepIn K (.ref f_law) = true)
    (a_Tree : PySem.W.nsIn K mainGlobals "Tree" = some (some (.ref c_Tree)))
    (a_Tree___init__ : PySem.W.findIn K (.ref c_Tree) "__init__" = some (some (.ref f_Tree___init__)))
    (i_Tree___init__ : PySem.W.isFn K (.ref f_Tree___init__) = true)
    (l_Tree___init__ : K.lookup f_Tree___init__ = some ⟨oc18, od18, .func (PySem.W.fnOf "__init__" "Tree.__init__" (defArgs s_tinit) (defBody s_tinit) (defScope s_tinit) .none kV18 dc18 pm18 an18 cd18 ct18), sl18⟩)
    (o_Tree___init__ : PySem.W.codeIn K cd18 "Tree.__init__" = true)
    (k_Tree___init__ : PySem.W.keepIn K (.ref f_Tree___init__) = true)
    (a_Tree_columns : PySem.W.findIn K (.ref c_Tree) "columns" = some (some (.ref f_Tree_columns)))
    (i_Tree_columns : PySem.W.isFn K (.ref f_Tree_columns) = true)
    (l_Tree_columns : K.lookup f_Tree_columns = some ⟨oc19, od19, .func (PySem.W.fnOf "columns" "Tree.columns" (defArgs s_tcolumns) (defBody s_tcolumns) (defScope s_tcolumns) .none kV19 dc19 pm19 an19 cd19 ct19), sl19⟩)
    (o_Tree_columns : PySem.W.codeIn K cd19 "Tree.columns" = true)
    (k_Tree_columns : PySem.W.keepIn K (.ref f_Tree_columns) = true)
    (a_Tree_pairs : PySem.W.findIn K (.ref c_Tree) "pairs" = some (some (.ref f_Tree_pairs)))
    (i_Tree_pairs : PySem.W.isFn K (.ref f_Tree_pairs) = true)
    (l_Tree_pairs : K.lookup f_Tree_pairs = some ⟨oc20, od20, .func (PySem.W.fnOf "pairs" "Tree.pairs" (defArgs s_tpairs) (defBody s_tpairs) (defScope s_tpairs) .none kV20 dc20 pm20 an20 cd20 ct20), sl20⟩)
    (o_Tree_pairs : PySem.W.codeIn K cd20 "Tree.pairs" = true)
    (k_Tree_pairs : PySem.W.keepIn K (.ref f_Tree_pairs) = true)
    (a_Tree_over : PySem.W.findIn K (.ref c_Tree) "over" = some (some (.ref f_Tree_over)))
    (i_Tree_over : PySem.W.isFn K (.ref f_Tree_over) = true)
    (l_Tree_over : K.lookup f_Tree_over = some ⟨oc21, od21, .func (PySem.W.fnOf "over" "Tree.over" (defArgs s_tover) (defBody s_tover) (defScope s_tover) .none kV21 dc21 pm21 an21 cd21 ct21), sl21⟩)
    (o_Tree_over : PySem.W.codeIn K cd21 "Tree.over" = true)
    (k_Tree_over : PySem.W.keepIn K (.ref f_Tree_over) = true)
    (a_Tree_above : PySem.W.findIn K (.ref c_Tree) "above" = some (some (.ref f_Tree_above)))
    (i_Tree_above : PySem.W.isFn K (.ref f_Tree_above) = true)
    (l_Tree_above : K.lookup f_Tree_above = some ⟨oc22, od22, .func (PySem.W.fnOf "above" "Tree.above" (defArgs s_tabove) (defBody s_tabove) (defScope s_tabove) .none kV22 dc22 pm22 an22 cd22 ct22), sl22⟩)
    (o_Tree_above : PySem.W.codeIn K cd22 "Tree.above" = true)
    (k_Tree_above : PySem.W.keepIn K (.ref f_Tree_above) = true)
    (a_Tree_beneath : PySem.W.findIn K (.ref c_Tree) "beneath" = some (some (.ref f_Tree_beneath)))
    (i_Tree_beneath : PySem.W.isFn K (.ref f_Tree_beneath) = true)
    (l_Tree_beneath : K.lookup f_Tree_beneath = some ⟨oc23, od23, .func (PySem.W.fnOf "beneath" "Tree.beneath" (defArgs s_tbeneath) (defBody s_tbeneath) (defScope s_tbeneath) .none kV23 dc23 pm23 an23 cd23 ct23), sl23⟩)
    (o_Tree_beneath : PySem.W.codeIn K cd23 "Tree.beneath" = true)
    (k_Tree_beneath : PySem.W.keepIn K (.ref f_Tree_beneath) = true)
    (a_Tree_is_above : PySem.W.findIn K (.ref c_Tree) "is_above" = some (some (.ref f_Tree_is_above)))
    (i_Tree_is_above : PySem.W.isFn K (.ref f_Tree_is_above) = true)
    (l_Tree_is_above : K.lookup f_Tree_is_above = some ⟨oc24, od24, .func (PySem.W.fnOf "is_above" "Tree.is_above" (defArgs s_tisabove) (defBody s_tisabove) (defScope s_tisabove) .none kV24 dc24 pm24 an24 cd24 ct24), sl24⟩)
    (o_Tree_is_above : PySem.W.codeIn K cd24 "Tree.is_above" = true)
    (k_Tree_is_above : PySem.W.keepIn K (.ref f_Tree_is_above) = true)
    (a_Tree_check_column : PySem.W.findIn K (.ref c_Tree) "check_column" = some (some (.ref f_Tree_check_column)))
    (i_Tree_check_column : PySem.W.isFn K (.ref f_Tree_check_column) = true)
    (l_Tree_check_column : K.lookup f_Tree_check_column = some ⟨oc25, od25, .func (PySem.W.fnOf "check_column" "Tree.check_column" (defArgs s_tcheck) (defBody s_tcheck) (defScope s_tcheck) .none kV25 dc25 pm25 an25 cd25 ct25), sl25⟩)
    (o_Tree_check_column : PySem.W.codeIn K cd25 "Tree.check_column" = true)
    (k_Tree_check_column : PySem.W.keepIn K (.ref f_Tree_check_column) = true)
    (a_Tree___len__ : PySem.W.findIn K (.ref c_Tree) "__len__" = some (some (.ref f_Tree___len__)))
    (i_Tree___len__ : PySem.W.isFn K (.ref f_Tree___len__) = true)
    (l_Tree___len__ : K.lookup f_Tree___len__ = some ⟨oc26, od26, .func (PySem.W.fnOf "__len__" "Tree.__len__" (defArgs s_tlen) (defBody s_tlen) (defScope s_tlen) .none kV26 dc26 pm26 an26 cd26 ct26), sl26⟩)
    (o_Tree___len__ : PySem.W.codeIn K cd26 "Tree.__len__" = true)
    (k_Tree___len__ : PySem.W.keepIn K (.ref f_Tree___len__) = true)
    (a_Tree___eq__ : PySem.W.findIn K (.ref c_Tree) "__eq__" = some (some (.ref f_Tree___eq__)))
    (i_Tree___eq__ : PySem.W.isFn K (.ref f_Tree___eq__) = true)
    (l_Tree___eq__ : K.lookup f_Tree___eq__ = some ⟨oc27, od27, .func (PySem.W.fnOf "__eq__" "Tree.__eq__" (defArgs s_teq) (defBody s_teq) (defScope s_teq) .none kV27 dc27 pm27 an27 cd27 ct27), sl27⟩)
    (o_Tree___eq__ : PySem.W.codeIn K cd27 "Tree.__eq__" = true)
    (k_Tree___eq__ : PySem.W.keepIn K (.ref f_Tree___eq__) = true)
    (a_Tree___str__ : PySem.W.findIn K (.ref c_Tree) "__str__" = some (some (.ref f_Tree___str__)))
    (i_Tree___str__ : PySem.W.isFn K (.ref f_Tree___str__) = true)
    (l_Tree___str__ : K.lookup f_Tree___str__ = some ⟨oc28, od28, .func (PySem.W.fnOf "__str__" "Tree.__str__" (defArgs s_tstr) (defBody s_tstr) (defScope s_tstr) .none kV28 dc28 pm28 an28 cd28 ct28), sl28⟩)
    (o_Tree___str__ : PySem.W.codeIn K cd28 "Tree.__str__" = true)
    (k_Tree___str__ : PySem.W.keepIn K (.ref f_Tree___str__) = true)
    (pg_Tree : PySem.W.plainGet K c_Tree Str.empty = true)
    (hd_Tree : PySem.W.hasDictIn K c_Tree = true)
    (po_Tree : PySem.W.plainOver K c_Tree = true)
    (sa_Tree : PySem.W.findIn K (.ref c_Tree) "__setattr__" = some (some (.builtin "object.__setattr__")))
    (mk_Tree : PySem.W.makesIn K c_Tree = true)
    (kc_Tree : PySem.W.keepIn K (.ref c_Tree) = true)
    (ha_Tree : PySem.W.findIn K (.ref c_Tree) "__class__" = some (some (.builtin "object.__class__")))
    (hm_Tree : PySem.W.mroIn K c_Tree (.type "object") = some true)
    (me_Tree : PySem.W.kitOne K (.ref c_Tree) (.ref c_Tree) = some true)
    (n_Tree_columns : PySem.W.findIn K (.ref c_Tree) "_columns" = some none)
    (n_Tree_over : PySem.W.findIn K (.ref c_Tree) "_over" = some none)
    (a_Tree_children : PySem.W.findIn K (.ref c_Tree) "children" = some (some (.ref f_Tree_children)))
    (i_Tree_children : PySem.W.isFn K (.ref f_Tree_children) = true)
    (l_Tree_children : K.lookup f_Tree_children = some ⟨oc29, od29, .func (PySem.W.fnOf "children" "Tree.children" (defArgs s_tchildren) (defBody s_tchildren) (defScope s_tchildren) (.ref d_Tree_children) kV29 dc29 pm29 an29 cd29 ct29), sl29⟩)
    (d1_Tree_children : K.lookup d_Tree_children = some ⟨do29, dd29, .seq #[.none] dn29, ds29⟩)
    (o_Tree_children : PySem.W.codeIn K cd29 "Tree.children" = true)
    (k_Tree_children : PySem.W.keepIn K (.ref f_Tree_children) = true)
    (hn : PySem.W.specialIn K (.builtin "object.__class__") "__get__" = some (some (.builtin "getset_descriptor.__get__")))
    (ht : PySem.W.takesIn K (.builtin "object.__class__") = some true)
    (g_longest : PySem.W.nsIn K mainGlobals "LONGEST_NAME" = some (some (.int 8 t_longest)))
    (g_most : PySem.W.nsIn K mainGlobals "MOST_COLUMNS" = some (some (.int 8 t_most)))
    (z_len : PySem.W.nsIn K mainGlobals "len" = some none)
    (z_isi : PySem.W.nsIn K mainGlobals "isinstance" = some none)
    (z_str : PySem.W.nsIn K mainGlobals "str" = some none)
    (z_list : PySem.W.nsIn K mainGlobals "list" = some none)
    (z_tuple : PySem.W.nsIn K mainGlobals "tuple" = some none)
    (z_dict : PySem.W.nsIn K mainGlobals "dict" = some none)
    (z_int : PySem.W.nsIn K mainGlobals "int" = some none)
    (z_range : PySem.W.nsIn K mainGlobals "range" = some none)
    (z_enum : PySem.W.nsIn K mainGlobals "enumerate" = some none)
    (z_all : PySem.W.nsIn K mainGlobals "all" = some none)
    (z_any : PySem.W.nsIn K mainGlobals "any" = some none)
    (z_max : PySem.W.nsIn K mainGlobals "max" = some none)
    (z_sorted : PySem.W.nsIn K mainGlobals "sorted" = some none)
    (ne : PySem.W.findIn K (.ref c_Tree) "__ne__" = some (some (.builtin "object.__ne__")))
    (kl : PySem.W.kitOne K (.type "list") (.ref c_Tree) = some false)
    (kn : PySem.W.kitOne K (.type "NoneType") (.ref c_Tree) = some false)
    (ul : PySem.W.subIn K (.type "list") (.ref c_Tree) = some false)
    (un : PySem.W.subIn K (.type "NoneType") (.ref c_Tree) = some false)
    : ∃ fd : FuncData, (∀ (s : Shared) (v : Value), BindsTo s fd ⟨[v], []⟩ [("_law_script", v)]) ∧ ∀ base : Heap, K.In base → base.Ns mainGlobals mg → FnOk l.prog w K mg base CX0 19 fa fd ["_law_script"] (sp_law K) := by
  have e := hfa.symm.trans (PySem.W.mg_of X G a_law)
  cases e
  have F_is_name := fun_mk (st := s_is_name) l_is_name o_is_name k_is_name
  have b_is_name := F_is_name.binds (ps := ["thing"]) fun _ _ _ _ _ _ us hl => match us, hl with | [_], _ => rfl
  have N_is_name : Fn K mg "is_name" s_is_name ["thing"] f_is_name _ := ⟨F_is_name, PySem.W.mg_of X G a_is_name, b_is_name⟩
  have F_is_name_in := fun_mk (st := s_is_name_in) l_is_name_in o_is_name_in k_is_name_in
  have b_is_name_in := F_is_name_in.binds (ps := ["thing", "names"]) fun _ _ _ _ _ _ us hl => match us, hl with | [_, _], _ => rfl
  have N_is_name_in : Fn K mg "is_name_in" s_is_name_in ["thing", "names"] f_is_name_in _ := ⟨F_is_name_in, PySem.W.mg_of X G a_is_name_in, b_is_name_in⟩
  have F__told_overs := fun_mk (st := s_told) l__told_overs o__told_overs k__told_overs
  have b__told_overs := F__told_overs.binds (ps := ["pairs"]) fun _ _ _ _ _ _ us hl => match us, hl with | [_], _ => rfl
  have N__told_overs : Fn K mg "_told_overs" s_told ["pairs"] f__told_overs _ := ⟨F__told_overs, PySem.W.mg_of X G a__told_overs, b__told_overs⟩
  have F__is_pair := fun_mk (st := s_is_pair) l__is_pair o__is_pair k__is_pair
  have b__is_pair := F__is_pair.binds (ps := ["thing", "overs"]) fun _ _ _ _ _ _ us hl => match us, hl with | [_, _], _ => rfl
  have N__is_pair : Fn K mg "_is_pair" s_is_pair ["thing", "overs"] f__is_pair _ := ⟨F__is_pair, PySem.W.mg_of X G a__is_pair, b__is_pair⟩
  have F__in_order := fun_mk (st := s_in_order) l__in_order o__in_order k__in_order
  have b__in_order := F__in_order.binds (ps := ["overs", "upper"]) fun _ _ _ _ _ _ us hl => match us, hl with | [_, _], _ => rfl
  have N__in_order : Fn K mg "_in_order" s_in_order ["overs", "upper"] f__in_order _ := ⟨F__in_order, PySem.W.mg_of X G a__in_order, b__in_order⟩
  have F__written := fun_mk (st := s_written) l__written o__written k__written
  have b__written := F__written.binds (ps := ["tree", "column"]) fun _ _ _ _ _ _ us hl => match us, hl with | [_, _], _ => rfl
  have N__written : Fn K mg "_written" s_written ["tree", "column"] f__written _ := ⟨F__written, PySem.W.mg_of X G a__written, b__written⟩
  have F__law_well := fun_mk (st := s_well) l__law_well o__law_well k__law_well
  have b__law_well := F__law_well.binds (ps := ["_law_cell", "_law_k"]) fun _ _ _ _ _ _ us hl => match us, hl with | [_, _], _ => rfl
  have N__law_well : Fn K mg "_law_well" s_well ["_law_cell", "_law_k"] f__law_well _ := ⟨F__law_well, PySem.W.mg_of X G a__law_well, b__law_well⟩
  have F__law_draw := fun_mk (st := s_draw) l__law_draw o__law_draw k__law_draw
  have b__law_draw := F__law_draw.binds (ps := ["_law_well_here", "_law_top"]) fun _ _ _ _ _ _ us hl => match us, hl with | [_, _], _ => rfl
  have N__law_draw : Fn K mg "_law_draw" s_draw ["_law_well_here", "_law_top"] f__law_draw _ := ⟨F__law_draw, PySem.W.mg_of X G a__law_draw, b__law_draw⟩
  have F__law_names := fun_mk (st := s_names) l__law_names o__law_names k__law_names
  have b__law_names := F__law_names.binds (ps := ["_law_well_here", "_law_count"]) fun _ _ _ _ _ _ us hl => match us, hl with | [_, _], _ => rfl
  have N__law_names : Fn K mg "_law_names" s_names ["_law_well_here", "_law_count"] f__law_names _ := ⟨F__law_names, PySem.W.mg_of X G a__law_names, b__law_names⟩
  have F__law_pairs := fun_mk (st := s_pairs) l__law_pairs o__law_pairs k__law_pairs
  have b__law_pairs := F__law_pairs.binds (ps := ["_law_well_here", "_law_names_here"]) fun _ _ _ _ _ _ us hl => match us, hl with | [_, _], _ => rfl
  have N__law_pairs : Fn K mg "_law_pairs" s_pairs ["_law_well_here", "_law_names_here"] f__law_pairs _ := ⟨F__law_pairs, PySem.W.mg_of X G a__law_pairs, b__law_pairs⟩
  have F__law_order := fun_mk (st := s_order) l__law_order o__law_order k__law_order
  have b__law_order := F__law_order.binds (ps := ["_law_pairs_here", "_law_over"]) fun _ _ _ _ _ _ us hl => match us, hl with | [_, _], _ => rfl
  have N__law_order : Fn K mg "_law_order" s_order ["_law_pairs_here", "_law_over"] f__law_order _ := ⟨F__law_order, PySem.W.mg_of X G a__law_order, b__law_order⟩
  have F__law_above := fun_mk (st := s_above) l__law_above o__law_above k__law_above
  have b__law_above := F__law_above.binds (ps := ["_law_pairs_here", "_law_name"]) fun _ _ _ _ _ _ us hl => match us, hl with | [_, _], _ => rfl
  have N__law_above : Fn K mg "_law_above" s_above ["_law_pairs_here", "_law_name"] f__law_above _ := ⟨F__law_above, PySem.W.mg_of X G a__law_above, b__law_above⟩
  have F__law_text := fun_mk (st := s_text) l__law_text o__law_text k__law_text
  have b__law_text := F__law_text.binds (ps := ["_law_pairs_here", "_law_over"]) fun _ _ _ _ _ _ us hl => match us, hl with | [_, _], _ => rfl
  have N__law_text : Fn K mg "_law_text" s_text ["_law_pairs_here", "_law_over"] f__law_text _ := ⟨F__law_text, PySem.W.mg_of X G a__law_text, b__law_text⟩
  have F__law_by_floors := fun_mk (st := s_by_floors) l__law_by_floors o__law_by_floors k__law_by_floors
  have b__law_by_floors := F__law_by_floors.binds (ps := ["_law_pairs_here"]) fun _ _ _ _ _ _ us hl => match us, hl with | [_], _ => rfl
  have N__law_by_floors : Fn K mg "_law_by_floors" s_by_floors ["_law_pairs_here"] f__law_by_floors _ := ⟨F__law_by_floors, PySem.W.mg_of X G a__law_by_floors, b__law_by_floors⟩
  have F__law_tells := fun_mk (st := s_tells) l__law_tells o__law_tells k__law_tells
  have b__law_tells := F__law_tells.binds (ps := ["_law_tree", "_law_pairs_here"]) fun _ _ _ _ _ _ us hl => match us, hl with | [_, _], _ => rfl
  have N__law_tells : Fn K mg "_law_tells" s_tells ["_law_tree", "_law_pairs_here"] f__law_tells _ := ⟨F__law_tells, PySem.W.mg_of X G a__law_tells, b__law_tells⟩
  have F__law_right := fun_mk (st := s_right) l__law_right o__law_right k__law_right
  have b__law_right := F__law_right.binds (ps := ["_law_well_here"]) fun _ _ _ _ _ _ us hl => match us, hl with | [_], _ => rfl
  have N__law_right : Fn K mg "_law_right" s_right ["_law_well_here"] f__law_right _ := ⟨F__law_right, PySem.W.mg_of X G a__law_right, b__law_right⟩
  have F_law := fun_mk (st := s_law) l_law o_law k_law
  have b_law := F_law.binds (ps := ["_law_script"]) fun _ _ _ _ _ _ us hl => match us, hl with | [_], _ => rfl
  have N_law : Fn K mg "law" s_law ["_law_script"] fa _ := ⟨F_law, PySem.W.mg_of X G a_law, b_law⟩
  have F_Tree___init__ := fun_mk (st := s_tinit) l_Tree___init__ o_Tree___init__ k_Tree___init__
  have b_Tree___init__ := F_Tree___init__.binds (ps := ["self", "pairs"]) fun _ _ _ _ _ _ us hl => match us, hl with | [_, _], _ => rfl
  have M_Tree___init__ : Mt K c_Tree "__init__" "Tree.__init__" s_tinit ["self", "pairs"] f_Tree___init__ _ := ⟨F_Tree___init__, ⟨a_Tree___init__, i_Tree___init__, k_Tree___init__⟩, b_Tree___init__⟩
  have F_Tree_columns := fun_mk (st := s_tcolumns) l_Tree_columns o_Tree_columns k_Tree_columns
  have b_Tree_columns := F_Tree_columns.binds (ps := ["self"]) fun _ _ _ _ _ _ us hl => match us, hl with | [_], _ => rfl
  have M_Tree_columns : Mt K c_Tree "columns" "Tree.columns" s_tcolumns ["self"] f_Tree_columns _ := ⟨F_Tree_columns, ⟨a_Tree_columns, i_Tree_columns, k_Tree_columns⟩, b_Tree_columns⟩
  have F_Tree_pairs := fun_mk (st := s_tpairs) l_Tree_pairs o_Tree_pairs k_Tree_pairs
  have b_Tree_pairs := F_Tree_pairs.binds (ps := ["self"]) fun _ _ _ _ _ _ us hl => match us, hl with | [_], _ => rfl
  have M_Tree_pairs : Mt K c_Tree "pairs" "Tree.pairs" s_tpairs ["self"] f_Tree_pairs _ := ⟨F_Tree_pairs, ⟨a_Tree_pairs, i_Tree_pairs, k_Tree_pairs⟩, b_Tree_pairs⟩
  have F_Tree_over := fun_mk (st := s_tover) l_Tree_over o_Tree_over k_Tree_over
  have b_Tree_over := F_Tree_over.binds (ps := ["self", "column"]) fun _ _ _ _ _ _ us hl => match us, hl with | [_, _], _ => rfl
  have M_Tree_over : Mt K c_Tree "over" "Tree.over" s_tover ["self", "column"] f_Tree_over _ := ⟨F_Tree_over, ⟨a_Tree_over, i_Tree_over, k_Tree_over⟩, b_Tree_over⟩
  have F_Tree_above := fun_mk (st := s_tabove) l_Tree_above o_Tree_above k_Tree_above
  have b_Tree_above := F_Tree_above.binds (ps := ["self", "column"]) fun _ _ _ _ _ _ us hl => match us, hl with | [_, _], _ => rfl
  have M_Tree_above : Mt K c_Tree "above" "Tree.above" s_tabove ["self", "column"] f_Tree_above _ := ⟨F_Tree_above, ⟨a_Tree_above, i_Tree_above, k_Tree_above⟩, b_Tree_above⟩
  have F_Tree_beneath := fun_mk (st := s_tbeneath) l_Tree_beneath o_Tree_beneath k_Tree_beneath
  have b_Tree_beneath := F_Tree_beneath.binds (ps := ["self", "column"]) fun _ _ _ _ _ _ us hl => match us, hl with | [_, _], _ => rfl
  have M_Tree_beneath : Mt K c_Tree "beneath" "Tree.beneath" s_tbeneath ["self", "column"] f_Tree_beneath _ := ⟨F_Tree_beneath, ⟨a_Tree_beneath, i_Tree_beneath, k_Tree_beneath⟩, b_Tree_beneath⟩
  have F_Tree_is_above := fun_mk (st := s_tisabove) l_Tree_is_above o_Tree_is_above k_Tree_is_above
  have b_Tree_is_above := F_Tree_is_above.binds (ps := ["self", "one", "other"]) fun _ _ _ _ _ _ us hl => match us, hl with | [_, _, _], _ => rfl
  have M_Tree_is_above : Mt K c_Tree "is_above" "Tree.is_above" s_tisabove ["self", "one", "other"] f_Tree_is_above _ := ⟨F_Tree_is_above, ⟨a_Tree_is_above, i_Tree_is_above, k_Tree_is_above⟩, b_Tree_is_above⟩
  have F_Tree_check_column := fun_mk (st := s_tcheck) l_Tree_check_column o_Tree_check_column k_Tree_check_column
  have b_Tree_check_column := F_Tree_check_column.binds (ps := ["self", "column"]) fun _ _ _ _ _ _ us hl => match us, hl with | [_, _], _ => rfl
  have M_Tree_check_column : Mt K c_Tree "check_column" "Tree.check_column" s_tcheck ["self", "column"] f_Tree_check_column _ := ⟨F_Tree_check_column, ⟨a_Tree_check_column, i_Tree_check_column, k_Tree_check_column⟩, b_Tree_check_column⟩
  have F_Tree___len__ := fun_mk (st := s_tlen) l_Tree___len__ o_Tree___len__ k_Tree___len__
  have b_Tree___len__ := F_Tree___len__.binds (ps := ["self"]) fun _ _ _ _ _ _ us hl => match us, hl with | [_], _ => rfl
  have M_Tree___len__ : Mt K c_Tree "__len__" "Tree.__len__" s_tlen ["self"] f_Tree___len__ _ := ⟨F_Tree___len__, ⟨a_Tree___len__, i_Tree___len__, k_Tree___len__⟩, b_Tree___len__⟩
  have F_Tree___eq__ := fun_mk (st := s_teq) l_Tree___eq__ o_Tree___eq__ k_Tree___eq__
  have b_Tree___eq__ := F_Tree___eq__.binds (ps := ["self", "other"]) fun _ _ _ _ _ _ us hl => match us, hl with | [_, _], _ => rfl
  have M_Tree___eq__ : Mt K c_Tree "__eq__" "Tree.__eq__" s_teq ["self", "other"] f_Tree___eq__ _ := ⟨F_Tree___eq__, ⟨a_Tree___eq__, i_Tree___eq__, k_Tree___eq__⟩, b_Tree___eq__⟩
  have F_Tree___str__ := fun_mk (st := s_tstr) l_Tree___str__ o_Tree___str__ k_Tree___str__
  have b_Tree___str__ := F_Tree___str__.binds (ps := ["self"]) fun _ _ _ _ _ _ us hl => match us, hl with | [_], _ => rfl
  have M_Tree___str__ : Mt K c_Tree "__str__" "Tree.__str__" s_tstr ["self"] f_Tree___str__ _ := ⟨F_Tree___str__, ⟨a_Tree___str__, i_Tree___str__, k_Tree___str__⟩, b_Tree___str__⟩
  have F_Tree_children : FunD K "children" "Tree.children" (defArgs s_tchildren) (defBody s_tchildren) (defScope s_tchildren) [.non] [] f_Tree_children _ := ⟨⟨_, _, _, _, _, _, _, _, _, _, rfl, l_Tree_children, o_Tree_children, .inr ⟨(fun z => nomatch z), d_Tree_children, _, [.none], _, rfl, d1_Tree_children, rfl, .cons rfl .nil⟩, .inl rfl⟩, k_Tree_children⟩
  have B : Bn mg := ⟨PySem.W.mg_none_of X G z_len, PySem.W.mg_none_of X G z_isi, PySem.W.mg_none_of X G z_str, PySem.W.mg_none_of X G z_list, PySem.W.mg_none_of X G z_tuple, PySem.W.mg_none_of X G z_dict, PySem.W.mg_none_of X G z_int, PySem.W.mg_none_of X G z_range, PySem.W.mg_none_of X G z_enum, PySem.W.mg_none_of X G z_all, PySem.W.mg_none_of X G z_any, PySem.W.mg_none_of X G z_max, PySem.W.mg_none_of X G z_sorted⟩
  have Tk : Kd K mg f_is_name f_is_name_in f__is_pair f__told_overs f__in_order _ _ _ _ _ := ⟨B, ⟨⟨_, PySem.W.mg_of X G g_longest⟩, ⟨_, PySem.W.mg_of X G g_most⟩⟩, N_is_name, N_is_name_in, N__is_pair, N__told_overs, N__in_order⟩
  have Ck : Tc K mg c_Tree := ⟨⟨pg_Tree, hd_Tree, po_Tree, sa_Tree⟩, n_Tree_columns, n_Tree_over, PySem.W.mg_of X G a_Tree, ⟨ha_Tree, hn, ht, hm_Tree, me_Tree⟩⟩
  have Wk : Wd K mg c_Tree f_Tree_check_column f_Tree_children f__written _ _ _ := ⟨M_Tree_check_column, F_Tree_children, ⟨a_Tree_children, i_Tree_children, k_Tree_children⟩,
    F_Tree_children.binds1 (ps := ["self", "column"]) 1 0 (by simp) rfl (fun _ _ _ _ _ _ _ us its l1 l2 => match us, its, l1, l2 with | [_], [_], _, _ => ⟨_, rfl, rfl⟩),
    by
        obtain ⟨ds, h1, h2⟩ := F_Tree_children.binds1 (ps := ["self", "column"]) 2 1 (by simp) rfl (fun _ _ _ _ _ _ _ us its l1 l2 => match us, its, l1, l2 with | [_, _], [_], _, _ => ⟨_, rfl, rfl⟩)
        cases h1
        exact h2, N__written⟩
  have Mk' : Tl K mg c_Tree f_Tree_columns f_Tree_pairs f_Tree___len__ f_Tree_over f_Tree_above f_Tree_beneath f_Tree_is_above f_Tree___str__ f_Tree_children f_Tree_check_column f__written _ _ _ _ _ _ _ _ _ _ _ := ⟨Ck, M_Tree_columns, M_Tree_pairs, M_Tree___len__, M_Tree_over, M_Tree_above, M_Tree_beneath, M_Tree_is_above, M_Tree___str__, Wk⟩
  have Dk : Td K mg c_Tree f_Tree___init__ f_Tree___eq__ _ _ := ⟨F_Tree___init__, ⟨mk_Tree, a_Tree___init__, i_Tree___init__, kc_Tree⟩, b_Tree___init__, M_Tree___eq__, ne, kl, kn, nf_of ul, nf_of un, by unfold PySem.W.notFirst; simp⟩
  have Lw : Lt K mg f__law_order f__law_above f__law_text f__law_by_floors _ _ _ _ := ⟨N__law_order, N__law_above, N__law_text, N__law_by_floors⟩
  have Lk : Ld K mg f__law_draw f__law_names f__law_pairs f__law_tells _ _ _ _ := ⟨N__law_draw, N__law_names, N__law_pairs, N__law_tells⟩
  exact ⟨PySem.W.fnOf "law" "law" (defArgs s_law) (defBody s_law) (defScope s_law) .none kV17 dc17 pm17 an17 cd17 ct17, fun s v => .of_eq rfl, fun base _ _ => ok_law N_law N__law_well N__law_right Tk Dk Mk' Lw Lk⟩
end T10
open PySem PySem.W PyProof.Rows
set_option maxRecDepth 100000 in
set_option maxHeartbeats 0 in
theorem PySem.Challenge.cw_foldbough_k10_trees_made_holds : PySem.Challenge.rw_foldbough_k10_trees_made.Holds := by
  w_on; o_law; k_head; (case hw => w_witness2)
  k_fill
  refine L2.walk_of (l := PySem.Challenge.rw_foldbough_k10_trees_made) (n := 63) (k := 19) (x := "_law_script") (CX := fun _ => L2.CX0) (sp := fun w => T10.sp_law (_)) rfl (by decide) rfl ⟨rfl, by decide, by decide⟩ (fun w h Y => PySem.W.kIn_of Y) ?F (fun _ _ a ns hl _ hS => ⟨a, ns, rfl, hS, hl, fun _ => rfl⟩) (fun _ _ _ _ _ z => z)
  case F =>
    intro w mg fa h KX G hmg
    refine' T10.all_mk KX G hmg ?a_is_name ?l_is_name ?o_is_name ?k_is_name ?a_is_name_in ?l_is_name_in ?o_is_name_in ?k_is_name_in ?a__told_overs ?l__told_overs ?o__told_overs ?k__told_overs ?a__is_pair ?l__is_pair ?o__is_pair ?k__is_pair ?a__in_order ?l__in_order ?o__in_order ?k__in_order ?a__written ?l__written ?o__written ?k__written ?a__law_well ?l__law_well ?o__law_well ?k__law_well ?a__law_draw ?l__law_draw ?o__law_draw ?k__law_draw ?a__law_names ?l__law_names ?o__law_names ?k__law_names ?a__law_pairs ?l__law_pairs ?o__law_pairs ?k__law_pairs ?a__law_order ?l__law_order ?o__law_order ?k__law_order ?a__law_above ?l__law_above ?o__law_above ?k__law_above ?a__law_text ?l__law_text ?o__law_text ?k__law_text ?a__law_by_floors ?l__law_by_floors ?o__law_by_floors ?k__law_by_floors ?a__law_tells ?l__law_tells ?o__law_tells ?k__law_tells ?a__law_right ?l__law_right ?o__law_right ?k__law_right ?a_law ?l_law ?o_law ?k_law ?a_Tree ?a_Tree___init__ ?i_Tree___init__ ?l_Tree___init__ ?o_Tree___init__ ?k_Tree___init__ ?a_Tree_columns ?i_Tree_columns ?l_Tree_columns ?o_Tree_columns ?k_Tree_columns ?a_Tree_pairs ?i_Tree_pairs ?l_Tree_pairs ?o_Tree_pairs ?k_Tree_pairs ?a_Tree_over ?i_Tree_over ?l_Tree_over ?o_Tree_over ?k_Tree_over ?a_Tree_above ?i_Tree_above ?l_Tree_above ?o_Tree_above ?k_Tree_above ?a_Tree_beneath ?i_Tree_beneath ?l_Tree_beneath ?o_Tree_beneath ?k_Tree_beneath ?a_Tree_is_above ?i_Tree_is_above ?l_Tree_is_above ?o_Tree_is_above ?k_Tree_is_above ?a_Tree_check_column ?i_Tree_check_column ?l_Tree_check_column ?o_Tree_check_column ?k_Tree_check_column ?a_Tree___len__ ?i_Tree___len__ ?l_Tree___len__ ?o_Tree___len__ ?k_Tree___len__ ?a_Tree___eq__ ?i_Tree___eq__ ?l_Tree___eq__ ?o_Tree___eq__ ?k_Tree___eq__ ?a_Tree___str__ ?i_Tree___str__ ?l_Tree___str__ ?o_Tree___str__ ?k_Tree___str__ ?pg_Tree ?hd_Tree ?po_Tree ?sa_Tree ?mk_Tree ?kc_Tree ?ha_Tree ?hm_Tree ?me_Tree ?n_Tree_columns ?n_Tree_over ?a_Tree_children ?i_Tree_children ?l_Tree_children ?d1_Tree_children ?o_Tree_children ?k_Tree_children ?hn ?ht ?g_longest ?g_most ?z_len ?z_isi ?z_str ?z_list ?z_tuple ?z_dict ?z_int ?z_range ?z_enum ?z_all ?z_any ?z_max ?z_sorted ?ne ?kl ?kn ?ul ?un
    (case a_is_name => k_is)
    (case l_is_name => k_is)
    (case o_is_name => k_is)
    (case k_is_name => k_is)
    (case a_is_name_in => k_is)
    (case l_is_name_in => k_is)
    (case o_is_name_in => k_is)
    (case k_is_name_in => k_is)
    (case a__told_overs => k_is)
    (case l__told_overs => k_is)
    (case o__told_overs => k_is)
    (case k__told_overs => k_is)
    (case a__is_pair => k_is)
    (case l__is_pair => k_is)
    (case o__is_pair => k_is)
    (case k__is_pair => k_is)
    (case a__in_order => k_is)
    (case l__in_order => k_is)
    (case o__in_order => k_is)
    (case k__in_order => k_is)
    (case a__written => k_is)
    (case l__written => k_is)
    (case o__written => k_is)
    (case k__written => k_is)
    (case a__law_well => k_is)
    (case l__law_well => k_is)
    (case o__law_well => k_is)
    (case k__law_well => k_is)
    (case a__law_draw => k_is)
    (case l__law_draw => k_is)
    (case o__law_draw => k_is)
    (case k__law_draw => k_is)
    (case a__law_names => k_is)
    (case l__law_names => k_is)
    (case o__law_names => k_is)
    (case k__law_names => k_is)
    (case a__law_pairs => k_is)
    (case l__law_pairs => k_is)
    (case o__law_pairs => k_is)
    (case k__law_pairs => k_is)
    (case a__law_order => k_is)
    (case l__law_order => k_is)
    (case o__law_order => k_is)
    (case k__law_order => k_is)
    (case a__law_above => k_is)
    (case l__law_above => k_is)
    (case o__law_above => k_is)
    (case k__law_above => k_is)
    (case a__law_text => k_is)
    (case l__law_text => k_is)
    (case o__law_text => k_is)
    (case k__law_text => k_is)
    (case a__law_by_floors => k_is)
    (case l__law_by_floors => k_is)
    (case o__law_by_floors => k_is)
    (case k__law_by_floors => k_is)
    (case a__law_tells => k_is)
    (case l__law_tells => k_is)
    (case o__law_tells => k_is)
    (case k__law_tells => k_is)
    (case a__law_right => k_is)
    (case l__law_right => k_is)
    (case o__law_right => k_is)
    (case k__law_right => k_is)
    (case a_law => k_is)
    (case l_law => k_is)
    (case o_law => k_is)
    (case k_law => k_is)
    (case a_Tree => k_is)
    (case a_Tree___init__ => k_is)
    (case i_Tree___init__ => k_is)
    (case l_Tree___init__ => k_is)
    (case o_Tree___init__ => k_is)
    (case k_Tree___init__ => k_is)
    (case a_Tree_columns => k_is)
    (case i_Tree_columns => k_is)
    (case l_Tree_columns => k_is)
    (case o_Tree_columns => k_is)
    (case k_Tree_columns => k_is)
    (case a_Tree_pairs => k_is)
    (case i_Tree_pairs => k_is)
    (case l_Tree_pairs => k_is)
    (case o_Tree_pairs => k_is)
    (case k_Tree_pairs => k_is)
    (case a_Tree_over => k_is)
    (case i_Tree_over => k_is)
    (case l_Tree_over => k_is)
    (case o_Tree_over => k_is)
    (case k_Tree_over => k_is)
    (case a_Tree_above => k_is)
    (case i_Tree_above => k_is)
    (case l_Tree_above => k_is)
    (case o_Tree_above => k_is)
    (case k_Tree_above => k_is)
    (case a_Tree_beneath => k_is)
    (case i_Tree_beneath => k_is)
    (case l_Tree_beneath => k_is)
    (case o_Tree_beneath => k_is)
    (case k_Tree_beneath => k_is)
    (case a_Tree_is_above => k_is)
    (case i_Tree_is_above => k_is)
    (case l_Tree_is_above => k_is)
    (case o_Tree_is_above => k_is)
    (case k_Tree_is_above => k_is)
    (case a_Tree_check_column => k_is)
    (case i_Tree_check_column => k_is)
    (case l_Tree_check_column => k_is)
    (case o_Tree_check_column => k_is)
    (case k_Tree_check_column => k_is)
    (case a_Tree___len__ => k_is)
    (case i_Tree___len__ => k_is)
    (case l_Tree___len__ => k_is)
    (case o_Tree___len__ => k_is)
    (case k_Tree___len__ => k_is)
    (case a_Tree___eq__ => k_is)
    (case i_Tree___eq__ => k_is)
    (case l_Tree___eq__ => k_is)
    (case o_Tree___eq__ => k_is)
    (case k_Tree___eq__ => k_is)
    (case a_Tree___str__ => k_is)
    (case i_Tree___str__ => k_is)
    (case l_Tree___str__ => k_is)
    (case o_Tree___str__ => k_is)
    (case k_Tree___str__ => k_is)
    (case pg_Tree => k_is)
    (case hd_Tree => k_is)
    (case po_Tree => k_is)
    (case sa_Tree => k_is)
    (case mk_Tree => k_is)
    (case kc_Tree => k_is)
    (case ha_Tree => k_is)
    (case hm_Tree => k_is)
    (case me_Tree => kit_is)
    (case n_Tree_columns => k_is)
    (case n_Tree_over => k_is)
    (case a_Tree_children => k_is)
    (case i_Tree_children => k_is)
    (case l_Tree_children => k_is)
    (case d1_Tree_children => k_is)
    (case o_Tree_children => k_is)
    (case k_Tree_children => k_is)
    (case hn => k_is)
    (case ht => k_is)
    (case g_longest => k_is)
    (case g_most => k_is)
    (case z_len => k_is)
    (case z_isi => k_is)
    (case z_str => k_is)
    (case z_list => k_is)
    (case z_tuple => k_is)
    (case z_dict => k_is)
    (case z_int => k_is)
    (case z_range => k_is)
    (case z_enum => k_is)
    (case z_all => k_is)
    (case z_any => k_is)
    (case z_max => k_is)
    (case z_sorted => k_is)
    (case ne => k_is)
    (case kl => kit_is)
    (case kn => kit_is)
    (case ul => k_is)
    (case un => k_is)

