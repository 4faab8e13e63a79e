import PyProof.Rows.All
import Wide.All
import OpenK.AllK
import Wide.FinOn
import HandS.ForMost
import HandS.Exc
import HandS.TryOnly
import HandS.ExcOwn
import HandS.WordsExc
import HandS.IsInst
import HandS.ExcIs
import HandS.DictComp
import HandS.Walk
import HandS.Conv
import HandS.Codes
import HandS.OwnEq
import HandS.Ends
import KE.KExcStr
import KE.RegKIsAll
import PySem.Challenge.RW_foldbough_k15_trees_beside
set_option Elab.async false
set_option linter.all false
set_option maxRecDepth 100000
/-! Mathematics of forests of names told as lists of pairs. -/
namespace TM
open PySem L2
/-- one to eight small letters -/
def NameOk (s : Str) : Prop := 1 ≤ s.length ∧ s.length ≤ 8 ∧ ∀ c ∈ s.cps.toList, 97 ≤ c ∧ c ≤ 122
inductive Fo where
  | nil
  | cons (c : Str) (kids rest : Fo)
abbrev Pr := Str × Option Str
def flat : Fo → Option Str → List Pr
  | .nil, _ => []
  | .cons c k r, u => (c, u) :: (flat k (some c) ++ flat r u)
def names : Fo → List Str
  | .nil => []
  | .cons c k r => c :: (names k ++ names r)
def app : Fo → Fo → Fo
  | .nil, g => g
  | .cons c k r, g => .cons c k (app r g)
/-- the forest beneath u of a list of pairs in which overs stand ahead -/
def mk : List Pr → Option Str → Fo
  | [], _ => .nil
  | (c, o) :: r, u => if o = u then .cons c (mk r (some c)) (mk r u) else mk r u
def ord (ps : List Pr) (u : Option Str) : List Str := names (mk ps u)
theorem ord_nil (u : Option Str) : ord [] u = [] := rfl
theorem ord_cons (c : Str) (o : Option Str) (r : List Pr) (u : Option Str) : ord ((c, o) :: r) u = if o = u then c :: (ord r (some c) ++ ord r u) else ord r u := by
  unfold ord
  show names (if o = u then .cons c (mk r (some c)) (mk r u) else mk r u) = _
  split <;> rfl
theorem flat_names : ∀ (f : Fo) (u : Option Str), (flat f u).map Prod.fst = names f
  | .nil, _ => rfl
  | .cons c k r, u => by
    show c :: ((flat k (some c) ++ flat r u).map Prod.fst) = c :: (names k ++ names r)
    rw [List.map_append, flat_names k, flat_names r]
theorem flat_app : ∀ (f g : Fo) (u : Option Str), flat (app f g) u = flat f u ++ flat g u
  | .nil, _, _ => rfl
  | .cons c k r, g, u => by
    show (c, u) :: (flat k (some c) ++ flat (app r g) u) = (c, u) :: (flat k (some c) ++ flat r u) ++ flat g u
    rw [flat_app r g u, List.cons_append, List.append_assoc]
theorem names_app : ∀ (f g : Fo), names (app f g) = names f ++ names g
  | .nil, _ => rfl
  | .cons c k r, g => by
    show c :: (names k ++ names (app r g)) = c :: (names k ++ names r) ++ names g
    rw [names_app r g, List.cons_append, List.append_assoc]
theorem app_nil : ∀ f : Fo, app f .nil = f
  | .nil => rfl
  | .cons c k r => by show Fo.cons c k (app r .nil) = _; rw [app_nil r]
/-- every over told is none, or a name that is told ahead; names unlike -/
def Valid : List Str → List Pr → Prop
  | _, [] => True
  | seen, (c, o) :: r => c ∉ seen ∧ (∀ x, o = some x → x ∈ seen) ∧ Valid (seen ++ [c]) r
theorem valid_notin : ∀ {ps : List Pr} {seen : List Str} {x : Str}, Valid seen ps → x ∈ seen → x ∉ ps.map Prod.fst
  | [], _, _, _, _ => by simp
  | (c, o) :: r, seen, x, h, hx => by
    obtain ⟨h1, _, h3⟩ := h
    have ih := valid_notin (x := x) h3 (List.mem_append_left _ hx)
    simp only [List.map_cons, List.mem_cons, not_or]
    exact ⟨fun e => h1 (e ▸ hx), ih⟩
theorem valid_nodup : ∀ {ps : List Pr} {seen : List Str}, Valid seen ps → (ps.map Prod.fst).Nodup
  | [], _, _ => by simp
  | (c, o) :: r, seen, h => by
    obtain ⟨_, _, h3⟩ := h
    simp only [List.map_cons, List.nodup_cons]
    exact ⟨valid_notin h3 (by simp), valid_nodup h3⟩
/-- nothing stands beneath a name that is told nowhere as an over -/
theorem mk_none : ∀ {ps : List Pr} {u : Option Str}, (∀ p ∈ ps, p.2 ≠ u) → mk ps u = .nil
  | [], _, _ => rfl
  | (c, o) :: r, u, h => by
    show (if o = u then _ else mk r u) = _
    rw [if_neg (h (c, o) List.mem_cons_self)]
    exact mk_none fun p hp => h p (List.mem_cons_of_mem _ hp)
/-- a forest told in its own order, and what comes behind -/
theorem mk_flat : ∀ (f : Fo) (r : List Pr) (u : Option Str), (names f).Nodup → (∀ x ∈ names f, u ≠ some x) → (∀ p ∈ r, ∀ x ∈ names f, p.2 ≠ some x) →
    mk (flat f u ++ r) u = app f (mk r u) ∧ ∀ v, v ≠ u → (∀ x ∈ names f, v ≠ some x) → mk (flat f u ++ r) v = mk r v
  | .nil, r, u, _, _, _ => ⟨rfl, fun v _ _ => rfl⟩
  | .cons c k s, r, u, hn, hu, hr => by
    have hn' : (c :: (names k ++ names s)).Nodup := hn
    rw [List.nodup_cons, List.nodup_append] at hn'
    obtain ⟨hc, hk, hs, hks⟩ := hn'
    have hck : c ∉ names k := fun z => hc (List.mem_append_left _ z)
    have hcs : c ∉ names s := fun z => hc (List.mem_append_right _ z)
    have mem_k : ∀ x ∈ names k, x ∈ names (Fo.cons c k s) := fun x hx => List.mem_cons_of_mem _ (List.mem_append_left _ hx)
    have mem_s : ∀ x ∈ names s, x ∈ names (Fo.cons c k s) := fun x hx => List.mem_cons_of_mem _ (List.mem_append_right _ hx)
    have mem_c : c ∈ names (Fo.cons c k s) := List.mem_cons_self
    have huc : u ≠ some c := hu c mem_c
    -- the rest behind the kids
    have over_s : ∀ p ∈ flat s u, p.2 = u ∨ ∃ x ∈ names s, p.2 = some x := by
      have gen : ∀ (f : Fo) (u : Option Str), ∀ p ∈ flat f u, p.2 = u ∨ ∃ x ∈ names f, p.2 = some x := by
        intro f
        induction f with
        | nil => intro u p hp; cases hp
        | cons c k r ihk ihr =>
          intro u p hp
          have hp' : p ∈ (c, u) :: (flat k (some c) ++ flat r u) := hp
          rcases List.mem_cons.mp hp' with e | hp'
          · left; rw [e]
          · rcases List.mem_append.mp hp' with hp' | hp'
            · rcases ihk _ p hp' with e | ⟨x, hx, e⟩
              · exact .inr ⟨c, List.mem_cons_self, e⟩
              · exact .inr ⟨x, List.mem_cons_of_mem _ (List.mem_append_left _ hx), e⟩
            · rcases ihr _ p hp' with e | ⟨x, hx, e⟩
              · exact .inl e
              · exact .inr ⟨x, List.mem_cons_of_mem _ (List.mem_append_right _ hx), e⟩
      exact gen s u
    have hR : ∀ p ∈ flat s u ++ r, ∀ x ∈ names k, p.2 ≠ some x := by
      intro p hp x hx e
      rcases List.mem_append.mp hp with hp | hp
      · rcases over_s p hp with e2 | ⟨y, hy, e2⟩
        · exact hu x (mem_k x hx) (e2 ▸ e)
        · rw [e2] at e
          exact hks x hx y hy (Option.some.inj e).symm
      · exact hr p hp x (mem_k x hx) e
    obtain ⟨k1, k2⟩ := mk_flat k (flat s u ++ r) (some c) hk (fun x hx e => hck (Option.some.inj e ▸ hx)) hR
    obtain ⟨s1, s2⟩ := mk_flat s r u hs (fun x hx => hu x (mem_s x hx)) (fun p hp x hx => hr p hp x (mem_s x hx))
    have rc : mk r (some c) = .nil := mk_none fun p hp => hr p hp c mem_c
    have sc : mk (flat s u ++ r) (some c) = .nil := by
      rw [s2 (some c) huc.symm (fun x hx e => hcs (Option.some.inj e ▸ hx)), rc]
    have e0 : flat (Fo.cons c k s) u ++ r = (c, u) :: (flat k (some c) ++ (flat s u ++ r)) := by
      show (c, u) :: (flat k (some c) ++ flat s u) ++ r = _
      rw [List.cons_append, List.append_assoc]
    rw [e0]
    refine ⟨?_, fun v hvu hv => ?_⟩
    · show (if u = u then Fo.cons c (mk (flat k (some c) ++ (flat s u ++ r)) (some c)) (mk (flat k (some c) ++ (flat s u ++ r)) u) else _) = Fo.cons c k (app s (mk r u))
      rw [if_pos rfl, k1, sc, app_nil, k2 u huc (fun x hx => hu x (mem_k x hx)), s1]
    · show (if u = v then _ else mk (flat k (some c) ++ (flat s u ++ r)) v) = _
      rw [if_neg (fun e => hvu e.symm), k2 v (hv c mem_c) (fun x hx => hv x (mem_k x hx)), s2 v hvu (fun x hx => hv x (mem_s x hx))]
theorem mk_own {f : Fo} (hn : (names f).Nodup) : mk (flat f none) none = f := by
  have h := (mk_flat f [] none hn (fun _ _ e => nomatch e) (fun p hp => nomatch hp)).1
  rw [List.append_nil] at h
  rw [h]
  exact app_nil f
theorem mk_two {f g : Fo} (hn : (names (app f g)).Nodup) : mk (flat f none ++ flat g none) none = app f g := by
  rw [← flat_app]
  exact mk_own hn
/-- a forest told in its own order is validly told -/
theorem valid_app : ∀ {ps qs : List Pr} {seen : List Str}, Valid seen ps → Valid (seen ++ ps.map Prod.fst) qs → Valid seen (ps ++ qs)
  | [], qs, seen, _, h => by simpa using h
  | (c, o) :: r, qs, seen, ⟨h1, h2, h3⟩, h => by
    refine ⟨h1, h2, valid_app h3 ?_⟩
    simpa [List.append_assoc] using h
theorem valid_flat : ∀ (f : Fo) (seen : List Str) (u : Option Str), (∀ x, u = some x → x ∈ seen) → (seen ++ names f).Nodup → Valid seen (flat f u)
  | .nil, _, _, _, _ => trivial
  | .cons c k r, seen, u, hu, hn => by
    have hn' : (seen ++ c :: (names k ++ names r)).Nodup := hn
    have e1 : seen ++ c :: (names k ++ names r) = seen ++ [c] ++ names k ++ names r := by simp [List.append_assoc]
    rw [e1] at hn'
    have n1 : (seen ++ [c] ++ names k).Nodup := (List.nodup_append.mp hn').1
    have n2 : (seen ++ [c]).Nodup := (List.nodup_append.mp n1).1
    refine ⟨fun hc => ?_, hu, valid_app (valid_flat k _ (some c) (fun x e => by cases e; simp) n1) ?_⟩
    · have := (List.nodup_append.mp n2).2.2
      exact this c hc c (by simp) rfl
    · rw [flat_names]
      exact valid_flat r _ u (fun x e => List.mem_append_left _ (List.mem_append_left _ (hu x e))) hn'
theorem over_flat : ∀ (f : Fo) (u : Option Str), ∀ p ∈ flat f u, p.2 = u ∨ ∃ x ∈ names f, p.2 = some x := by
  intro f
  induction f with
  | nil => intro u p hp; cases hp
  | cons c k r ihk ihr =>
    intro u p hp
    have hp' : p ∈ (c, u) :: (flat k (some c) ++ flat r u) := hp
    rcases List.mem_cons.mp hp' with e | hp'
    · left; rw [e]
    · rcases List.mem_append.mp hp' with hp' | hp'
      · rcases ihk _ p hp' with e | ⟨x, hx, e⟩
        · exact .inr ⟨c, List.mem_cons_self, e⟩
        · exact .inr ⟨x, List.mem_cons_of_mem _ (List.mem_append_left _ hx), e⟩
      · rcases ihr _ p hp' with e | ⟨x, hx, e⟩
        · exact .inl e
        · exact .inr ⟨x, List.mem_cons_of_mem _ (List.mem_append_right _ hx), e⟩
end TM
namespace TM
open PySem L2
theorem valid_at : ∀ {ps : List Pr} {seen : List Str} {i : Nat} {c : Str} {o : Option Str}, Valid seen ps → ps[i]? = some (c, o) → c ∉ seen ++ (ps.take i).map Prod.fst ∧ ∀ x, o = some x → x ∈ seen ++ (ps.take i).map Prod.fst
  | [], _, _, _, _, _, h => by simp at h
  | (a, b) :: r, seen, 0, c, o, ⟨h1, h2, _⟩, h => by
    simp only [List.getElem?_cons_zero, Option.some.injEq, Prod.mk.injEq] at h
    obtain ⟨rfl, rfl⟩ := h
    simpa using ⟨h1, h2⟩
  | (a, b) :: r, seen, i + 1, c, o, ⟨h1, h2, h3⟩, h => by
    have h' : r[i]? = some (c, o) := by simpa using h
    have ih := valid_at h3 h'
    simpa [List.append_assoc] using ih
theorem valid_take : ∀ {ps : List Pr} {seen : List Str} (i : Nat), Valid seen ps → Valid seen (ps.take i)
  | [], _, i, _ => by simp [Valid]
  | (a, b) :: r, seen, 0, _ => trivial
  | (a, b) :: r, seen, i + 1, ⟨h1, h2, h3⟩ => ⟨h1, h2, valid_take i h3⟩
/-- nothing ahead of a suffix stands right beneath u -/
def Below (ps : List Pr) (u : Option Str) (n : Nat) : Prop := ∃ pre t, ps = pre ++ t ∧ t.length < n ∧ ∀ p ∈ pre, p.2 ≠ u
theorem below_top (ps : List Pr) {n : Nat} (h : ps.length < n) : Below ps none n := ⟨[], ps, rfl, h, fun _ h => nomatch h⟩
/-- the over of a name stands nowhere ahead of it -/
theorem ahead : ∀ {ps : List Pr} {seen : List Str} {x : Str}, Valid seen ps → x ∉ seen → x ∉ ps.map Prod.fst → ∀ p ∈ ps, p.2 ≠ some x
  | [], _, _, _, _, _, p, hp => nomatch hp
  | (a, b) :: r, seen, x, ⟨h1, h2, h3⟩, hs, hx, p, hp => by
    rw [List.map_cons, List.mem_cons, not_or] at hx
    rcases List.mem_cons.mp hp with e | hp
    · rw [e]
      intro e2
      exact hs (h2 x e2)
    · exact ahead h3 (by simp [hs, hx.1]) hx.2 p hp
/-- beneath a column there is only what stands behind it -/
theorem ahead_at {ps : List Pr} {i : Nat} {c : Str} {o : Option Str} (va : Valid [] ps) (h : ps[i]? = some (c, o)) : ∀ p ∈ ps.take (i + 1), p.2 ≠ some c := by
  have hc := (valid_at va h).1
  rw [List.nil_append] at hc
  have e : ps.take (i + 1) = ps.take i ++ [(c, o)] := by rw [List.take_add_one, h]; rfl
  intro p hp
  rw [e] at hp
  rcases List.mem_append.mp hp with hp | hp
  · exact ahead (valid_take i va) (by simp) hc p hp
  · rw [List.mem_singleton.mp hp]
    intro e2
    have h2 := (valid_at va h).2 c e2
    rw [List.nil_append] at h2
    exact hc h2
theorem below_at {ps : List Pr} {i : Nat} {c : Str} {o : Option Str} {n : Nat} (va : Valid [] ps) (h : ps[i]? = some (c, o)) (b : Below ps o (n + 1)) : Below ps (some c) n := by
  obtain ⟨pre, t, e, hl, hp⟩ := b
  have hi : i < ps.length := (List.getElem?_eq_some_iff.mp h).1
  have hpi : pre.length ≤ i := by
    refine Nat.le_of_not_lt fun hlt => ?_
    have : pre[i]? = some (c, o) := by
      rw [e, List.getElem?_append_left hlt] at h
      exact h
    exact hp _ (List.mem_of_getElem? this) rfl
  refine ⟨ps.take (i + 1), ps.drop (i + 1), (List.take_append_drop _ _).symm, ?_, ahead_at va h⟩
  rw [List.length_drop]
  have := congrArg List.length e
  rw [List.length_append] at this
  omega
theorem mk_skip : ∀ {pre t : List Pr} {u : Option Str}, (∀ p ∈ pre, p.2 ≠ u) → mk (pre ++ t) u = mk t u
  | [], _, _, _ => rfl
  | (c, o) :: r, t, u, h => by
    show (if o = u then _ else mk (r ++ t) u) = _
    rw [if_neg (h (c, o) List.mem_cons_self)]
    exact mk_skip fun p hp => h p (List.mem_cons_of_mem _ hp)
/-- the order, told as the program tells it -/
def step (ps : List Pr) (u : Option Str) (p : Pr) : List Str := if p.2 = u then p.1 :: ord ps (some p.1) else []
theorem ord_suffix {ps : List Pr} (va : Valid [] ps) (u : Option Str) : ∀ (t pre : List Pr), ps = pre ++ t → ord t u = t.flatMap (step ps u)
  | [], _, _ => rfl
  | (c, o) :: r, pre, e => by
    have hi : ps[pre.length]? = some (c, o) := by rw [e]; simp
    have h1 : ord ps (some c) = ord r (some c) := by
      have h2 := ahead_at va hi
      have e2 : ps = ps.take (pre.length + 1) ++ r := by
        have e3 : pre ++ (c, o) :: r = (pre ++ [(c, o)]) ++ r := by simp
        have e4 : ps.take (pre.length + 1) = pre ++ [(c, o)] := by
          rw [e, e3, List.take_append_of_le_length (by simp)]
          rw [List.take_of_length_le (by simp)]
        rw [e4, ← e3]
        exact e
      unfold ord
      rw [e2, mk_skip h2]
    have ih := ord_suffix va u r (pre ++ [(c, o)]) (by rw [e]; simp)
    rw [ord_cons, List.flatMap_cons, ← ih]
    unfold step
    rw [h1]
    by_cases ho : o = u
    · simp [ho]
    · simp [ho]
theorem ord_flat {ps : List Pr} (va : Valid [] ps) (u : Option Str) : ord ps u = ps.flatMap (step ps u) := ord_suffix va u ps [] rfl
theorem ord_take {ps : List Pr} {u : Option Str} {i : Nat} {q : Pr} (h : ps[i]? = some q) : (ps.take (i + 1)).flatMap (step ps u) = (ps.take i).flatMap (step ps u) ++ step ps u q := by
  rw [List.take_add_one, h, List.flatMap_append]
  show _ ++ (step ps u q ++ []) = _
  rw [List.append_nil]
/-- the names in the tree's order are the names told -/
theorem pick : ∀ {us : List (Option Str)} {o : Option Str} {A : List Str} {g : Option Str → List Str}, us.Nodup → o ∈ us → (us.flatMap fun u => if o = u then A ++ g u else g u).Perm (A ++ us.flatMap g)
  | [], _, _, _, _, h => nomatch h
  | v :: us, o, A, g, hn, h => by
    rw [List.nodup_cons] at hn
    by_cases e : o = v
    · have hn2 : o ∉ us := e ▸ hn.1
      have e2 : (us.flatMap fun u => if o = u then A ++ g u else g u) = us.flatMap g := by
        clear hn h
        induction us with
        | nil => rfl
        | cons x r ih =>
          rw [List.mem_cons, not_or] at hn2
          rw [List.flatMap_cons, List.flatMap_cons, ih hn2.2, if_neg hn2.1]
      rw [List.flatMap_cons, List.flatMap_cons, e2, if_pos e, List.append_assoc]
    · have h2 : o ∈ us := (List.mem_cons.mp h).resolve_left e
      rw [List.flatMap_cons, List.flatMap_cons, if_neg e]
      have ih := pick (A := A) (g := g) hn.2 h2
      refine ((List.Perm.append_left (g v) ih).trans ?_)
      rw [← List.append_assoc, ← List.append_assoc]
      exact List.Perm.append_right _ List.perm_append_comm
theorem ords_perm : ∀ {ps : List Pr} {seen : List Str}, seen.Nodup → Valid seen ps → ((none :: seen.map some).flatMap (ord ps)).Perm (ps.map Prod.fst)
  | [], seen, _, _ => by
    have : ∀ us : List (Option Str), us.flatMap (ord []) = [] := by
      intro us
      induction us with
      | nil => rfl
      | cons u us ih => rw [List.flatMap_cons, ih]; rfl
    rw [this]
    exact List.Perm.nil
  | (c, o) :: r, seen, hn, ⟨h1, h2, h3⟩ => by
    have hn2 : (seen ++ [c]).Nodup := by
      rw [List.nodup_append]
      refine ⟨hn, by simp, fun a ha b hb => ?_⟩
      rw [List.mem_singleton.mp hb]
      exact fun e => h1 (e ▸ ha)
    have ih := ords_perm hn2 h3
    have hu : (none :: seen.map some : List (Option Str)).Nodup := by
      rw [List.nodup_cons]
      refine ⟨by simp, ?_⟩
      rw [List.nodup_iff_pairwise_ne, List.pairwise_map]
      exact List.Pairwise.imp (fun h e => h (Option.some.inj e)) (List.nodup_iff_pairwise_ne.mp hn)
    have ho : o ∈ (none :: seen.map some : List (Option Str)) := by
      cases o with
      | none => exact List.mem_cons_self
      | some x => exact List.mem_cons_of_mem _ (List.mem_map.mpr ⟨x, h2 x rfl, rfl⟩)
    have e1 : (none :: seen.map some).flatMap (ord ((c, o) :: r)) = (none :: seen.map some).flatMap fun u => if o = u then (c :: ord r (some c)) ++ ord r u else ord r u := by
      congr 1
      funext u
      rw [ord_cons]
      split <;> rfl
    rw [e1]
    refine (pick hu ho).trans ?_
    rw [List.map_cons, List.cons_append]
    refine List.Perm.cons c ?_
    refine List.Perm.trans ?_ ih
    rw [List.map_append, ← List.cons_append, List.flatMap_append]
    have e3 : List.flatMap (ord r) (List.map some [c]) = ord r (some c) := by
      show ord r (some c) ++ [] = _
      rw [List.append_nil]
    rw [e3]
    exact List.perm_append_comm
theorem ord_perm {ps : List Pr} (va : Valid [] ps) : (ord ps none).Perm (ps.map Prod.fst) := by
  have := ords_perm List.nodup_nil va
  simpa using this
theorem ord_nodup {ps : List Pr} (va : Valid [] ps) : (ord ps none).Nodup := (List.Perm.nodup_iff (ord_perm va)).mpr (valid_nodup va)
/-- the pairs in the tree's order are pairs told -/
theorem mk_sub : ∀ {ps : List Pr} {u : Option Str} {p : Pr}, p ∈ flat (mk ps u) u → p ∈ ps
  | [], _, _, h => nomatch h
  | (c, o) :: r, u, p, h => by
    have h' : p ∈ flat (if o = u then .cons c (mk r (some c)) (mk r u) else mk r u) u := h
    by_cases e : o = u
    · rw [if_pos e] at h'
      have h'' : p ∈ (c, u) :: (flat (mk r (some c)) (some c) ++ flat (mk r u) u) := h'
      rcases List.mem_cons.mp h'' with e2 | h2
      · rw [e2, e]
        exact List.mem_cons_self
      · rcases List.mem_append.mp h2 with h2 | h2
        · exact List.mem_cons_of_mem _ (mk_sub h2)
        · exact List.mem_cons_of_mem _ (mk_sub h2)
    · rw [if_neg e] at h'
      exact List.mem_cons_of_mem _ (mk_sub h')
end TM
namespace TM
open PySem L2
theorem flat_le {α β : Type} {f : α → List β} {k : Nat} : ∀ {l : List α}, (∀ a ∈ l, (f a).length ≤ k) → (l.flatMap f).length ≤ k * l.length
  | [], _ => by simp
  | a :: r, h => by
    rw [List.flatMap_cons, List.length_append, List.length_cons, Nat.mul_succ]
    have h1 := h a List.mem_cons_self
    have h2 := flat_le (l := r) fun b hb => h b (List.mem_cons_of_mem _ hb)
    omega
theorem flat_no {ps : List Pr} {c : Str} {o : Option Str} {us : List (Option Str)} (h : o ∉ us) : us.flatMap (ord ((c, o) :: ps)) = us.flatMap (ord ps) := by
  induction us with
  | nil => rfl
  | cons u r ih =>
    rw [List.mem_cons, not_or] at h
    rw [List.flatMap_cons, List.flatMap_cons, ih h.2, ord_cons, if_neg h.1]
theorem ords_le : ∀ {ps : List Pr} {seen : List Str} {us : List (Option Str)}, us.Nodup → Valid seen ps → (∀ x ∈ ps.map Prod.fst, some x ∉ us) → (us.flatMap (ord ps)).length ≤ ps.length
  | [], _, us, _, _, _ => by
    induction us with
    | nil => exact Nat.le_refl _
    | cons u us ih =>
      rw [List.flatMap_cons, List.length_append]
      rename_i h _ _
      have := ih (List.nodup_cons.mp (by assumption)).2 (fun x hx => nomatch hx)
      rw [ord_nil]
      simpa using this
  | (c, o) :: r, seen, us, hu, ⟨h1, h2, h3⟩, hx => by
    by_cases ho : o ∈ us
    · have e1 : us.flatMap (ord ((c, o) :: r)) = us.flatMap fun u => if o = u then (c :: ord r (some c)) ++ ord r u else ord r u := by
        congr 1
        funext u
        rw [ord_cons]
        split <;> rfl
      rw [e1, (pick (A := c :: ord r (some c)) (g := ord r) hu ho).length_eq]
      have hc : some c ∉ us := hx c (by simp)
      have ih := ords_le (us := some c :: us) (List.nodup_cons.mpr ⟨hc, hu⟩) h3 (fun x hx2 h => by
        rcases List.mem_cons.mp h with e | h
        · have := valid_notin h3 (x := c) (by simp)
          exact this (Option.some.inj e ▸ hx2)
        · exact hx x (List.mem_cons_of_mem _ hx2) h)
      rw [List.flatMap_cons, List.length_append] at ih
      simp only [List.length_append, List.length_cons]
      omega
    · rw [flat_no ho]
      have ih := ords_le hu h3 (fun x hx2 => hx x (List.mem_cons_of_mem _ hx2))
      rw [List.length_cons]
      omega
theorem valid_drop : ∀ {ps : List Pr} {seen : List Str} (i : Nat), Valid seen ps → ∃ s, Valid s (ps.drop i)
  | [], seen, i, _ => ⟨seen, by simp [Valid]⟩
  | (a, b) :: r, seen, 0, h => ⟨seen, h⟩
  | (a, b) :: r, seen, i + 1, ⟨_, _, h3⟩ => valid_drop i h3
theorem ord_le {ps : List Pr} (va : Valid [] ps) (u : Option Str) : (ord ps u).length ≤ ps.length := by
  have one : ∀ (qs : List Pr) (s : List Str), Valid s qs → (∀ x ∈ qs.map Prod.fst, u ≠ some x) → (ord qs u).length ≤ qs.length := fun qs s v h => by
    have := ords_le (us := [u]) (by simp) v (fun x hx e => h x hx (List.mem_singleton.mp e).symm)
    simpa using this
  by_cases h : ∃ c, u = some c ∧ c ∈ ps.map Prod.fst
  · obtain ⟨c, rfl, hc⟩ := h
    obtain ⟨⟨c', o⟩, hm, rfl⟩ := List.mem_map.mp hc
    obtain ⟨i, hi, hie⟩ := List.getElem_of_mem hm
    have hq : ps[i]? = some (c', o) := by rw [List.getElem?_eq_getElem hi, hie]
    have e : ord ps (some c') = ord (ps.drop (i + 1)) (some c') := by
      unfold ord
      have := mk_skip (t := ps.drop (i + 1)) (ahead_at va hq)
      rw [List.take_append_drop] at this
      rw [this]
    obtain ⟨s, vs⟩ := valid_drop (i + 1) va
    have hnd := valid_nodup va
    rw [e]
    refine Nat.le_trans (one _ s vs fun x hx e2 => ?_) (by rw [List.length_drop]; omega)
    cases e2
    rw [List.map_drop] at hx
    obtain ⟨j, hj, hje⟩ := List.getElem_of_mem hx
    rw [List.getElem_drop] at hje
    have h1 : (ps.map Prod.fst)[i]'(by simpa using hi) = c' := by rw [List.getElem_map, hie]
    have := (List.getElem_inj hnd).mp (hje.trans h1.symm)
    omega
  · exact one ps [] va fun x hx e => h ⟨x, e, hx⟩
end TM

/-! Where a name stands in a forest: what is above it, what is beneath. -/
namespace TM
open PySem L2
/-- what is above a name, and the forest beneath it -/
def loc : Fo → Str → Option (List Str × Fo)
  | .nil, _ => none
  | .cons d k r, c => if d = c then some ([], k) else match loc k c with
    | some (a, q) => some (d :: a, q)
    | none => loc r c
def tops : Fo → List Str
  | .nil => []
  | .cons c _ r => c :: tops r
theorem loc_names : ∀ {f : Fo} {c : Str}, c ∈ names f → ∃ a q, loc f c = some (a, q)
  | .nil, _, h => nomatch h
  | .cons d k r, c, h => by
    unfold loc
    by_cases e : d = c
    · exact ⟨_, _, if_pos e⟩
    · rw [if_neg e]
      cases hk : loc k c with
      | some p => exact ⟨_, _, rfl⟩
      | none =>
        have h' : c ∈ d :: (names k ++ names r) := h
        rcases List.mem_cons.mp h' with e2 | h2
        · exact absurd e2.symm e
        · rcases List.mem_append.mp h2 with h2 | h2
          · obtain ⟨a, q, e3⟩ := loc_names h2
            rw [hk] at e3
            cases e3
          · exact loc_names h2
theorem loc_mem : ∀ {f : Fo} {c : Str} {a : List Str} {q : Fo}, loc f c = some (a, q) → c ∈ names f
  | .nil, _, _, _, h => by unfold loc at h; cases h
  | .cons d k r, c, a, q, h => by
    unfold loc at h
    show c ∈ d :: (names k ++ names r)
    by_cases e : d = c
    · rw [e]; exact List.mem_cons_self
    · rw [if_neg e] at h
      cases hk : loc k c with
      | some p =>
        obtain ⟨b, p⟩ := p
        exact List.mem_cons_of_mem _ (List.mem_append_left _ (loc_mem hk))
      | none =>
        rw [hk] at h
        exact List.mem_cons_of_mem _ (List.mem_append_right _ (loc_mem h))
theorem loc_none {f : Fo} {c : Str} (h : c ∉ names f) : loc f c = none := by
  cases e : loc f c with
  | none => rfl
  | some p => exact absurd (loc_mem (a := p.1) (q := p.2) e) h
theorem nd_parts {d : Str} {k r : Fo} (h : (names (.cons d k r)).Nodup) : d ∉ names k ∧ d ∉ names r ∧ (names k).Nodup ∧ (names r).Nodup ∧ ∀ x ∈ names k, x ∉ names r := by
  have h' : (d :: (names k ++ names r)).Nodup := h
  rw [List.nodup_cons, List.nodup_append] at h'
  exact ⟨fun z => h'.1 (List.mem_append_left _ z), fun z => h'.1 (List.mem_append_right _ z), h'.2.1, h'.2.2.1, fun x hx hy => h'.2.2.2 x hx x hy rfl⟩
/-- the three ways in which a name stands in a forest -/
theorem loc_cases {d : Str} {k r : Fo} {c : Str} {a : List Str} {q : Fo} (h : loc (.cons d k r) c = some (a, q)) : (d = c ∧ a = [] ∧ q = k) ∨ (d ≠ c ∧ ∃ b, a = d :: b ∧ loc k c = some (b, q)) ∨ (d ≠ c ∧ loc k c = none ∧ loc r c = some (a, q)) := by
  unfold loc at h
  by_cases e : d = c
  · rw [if_pos e] at h
    cases h
    exact .inl ⟨e, rfl, rfl⟩
  · rw [if_neg e] at h
    cases hk : loc k c with
    | some p =>
      obtain ⟨b, p⟩ := p
      rw [hk] at h
      cases h
      exact .inr (.inl ⟨e, b, rfl, rfl⟩)
    | none =>
      rw [hk] at h
      exact .inr (.inr ⟨e, rfl, h⟩)
theorem loc_here {d : Str} {k r : Fo} : loc (.cons d k r) d = some ([], k) := by unfold loc; exact if_pos rfl
theorem loc_in {d c : Str} {k r : Fo} {b : List Str} {q : Fo} (e : d ≠ c) (h : loc k c = some (b, q)) : loc (.cons d k r) c = some (d :: b, q) := by
  unfold loc
  rw [if_neg e, h]
theorem loc_by {d c : Str} {k r : Fo} (e : d ≠ c) (h : loc k c = none) : loc (.cons d k r) c = loc r c := by
  rw [loc.eq_def]
  dsimp only
  rw [if_neg e, h]
theorem loc_sub : ∀ {f : Fo} {c : Str} {a : List Str} {q : Fo}, loc f c = some (a, q) → (a ++ [c]).Sublist (names f)
  | .nil, _, _, _, h => by unfold loc at h; cases h
  | .cons d k r, c, a, q, h => by
    show (a ++ [c]).Sublist (d :: (names k ++ names r))
    rcases loc_cases h with ⟨rfl, rfl, rfl⟩ | ⟨_, b, rfl, g⟩ | ⟨_, _, g⟩
    · exact List.Sublist.cons_cons _ (List.nil_sublist _)
    · exact List.Sublist.cons_cons _ ((loc_sub g).trans (List.sublist_append_left _ _))
    · exact List.Sublist.cons _ ((loc_sub g).trans (List.sublist_append_right _ _))
/-- what is beneath a name stands behind it, in one piece -/
theorem loc_seg : ∀ {f : Fo} {c : Str} {a : List Str} {q : Fo}, loc f c = some (a, q) → ∃ A B, names f = A ++ (c :: names q) ++ B
  | .nil, _, _, _, h => by unfold loc at h; cases h
  | .cons d k r, c, a, q, h => by
    have e0 : names (.cons d k r) = d :: (names k ++ names r) := rfl
    rcases loc_cases h with ⟨rfl, rfl, rfl⟩ | ⟨_, b, rfl, g⟩ | ⟨_, _, g⟩
    · exact ⟨[], names r, rfl⟩
    · obtain ⟨A, B, e⟩ := loc_seg g
      exact ⟨d :: A, B ++ names r, by rw [e0, e]; simp⟩
    · obtain ⟨A, B, e⟩ := loc_seg g
      exact ⟨d :: (names k ++ A), B, by rw [e0, e]; simp⟩
/-- the column right above -/
def lastOr (a : List Str) (u : Option Str) : Option Str := match a.getLast? with
  | some x => some x
  | none => u
theorem lastOr_snoc (a : List Str) (x : Str) (u : Option Str) : lastOr (a ++ [x]) u = some x := by unfold lastOr; rw [List.getLast?_concat]
theorem lastOr_cons (d : Str) (a : List Str) (u : Option Str) : lastOr (d :: a) u = lastOr a (some d) := by
  cases a with
  | nil => rfl
  | cons x r =>
    unfold lastOr
    rw [List.getLast?_cons_cons]
    rw [List.getLast?_eq_some_getLast (by simp)]
theorem loc_flat : ∀ {f : Fo} {c : Str} {a : List Str} {q : Fo} (u : Option Str), loc f c = some (a, q) → (c, lastOr a u) ∈ flat f u
  | .nil, _, _, _, _, h => by unfold loc at h; cases h
  | .cons d k r, c, a, q, u, h => by
    show _ ∈ (d, u) :: (flat k (some d) ++ flat r u)
    rcases loc_cases h with ⟨rfl, rfl, rfl⟩ | ⟨_, b, rfl, g⟩ | ⟨_, _, g⟩
    · exact List.mem_cons_self
    · rw [lastOr_cons]
      exact List.mem_cons_of_mem _ (List.mem_append_left _ (loc_flat (some d) g))
    · exact List.mem_cons_of_mem _ (List.mem_append_right _ (loc_flat u g))
/-- each one above, with what is above it -/
theorem loc_up : ∀ {f : Fo} {c : Str} {a : List Str} {q : Fo}, (names f).Nodup → loc f c = some (a, q) → ∀ (a1 a2 : List Str) (x : Str), a = a1 ++ x :: a2 → ∃ q1, loc f x = some (a1, q1) ∧ c ∈ names q1
  | .nil, _, _, _, _, h => by unfold loc at h; cases h
  | .cons d k r, c, a, q, hn, h => by
    intro a1 a2 x e
    obtain ⟨n1, n2, n3, n4, n5⟩ := nd_parts hn
    rcases loc_cases h with ⟨rfl, rfl, rfl⟩ | ⟨hd, b, rfl, g⟩ | ⟨hd, hk, g⟩
    · simp at e
    · cases a1 with
      | nil =>
        have e' : d :: b = x :: a2 := e
        injection e' with e1 e2
        subst e1
        exact ⟨k, loc_here, loc_mem g⟩
      | cons y a1 =>
        have e' : d :: b = y :: (a1 ++ x :: a2) := e
        injection e' with e1 e2
        subst e1
        obtain ⟨q1, h1, h2⟩ := loc_up n3 g _ _ _ e2
        exact ⟨q1, loc_in (fun z => n1 (z ▸ loc_mem h1)) h1, h2⟩
    · obtain ⟨q1, h1, h2⟩ := loc_up n4 g _ _ _ e
      have hx := loc_mem h1
      exact ⟨q1, (loc_by (fun (z : d = x) => n2 (z ▸ hx)) (loc_none fun z => n5 _ z hx)).trans h1, h2⟩
/-- each one beneath -/
theorem loc_down : ∀ {f : Fo} {c o : Str} {a a2 : List Str} {q q2 : Fo}, (names f).Nodup → loc f c = some (a, q) → loc q o = some (a2, q2) → loc f o = some (a ++ c :: a2, q2)
  | .nil, _, _, _, _, _, _, _, h, _ => by unfold loc at h; cases h
  | .cons d k r, c, o, a, a2, q, q2, hn, h, h2 => by
    obtain ⟨n1, n2, n3, n4, n5⟩ := nd_parts hn
    rcases loc_cases h with ⟨rfl, rfl, rfl⟩ | ⟨hd, b, rfl, g⟩ | ⟨hd, hk, g⟩
    · exact loc_in (fun z => n1 (z ▸ loc_mem h2)) h2
    · have ih := loc_down n3 g h2
      exact loc_in (fun z => n1 (z ▸ loc_mem ih)) ih
    · have ih := loc_down n4 g h2
      have hx := loc_mem ih
      exact (loc_by (fun (z : d = o) => n2 (z ▸ hx)) (loc_none fun z => n5 _ z hx)).trans ih
theorem loc_top : ∀ {f : Fo} {c : Str}, (names f).Nodup → (c ∈ tops f ↔ ∃ q, loc f c = some ([], q))
  | .nil, c, _ => ⟨(fun h => nomatch h), (fun ⟨q, h⟩ => by unfold loc at h; cases h)⟩
  | .cons d k r, c, hn => by
    obtain ⟨n1, n2, n3, n4, n5⟩ := nd_parts hn
    constructor
    · intro h
      have h' : c ∈ d :: tops r := h
      rcases List.mem_cons.mp h' with e | h2
      · subst e
        exact ⟨k, loc_here⟩
      · obtain ⟨q, e⟩ := (loc_top n4).mp h2
        have hx := loc_mem e
        exact ⟨q, (loc_by (fun (z : d = c) => n2 (z ▸ hx)) (loc_none fun z => n5 _ z hx)).trans e⟩
    · rintro ⟨q, h⟩
      show c ∈ d :: tops r
      rcases loc_cases h with ⟨rfl, _, _⟩ | ⟨_, b, e, _⟩ | ⟨_, _, h⟩
      · exact List.mem_cons_self
      · cases e
      · exact List.mem_cons_of_mem _ ((loc_top n4).mpr ⟨q, h⟩)
theorem tops_sub : ∀ f : Fo, (tops f).Sublist (names f)
  | .nil => List.Sublist.slnil
  | .cons d k r => List.Sublist.cons_cons _ ((tops_sub r).trans (List.sublist_append_right _ _))
theorem filter_mem : ∀ {l s : List Str}, l.Nodup → s.Sublist l → (l.filter fun x => decide (x ∈ s)) = s
  | [], s, _, h => by
    cases h
    rfl
  | x :: l, s, hn, h => by
    rw [List.nodup_cons] at hn
    cases h with
    | cons _ h =>
      have hx : x ∉ s := fun z => hn.1 (h.subset z)
      rw [List.filter_cons_of_neg (by simpa using hx)]
      exact filter_mem hn.2 h
    | cons_cons _ h =>
      rename_i s
      rw [List.filter_cons_of_pos (by simp)]
      congr 1
      have e : (l.filter fun y => decide (y ∈ x :: s)) = l.filter fun y => decide (y ∈ s) := by
        refine List.filter_congr fun y hy => ?_
        have : y ≠ x := fun z => hn.1 (z ▸ hy)
        simp [this]
      rw [e]
      exact filter_mem hn.2 h
/-- above and beneath are one thing, told from both ends -/
theorem up_down {f : Fo} {c o : Str} {a a' : List Str} {q q' : Fo} (hn : (names f).Nodup) (hc : loc f c = some (a, q)) (ho : loc f o = some (a', q')) : c ∈ a' ↔ o ∈ names q := by
  constructor
  · intro h
    obtain ⟨a1, a2, e⟩ := List.append_of_mem h
    obtain ⟨q1, h1, h2⟩ := loc_up hn ho _ _ _ e
    rw [hc] at h1
    cases h1
    exact h2
  · intro h
    obtain ⟨a2, q2, h2⟩ := loc_names h
    have := loc_down hn hc h2
    rw [ho] at this
    cases this
    simp
/-- what is right beneath a name -/
theorem kid_iff {f : Fo} {c o : Str} {a a' : List Str} {q q' : Fo} (hn : (names f).Nodup) (hq : (names q).Nodup) (hc : loc f c = some (a, q)) (ho : loc f o = some (a', q')) : a'.getLast? = some c ↔ o ∈ tops q := by
  constructor
  · intro h
    obtain ⟨a1, e⟩ : ∃ a1, a' = a1 ++ [c] := by
      rw [List.getLast?_eq_some_iff] at h
      exact h
    obtain ⟨q1, h1, h2⟩ := loc_up hn ho a1 [] c e
    rw [hc] at h1
    cases h1
    obtain ⟨a2, q2, h3⟩ := loc_names h2
    have h4 := loc_down hn hc h3
    rw [ho] at h4
    obtain ⟨e4, _⟩ := Prod.mk.inj (Option.some.inj h4)
    rw [e] at e4
    have e5 : [c] = c :: a2 := List.append_cancel_left e4
    have e6 : a2 = [] := by
      have := (List.cons.inj e5).2
      exact this.symm
    subst e6
    exact (loc_top hq).mpr ⟨q2, h3⟩
  · intro h
    obtain ⟨q2, h3⟩ := (loc_top hq).mp h
    have h4 := loc_down hn hc h3
    rw [ho] at h4
    obtain ⟨e4, _⟩ := Prod.mk.inj (Option.some.inj h4)
    rw [e4, List.getLast?_concat]
theorem sub_nodup {f : Fo} {c : Str} {a : List Str} {q : Fo} (hn : (names f).Nodup) (h : loc f c = some (a, q)) : (c :: names q).Nodup := by
  obtain ⟨A, B, e⟩ := loc_seg h
  rw [e, List.append_assoc, List.nodup_append] at hn
  exact (List.nodup_append.mp hn.2.1).1
theorem seg_sub {f : Fo} {c : Str} {a : List Str} {q : Fo} (h : loc f c = some (a, q)) : (c :: names q).Sublist (names f) := by
  obtain ⟨A, B, e⟩ := loc_seg h
  rw [e, List.append_assoc]
  exact (List.sublist_append_left _ _).trans (List.sublist_append_right _ _)
/-- the names beneath, child by child -/
def kidsOf (f : Fo) (c : Str) : List Str := match loc f c with
  | some (_, q) => c :: names q
  | none => []
theorem kids_flat : ∀ {q : Fo}, (names q).Nodup → (tops q).flatMap (kidsOf q) = names q
  | .nil, _ => rfl
  | .cons d k r, hn => by
    obtain ⟨n1, n2, n3, n4, n5⟩ := nd_parts hn
    show (d :: tops r).flatMap (kidsOf (.cons d k r)) = d :: (names k ++ names r)
    rw [List.flatMap_cons]
    have e1 : kidsOf (.cons d k r) d = d :: names k := by unfold kidsOf; rw [loc_here]
    have e2 : (tops r).flatMap (kidsOf (.cons d k r)) = (tops r).flatMap (kidsOf r) := by
      have : ∀ l : List Str, (∀ x ∈ l, x ∈ names r) → l.flatMap (kidsOf (.cons d k r)) = l.flatMap (kidsOf r) := by
        intro l
        induction l with
        | nil => intro _; rfl
        | cons x t ih =>
          intro h
          rw [List.flatMap_cons, List.flatMap_cons, ih fun y hy => h y (List.mem_cons_of_mem _ hy)]
          congr 1
          have hx := h x List.mem_cons_self
          unfold kidsOf
          rw [loc_by (fun (z : d = x) => n2 (z ▸ hx)) (loc_none fun z => n5 _ z hx)]
      exact this _ fun x hx => (tops_sub r).subset hx
    rw [e1, e2, kids_flat n4, List.cons_append]
end TM
namespace TM
open PySem L2
theorem perm_eq {α : Type} {R : α → α → Prop} (anti : ∀ a b, R a b → R b a → a = b) : ∀ {l m : List α}, l.Perm m → l.Pairwise R → m.Pairwise R → l = m
  | [], m, h, _, _ => by
    have := h.length_eq
    cases m with
    | nil => rfl
    | cons b m => simp at this
  | a :: l, [], h, _, _ => by
    have := h.length_eq
    simp at this
  | a :: l, b :: m, h, h1, h2 => by
    have hab : a = b := by
      have ha : a ∈ b :: m := h.subset List.mem_cons_self
      have hb : b ∈ a :: l := h.symm.subset List.mem_cons_self
      rcases List.mem_cons.mp ha with e | ha
      · exact e
      · rcases List.mem_cons.mp hb with e | hb
        · exact e.symm
        · exact anti a b ((List.pairwise_cons.mp h1).1 b hb) ((List.pairwise_cons.mp h2).1 a ha)
    subst hab
    rw [perm_eq anti (List.Perm.cons_inv h) (List.pairwise_cons.mp h1).2 (List.pairwise_cons.mp h2).2]
/-- the first i trees of a forest -/
def takeF : Nat → Fo → Fo
  | 0, _ => .nil
  | _ + 1, .nil => .nil
  | i + 1, .cons c k r => .cons c k (takeF i r)
theorem takeF_all : ∀ f : Fo, takeF (tops f).length f = f
  | .nil => rfl
  | .cons c k r => by
    show Fo.cons c k (takeF (tops r).length r) = _
    rw [takeF_all r]
theorem takeF_next : ∀ {f : Fo} {i : Nat} {c : Str}, (names f).Nodup → (tops f)[i]? = some c → ∃ k, loc f c = some ([], k) ∧ takeF (i + 1) f = app (takeF i f) (.cons c k .nil)
  | .nil, i, c, _, h => by simp [tops] at h
  | .cons d k r, 0, c, _, h => by
    have e : d = c := by simpa [tops] using h
    subst e
    exact ⟨k, loc_here, rfl⟩
  | .cons d k r, i + 1, c, hn, h => by
    have h' : (tops r)[i]? = some c := by simpa [tops] using h
    obtain ⟨n1, n2, n3, n4, n5⟩ := nd_parts hn
    obtain ⟨q, h1, h2⟩ := takeF_next n4 h'
    have hx := loc_mem h1
    refine ⟨q, (loc_by (fun (z : d = c) => n2 (z ▸ hx)) (loc_none fun z => n5 _ z hx)).trans h1, ?_⟩
    show Fo.cons d k (takeF (i + 1) r) = Fo.cons d k (app (takeF i r) (.cons c q .nil))
    rw [h2]
theorem takeF_sub : ∀ (f : Fo) (i : Nat), (names (takeF i f)).Sublist (names f)
  | _, 0 => List.nil_sublist _
  | .nil, i + 1 => List.Sublist.slnil
  | .cons c k r, i + 1 => by
    show (c :: (names k ++ names (takeF i r))).Sublist (c :: (names k ++ names r))
    exact List.Sublist.cons_cons _ (List.Sublist.append_left (takeF_sub r i) _)
/-- the pairs of one tree, picked out of a forest's -/
theorem pick_tree : ∀ {f : Fo} {c : Str} {k : Fo}, (names f).Nodup → loc f c = some ([], k) → (flat f none).filter (fun q => decide (q.1 ∈ c :: names k)) = flat (.cons c k .nil) none
  | .nil, _, _, _, h => by unfold loc at h; cases h
  | .cons d k' r, c, k, hn, h => by
    obtain ⟨n1, n2, n3, n4, n5⟩ := nd_parts hn
    have keep : ∀ (l : List Pr), (∀ q ∈ l, q.1 ∈ c :: names k) → l.filter (fun q => decide (q.1 ∈ c :: names k)) = l := fun l hl => List.filter_eq_self.mpr fun q hq => decide_eq_true (hl q hq)
    have drop : ∀ (l : List Pr), (∀ q ∈ l, q.1 ∉ c :: names k) → l.filter (fun q => decide (q.1 ∈ c :: names k)) = [] := fun l hl => List.filter_eq_nil_iff.mpr fun q hq z => hl q hq (of_decide_eq_true z)
    have nm : ∀ {g : Fo} {u : Option Str} {q : Pr}, q ∈ flat g u → q.1 ∈ names g := fun {g u q} hq => by rw [← flat_names g u]; exact List.mem_map.mpr ⟨q, hq, rfl⟩
    show ((d, none) :: (flat k' (some d) ++ flat r none)).filter _ = (c, none) :: (flat k (some c) ++ [])
    rcases loc_cases h with ⟨rfl, _, rfl⟩ | ⟨_, b, e, _⟩ | ⟨hd, hk, g⟩
    · rw [List.filter_cons_of_pos (by simp), List.filter_append, keep (flat k (some d)) fun q hq => List.mem_cons_of_mem _ (nm hq), drop (flat r none) fun q hq z => ?_]
      rcases List.mem_cons.mp z with z | z
      · exact n2 (z ▸ nm hq)
      · exact n5 _ z (nm hq)
    · cases e
    · have hs := seg_sub g
      rw [List.filter_cons_of_neg (by
        intro z
        exact n2 (hs.subset (of_decide_eq_true z))), List.filter_append, drop (flat k' (some d)) fun q hq z => n5 _ (nm hq) (hs.subset z), List.nil_append]
      exact pick_tree n4 g
end TM

set_option maxHeartbeats 2000000
/-! Words of our own, over any row. -/
namespace TX
open PySem L2 PyProof.Rows
/-- the built-in names that the text leaves alone -/
structure Bn (mg : Str → Option Value) : Prop where
  len : mg "len" = none
  isi : mg "isinstance" = none
  str : mg "str" = none
  list : mg "list" = none
  tuple : mg "tuple" = none
  dict : mg "dict" = none
  int : mg "int" = none
  range : mg "range" = none
  enum : mg "enumerate" = none
  all : mg "all" = none
  any : mg "any" = none
  max : mg "max" = none
  sorted : mg "sorted" = none
/-- a def of the module, ready to be called -/
structure Fn (K : PySem.W.Frag) (mg : Str → Option Value) (x : Str) (st : Stmt) (ps : List Str) (f : Addr) (fd : FuncData) : Prop where
  F : Fun K x x st f fd
  g : mg x = some (.ref f)
  b : Binds K fd ps []
/-- all that was tracked but at W is as it was -/
def Sm (W : Addr) (H H' : Hp) : Prop := ∀ b o, b ≠ W → H b = some o → H' b = some o
theorem Sm.rfl' {W : Addr} {H : Hp} : Sm W H H := fun _ _ _ h => h
theorem Sm.trans {W : Addr} {H H1 H2 : Hp} (a : Sm W H H1) (b : Sm W H1 H2) : Sm W H H2 := fun c o n h => b c o n (a c o n h)
theorem Sm.of {W : Addr} {H H' : Hp} (s : Same H H') : Sm W H H' := fun c o _ h => s c o h
theorem Same.new {H : Hp} {p : Addr} {o : HO} (h : H p = none) : Same H (upd H p o) := fun a u e => by rw [upd_ne (ne_of_none e h)]; exact e
theorem Same.new' {H H1 : Hp} {p : Addr} {o : HO} (s : Same H H1) (h : H1 p = none) : Same H (upd H1 p o) := s.trans (Same.new h)
theorem Sm.new {W : Addr} {H H1 : Hp} {p : Addr} {o : HO} (s : Sm W H H1) (h : H1 p = none) : Sm W H (upd H1 p o) := s.trans (.of (Same.new h))
theorem Sm.put {W : Addr} {H H1 : Hp} {o : HO} (s : Sm W H H1) : Sm W H (upd H1 W o) := fun a u n e => by rw [upd_ne n]; exact s a u n e
/-- a well: three ints; n draws may follow -/
def WellAt (n : Nat) (H : Hp) (W : Addr) : Prop := ∃ a b c : Int, H W = some (.lst [.int a, .int b, .int c]) ∧ 0 ≤ b ∧ b < 2147483648 ∧ 0 ≤ c ∧ c + n ≤ 1000000000000
theorem WellAt.mono {n m : Nat} {H : Hp} {W : Addr} (h : WellAt n H W) (hm : m ≤ n) : WellAt m H W := by
  obtain ⟨a, b, c, e, h1, h2, h3, h4⟩ := h
  exact ⟨a, b, c, e, h1, h2, h3, by omega⟩
theorem WellAt.same {n : Nat} {H H' : Hp} {W : Addr} (h : WellAt n H W) (s : Same H H') : WellAt n H' W := by
  obtain ⟨a, b, c, e, r⟩ := h
  exact ⟨a, b, c, s _ _ e, r⟩
theorem WellAt.new {n : Nat} {H : Hp} {W p : Addr} {o : HO} (h : WellAt n H W) (hp : H p = none) : WellAt n (upd H p o) W := h.same (Same.new hp)
theorem WellAt.ne {n : Nat} {H : Hp} {W p : Addr} (h : WellAt n H W) (hp : H p = none) : W ≠ p := by
  obtain ⟨a, b, c, e, r⟩ := h
  exact ne_of_none e hp
/-- a turn's or a test's joint: what is known of the slots and the heap behind -/
theorem two_le : (2 : Nat) ≤ sizeLine := by decide
theorem small100 {n : Nat} (h : n ≤ 1000) : n ≤ sizeLine := Nat.le_trans h (by decide)
end TX
namespace TX
open PySem L2 PyProof.Rows
theorem Same.mut {H H1 : Hp} {p : Addr} {o : HO} (s : Same H H1) (h : H p = none) : Same H (upd H1 p o) := fun a u e => by rw [upd_ne (ne_of_none e h)]; exact s a u e
theorem Sm.mut {W : Addr} {H H1 : Hp} {p : Addr} {o : HO} (s : Sm W H H1) (h : H p = none) : Sm W H (upd H1 p o) := fun a u n e => by rw [upd_ne (ne_of_none e h)]; exact s a u n e
theorem WellAt.upd {n : Nat} {H : Hp} {W p : Addr} {o : HO} (h : WellAt n H W) (hp : W ≠ p) : WellAt n (L2.upd H p o) W := by
  obtain ⟨a, b, c, e, r⟩ := h
  exact ⟨a, b, c, by rw [upd_ne hp]; exact e, r⟩
theorem Sm.free {W : Addr} {H H' : Hp} (e : Sm W H H') {n : Nat} (hW : WellAt n H W) {l : Addr} (h : H' l = Option.none) (hW' : ∃ m, WellAt m H' W) : H l = Option.none := by
  cases q : H l with
  | none => rfl
  | some o =>
    obtain ⟨m, a, b, c, z, _⟩ := hW'
    have : l ≠ W := fun x => by rw [x, z] at h; cases h
    rw [e l o this q] at h
    cases h
/-- signs as texts -/
def S (l : List Nat) : Str := ⟨l.toArray⟩
theorem S_len (l : List Nat) : (S l).length = l.length := by show l.toArray.size = _; rw [List.size_toArray]
theorem S_cps (l : List Nat) : (S l).cps.toList = l := rfl
theorem S_inj {l m : List Nat} (h : S l = S m) : l = m := by
  have := congrArg (fun s : Str => s.cps.toList) h
  exact this
theorem S_eta (s : Str) : s = S s.cps.toList := by
  obtain ⟨⟨l⟩⟩ := s
  rfl
theorem S_app (l m : List Nat) : S l ++ S m = S (l ++ m) := by
  show (⟨l.toArray ++ m.toArray⟩ : Str) = ⟨(l ++ m).toArray⟩
  simp
theorem join_empty : ∀ ys : List (List Nat), Txt.join (S []) (ys.map S) = S ys.flatten := by
  intro ys
  show Builtin.Str.glued (S []) (ys.map S) = _
  rw [StrLaws.glued_eq_join]
  induction ys with
  | nil => rfl
  | cons y r ih =>
    cases r with
    | nil =>
      show S y = S ([y].flatten)
      simp
    | cons z r =>
      show S y ++ S [] ++ Str.join (S []) ((z :: r).map S) = _
      rw [ih, S_app, S_app]
      simp
theorem cutS_S (l : List Nat) (lo hi : Option Int) : cutS (S l) lo hi = S ((l.drop (HT.sIx l.length 0 lo)).take (HT.sIx l.length l.length hi - HT.sIx l.length 0 lo)) := by
  unfold cutS
  rw [S_len]
  rfl
/-- the letters -/
def abc : Str := Str.ofString "abcdefghijklmnopqrstuvwxyz"
theorem abc_eq : abc = S [97, 98, 99, 100, 101, 102, 103, 104, 105, 106, 107, 108, 109, 110, 111, 112, 113, 114, 115, 116, 117, 118, 119, 120, 121, 122] := by decide +kernel
theorem abc_at {j : Nat} (h : j < 26) : atI abc.cps.toList (j : Int) = some (97 + j) := by
  rw [abc_eq]
  refine atI_nat ?_
  rw [S_cps]
  revert j
  decide
theorem abc_len : abc.length ≤ sizeLine := by rw [abc_eq, S_len]; decide
/-- the k-th name of a well's -/
def nmOf (base : List Nat) (spot more bg ap k : Nat) : Str := S (base.take spot ++ (97 + (bg + ap * k) % 26) :: (base.drop spot).take more)
theorem nm_ok {base : List Nat} {spot more bg ap k : Nat} (hb : base.length = 7) (hc : ∀ c ∈ base, 97 ≤ c ∧ c ≤ 122) (hs : spot + more ≤ 7) : TM.NameOk (nmOf base spot more bg ap k) := by
  unfold TM.NameOk nmOf
  rw [S_len, S_cps]
  simp only [List.length_append, List.length_cons, List.length_take, List.length_drop, hb]
  refine ⟨by omega, by omega, fun c h => ?_⟩
  rcases List.mem_append.mp h with h | h
  · exact hc c (List.mem_of_mem_take h)
  · rcases List.mem_cons.mp h with h | h
    · have := Nat.mod_lt (bg + ap * k) (show 26 > 0 by decide)
      omega
    · exact hc c (List.mem_of_mem_drop (List.mem_of_mem_take h))
theorem nm_inj {base : List Nat} {spot more bg ap k k' : Nat} (ha : ap ∈ [1, 3, 5, 7, 9, 11, 15, 17]) (hk : k < 26) (hk' : k' < 26) (h : nmOf base spot more bg ap k = nmOf base spot more bg ap k') : k = k' := by
  have h1 := S_inj h
  have h2 := (List.append_inj h1 rfl).2
  have h3 : 97 + (bg + ap * k) % 26 = 97 + (bg + ap * k') % 26 := (List.cons.inj h2).1
  simp only [List.mem_cons, List.not_mem_nil, or_false] at ha
  rcases ha with e | e | e | e | e | e | e | e <;> subst e <;> omega
theorem nm_nodup {base : List Nat} {spot more bg ap n : Nat} (ha : ap ∈ [1, 3, 5, 7, 9, 11, 15, 17]) (hn : n ≤ 26) : ((List.range n).map (nmOf base spot more bg ap)).Nodup := by
  rw [List.nodup_iff_pairwise_ne, List.pairwise_map]
  refine List.Pairwise.imp_of_mem ?_ (List.nodup_iff_pairwise_ne.mp List.nodup_range)
  intro a b ha' hb' hne e
  exact hne (nm_inj ha (by have := List.mem_range.mp ha'; omega) (by have := List.mem_range.mp hb'; omega) e)
end TX
namespace TX
open PySem L2 PyProof.Rows
theorem sum_signs (cs : List Nat) : (List.map (fun x : Str => x.length) (cs.map fun c => S [c])).sum = cs.length := by
  induction cs with
  | nil => rfl
  | cons c r ih =>
    rw [List.map_cons, List.map_cons, List.sum_cons, ih, S_len, List.length_cons]
    simp
    omega
theorem join_signs (cs : List Nat) : Txt.join (Str.ofString "") (cs.map fun c => S [c]) = S cs := by
  have e1 : Str.ofString "" = S [] := by decide +kernel
  have e2 : cs.map (fun c => S [c]) = (cs.map fun c => [c]).map S := by rw [List.map_map]; rfl
  have e3 : (cs.map fun c => [c]).flatten = cs := by
    clear e2
    induction cs with
    | nil => rfl
    | cons c r ih => rw [List.map_cons, List.flatten_cons, ih]; rfl
  rw [e1, e2, join_empty, e3]
theorem len_empty : (Str.ofString "").length = 0 := by decide +kernel
end TX
namespace TX
open PySem L2 PyProof.Rows
theorem line100 {n : Nat} (h : n ≤ 1000) : n ≤ sizeLine := Nat.le_trans h (by decide)
theorem line100' {n : Nat} (h : n ≤ 1000) : n < sizeLine := Nat.lt_of_le_of_lt h (by decide)
theorem sapp_len (a b : Str) : (a ++ b).length = a.length + b.length := by
  show (a.cps ++ b.cps).size = _
  rw [Array.size_append]
  rfl
end TX
namespace TX
open PySem L2 PyProof.Rows TM
def optV : Option Str → V
  | none => .non
  | some x => .str x
/-- tuples of a name and what stands over it -/
def TupsAt (H : Hp) : List Addr → List Pr → Prop := Paired fun a q => H a = some (.tup [.str q.1, optV q.2])
def PairsAt (H : Hp) (p : Addr) (ps : List Pr) : Prop := ∃ as, H p = some (.lst (as.map V.ref)) ∧ TupsAt H as ps
theorem TupsAt.sm {W : Addr} {H H' : Hp} {as : List Addr} {ps : List Pr} (h : TupsAt H as ps) (s : Sm W H H') (w : ∃ n, WellAt n H W) : TupsAt H' as ps :=
  Paired.mapP h fun a q e => s a _ (by obtain ⟨n, x, y, z, e2, _⟩ := w; exact ne_of e e2 (by intro z; cases z)) e
theorem TupsAt.same {H H' : Hp} {as : List Addr} {ps : List Pr} (h : TupsAt H as ps) (s : Same H H') : TupsAt H' as ps := Paired.mapP h fun a q e => s a _ e
theorem TupsAt.put {H : Hp} {as : List Addr} {ps : List Pr} {p : Addr} {xs : List V} {o : HO} (h : TupsAt H as ps) (hp : H p = some (.lst xs)) : TupsAt (upd H p o) as ps :=
  Paired.mapP h fun a q e => by rw [upd_ne (ne_of e hp (by intro z; cases z))]; exact e
theorem TupsAt.snoc {H : Hp} {as : List Addr} {ps : List Pr} {a : Addr} {q : Pr} (h : TupsAt H as ps) (e : H a = some (.tup [.str q.1, optV q.2])) : TupsAt H (as ++ [a]) (ps ++ [q]) := by
  unfold TupsAt at *
  induction h with
  | nil => exact .cons e .nil
  | cons h _ ih => exact .cons h ih
theorem TupsAt.len {H : Hp} {as : List Addr} {ps : List Pr} (h : TupsAt H as ps) : as.length = ps.length := Paired.length h
theorem PairsAt.same {H H' : Hp} {p : Addr} {ps : List Pr} (h : PairsAt H p ps) (s : Same H H') : PairsAt H' p ps := by
  obtain ⟨as, e, t⟩ := h
  exact ⟨as, s _ _ e, t.same s⟩
theorem PairsAt.sm {W : Addr} {H H' : Hp} {p : Addr} {ps : List Pr} (h : PairsAt H p ps) (s : Sm W H H') (w : ∃ n, WellAt n H W) (hp : p ≠ W) : PairsAt H' p ps := by
  obtain ⟨as, e, t⟩ := h
  exact ⟨as, s _ _ hp e, t.sm s w⟩
end TX
namespace TX
open PySem L2 PyProof.Rows TM
def kvsOf (ps : List Pr) : List (Key × V) := ps.map fun q => ((Sum.inr q.1 : Key), optV q.2)
theorem kvs_none : ∀ {ps : List Pr} {x : Str}, x ∉ ps.map Prod.fst → valV (kvsOf ps) (Sum.inr x : Key) = none
  | [], _, _ => rfl
  | (c, o) :: r, x, h => by
    have hne : ¬ ((Sum.inr c : Key) = Sum.inr x) := fun e => by
      injection e with e
      exact h (by rw [e]; exact List.mem_cons_self)
    show valV (((Sum.inr c : Key), optV o) :: kvsOf r) _ = none
    rw [valV_neg hne]
    exact kvs_none fun hx => h (List.mem_cons_of_mem _ hx)
theorem kvs_some : ∀ {ps : List Pr} {x : Str} {o : Option Str}, (ps.map Prod.fst).Nodup → (x, o) ∈ ps → valV (kvsOf ps) (Sum.inr x : Key) = some (optV o)
  | [], _, _, _, h => nomatch h
  | (c, p) :: r, x, o, hn, h => by
    rw [List.map_cons, List.nodup_cons] at hn
    rcases List.mem_cons.mp h with e | h
    · obtain ⟨rfl, rfl⟩ := Prod.mk.inj e
      exact valV_pos (p := ((Sum.inr x : Key), optV o)) rfl
    · have hne : ¬ ((Sum.inr c : Key) = Sum.inr x) := fun e => by
        injection e with e
        exact hn.1 (by rw [e]; exact List.mem_map.mpr ⟨(x, o), h, rfl⟩)
      show valV (((Sum.inr c : Key), optV p) :: kvsOf r) _ = _
      rw [valV_neg hne]
      exact kvs_some hn.2 h
theorem optV_inj {o o' : Option Str} (h : optV o = optV o') : o = o' := by
  cases o with
  | none =>
    cases o' with
    | none => rfl
    | some y => cases h
  | some x =>
    cases o' with
    | none => cases h
    | some y =>
      have h' : V.str x = V.str y := h
      injection h' with h'
      rw [h']
/-- in a list or in a dict -/
theorem PC.or {X : Cx} {op : CmpOp} {a b : Expr} {t u : TE} (h1 : PC X op a b t) (h2 : PC X op a b u) : PC X op a b (fun σ H Q => t σ H Q ∨ u σ H Q) :=
  ⟨fun pins s σ H Q I h => h.elim (h1.run pins s σ H Q I) (h2.run pins s σ H Q I)⟩
theorem PC.ofR {X : Cx} {op : CmpOp} {a b : Expr} {ta tb : TE} {r : R2} (ho : OpR X (compareOp op) r) (ha : PE X a ta) (hb : PE X b tb) : PC X op a b (tOp r ta tb) :=
  ⟨fun pins s σ H Q I h => thn (ha.run pins s σ H _ I h) fun u s1 ⟨x, H1, I1, rx, h1⟩ => thn (hb.run pins s1 σ H1 _ I1 h1) fun v s2 ⟨y, H2, I2, ry, h2⟩ => ho pins s2 σ H2 x y u v Q I2 rx ry h2⟩
/-- the order of one sign and a letter -/
theorem lt_sign (c d : Nat) : ([c] < [d]) ↔ c < d := by
  constructor
  · intro h
    cases h with
    | rel h => exact h
    | cons h => cases h
  · intro h
    exact List.Lex.rel h
theorem str_a : Str.ofString "a" = S [97] := by decide +kernel
theorem str_z : Str.ofString "z" = S [122] := by decide +kernel
end TX
namespace TX
open PySem L2 PyProof.Rows TM
theorem TupsAt.get {H : Hp} {as : List Addr} {ps : List Pr} (h : TupsAt H as ps) : ∀ {i : Nat} {a : Addr}, as[i]? = some a → ∃ q, ps[i]? = some q ∧ H a = some (.tup [.str q.1, optV q.2]) := by
  unfold TupsAt at h
  induction h with
  | nil => intro i a e; simp at e
  | cons h _ ih =>
    intro i a e
    cases i with
    | zero =>
      simp at e
      subst e
      exact ⟨_, by simp, h⟩
    | succ i =>
      obtain ⟨q, h1, h2⟩ := ih (by simpa using e)
      exact ⟨q, by simpa using h1, h2⟩
theorem kvs_put {ps : List Pr} {c : Str} {o : Option Str} (h : c ∉ ps.map Prod.fst) : putK (kvsOf ps) (Sum.inr c : Key) (optV o) = kvsOf (ps ++ [(c, o)]) := by
  rw [putK_new _ (kvs_none h)]
  unfold kvsOf
  rw [List.map_append]
  rfl
theorem kvs_len (ps : List Pr) : (kvsOf ps).length = ps.length := by unfold kvsOf; rw [List.length_map]
theorem kvs_get {ps : List Pr} {i : Nat} : (kvsOf ps)[i]? = ps[i]?.map fun q => ((Sum.inr q.1 : Key), optV q.2) := by unfold kvsOf; rw [List.getElem?_map]
end TX
namespace TX
open PySem L2 PyProof.Rows TM
/-- a dict comprehension over a walk: Pr by the turn and the heap -/
theorem dc_walk {J : It} {n : Nat} {G : Hp → Prop} {Y : Nat → Hp → V → Hp → Prop} (wk : Walk J n G Y) {tgt : TG} {cond : TT} {key val : TE} {own : List Nat} {slots : L2.St} {Hs : Hp} {Dn : Addr} {Qf : Hp → Prop}
    (Pw : Nat → Hp → Prop) (start : Pw 0 (upd Hs Dn (.dK []))) (good : ∀ i h, i ≤ n → Pw i h → G h)
    (turn : ∀ i v h h', i < n → Pw i h → Y i h v h' → tgt v (wipe slots own) h' fun s2 h2 => wipe s2 own = wipe slots own ∧ cond s2 h2 fun b h3 =>
      (if b = true then (key s2 h3 fun ky h4 => val s2 h4 fun vl h5 => ∃ es kk, ky = kV kk ∧ h5 Dn = some (.dK es) ∧ es.length < sizeLine ∧ Pw (i + 1) (upd h5 Dn (.dK (putK es kk vl)))) else Pw (i + 1) h3))
    (fin : ∀ h, Pw n h → Qf h) :
    ∃ Z : Nat → Nat → Hp → Prop, (∃ m, Z 0 m (upd Hs Dn (.dK []))) ∧ ∀ i m h, Z i m h → (J.stop i h ∧ Qf h) ∨ (J.go i h ∧ ∃ Nx : Hp → Prop, (∀ h', Nx h' → ∃ m', m' < m ∧ Z (i + 1) m' h') ∧
      ∀ v h', J.yld i h v h' → tgt v (wipe slots own) h' fun s2 h2 => wipe s2 own = wipe slots own ∧ cond s2 h2 fun b h3 =>
        (if b = true then (key s2 h3 fun ky h4 => val s2 h4 fun vl h5 => ∃ es kk, ky = kV kk ∧ h5 Dn = some (.dK es) ∧ es.length < sizeLine ∧ Nx (upd h5 Dn (.dK (putK es kk vl)))) else Nx h3)) := by
  refine ⟨fun i m h => i ≤ n ∧ m = n - i ∧ Pw i h, ⟨n, Nat.zero_le _, by simp, start⟩, ?_⟩
  rintro i m h ⟨hi, rfl, pw⟩
  have g := good i h hi pw
  rcases Nat.lt_or_ge i n with hlt | hge
  · exact .inr ⟨wk.goes i h hlt g, Pw (i + 1), fun h' p' => ⟨n - (i + 1), by omega, hlt, rfl, p'⟩, fun v h' y => turn i v h h' hlt pw (wk.yields i h v h' hlt g y)⟩
  · obtain rfl : i = n := by omega
    exact .inl ⟨wk.stops h g, fin h pw⟩
/-- what is asked of a tree's names -/
structure FoOk (f : Fo) : Prop where
  nd : (names f).Nodup
  le : (names f).length ≤ 8
  ok : ∀ x ∈ names f, NameOk x
theorem foOk_mk {ps : List Pr} (va : Valid [] ps) (hl : ps.length ≤ 8) (hn : ∀ x ∈ ps.map Prod.fst, NameOk x) : FoOk (mk ps none) :=
  ⟨ord_nodup va, Nat.le_trans (ord_le va none) hl, fun x hx => hn x ((ord_perm va).mem_iff.mp hx)⟩
theorem kcol : ¬ (("_columns" : Str) = "_over") := by decide +kernel
/-- the attributes of a tree, in the order in which they are stored -/
def tflds (l d : Addr) : List (Str × V) := putF "_over" (.ref d) (putF "_columns" (.ref l) [])
theorem tflds_col (l d : Addr) : (tflds l d).lookup ("_columns" : Str) = some (.ref l) := by
  unfold tflds
  rw [lookup_putF, if_neg kcol, lookup_putF, if_pos rfl]
theorem tflds_over (l d : Addr) : (tflds l d).lookup ("_over" : Str) = some (.ref d) := by
  unfold tflds
  rw [lookup_putF, if_pos rfl]
theorem tflds_no (l d : Addr) {m : Str} (h1 : ¬ m = "_over") (h2 : ¬ m = "_columns") : (tflds l d).lookup m = none := by
  unfold tflds
  rw [lookup_putF, if_neg h1, lookup_putF, if_neg h2]
  rfl
theorem tflds_len (l d : Addr) : (tflds l d).length < 1000 := by
  unfold tflds
  show (if ("_columns" : Str) = "_over" then [(("_columns" : Str), V.ref d)] else (("_columns" : Str), V.ref l) :: putF "_over" (V.ref d) []).length < 1000
  rw [if_neg kcol]
  show 2 < 1000
  decide
/-- a tree stands at p -/
def TreeAt (C : Addr) (H : Hp) (p : Addr) (f : Fo) : Prop := ∃ dx l d, H p = some (.ins C dx (tflds l d)) ∧ H l = some (.lst ((names f).map V.str)) ∧ H d = some (.dK (kvsOf (flat f none)))
theorem TreeAt.same {C : Addr} {H H' : Hp} {p : Addr} {f : Fo} (t : TreeAt C H p f) (s : Same H H') : TreeAt C H' p f := by
  obtain ⟨dx, l, d, h1, h2, h3⟩ := t
  exact ⟨dx, l, d, s _ _ h1, s _ _ h2, s _ _ h3⟩
/-- an own class that isinstance may be asked of -/
structure Ic (K : PySem.W.Frag) (C : Addr) : Prop where
  ha : PySem.W.findIn K (.ref C) "__class__" = some (some (.builtin "object.__class__"))
  hn : PySem.W.specialIn K (.builtin "object.__class__") "__get__" = some (some (.builtin "getset_descriptor.__get__"))
  htk : PySem.W.takesIn K (.builtin "object.__class__") = some true
  hm : PySem.W.mroIn K C (.type "object") = some true
  me : PySem.W.kitOne K (.ref C) (.ref C) = some true
/-- what the top says of the class -/
structure Tc (K : PySem.W.Frag) (mg : Str → Option Value) (C : Addr) : Prop where
  cl : Cls K C
  nC : NoAttr K C "_columns"
  nO : NoAttr K C "_over"
  g : mg "Tree" = some (.ref C)
  ins : Ic K C
end TX
namespace TX
open PySem L2 PyProof.Rows TM
theorem strOk_name {x : Str} (h : NameOk x) : PyData.strOk x = true := by
  unfold PyData.strOk
  rw [Array.all_eq_true']
  intro c hc
  have := h.2.2 c (Array.mem_toList_iff.mpr hc)
  exact decide_eq_true (by omega)
def dS (ns : List Str) : PyData := .list (ns.map .str)
def dO : Option Str → PyData
  | none => .none
  | some x => .str x
def dP (ps : List Pr) : PyData := .list (ps.map fun q => .tuple [.str q.1, dO q.2])
theorem canS : ∀ {ns : List Str}, (∀ x ∈ ns, NameOk x) → PyData.canLayAll0 (ns.map .str) = true
  | [], _ => rfl
  | x :: r, h => by
    rw [List.map_cons]
    unfold PyData.canLayAll0
    rw [show PyData.canLay0 (.str x) = true from strOk_name (h x List.mem_cons_self), canS fun y hy => h y (List.mem_cons_of_mem _ hy)]
    rfl
theorem depS : ∀ (ns : List Str), PyData.depthAll (ns.map .str) = 0
  | [] => rfl
  | x :: r => by
    rw [List.map_cons]
    unfold PyData.depthAll
    rw [depS r]
    rfl
theorem shS {ns : List Str} (h : ∀ x ∈ ns, NameOk x) : SeqAt.shaped (dS ns) = true := by
  unfold SeqAt.shaped dS
  have h1 : PyData.canLay0 (.list (ns.map .str)) = true := by unfold PyData.canLay0; exact canS h
  have h2 : PyData.depth (.list (ns.map .str)) ≤ 64 := by unfold PyData.depth; rw [depS]; decide
  rw [h1, decide_eq_true h2]
  rfl
theorem eqvS : ∀ (ns ms : List Str), PyData.eqvAll (ns.map .str) (ms.map .str) = decide (ns = ms)
  | [], [] => rfl
  | [], _ :: _ => rfl
  | _ :: _, [] => rfl
  | x :: r, y :: t => by
    rw [List.map_cons, List.map_cons]
    unfold PyData.eqvAll PyData.eqv
    rw [eqvS r t]
    by_cases h : x = y <;> by_cases h2 : r = t <;> simp [h, h2]
theorem DpAll_strs {K : PySem.W.Frag} {H : Hp} : ∀ (ns : List Str), DpAll K H (ns.map V.str) (ns.map .str)
  | [] => .nil
  | x :: r => .cons (.str x) (DpAll_strs r)
theorem DpS {K : PySem.W.Frag} {H : Hp} {a : Addr} {ns : List Str} (h : H a = some (.lst (ns.map V.str))) : Dp K H (.ref a) (dS ns) := .lst (.of h) (DpAll_strs ns)
end TX
namespace TX
open PySem L2 PyProof.Rows TM
/-- all names of a list of pairs are names -/
def PsOk (ps : List Pr) : Prop := ∀ q ∈ ps, NameOk q.1 ∧ ∀ x, q.2 = some x → NameOk x
theorem PsOk.flat {f : Fo} (h : FoOk f) : PsOk (flat f none) := fun q hq => by
  refine ⟨h.ok _ ?_, fun x hx => ?_⟩
  · rw [← flat_names f none]
    exact List.mem_map.mpr ⟨q, hq, rfl⟩
  · rcases over_flat f none q hq with e | ⟨y, hy, e⟩
    · rw [e] at hx; cases hx
    · rw [e] at hx
      cases hx
      exact h.ok _ hy
theorem can_pair {q : Pr} (h : NameOk q.1 ∧ ∀ x, q.2 = some x → NameOk x) : PyData.canLay0 (.tuple [.str q.1, dO q.2]) = true := by
  obtain ⟨c, o⟩ := q
  have h1 : PyData.canLay0 (.str c) = true := strOk_name h.1
  have h2 : PyData.canLay0 (dO o) = true := by
    cases o with
    | none => rfl
    | some x => exact strOk_name (h.2 x rfl)
  unfold PyData.canLay0 PyData.canLayAll0 PyData.canLayAll0 PyData.canLayAll0
  rw [h1, h2]
  rfl
theorem canP : ∀ {ps : List Pr}, PsOk ps → PyData.canLayAll0 (ps.map fun q => .tuple [.str q.1, dO q.2]) = true
  | [], _ => rfl
  | x :: r, h => by
    rw [List.map_cons]
    unfold PyData.canLayAll0
    rw [can_pair (h x List.mem_cons_self), canP fun y hy => h y (List.mem_cons_of_mem _ hy)]
    rfl
theorem dep_dO (o : Option Str) : PyData.depth (dO o) = 0 := by cases o <;> rfl
theorem depP : ∀ (ps : List Pr), PyData.depthAll (ps.map fun q => .tuple [.str q.1, dO q.2]) ≤ 1
  | [] => Nat.zero_le _
  | x :: r => by
    rw [List.map_cons]
    unfold PyData.depthAll
    have h1 : PyData.depth (.tuple [.str x.1, dO x.2]) = 1 := by
      unfold PyData.depth PyData.depthAll PyData.depthAll PyData.depthAll
      rw [dep_dO]
      rfl
    have := depP r
    rw [h1]
    omega
theorem shP {ps : List Pr} (h : PsOk ps) : SeqAt.shaped (dP ps) = true := by
  unfold SeqAt.shaped dP
  have h1 : PyData.canLay0 (.list (ps.map fun q => .tuple [.str q.1, dO q.2])) = true := by unfold PyData.canLay0; exact canP h
  have h2 : PyData.depth (.list (ps.map fun q => .tuple [.str q.1, dO q.2])) ≤ 64 := by
    unfold PyData.depth
    have := depP ps
    omega
  rw [h1, decide_eq_true h2]
  rfl
theorem eqv_dO : ∀ (o p : Option Str), PyData.eqv (dO o) (dO p) = decide (o = p)
  | none, none => rfl
  | none, some _ => rfl
  | some _, none => rfl
  | some x, some y => by
    show PyData.eqv (.str x) (.str y) = _
    unfold PyData.eqv
    by_cases h : x = y <;> simp [h]
theorem eqv_pair (q r : Pr) : PyData.eqv (.tuple [.str q.1, dO q.2]) (.tuple [.str r.1, dO r.2]) = decide (q = r) := by
  obtain ⟨a, b⟩ := q
  obtain ⟨c, d⟩ := r
  unfold PyData.eqv PyData.eqvAll PyData.eqvAll PyData.eqvAll
  rw [eqv_dO]
  have : PyData.eqv (.str a) (.str c) = decide (a = c) := by unfold PyData.eqv; by_cases h : a = c <;> simp [h]
  show (PyData.eqv (.str a) (.str c) && (decide (b = d) && true)) = _
  rw [this]
  by_cases h : a = c <;> by_cases h2 : b = d <;> simp [h, h2]
theorem eqvP : ∀ (ps qs : List Pr), PyData.eqvAll (ps.map fun q => .tuple [.str q.1, dO q.2]) (qs.map fun q => .tuple [.str q.1, dO q.2]) = decide (ps = qs)
  | [], [] => rfl
  | [], _ :: _ => rfl
  | _ :: _, [] => rfl
  | x :: r, y :: t => by
    rw [List.map_cons, List.map_cons]
    unfold PyData.eqvAll
    rw [eqvP r t, eqv_pair]
    by_cases h : x = y <;> by_cases h2 : r = t <;> simp [h, h2]
theorem Dp_optV {K : PySem.W.Frag} {H : Hp} : ∀ (o : Option Str), Dp K H (optV o) (dO o)
  | none => .non
  | some x => .str x
theorem DpAll_tups {K : PySem.W.Frag} {H : Hp} {as : List Addr} {ps : List Pr} (h : TupsAt H as ps) : DpAll K H (as.map V.ref) (ps.map fun q => .tuple [.str q.1, dO q.2]) := by
  unfold TupsAt at h
  induction h with
  | nil => exact .nil
  | cons h _ ih => exact .cons (.tup (.of h) (.cons (.str _) (.cons (Dp_optV _) .nil))) ih
theorem PairsAt.dp {K : PySem.W.Frag} {H : Hp} {a : Addr} {ps : List Pr} (h : PairsAt H a ps) : Dp K H (.ref a) (dP ps) := by
  obtain ⟨as, e, t⟩ := h
  exact .lst (.of e) (DpAll_tups t)
theorem eqv_dS (ns ms : List Str) : PyData.eqv (dS ns) (dS ms) = decide (ns = ms) := by
  unfold dS PyData.eqv
  exact eqvS ns ms
theorem eqv_dP (ps qs : List Pr) : PyData.eqv (dP ps) (dP qs) = decide (ps = qs) := by
  unfold dP PyData.eqv
  exact eqvP ps qs
end TX
namespace TX
open PySem L2 PyProof.Rows TM
/-- a method of a class, ready to be called -/
structure Mt (K : PySem.W.Frag) (C : Addr) (m qual : Str) (st : Stmt) (ps : List Str) (f : Addr) (fd : FuncData) : Prop where
  F : Fun K m qual st f fd
  me : Meth K C m f
  b : Binds K fd ps []
theorem TupsAt.app {H : Hp} {as bs : List Addr} {ps qs : List Pr} (h : TupsAt H as ps) (k : TupsAt H bs qs) : TupsAt H (as ++ bs) (ps ++ qs) := by
  unfold TupsAt at *
  induction h with
  | nil => exact k
  | cons h _ ih => exact .cons h ih
/-- an error class of our own that is raised with a text -/
structure Ec (K : PySem.W.Frag) (mg : Str → Option Value) (x : Str) (C : Addr) : Prop where
  ex : PySem.W.excIn K C [.type "ValueError", .type "Exception", .type "BaseException", .type "object"] "ValueError.__new__" = true
  g : mg x = some (.ref C)
  k : PySem.W.keepIn K (.ref C) = true
  b : PySem.W.subIn K (.ref C) (.type "BaseException") = some true
  t : PySem.W.typeIn K (.ref C) = some (.type "type")
theorem FoOk.app {f g : Fo} (hf : FoOk f) (hg : FoOk g) (hd : ∀ x ∈ names f, x ∉ names g) (hl : (names f).length + (names g).length ≤ 8) : FoOk (app f g) := by
  refine ⟨?_, ?_, fun x hx => ?_⟩
  · rw [names_app, List.nodup_append]
    exact ⟨hf.nd, hg.nd, fun a ha b hb e => hd a ha (e ▸ hb)⟩
  · rw [names_app, List.length_append]
    exact hl
  · rw [names_app] at hx
    rcases List.mem_append.mp hx with hx | hx
    · exact hf.ok x hx
    · exact hg.ok x hx
theorem inV_str (x : Str) (ns : List Str) : inV (.str x) (ns.map V.str) = decide (x ∈ ns) := by
  unfold inV
  induction ns with
  | nil => rfl
  | cons y r ih =>
    rw [List.map_cons, List.any_cons, ih]
    show ((y == x) || decide (x ∈ r)) = _
    by_cases h : x = y
    · simp [h]
    · have h' : ¬ y = x := fun e => h e.symm
      simp [h, h']
theorem flat_strs (ns : List Str) : (ns.map V.str).all flatV = true := by
  rw [List.all_map, List.all_eq_true]
  intro x _
  rfl
end TX
namespace TX
open PySem L2 PyProof.Rows TM
theorem merge_kvs : ∀ (qs pre : List Pr), ((pre ++ qs).map Prod.fst).Nodup → mergeK (kvsOf pre) (kvsOf qs) = kvsOf (pre ++ qs)
  | [], pre, _ => by rw [List.append_nil]; rfl
  | (c, o) :: r, pre, h => by
    have hc : c ∉ pre.map Prod.fst := by
      rw [List.map_append, List.nodup_append] at h
      intro hm
      exact h.2.2 c hm c (by simp) rfl
    show mergeK (putK (kvsOf pre) (Sum.inr c : Key) (optV o)) (kvsOf r) = _
    rw [kvs_put hc, merge_kvs r (pre ++ [(c, o)]) (by simpa using h)]
    simp
theorem merge_nil {ps : List Pr} (h : (ps.map Prod.fst).Nodup) : mergeK [] (kvsOf ps) = kvsOf ps := by
  have := merge_kvs ps [] (by simpa using h)
  rw [List.nil_append] at this
  exact this
theorem kvs_isSome {ps : List Pr} (h : (ps.map Prod.fst).Nodup) (x : Str) : (valV (kvsOf ps) (Sum.inr x : Key)).isSome = decide (x ∈ ps.map Prod.fst) := by
  by_cases hx : x ∈ ps.map Prod.fst
  · obtain ⟨⟨x', o⟩, hm, rfl⟩ := List.mem_map.mp hx
    rw [kvs_some h hm, decide_eq_true hx]
    rfl
  · rw [kvs_none hx, decide_eq_false hx]
    rfl
theorem cut_strs (ns : List Str) (lo hi : Option Int) : ∃ ms : List Str, cutV (ns.map V.str) lo hi = ms.map V.str ∧ ms.Sublist ns ∧ ms.length ≤ HT.sIx ns.length ns.length hi - HT.sIx ns.length 0 lo := by
  refine ⟨(ns.drop (HT.sIx ns.length 0 lo)).take (HT.sIx ns.length ns.length hi - HT.sIx ns.length 0 lo), ?_, ?_, ?_⟩
  · unfold cutV
    rw [List.length_map, List.map_take, List.map_drop]
  · exact (List.take_sublist _ _).trans (List.drop_sublist _ _)
  · rw [List.length_take]
    exact Nat.min_le_left _ _
/-- dict(pairs) -/
def rDP (K : PySem.W.Frag) : List V → Hp → VK → Prop := fun vs H Q => ∃ (L : Addr) (as : List Addr) (es : List (Key × V)), vs = [.ref L] ∧ SqL K H L (as.map V.ref) ∧
  Paired (fun a e => SqT K H a [kV e.1, e.2]) as es ∧ ∀ d, H d = none → Q (.ref d) (upd H d (.dK (mergeK [] es)))
theorem call_dP {X : Cx} (hc : X.calm = true) : CallR X (.type "dict") (rDP X.K) := call_dictP hc
theorem pairs_es {K : PySem.W.Frag} {H : Hp} {as : List Addr} {ps : List Pr} (h : TupsAt H as ps) : Paired (fun a (e : Key × V) => SqT K H a [kV e.1, e.2]) as (kvsOf ps) := by
  unfold TupsAt at h
  induction h with
  | nil => exact .nil
  | cons h _ ih => exact .cons (.of h) ih
theorem PairsAt.nil {H : Hp} {p : Addr} (h : H p = some (.lst [])) : PairsAt H p [] := ⟨[], h, .nil⟩
theorem ord_len {ps : List Pr} (va : Valid [] ps) : (names (mk ps none)).length = ps.length := by
  have := (ord_perm va).length_eq
  rw [List.length_map] at this
  exact this
theorem foOk_nil : FoOk .nil := ⟨List.nodup_nil, Nat.zero_le _, fun _ h => nomatch h⟩
theorem PairsAt.app {H H' : Hp} {a b p : Addr} {ps qs : List Pr} {as bs : List Addr} (h : TupsAt H as ps) (k : TupsAt H bs qs) (s : Same H H') (e : H' p = some (.lst (as.map V.ref ++ bs.map V.ref))) : PairsAt H' p (ps ++ qs) :=
  ⟨as ++ bs, by rw [e, List.map_append], (h.app k).same s⟩
theorem PsOk.app {ps qs : List Pr} (h : PsOk ps) (k : PsOk qs) : PsOk (ps ++ qs) := fun q hq => (List.mem_append.mp hq).elim (h q) (k q)
/-- [pairs, pairs] -/
theorem sh2 {ps qs : List Pr} (h : PsOk ps) (k : PsOk qs) : SeqAt.shaped (.list [dP ps, dP qs]) = true := by
  unfold SeqAt.shaped
  have a1 : PyData.canLay0 (dP ps) = true := (Bool.and_eq_true_iff.mp (shP h)).1
  have a2 : PyData.canLay0 (dP qs) = true := (Bool.and_eq_true_iff.mp (shP k)).1
  have b1 : PyData.depth (dP ps) ≤ 2 := by unfold dP PyData.depth; have := depP ps; omega
  have b2 : PyData.depth (dP qs) ≤ 2 := by unfold dP PyData.depth; have := depP qs; omega
  have h1 : PyData.canLay0 (.list [dP ps, dP qs]) = true := by
    unfold PyData.canLay0 PyData.canLayAll0 PyData.canLayAll0 PyData.canLayAll0
    rw [a1, a2]
    rfl
  have h2 : PyData.depth (.list [dP ps, dP qs]) ≤ 64 := by
    unfold PyData.depth PyData.depthAll PyData.depthAll PyData.depthAll
    omega
  rw [h1, decide_eq_true h2]
  rfl
theorem eqv_refl2 (ps qs : List Pr) : PyData.eqv (.list [dP ps, dP qs]) (.list [dP ps, dP qs]) = true := by
  unfold PyData.eqv PyData.eqvAll PyData.eqvAll PyData.eqvAll
  rw [eqv_dP, eqv_dP, decide_eq_true rfl, decide_eq_true rfl]
  rfl
theorem Dp2 {K : PySem.W.Frag} {H : Hp} {p a b : Addr} {ps qs : List Pr} (h : H p = some (.lst [.ref a, .ref b])) (ha : PairsAt H a ps) (hb : PairsAt H b qs) : Dp K H (.ref p) (.list [dP ps, dP qs]) :=
  .lst (.of h) (.cons ha.dp (.cons hb.dp .nil))
end TX
namespace TX
open PySem L2 PyProof.Rows TM
theorem optV_ne_none {o : Option Str} : decide (optV o = .non) = o.isNone := by
  cases o with
  | none => rfl
  | some x => rfl
/-- the over of a name, found in the dict -/
theorem over_get {f : Fo} (ok : FoOk f) {c : Str} {a : List Str} {q : Fo} (h : loc f c = some (a, q)) : valV (kvsOf (flat f none)) (Sum.inr c : Key) = some (optV (lastOr a none)) :=
  kvs_some (by rw [flat_names]; exact ok.nd) (loc_flat none h)
end TX
namespace TX
open PySem L2 PyProof.Rows TM
/-- an expression that is v whatever is asked behind, and only makes objects -/
def Ee (te : TE) (s : L2.St) (H : Hp) (v : V) : Prop := ∀ h, Same H h → ∀ Q : VK, (∀ h', Same h h' → Q v h') → te s h Q
def Et (tt : TT) (s : L2.St) (H : Hp) (b : Bool) : Prop := ∀ h, Same H h → ∀ Q : Bool → Hp → Prop, (∀ h', Same h h' → Q b h') → tt s h Q
theorem et_yes {s : L2.St} {H : Hp} : Et tYes s H true := fun h _ Q q => q h (fun _ _ e => e)
theorem ee_var {i : Nat} {s : L2.St} {H : Hp} {v : V} (e : s[i]? = some (some v)) : Ee (tVar i) s H v := fun h _ Q q => ⟨v, e, q h (fun _ _ e => e)⟩
/-- [e for x in l if t], the items of the list l -/
theorem lc_all {K : PySem.W.Frag} {l : Addr} {i : Nat} {tt : TT} {te : TE} {s : L2.St} {H : Hp} {xs : List V} {g : V → V} {p : V → Bool} {Q : VK} {ti : TE} (hi : ti s H fun v h => v = .ref l ∧ Same H h) (mono : ∀ Q1 Q2 : VK, (∀ v h, Q1 v h → Q2 v h) → ti s H Q1 → ti s H Q2)
    (hl : SqL K H l xs) (hn : xs.length ≤ 1000) (ht : ∀ x ∈ xs, ∀ h, Same H h → Et tt ((wipe s [i]).set i (some x)) h (p x)) (he : ∀ x ∈ xs, p x = true → ∀ h, Same H h → Ee te ((wipe s [i]).set i (some x)) h (g x))
    (q : ∀ L h, Same H h → H L = none → h L = some (.lst ((xs.filter p).map g)) → Q (.ref L) h) : tLc (iList K ti) (gName i) tt te [i] s H Q := by
  refine mono _ _ (fun v H1 => ?_) hi
  rintro ⟨rfl, s1⟩
  refine ⟨l, rfl, ⟨xs, s1.seq hl⟩, fun D nD => ?_⟩
  refine lc_it (walk_list (xs := xs)) (fun j h => h D = some (.lst (((xs.take j).filter p).map g)) ∧ Same H1 h) ⟨upd_same, Same.new nD⟩ (fun j h _ ⟨_, s2⟩ => s2.seq (s1.seq hl)) ?_ ?_
  · rintro j x h h' hj ⟨e, s2⟩ ⟨rfl, hx⟩
    have hm : x ∈ xs := List.mem_of_getElem? hx
    have htk : xs.take (j + 1) = xs.take j ++ [x] := by rw [List.take_add_one, hx]; rfl
    have s3 := s1.trans s2
    refine ⟨?_, ?_⟩
    · show (((wipe s [i]).set i (some x)).set i none) = wipe s [i]
      show (((s.set i none).set i (some x)).set i none) = s.set i none
      rw [List.set_set, List.set_set]
    refine ht x hm h' s3 h' (fun _ _ e => e) _ fun h4 s4 => ?_
    have e4 := s4 _ _ e
    cases hp : p x with
    | true =>
      refine he x hm hp h4 (s3.trans s4) h4 (fun _ _ e => e) _ fun h5 s5 => ?_
      refine ⟨_, s5 _ _ e4, ?_, ?_, Same.mut ((s2.trans s4).trans s5) nD⟩
      · rw [List.length_map]
        have h1 := List.length_filter_le p (xs.take j)
        rw [List.length_take] at h1
        exact line100' (by omega)
      · rw [upd_same, htk, List.filter_append, List.filter_cons_of_pos hp, List.map_append]
        rfl
    | false =>
      refine ⟨?_, s2.trans s4⟩
      rw [htk, List.filter_append, List.filter_cons_of_neg (by rw [hp]; exact Bool.false_ne_true), List.filter_nil, List.append_nil]
      exact e4
  · rintro h ⟨e, s2⟩
    rw [List.take_length] at e
    exact q D h (s1.trans s2) (s1.free nD) e
theorem mono_var {i : Nat} {s : L2.St} {H : Hp} : ∀ Q1 Q2 : VK, (∀ v h, Q1 v h → Q2 v h) → tVar i s H Q1 → tVar i s H Q2 := fun Q1 Q2 k ⟨v, e, h⟩ => ⟨v, e, k v H h⟩
theorem mono_fld {K : PySem.W.Frag} {i : Nat} {f : Str} {s : L2.St} {H : Hp} : ∀ Q1 Q2 : VK, (∀ v h, Q1 v h → Q2 v h) → tFld K (tVar i) f s H Q1 → tFld K (tVar i) f s H Q2 :=
  fun Q1 Q2 k ⟨v, e, a, C, dx, fs, w, h1, h2, h3, h4, h5, h⟩ => ⟨v, e, a, C, dx, fs, w, h1, h2, h3, h4, h5, k w H h⟩
theorem filter_strs (ns : List Str) (p : Str → Bool) (r : V → Bool) (h : ∀ n ∈ ns, r (.str n) = p n) : (ns.map V.str).filter r = (ns.filter p).map V.str := by
  induction ns with
  | nil => rfl
  | cons n t ih =>
    rw [List.map_cons, List.filter_cons, List.filter_cons, h n List.mem_cons_self, ih fun m hm => h m (List.mem_cons_of_mem _ hm)]
    cases p n <;> rfl
end TX
namespace TX
open PySem L2 PyProof.Rows TM
/-- an if whose test is false, whatever was made -/
theorem sq_no {tc : TT} {t B : TS} {D : Ends} {s : L2.St} {H : Hp} (h : Et tc s H false) (k : ∀ h', Same H h' → B D s h') : tSeq (tIfS tc t tNext) B D s H := h H (fun _ _ e => e) _ k
theorem et_or {t u : TT} {s : L2.St} {H : Hp} (h : Et t s H false) (k : ∀ h', Same H h' → Et u s h' false) : Et (tOr t u) s H false := fun h1 s1 Q q =>
  h h1 s1 _ fun h2 s2 => k h2 (s1.trans s2) h2 (fun _ _ e => e) Q fun h3 s3 => q h3 (s2.trans s3)
theorem kids_take {q : Fo} {ks : List Str} {i : Nat} {c : Str} (h : ks[i]? = some c) : (ks.take (i + 1)).flatMap (kidsOf q) = (ks.take i).flatMap (kidsOf q) ++ kidsOf q c := by
  rw [List.take_add_one, h, List.flatMap_append]
  show _ ++ (kidsOf q c ++ []) = _
  rw [List.append_nil]
theorem bool_data (bs : List Bool) : SeqAt.shaped (.list (bs.map PyData.bool)) = true := by
  have h1 : PyData.canLayAll0 (bs.map PyData.bool) = true := by
    induction bs with
    | nil => rfl
    | cons b r ih => rw [List.map_cons]; unfold PyData.canLayAll0; rw [ih]; rfl
  have h2 : PyData.depthAll (bs.map PyData.bool) = 0 := by
    clear h1
    induction bs with
    | nil => rfl
    | cons b r ih => rw [List.map_cons]; unfold PyData.depthAll; rw [ih]; rfl
  unfold SeqAt.shaped
  have a1 : PyData.canLay0 (.list (bs.map PyData.bool)) = true := by unfold PyData.canLay0; exact h1
  have a2 : PyData.depth (.list (bs.map PyData.bool)) ≤ 64 := by unfold PyData.depth; rw [h2]; decide
  rw [a1, decide_eq_true a2]
  rfl
theorem bool_refl (bs : List Bool) : PyData.eqv (.list (bs.map PyData.bool)) (.list (bs.map PyData.bool)) = true := by
  unfold PyData.eqv
  induction bs with
  | nil => rfl
  | cons b r ih =>
    rw [List.map_cons]
    unfold PyData.eqvAll
    rw [ih]
    show (b == b && true) = true
    simp
theorem Dp_bools {K : PySem.W.Frag} {H : Hp} {a : Addr} {bs : List Bool} (h : H a = some (.lst (bs.map V.bl))) : Dp K H (.ref a) (.list (bs.map PyData.bool)) := by
  refine .lst (.of h) ?_
  clear h
  induction bs with
  | nil => exact .nil
  | cons b r ih => exact .cons (.bl b) ih
theorem filter_yes {xs : List V} : xs.filter (fun _ => true) = xs := by
  induction xs with
  | nil => rfl
  | cons x r ih => rw [List.filter_cons_of_pos rfl, ih]
theorem dec_strs (n : Str) (ks : List Str) : decide (V.str n ∈ ks.map V.str) = decide (n ∈ ks) := by
  by_cases hm : n ∈ ks
  · rw [decide_eq_true hm, decide_eq_true (List.mem_map.mpr ⟨n, hm, rfl⟩)]
  · rw [decide_eq_false hm, decide_eq_false]
    intro z
    obtain ⟨m, hm2, e2⟩ := List.mem_map.mp z
    exact hm (V.str.inj e2 ▸ hm2)
theorem same_rfl {H : Hp} : Same H H := fun _ _ e => e
end TX
namespace TX
open PySem L2 PyProof.Rows TM
theorem lt_anti : ∀ {a b : List Nat}, PySem.Spec.ltCps a b = false → PySem.Spec.ltCps b a = false → a = b
  | [], [], _, _ => rfl
  | [], _ :: _, h, _ => by cases h
  | _ :: _, [], _, h => by cases h
  | x :: a, y :: b, h1, h2 => by
    have g1 : (decide (x < y) || (x == y && PySem.Spec.ltCps a b)) = false := h1
    have g2 : (decide (y < x) || (y == x && PySem.Spec.ltCps b a)) = false := h2
    have e : x = y := by
      have a1 : ¬ x < y := fun z => by rw [decide_eq_true z] at g1; cases g1
      have a2 : ¬ y < x := fun z => by rw [decide_eq_true z] at g2; cases g2
      omega
    subst e
    simp at g1 g2
    rw [lt_anti g1 g2]
theorem lt_trans' : ∀ {a b c : List Nat}, PySem.Spec.ltCps b a = false → PySem.Spec.ltCps c b = false → PySem.Spec.ltCps c a = false
  | [], _, [], _, _ => rfl
  | [], [], _ :: _, _, h => rfl
  | [], _ :: _, _ :: _, _, _ => rfl
  | _ :: _, [], _, h, _ => by cases h
  | x :: a, y :: b, [], _, h => by cases h
  | x :: a, y :: b, z :: c, h1, h2 => by
    have g1 : (decide (y < x) || (y == x && PySem.Spec.ltCps b a)) = false := h1
    have g2 : (decide (z < y) || (z == y && PySem.Spec.ltCps c b)) = false := h2
    show (decide (z < x) || (z == x && PySem.Spec.ltCps c a)) = false
    have a1 : ¬ y < x := fun w => by rw [decide_eq_true w] at g1; cases g1
    have a2 : ¬ z < y := fun w => by rw [decide_eq_true w] at g2; cases g2
    have a3 : ¬ z < x := by omega
    rw [decide_eq_false a3, Bool.false_or]
    by_cases e : z = x
    · have e1 : y = x := by omega
      subst e
      subst e1
      simp at g1 g2
      rw [lt_trans' g1 g2]
      simp
    · have : (z == x) = false := by simpa using e
      rw [this]
      rfl
theorem sorted_pair : ∀ {l : List Str}, PyProof.Rows.sortedS l = true → l.Pairwise fun a b => PySem.Spec.ltCps b.cps.toList a.cps.toList = false
  | [], _ => List.Pairwise.nil
  | [x], _ => List.pairwise_singleton _ _
  | x :: y :: r, h => by
    have h' : (!PySem.Spec.ltCps y.cps.toList x.cps.toList && PyProof.Rows.risingS y r) = true := h
    rw [Bool.and_eq_true] at h'
    have ih : (y :: r).Pairwise fun a b => PySem.Spec.ltCps b.cps.toList a.cps.toList = false := sorted_pair h'.2
    have h1 : PySem.Spec.ltCps y.cps.toList x.cps.toList = false := by simpa using h'.1
    refine List.pairwise_cons.mpr ⟨fun z hz => ?_, ih⟩
    rcases List.mem_cons.mp hz with e | hz
    · rw [e]
      exact h1
    · exact lt_trans' h1 ((List.pairwise_cons.mp ih).1 z hz)
theorem sorted_same {l m : List Str} (h : l.Perm m) (h1 : PyProof.Rows.sortedS l = true) (h2 : PyProof.Rows.sortedS m = true) : l = m := by
  refine perm_eq (fun a b r1 r2 => ?_) h (sorted_pair h1) (sorted_pair h2)
  rw [S_eta a, S_eta b, lt_anti r2 r1]
theorem mono_c {v : V} {s : L2.St} {H : Hp} : ∀ Q1 Q2 : VK, (∀ v h, Q1 v h → Q2 v h) → tC v s H Q1 → tC v s H Q2 := fun _ _ k h => k _ _ h
end TX

namespace T15
open PySem L2
def top (i : Nat) : Stmt := PySem.Challenge.pw_foldbough_k15_trees_beside.main.body.getD i (.Pass ⟨0, 0, 0, 0⟩)
abbrev s_is_name : Stmt := top 9
abbrev s_is_name_in : Stmt := top 10
abbrev s_tinit : Stmt := inClass (top 12) 0
abbrev s_tcolumns : Stmt := inClass (top 12) 1
abbrev s_tpairs : Stmt := inClass (top 12) 2
abbrev s_tlen : Stmt := inClass (top 12) 9
abbrev s_teq : Stmt := inClass (top 12) 10
abbrev s_beside : Stmt := top 13
abbrev s_told : Stmt := top 14
abbrev s_is_pair : Stmt := top 15
abbrev s_in_order : Stmt := top 16
abbrev s_well : Stmt := top 19
abbrev s_draw : Stmt := top 20
abbrev s_names : Stmt := top 21
abbrev s_pairs : Stmt := top 22
abbrev s_said : Stmt := top 23
abbrev s_right : Stmt := top 24
abbrev s_law : Stmt := top 25
end T15

set_option maxHeartbeats 1000000
local macro_rules | `(tactic| walk_at "z") => `(tactic| ((try dsimp only); first | assumption | omega | decide | (simp only [List.length_cons, List.length_nil]; first | decide | omega)))
namespace T15
open PySem L2 PyProof.Rows TX
section
variable {P : Program} {w : World} {K : PySem.W.Frag} {mg : Str → Option Value} {base : Heap}
theorem sc_well : FnScope ["_law_cell", "_law_k"] ["_law_cell", "_law_k"] (defScope s_well) := ⟨rfl, rfl, rfl, by decide +kernel, rfl, by decide +kernel, by decide +kernel⟩
def sp_well : Sp := fun vs H Q _ => ∃ (cell k : Int), vs = [.int cell, .int k] ∧ 0 ≤ k ∧ k ≤ 1000 ∧ ∀ H' p, Same H H' → H p = none → WellAt 100000 H' p → Q (.ref p) H'
theorem ok_well {f : Addr} {fd : FuncData} (F : Fn K mg "_law_well" s_well ["_law_cell", "_law_k"] f fd) (B : Bn mg) : FnOk P w K mg base CX0 1 f fd ["_law_cell", "_law_k"] sp_well := by
  refine F.F.ok sc_well (fun vs H Q E h => ?_) (fun cdv A outer s H vs Q E hr h => ?_)
  · obtain ⟨cell, k, rfl, _⟩ := h
    rfl
  · obtain ⟨cell, k, rfl, h0, h1, q⟩ := h
    refine ⟨_, pss_one (ps_ret (pe_lst (pa_cons (pe_op op_mul (pv 0) (pe_callTy call_int1 (by rfl) B.int boot_int (pa_cons (pe_cmpR op_ge (pv 0) (pe_op op_pow pe_int pe_int) (nomark _)) pa_nil)))
      (pa_cons (pe_op op_mod (pe_op op_add (pe_op op_mod (pv 0) pe_int) (pe_op op_mul pe_int (pv 1))) pe_int) (pa_cons pe_int pa_nil))))), ?_⟩
    refine ⟨_, rfl, _, rfl, _, _, rfl, rfl, ⟨by decide, by decide, by decide⟩, _, _, rfl, rfl, .inr ⟨_, rfl, _, _, rfl, rfl, .inr (by split <;> decide), ?_⟩⟩
    refine ⟨_, rfl, _, _, rfl, rfl, by walk_at "z", _, rfl, _, _, rfl, rfl, .inl (by decide), _, _, rfl, rfl, _, _, rfl, rfl, by walk_at "z", by walk_at "z", fun p hp => ?_⟩
    refine q _ p (Same.new hp) hp ⟨_, _, _, upd_same, ?_, ?_, by decide, by decide⟩
    · exact Int.emod_nonneg _ (by decide)
    · have := Int.emod_lt_of_pos (cell % 2147483647 + 104729 * k) (show (0 : Int) < 2147483647 by decide)
      omega
theorem sc_draw : FnScope ["_law_well_here", "_law_top", "_law_found", "_law_prime", "_law_twist"] ["_law_well_here", "_law_top"] (defScope s_draw) := ⟨rfl, rfl, rfl, by decide +kernel, rfl, by decide +kernel, by decide +kernel⟩
/-- a draw: one below top; the well may be drawn from once less -/
def sp_draw : Sp := fun vs H Q _ => ∃ (W : Addr) (t n : Nat), vs = [.ref W, .int t] ∧ 0 < t ∧ t < 1073741824 ∧ WellAt (n + 1) H W ∧ ∀ (H' : Hp) (r : Nat), r < t → Sm W H H' → WellAt n H' W → Q (.int r) H'
theorem ok_draw {f : Addr} {fd : FuncData} (F : Fn K mg "_law_draw" s_draw ["_law_well_here", "_law_top"] f fd) : FnOk P w K mg base CX0 1 f fd ["_law_well_here", "_law_top"] sp_draw := by
  refine F.F.ok sc_draw (fun vs H Q E h => ?_) (fun cdv A outer s H vs Q E hr h => ?_)
  · obtain ⟨W, t, n, rfl, _⟩ := h
    rfl
  · obtain ⟨W, t, n, rfl, h0, h1, ⟨a, b, c, hW, b0, b1, c0, c1⟩, q⟩ := h
    have hu := hu_of hr
    have t0 : (0 : Int) < (t : Int) := by omega
    have aI0 : ∀ x y z : V, atI [x, y, z] (0 : Int) = some x := fun _ _ _ => rfl
    have aI1 : ∀ x y z : V, atI [x, y, z] (1 : Int) = some y := fun _ _ _ => rfl
    have aI2 : ∀ x y z : V, atI [x, y, z] (2 : Int) = some z := fun _ _ _ => rfl
    refine ⟨_, pss_cons (ps_if (pt_cmpR op_gt (pe_ix ix_list (pv 0) pe_int (fun _ _ => rfl)) pe_int (nomark _))
        (pss_cons (ps_set (i := 2) sc_draw.nd rfl (Or.inl rfl) (pe_op op_mod (pe_ix ix_list (pv 0) pe_int (fun _ _ => rfl)) (pv 1)))
        (pss_cons (ps_asg (pe_op op_fdiv (pe_ix ix_list (pv 0) pe_int (fun _ _ => rfl)) (pv 1)) (pg_sub (pv 0) pe_int set_list))
        (pss_one (ps_ret (pv 2))))) pss_nil)
      (pss_cons (ps_asg (pe_op op_add (pe_ix ix_list (pv 0) pe_int (fun _ _ => rfl)) pe_int) (pg_sub (pv 0) pe_int set_list))
      (pss_cons (ps_set (i := 3) sc_draw.nd rfl (Or.inl rfl) (pe_ix ix_list (pe_lst (pa_cons pe_int (pa_cons pe_int (pa_cons pe_int (pa_cons pe_int (pa_cons pe_int pa_nil))))))
          (pe_op op_mod (pe_ix ix_list (pv 0) pe_int (fun _ _ => rfl)) pe_int) (fun _ _ => rfl)))
      (pss_cons (ps_set (i := 4) sc_draw.nd rfl (Or.inl rfl) (pe_op op_mod (pe_op op_pow (pe_op op_add (pe_op op_add (pe_ix ix_list (pv 0) pe_int (fun _ _ => rfl)) (pe_op op_mul pe_int (pe_ix ix_list (pv 0) pe_int (fun _ _ => rfl)))) pe_int) pe_int) (pv 3)))
      (pss_cons (ps_set (i := 4) sc_draw.nd rfl (Or.inl rfl) (pe_op op_mod (pe_op op_mul (pe_op op_add (pv 4) (pe_ix ix_list (pv 0) pe_int (fun _ _ => rfl))) (pe_op op_add (pe_op op_fdiv (pv 4) pe_int) pe_int)) (pv 3)))
      (pss_one (ps_ret (pe_op op_mod (pe_op op_fdiv (pv 4) pe_int) (pv 1)))))))), ?_⟩
    refine ⟨_, rfl, W, _, _, _, rfl, rfl, .of hW, aI0 _ _ _, _, _, rfl, rfl, _, rfl, ite2 (fun ha => ?_) (fun ha => ?_)⟩
    · refine ⟨_, rfl, W, _, _, _, rfl, rfl, .of hW, aI0 _ _ _, _, rfl, _, _, rfl, rfl, by walk_at "z", ?_⟩
      refine ⟨_, rfl, W, _, _, _, rfl, rfl, .of hW, aI0 _ _ _, _, rfl, _, _, rfl, rfl, by constructor <;> omega, ?_⟩
      refine ⟨_, rfl, W, _, _, 0, rfl, rfl, hW, rfl, _, rfl, ?_⟩
      have hm := Int.emod_nonneg a (show (t : Int) ≠ 0 by omega)
      have hl := Int.emod_lt_of_pos a t0
      have e : a % (t : Int) = ((a % (t : Int)).toNat : Int) := by omega
      show Q (.int (a % (t : Int))) _
      rw [e]
      exact q _ _ (by omega) (Sm.put .rfl') ⟨_, _, _, upd_same, b0, b1, c0, by omega⟩
    · refine ⟨_, rfl, W, _, _, _, rfl, rfl, .of hW, aI2 _ _ _, _, _, rfl, rfl, ?_⟩
      refine ⟨_, rfl, W, _, _, 2, rfl, rfl, hW, rfl, ?_⟩
      refine ⟨by decide, fun p np => ?_⟩
      have nW : W ≠ p := ne_of_none upd_same np
      have hW1 : ∀ o, upd (upd H W (.lst [.int a, .int b, .int (c + 1)])) p o W = some (.lst [.int a, .int b, .int (c + 1)]) := fun o => by rw [upd_ne nW, upd_same]
      refine ⟨_, rfl, W, _, _, _, rfl, rfl, .of (hW1 _), aI2 _ _ _, _, _, rfl, rfl, by walk_at "z", ?_⟩
      obtain ⟨pr, hpr, p0, p1⟩ : ∃ pr : Int, atI [V.int 2147483629, V.int 2147483587, V.int 2147483579, V.int 2147483563, V.int 2147483549] ((c + 1) % 5) = some (V.int pr) ∧ 1 ≤ pr ∧ pr < 2147483648 := by
        have h5 := Int.emod_nonneg (c + 1) (show (5 : Int) ≠ 0 by decide)
        have h6 := Int.emod_lt_of_pos (c + 1) (show (0 : Int) < 5 by decide)
        have : (c + 1) % 5 = 0 ∨ (c + 1) % 5 = 1 ∨ (c + 1) % 5 = 2 ∨ (c + 1) % 5 = 3 ∨ (c + 1) % 5 = 4 := by omega
        rcases this with e | e | e | e | e <;> rw [e]
        · exact ⟨2147483629, rfl, by decide, by decide⟩
        · exact ⟨2147483587, rfl, by decide, by decide⟩
        · exact ⟨2147483579, rfl, by decide, by decide⟩
        · exact ⟨2147483563, rfl, by decide, by decide⟩
        · exact ⟨2147483549, rfl, by decide, by decide⟩
      refine ⟨p, _, _, _, rfl, rfl, .of upd_same, hpr, ?_⟩
      refine ⟨_, rfl, W, _, _, _, rfl, rfl, .of (hW1 _), aI1 _ _ _, _, rfl, W, _, _, _, rfl, rfl, .of (hW1 _), aI2 _ _ _, _, _, rfl, rfl, .inl (by decide), ?_⟩
      refine ⟨_, _, rfl, rfl, _, _, rfl, rfl, _, _, rfl, rfl, ⟨by decide, by decide, by omega⟩, _, rfl, _, _, rfl, rfl, by walk_at "z", ?_⟩
      -- the twist, below the prime
      dsimp only
      generalize hx : (b + 6701 * (c + 1) + 3) ^ Int.toNat 5 % pr = x
      have x0 : 0 ≤ x := by rw [← hx]; exact Int.emod_nonneg _ (by omega)
      have x1 : x < pr := by rw [← hx]; exact Int.emod_lt_of_pos _ (by omega)
      refine ⟨_, rfl, _, rfl, W, _, _, _, rfl, rfl, .of (hW1 _), aI2 _ _ _, _, _, rfl, rfl, _, rfl, _, _, rfl, rfl, ⟨by decide, by decide⟩, _, _, rfl, rfl, _, _, rfl, rfl, .inr ?_, _, rfl, _, _, rfl, rfl, by walk_at "z", ?_⟩
      · have := Int.ediv_le_self 1013 x0
        have := Int.ediv_nonneg x0 (show (0 : Int) ≤ 1013 by decide)
        try dsimp only
        omega
      dsimp only
      generalize hy : (x + (c + 1)) * (x / 1013 + 40693) % pr = y
      have y0 : 0 ≤ y := by rw [← hy]; exact Int.emod_nonneg _ (by omega)
      refine ⟨_, rfl, _, _, rfl, rfl, ⟨by decide, by decide⟩, _, rfl, _, _, rfl, rfl, by walk_at "z", ?_⟩
      have hm := Int.emod_nonneg (y / 11) (show (t : Int) ≠ 0 by omega)
      have hl := Int.emod_lt_of_pos (y / 11) t0
      have e : y / 11 % (t : Int) = ((y / 11 % (t : Int)).toNat : Int) := by omega
      show Q (.int (y / 11 % (t : Int))) _
      rw [e]
      refine q _ _ (by omega) (Sm.new (Sm.put .rfl') np) ⟨_, _, _, hW1 _, b0, b1, by omega, by omega⟩
end
end T15

set_option maxHeartbeats 1000000
local macro_rules | `(tactic| walk_at "z") => `(tactic| ((try dsimp only); first | assumption | omega | decide | (simp only [List.length_cons, List.length_nil]; first | decide | omega)))
namespace T15
open PySem L2 PyProof.Rows TX
section
variable {P : Program} {w : World} {K : PySem.W.Frag} {mg : Str → Option Value} {base : Heap}
abbrev N_names : List Str := ["_law_well_here", "_law_count", "_law_letters", "_law_begin", "_law_apart", "_law_base", "_law_spot", "_law_more", "_law_found", "_law_k", "_law_letter"]
theorem sc_names : FnScope N_names ["_law_well_here", "_law_count"] (defScope s_names) := ⟨rfl, rfl, rfl, by decide +kernel, rfl, by decide +kernel, by decide +kernel⟩
/-- names: as many unlike names as are asked for, up to 26 -/
def sp_names : Sp := fun vs H Q _ => ∃ (W : Addr) (t n : Nat), vs = [.ref W, .int t] ∧ t ≤ 26 ∧ WellAt (n + 11) H W ∧
  ∀ (H' : Hp) (p : Addr) (ns : List Str), Sm W H H' → WellAt n H' W → H p = none → p ≠ W → H' p = some (.lst (ns.map V.str)) → ns.length = t → ns.Nodup → (∀ s ∈ ns, TM.NameOk s) → Q (.ref p) H'
theorem ok_names {f fD : Addr} {fd fdD : FuncData} (F : Fn K mg "_law_names" s_names ["_law_well_here", "_law_count"] f fd) (B : Bn mg) (D : Fn K mg "_law_draw" s_draw ["_law_well_here", "_law_top"] fD fdD) :
    FnOk P w K mg base CX0 2 f fd ["_law_well_here", "_law_count"] sp_names := by
  have GD : FnOk P w K mg base CX0 1 fD fdD ["_law_well_here", "_law_top"] sp_draw := ok_draw D
  refine F.F.ok sc_names (fun vs H Q E h => ?_) (fun cdv A outer s H vs Q E hr h => ?_)
  · obtain ⟨W, t, n, rfl, _⟩ := h
    rfl
  · obtain ⟨W, t, n, rfl, h0, hW, q⟩ := h
    have hu := hu_of hr
    refine ⟨_, pss_cons (ps_set (i := 2) sc_names.nd rfl (Or.inr rfl) pe_str)
      (pss_cons (ps_set (i := 3) sc_names.nd rfl (Or.inl rfl) (pe_call GD hr rfl D.g D.F.kp D.b .nil pass0 (pa_cons (pv 0) (pa_cons pe_int pa_nil))))
      (pss_cons (ps_set (i := 4) sc_names.nd rfl (Or.inl rfl) (pe_ix ix_list (pe_lst (pa_cons pe_int (pa_cons pe_int (pa_cons pe_int (pa_cons pe_int (pa_cons pe_int (pa_cons pe_int (pa_cons pe_int (pa_cons pe_int pa_nil)))))))))
          (pe_call GD hr rfl D.g D.F.kp D.b .nil pass0 (pa_cons (pv 0) (pa_cons pe_int pa_nil))) (fun _ _ => rfl)))
      (pss_cons (ps_set (i := 5) sc_names.nd rfl (Or.inl rfl) (pe_join pe_str (pe_lc (own := [("_law_k", 9)]) (g := gName 9) (tt := tYes) rfl sc_names.nd (pi_range1 rfl B.range (pa_cons pe_int pa_nil)) (blkOk_by (N := N_names) (sc := defScope s_names) (by decide +kernel))
          (fun _ _ _ _ _ => pg_name (i := 9) sc_names.nd rfl (Or.inl rfl)) (fun _ _ _ _ _ => pts_nil)
          (fun _ _ _ _ _ => pe_ix ix_str (pv 2) (pe_call GD hr rfl D.g D.F.kp D.b .nil pass0 (pa_cons (pv 0) (pa_cons pe_int pa_nil))) (fun _ _ => rfl)))))
      (pss_cons (ps_set (i := 6) sc_names.nd rfl (Or.inl rfl) (pe_call GD hr rfl D.g D.F.kp D.b .nil pass0 (pa_cons (pv 0) (pa_cons pe_int pa_nil))))
      (pss_cons (ps_set (i := 7) sc_names.nd rfl (Or.inl rfl) (pe_call GD hr rfl D.g D.F.kp D.b .nil pass0 (pa_cons (pv 0) (pa_cons (pe_op op_sub pe_int (pv 6)) pa_nil))))
      (pss_cons (ps_set (i := 8) sc_names.nd rfl (Or.inl rfl) (pe_lst pa_nil))
      (pss_cons (ps_for PassesOwn.never rfl (pi_range1 rfl B.range (pa_cons (pv 1) pa_nil)) (pg_name (i := 9) sc_names.nd rfl (Or.inl rfl))
        (pss_cons (ps_set (i := 10) sc_names.nd rfl (Or.inl rfl) (pe_ix ix_str (pv 2) (pe_op op_mod (pe_op op_add (pv 3) (pe_op op_mul (pv 4) (pv 9))) pe_int) (fun _ _ => rfl)))
        (pss_one (ps_expr (pe_bm PySem.F.plainAttrs_list PySem.F.slot_list_append PySem.F.type_list_append mt_append (pv 8)
          (pa_cons (pe_op op_add_str (pe_op op_add_str (pe_slice sl_str (pv 5) po_none (po_some (pv 6))) (pv 10)) (pe_slice sl_str (pv 5) (po_some (pv 6)) (po_some (pe_op op_add (pv 6) (pv 7))))) pa_nil))))))
      (pss_one (ps_ret (pv 8)))))))))), ?_⟩
    refine ⟨_, rfl, W, 26, n + 10, rfl, by decide, by decide, hW, fun H1 bg hbg s1 w1 => ?_⟩
    -- apart
    refine ⟨by decide, fun p1 n1 => ?_⟩
    have w1' : WellAt (n + 10) (upd H1 p1 (.lst [.int 1, .int 3, .int 5, .int 7, .int 9, .int 11, .int 15, .int 17])) W := w1.new n1
    have pW1 : p1 ≠ W := (w1.ne n1).symm
    refine ⟨_, rfl, W, 8, n + 9, rfl, by decide, by decide, w1', fun H2 j hj s2 w2 => ?_⟩
    have e2 : H2 p1 = some (.lst [.int 1, .int 3, .int 5, .int 7, .int 9, .int 11, .int 15, .int 17]) := s2 _ _ pW1 upd_same
    obtain ⟨ap, hap, hap2⟩ : ∃ ap : Nat, ap ∈ [1, 3, 5, 7, 9, 11, 15, 17] ∧ atI [V.int 1, .int 3, .int 5, .int 7, .int 9, .int 11, .int 15, .int 17] (j : Int) = some (V.int (ap : Int)) := by
      have : j = 0 ∨ j = 1 ∨ j = 2 ∨ j = 3 ∨ j = 4 ∨ j = 5 ∨ j = 6 ∨ j = 7 := by omega
      rcases this with e | e | e | e | e | e | e | e <;> subst e
      · exact ⟨1, by decide, rfl⟩
      · exact ⟨3, by decide, rfl⟩
      · exact ⟨5, by decide, rfl⟩
      · exact ⟨7, by decide, rfl⟩
      · exact ⟨9, by decide, rfl⟩
      · exact ⟨11, by decide, rfl⟩
      · exact ⟨15, by decide, rfl⟩
      · exact ⟨17, by decide, rfl⟩
    refine ⟨p1, _, _, _, rfl, rfl, .of e2, hap2, ?_⟩
    have sm2 : Sm W H H2 := (s1.new n1).trans s2
    -- base
    refine ⟨⟨_, rfl⟩, 7, rfl, by decide, by decide, fun L nL => ?_⟩
    refine lc_it (walk_range (lo := 0) (n := (7 : Int).toNat)) (fun i H' => ∃ cs : List Nat, H' L = some (.lst (cs.map fun c => V.str (S [c]))) ∧ cs.length = i ∧ (∀ c ∈ cs, 97 ≤ c ∧ c ≤ 122) ∧ Sm W H2 H' ∧ WellAt (n + 2 + (7 - i)) H' W)
      ⟨[], upd_same, rfl, by simp, Sm.new .rfl' nL, w2.new nL⟩ (fun _ _ _ _ => trivial) ?_ ?_
    · rintro i x H3 H3' hi ⟨cs, eL, hcs, hc, s3, w3⟩ ⟨rfl, rfl⟩
      have hi7 : i < 7 := hi
      refine ⟨rfl, ?_⟩
      refine ⟨_, rfl, _, rfl, W, 26, n + 2 + (7 - (i + 1)), rfl, by decide, by decide, w3.mono (by omega), fun H4 c hc4 s4 w4 => ?_⟩
      have LW : L ≠ W := (w2.ne nL).symm
      refine ⟨_, _, _, rfl, rfl, abc_len, abc_at hc4, _, s4 _ _ LW eL, ?_, cs ++ [97 + c], ?_, ?_, ?_, ?_, ?_⟩
      · rw [List.length_map, hcs]
        exact Nat.lt_trans hi7 (by decide)
      · rw [upd_same, List.map_append]
        rfl
      · rw [List.length_append, hcs]
        rfl
      · intro x hx
        rcases List.mem_append.mp hx with hx | hx
        · exact hc x hx
        · rw [List.mem_singleton.mp hx]
          omega
      · exact (s3.trans s4).mut nL
      · exact w4.upd LW.symm
    · rintro H3 ⟨cs, eL, hcs, hc, s3, w3⟩
      refine ⟨_, L, cs.map (fun c => S [c]), rfl, rfl, .inl (.of (by rw [eL, List.map_map]; rfl)), ?_, ?_⟩
      · have e7 : cs.length = 7 := hcs
        rw [List.length_map, sum_signs, e7, len_empty]
        decide
      rw [join_signs]
      have sm3 : Sm W H H3 := sm2.trans s3
      have hcs7 : cs.length = 7 := hcs
      have w3' : WellAt (n + 2) H3 W := w3.mono (by omega)
      -- spot, more
      refine ⟨_, rfl, W, 8, n + 1, rfl, by decide, by decide, w3', fun H4 sp hsp s4 w4 => ?_⟩
      refine ⟨_, rfl, _, rfl, _, _, rfl, rfl, W, 8 - sp, n, ?_, by omega, by omega, w4, fun H5 mo hmo s5 w5 => ?_⟩
      · show [V.ref W, V.int (8 - (sp : Int))] = [V.ref W, V.int ((8 - sp : Nat) : Int)]
        rw [show ((8 - sp : Nat) : Int) = 8 - (sp : Int) by omega]
      have sm5 : Sm W H H5 := (sm3.trans s4).trans s5
      -- found = []
      refine ⟨by decide, fun p np => ?_⟩
      have npH : H p = none := sm5.free hW np ⟨n, w5⟩
      have pW : p ≠ W := (w5.ne np).symm
      refine ⟨_, rfl, (t : Int), rfl, by omega, by omega, ?_⟩
      rw [show ((t : Int)).toNat = t by omega]
      refine for_range (lo := 0) (n := t) (fun i σ H' => ∃ v1 v2 : Option V, σ = [some (.ref W), some (.int t), some (.str abc), some (.int bg), some (.int ap), some (.str (S cs)), some (.int sp), some (.int mo), some (.ref p), v1, v2] ∧
          H' p = some (.lst (((List.range i).map (nmOf cs sp mo bg ap)).map V.str)) ∧ Sm W H5 H' ∧ WellAt n H' W)
        ⟨none, none, rfl, upd_same, Sm.new .rfl' np, w5.new np⟩ ?_ ?_
      · rintro i σ H6 hi ⟨v1, v2, rfl, e6, s6, w6⟩
        have hm : (bg + ap * i) % 26 < 26 := Nat.mod_lt _ (by decide)
        have ez : ((bg : Int) + (ap : Int) * (0 + (i : Int))) % 26 = (((bg + ap * i) % 26 : Nat) : Int) := by
          rw [Int.zero_add]
          omega
        have hap17 : ap ≤ 17 := by
          simp only [List.mem_cons, List.not_mem_nil, or_false] at hap
          omega
        refine ⟨_, rfl, _, rfl, _, rfl, _, rfl, _, _, rfl, rfl, .inl ⟨by omega, by omega⟩, _, _, rfl, rfl, _, _, rfl, rfl, by walk_at "z", ?_⟩
        refine ⟨_, _, _, rfl, rfl, abc_len, by rw [ez]; exact abc_at hm, ?_⟩
        have hcut1 : (cutS (S cs) none (some (sp : Int))) = S (cs.take sp) := by
          rw [cutS_S, hcs7, HT.sIx_none, HT.sIx_nat, List.drop_zero, Nat.min_eq_left (by omega), Nat.sub_zero]
        have hcut2 : (cutS (S cs) (some (sp : Int)) (some ((sp : Int) + (mo : Int)))) = S ((cs.drop sp).take mo) := by
          rw [show ((sp : Int) + (mo : Int)) = ((sp + mo : Nat) : Int) by omega, cutS_S, hcs7, HT.sIx_nat, HT.sIx_nat, Nat.min_eq_left (by omega), Nat.min_eq_left (by omega), Nat.add_sub_cancel_left]
        have hl7 : (S cs).length ≤ sizeLine := by rw [S_len, hcs7]; decide
        have hL : ∀ m : List Nat, m.length ≤ 100 → m.length ≤ sizeLine := fun m h => Nat.le_trans h (by decide)
        refine ⟨_, rfl, .inl ⟨rfl, _, .inl (.inl e6)⟩, _, rfl, _, rfl, _, rfl, _, rfl, hl7, _, rfl, _, _, rfl, rfl, ?_, _, rfl, _, rfl, _, rfl, _, rfl, _, rfl, _, _, rfl, rfl, _, rfl, _, rfl, hl7, _, _, rfl, rfl, ?_, _, _, _, rfl, rfl, e6, ?_, _, _, rfl, ?_, ?_, ?_⟩
        · rw [hcut1, S_len]
          refine line100 ?_
          have : (cs.take sp).length ≤ 7 := by rw [List.length_take, hcs7]; omega
          show _ + 1 ≤ 1000
          omega
        · rw [hcut1, hcut2, sapp_len, S_len, S_len]
          refine line100 ?_
          have h1 : (cs.take sp).length ≤ 7 := by rw [List.length_take, hcs7]; omega
          have h2 : ((cs.drop sp).take mo).length ≤ 7 := by rw [List.length_take, List.length_drop, hcs7]; omega
          show _ + 1 + _ ≤ 1000
          omega
        · rw [List.length_map, List.length_map, List.length_range]
          exact line100' (by omega)
        · rw [upd_same, hcut1, hcut2, List.range_succ, List.map_append, List.map_append]
          have : S (cs.take sp) ++ (⟨#[97 + (bg + ap * i) % 26]⟩ : Str) ++ S ((cs.drop sp).take mo) = nmOf cs sp mo bg ap i := by
            show S (cs.take sp) ++ S [97 + (bg + ap * i) % 26] ++ S ((cs.drop sp).take mo) = _
            rw [S_app, S_app]
            unfold nmOf
            rw [List.append_assoc]
            rfl
          rw [this]
          rfl
        · exact s6.mut np
        · exact w6.upd pW.symm
      · rintro σ H6 ⟨v1, v2, rfl, e6, s6, w6⟩
        refine ⟨_, rfl, q H6 p ((List.range t).map (nmOf cs sp mo bg ap)) (sm5.trans s6) w6 npH pW e6 (by simp) (nm_nodup hap h0) ?_⟩
        intro s hs
        obtain ⟨k, _, rfl⟩ := List.mem_map.mp hs
        exact nm_ok hcs7 hc (by omega)
end
end T15

set_option maxHeartbeats 1000000
local macro_rules | `(tactic| walk_at "z") => `(tactic| ((try dsimp only); first | assumption | omega | decide | (simp only [List.length_cons, List.length_nil]; first | decide | omega)))
namespace T15
open PySem L2 PyProof.Rows TX
section
variable {P : Program} {w : World} {K : PySem.W.Frag} {mg : Str → Option Value} {base : Heap}
abbrev N_pairs : List Str := ["_law_well_here", "_law_names_here", "_law_found", "_law_k", "_law_name"]
theorem sc_pairs : FnScope N_pairs ["_law_well_here", "_law_names_here"] (defScope s_pairs) := ⟨rfl, rfl, rfl, by decide +kernel, rfl, by decide +kernel, by decide +kernel⟩
def sp_pairs : Sp := fun vs H Q _ => ∃ (W Nn : Addr) (ns : List Str) (n : Nat), vs = [.ref W, .ref Nn] ∧ H Nn = some (.lst (ns.map V.str)) ∧ Nn ≠ W ∧ ns.Nodup ∧ ns.length ≤ 26 ∧ WellAt (n + ns.length) H W ∧
  ∀ (H' : Hp) (p : Addr) (ps : List TM.Pr), Sm W H H' → WellAt n H' W → H p = none → p ≠ W → PairsAt H' p ps → ps.map Prod.fst = ns → TM.Valid [] ps → Q (.ref p) H'
theorem ok_pairs {f fD : Addr} {fd fdD : FuncData} (F : Fn K mg "_law_pairs" s_pairs ["_law_well_here", "_law_names_here"] f fd) (B : Bn mg) (D : Fn K mg "_law_draw" s_draw ["_law_well_here", "_law_top"] fD fdD) :
    FnOk P w K mg base CX0 2 f fd ["_law_well_here", "_law_names_here"] sp_pairs := by
  have GD : FnOk P w K mg base CX0 1 fD fdD ["_law_well_here", "_law_top"] sp_draw := ok_draw D
  refine F.F.ok sc_pairs (fun vs H Q E h => ?_) (fun cdv A outer s H vs Q E hr h => ?_)
  · obtain ⟨W, Nn, ns, n, rfl, _⟩ := h
    rfl
  · obtain ⟨W, Nn, ns, n, rfl, hN, hNW, hnd, hl, hW, q⟩ := h
    have hu := hu_of hr
    refine ⟨_, pss_cons (ps_set (i := 2) sc_pairs.nd rfl (Or.inl rfl) (pe_lst pa_nil))
      (pss_cons (ps_for PassesOwn.never rfl (pi_enum rfl B.enum (pa_cons (pv 1) pa_nil)) (pg_tup rfl (pgs_cons (pg_name (i := 3) sc_pairs.nd rfl (Or.inl rfl)) (pgs_cons (pg_name (i := 4) sc_pairs.nd rfl (Or.inl rfl)) pgs_nil)))
        (pss_one (ps_expr (pe_bm PySem.F.plainAttrs_list PySem.F.slot_list_append PySem.F.type_list_append mt_append (pv 2)
          (pa_cons (pe_tup (pa_cons (pv 4) (pa_cons (pe_ix ix_list (pe_op op_cat (pe_lst (pa_cons pe_non pa_nil)) (pv 1)) (pe_call GD hr rfl D.g D.F.kp D.b .nil pass0 (pa_cons (pv 0) (pa_cons (pe_op op_add (pv 3) pe_int) pa_nil))) (fun _ _ => rfl)) pa_nil))) pa_nil)))))
      (pss_one (ps_ret (pv 2)))), ?_⟩
    refine ⟨by decide, fun p np => ?_⟩
    have pW : p ≠ W := (hW.ne np).symm
    have npN : Nn ≠ p := ne_of_none hN np
    refine ⟨_, rfl, Nn, ns.map V.str, rfl, .of (by rw [upd_ne npN]; exact hN), ?_⟩
    refine for_it (walk_enum (xs := ns.map V.str)) (fun i σ H' => ∃ (ps : List TM.Pr) (as : List Addr) (v1 v2 : Option V), σ = [some (.ref W), some (.ref Nn), some (.ref p), v1, v2] ∧
        H' p = some (.lst (as.map V.ref)) ∧ TupsAt H' as ps ∧ ps.map Prod.fst = ns.take i ∧ TM.Valid [] ps ∧ Sm W H H' ∧ WellAt (n + (ns.length - i)) H' W)
      ⟨[], [], none, none, rfl, upd_same, .nil, rfl, trivial, Sm.new .rfl' np, hW.new np⟩ ?_ ?_ ?_
    · rintro i σ H1 hi ⟨ps, as, v1, v2, rfl, e1, t1, m1, va, s1, w1⟩
      exact .of (s1 _ _ hNW hN)
    · rintro i x σ H1 H1' hi ⟨ps, as, v1, v2, rfl, e1, t1, m1, va, s1, w1⟩ ⟨T, x1, x2, rfl, nT, rfl, hx1, hx2⟩
      rw [List.length_map] at hi
      obtain rfl : V.int (i : Int) = x1 := Option.some.inj hx1
      obtain ⟨nm, hnm, rfl⟩ : ∃ nm, ns[i]? = some nm ∧ x2 = V.str nm := by
        have h2 : (ns.map V.str)[i]? = some x2 := hx2
        rw [List.getElem?_map, List.getElem?_eq_getElem hi] at h2
        exact ⟨ns[i], List.getElem?_eq_getElem hi, (Option.some.inj h2).symm⟩
      have wT := w1.new (o := .tup [.int (i : Int), .str nm]) nT
      have sT : Sm W H (upd H1 T (.tup [.int (i : Int), .str nm])) := s1.new nT
      refine ⟨T, _, rfl, .of upd_same, rfl, ?_⟩
      have eT : ∀ o, (upd H1 T o) p = some (.lst (as.map V.ref)) := fun o => by rw [upd_ne (ne_of_none e1 nT)]; exact e1
      refine ⟨_, _, rfl, _, _, rfl, rfl, ?_⟩
      refine ⟨_, rfl, .inl ⟨rfl, _, .inl (.inl (eT _))⟩, _, rfl, by decide, fun c nc => ?_⟩
      have wc := wT.new (o := .lst [.non]) nc
      have sc := sT.new (o := .lst [.non]) nc
      have ec : upd (upd H1 T (.tup [.int (i : Int), .str nm])) c (.lst [.non]) p = some (.lst (as.map V.ref)) := by rw [upd_ne (ne_of_none (eT _) nc)]; exact eT _
      refine ⟨_, rfl, c, Nn, _, _, rfl, rfl, upd_same, sc _ _ hNW hN, ?_, fun r nr => ?_⟩
      · show 1 + _ ≤ sizeLine
        rw [List.length_map]
        exact line100 (by omega)
      have wr := wc.new (o := .lst ([.non] ++ ns.map V.str)) nr
      have sr := sc.new (o := .lst ([.non] ++ ns.map V.str)) nr
      have rW : r ≠ W := (wc.ne nr).symm
      refine ⟨_, rfl, _, rfl, _, _, rfl, rfl, W, i + 1, n + (ns.length - (i + 1)), rfl, by omega, by omega, wr.mono (by omega), fun H2 k hk s2 w2 => ?_⟩
      have er : H2 r = some (.lst ([.non] ++ ns.map V.str)) := s2 _ _ rW upd_same
      obtain ⟨o, ho, hov⟩ : ∃ o : Option Str, atI ([V.non] ++ ns.map V.str) (k : Int) = some (optV o) ∧ ∀ x, o = some x → x ∈ ns.take i := by
        cases k with
        | zero => exact ⟨none, atI_nat (j := 0) rfl, fun x e => nomatch e⟩
        | succ k =>
          have hk' : k < ns.length := by omega
          refine ⟨some ns[k], atI_nat ?_, fun x e => ?_⟩
          · show (V.non :: ns.map V.str)[k + 1]? = _
            rw [List.getElem?_cons_succ, List.getElem?_map, List.getElem?_eq_getElem hk']
            rfl
          · cases e
            rw [List.mem_take_iff_getElem]
            exact ⟨k, by omega, rfl⟩
      refine ⟨r, _, _, _, rfl, rfl, .of er, ho, two_le, fun y ny => ?_⟩
      have e2 : H2 p = some (.lst (as.map V.ref)) := s2 _ _ pW (by rw [upd_ne (ne_of_none ec nr)]; exact ec)
      have t2 : TupsAt H2 as ps := ((((t1.same (Same.new nT)).same (Same.new nc)).same (Same.new nr)).sm s2 ⟨_, wr⟩)
      have ey : ∀ o, (upd H2 y o) p = some (.lst (as.map V.ref)) := fun o => by rw [upd_ne (ne_of_none e2 ny)]; exact e2
      have hal : as.length = ps.length := t2.len
      have hpl : ps.length = i := by
        have := congrArg List.length m1
        rw [List.length_map, List.length_take] at this
        omega
      refine ⟨p, _, _, rfl, rfl, ey _, ?_, ps ++ [(nm, o)], as ++ [y], _, _, rfl, ?_, ?_, ?_, ?_, ?_, ?_⟩
      · rw [List.length_map]
        exact line100' (by omega)
      · rw [upd_same, List.map_append]
        rfl
      · exact ((t2.same (Same.new ny)).snoc (q := (nm, o)) upd_same).put (ey _)
      · rw [List.map_append, m1, List.take_add_one, hnm]
        rfl
      · refine TM.valid_app va ?_
        rw [List.nil_append, m1]
        refine ⟨fun hc => ?_, hov, trivial⟩
        rw [List.mem_take_iff_getElem] at hc
        obtain ⟨j, hj, ej⟩ := hc
        have e4 : ns[i] = nm := by
          rw [List.getElem?_eq_getElem hi] at hnm
          exact Option.some.inj hnm
        have := (List.getElem_inj hnd (i := j) (j := i)).mp (ej.trans e4.symm)
        omega
      · exact (((sr.trans s2).new ny)).mut np
      · exact (w2.new ny).upd pW.symm
    · rintro σ H1 ⟨ps, as, v1, v2, rfl, e1, t1, m1, va, s1, w1⟩
      rw [List.length_map] at m1 w1
      rw [List.take_length] at m1
      refine ⟨_, rfl, q H1 p ps s1 (w1.mono (by omega)) np pW ⟨as, e1, t1⟩ m1 va⟩
end
end T15

set_option maxHeartbeats 1000000
local macro_rules | `(tactic| walk_at "z") => `(tactic| ((try dsimp only); first | assumption | omega | decide | (simp only [List.length_cons, List.length_nil]; first | decide | omega)))
namespace T15
open PySem L2 PyProof.Rows TX
section
variable {P : Program} {w : World} {K : PySem.W.Frag} {mg : Str → Option Value} {base : Heap}
/-- the constants of the module -/
structure Cn (mg : Str → Option Value) : Prop where
  longest : ∃ t, mg "LONGEST_NAME" = some (.int 8 t)
  most : ∃ t, mg "MOST_COLUMNS" = some (.int 8 t)
theorem sc_is_name : FnScope ["thing", "sign"] ["thing"] (defScope s_is_name) := ⟨rfl, rfl, rfl, by decide +kernel, rfl, by decide +kernel, by decide +kernel⟩
def sp_is_name : Sp := fun vs H Q _ => ∃ (x : Str), vs = [.str x] ∧ TM.NameOk x ∧ ∀ H', Same H H' → Q (.bl true) H'
theorem ok_is_name {f : Addr} {fd : FuncData} (F : Fn K mg "is_name" s_is_name ["thing"] f fd) (B : Bn mg) (C : Cn mg) : FnOk P w K mg base CX0 1 f fd ["thing"] sp_is_name := by
  refine F.F.ok sc_is_name (fun vs H Q E h => ?_) (fun cdv A outer s H vs Q E hr h => ?_)
  · obtain ⟨x, rfl, _⟩ := h
    rfl
  · obtain ⟨x, rfl, ⟨n1, n2, n3⟩, q⟩ := h
    have hu := hu_of hr
    obtain ⟨tl, hlg⟩ := C.longest
    refine ⟨_, pss_cons (ps_if (PW.pt (pw_or (pt_not (pt_val (pe_callB call_isi (by rfl) B.isi boot_isinstance (pa_cons (pv 0) (pa_cons (pe_bltn (v := .ty "str") (by rfl) B.str boot_str rfl) pa_nil)))))
        (pw_or1 (pt_not (pt_chain op_le op_le pe_int (pe_callB call_len_str (by rfl) B.len PySem.boot_len (pa_cons (pv 0) pa_nil)) (pe_glob (v := .int 8) (by rfl) hlg ⟨_, rfl⟩)))))) (pss_one (ps_ret pe_bl)) pss_nil)
      (pss_one (ps_ret (pe_callB (cr_all rfl) (by rfl) B.all boot_all (pa_cons (pe_lc (own := [("sign", 1)]) (g := gName 1) (tt := tYes) rfl sc_is_name.nd (pi_str (pv 0)) (blkOk_by (N := ["thing", "sign"]) (sc := defScope s_is_name) (by decide +kernel))
          (fun _ _ _ _ _ => pg_name (i := 1) sc_is_name.nd rfl (Or.inl rfl)) (fun _ _ _ _ _ => pts_nil)
          (fun _ _ _ _ _ => pe_chain op_le_str op_le_str pe_str (pv 1) pe_str)) pa_nil)))), ?_⟩
    refine ⟨_, rfl, _, _, _, _, true, rfl, .ty _, .base (.str _), kit_ty (by decide +kernel), _, rfl, ?_⟩
    refine ⟨_, rfl, x, rfl, line100 (by omega), _, _, rfl, rfl, true, ?_, _, _, rfl, rfl, true, ?_, ?_⟩
    · exact congrArg V.bl (decide_eq_true (show (1 : Int) ≤ (x.length : Int) by omega))
    · exact congrArg V.bl (decide_eq_true (show (x.length : Int) ≤ 8 by omega))
    refine ⟨_, rfl, x, rfl, fun L nL => ?_⟩
    refine lc_it walk_str (fun i H' => H' L = some (.lst (List.replicate i (V.bl true))) ∧ Same H H') ⟨upd_same, Same.new nL⟩ (fun _ _ _ _ => trivial) ?_ ?_
    · rintro i v H1 H1' hi ⟨e1, s1⟩ ⟨rfl, c, hc, rfl⟩
      have hcm : c ∈ x.cps.toList := by
        rw [Array.mem_toList_iff]
        exact Array.mem_of_getElem? hc
      obtain ⟨c1, c2⟩ := n3 c hcm
      refine ⟨rfl, ?_⟩
      have l1 : ¬ ([c] < (Str.ofString "a").cps.toList) := by
        rw [str_a, S_cps, lt_sign]
        omega
      have l2 : ¬ ((Str.ofString "z").cps.toList < [c]) := by
        rw [str_z, S_cps, lt_sign]
        omega
      refine ⟨_, rfl, _, _, rfl, rfl, true, ?_, _, _, rfl, rfl, ?_⟩
      · show V.bl (!decide ([c] < (Str.ofString "a").cps.toList)) = V.bl true
        rw [decide_eq_false l1]
        rfl
      · refine ⟨_, e1, ?_, ?_, Same.mut s1 nL⟩
        · rw [List.length_replicate]
          have : x.cps.size ≤ 8 := n2
          exact line100' (by omega)
        · rw [upd_same, List.replicate_succ']
          show some (HO.lst (List.replicate i (V.bl true) ++ [V.bl (!decide ((Str.ofString "z").cps.toList < [c]))])) = _
          rw [decide_eq_false l2]
          rfl
    · rintro H1 ⟨e1, s1⟩
      refine ⟨L, List.replicate x.cps.size true, rfl, .of (by rw [e1, List.map_replicate]), ?_⟩
      have : (List.replicate x.cps.size true).all id = true := by
        rw [List.all_eq_true]
        intro b hb
        rw [List.eq_of_mem_replicate hb]
        rfl
      rw [this]
      exact q _ s1
/-- is_name_in asked of a dict of names -/
theorem sc_is_name_in : FnScope ["thing", "names"] ["thing", "names"] (defScope s_is_name_in) := ⟨rfl, rfl, rfl, by decide +kernel, rfl, by decide +kernel, by decide +kernel⟩
def sp_is_name_inD : Sp := fun vs H Q _ => ∃ (x : Str) (d : Addr) (kvs : List (Key × V)), vs = [.str x, .ref d] ∧ TM.NameOk x ∧ H d = some (.dK kvs) ∧ ∀ H', Same H H' → Q (.bl (valV kvs (Sum.inr x : Key)).isSome) H'
theorem ok_is_name_inD {f fN : Addr} {fd fdN : FuncData} (F : Fn K mg "is_name_in" s_is_name_in ["thing", "names"] f fd) (B : Bn mg) (C : Cn mg) (FN : Fn K mg "is_name" s_is_name ["thing"] fN fdN) : FnOk P w K mg base CX0 2 f fd ["thing", "names"] sp_is_name_inD := by
  have GN : FnOk P w K mg base CX0 1 fN fdN ["thing"] sp_is_name := ok_is_name FN B C
  refine F.F.ok sc_is_name_in (fun vs H Q E h => ?_) (fun cdv A outer s H vs Q E hr h => ?_)
  · obtain ⟨x, d, kvs, rfl, _⟩ := h
    rfl
  · obtain ⟨x, d, kvs, rfl, hx, hd, q⟩ := h
    have hu := hu_of hr
    refine ⟨_, pss_one (ps_ret (pe_and (pe_call GN hr rfl FN.g FN.F.kp FN.b .nil pass0 (pa_cons (pv 0) pa_nil)) (pe_one (pe_cmp (pc_din hu (pv 0) (pv 1)))))), ?_⟩
    refine ⟨_, rfl, x, rfl, hx, fun H1 s1 => ⟨true, rfl, ?_⟩⟩
    exact ⟨_, rfl, _, rfl, d, _, rfl, DGet.k (k := Sum.inr x) (s1 _ _ hd), q H1 s1⟩
/-- a pair that may stand behind those told -/
theorem sc_is_pair : FnScope ["thing", "overs", "column", "upper"] ["thing", "overs"] (defScope s_is_pair) := ⟨rfl, rfl, rfl, by decide +kernel, rfl, by decide +kernel, by decide +kernel⟩
def sp_is_pair : Sp := fun vs H Q _ => ∃ (a d : Addr) (c : Str) (o : Option Str) (ps : List TM.Pr), vs = [.ref a, .ref d] ∧ H a = some (.tup [.str c, optV o]) ∧ H d = some (.dK (kvsOf ps)) ∧ (ps.map Prod.fst).Nodup ∧ TM.NameOk c ∧ c ∉ ps.map Prod.fst ∧
  (∀ x, o = some x → x ∈ ps.map Prod.fst ∧ TM.NameOk x) ∧ ∀ H', Same H H' → Q (.bl true) H'
theorem ok_is_pair {f fN fC : Addr} {fd fdN fdC : FuncData} (F : Fn K mg "_is_pair" s_is_pair ["thing", "overs"] f fd) (B : Bn mg) (C : Cn mg) (FN : Fn K mg "is_name" s_is_name ["thing"] fN fdN) (FC : Fn K mg "is_name_in" s_is_name_in ["thing", "names"] fC fdC) :
    FnOk P w K mg base CX0 3 f fd ["thing", "overs"] sp_is_pair := by
  have GN : FnOk P w K mg base CX0 1 fN fdN ["thing"] sp_is_name := ok_is_name FN B C
  have GC : FnOk P w K mg base CX0 2 fC fdC ["thing", "names"] sp_is_name_inD := ok_is_name_inD FC B C FN
  refine F.F.ok sc_is_pair (fun vs H Q E h => ?_) (fun cdv A outer s H vs Q E hr h => ?_)
  · obtain ⟨a, d, c, o, ps, rfl, _⟩ := h
    rfl
  · obtain ⟨a, d, c, o, ps, rfl, ha, hd, hnd, hc, hcn, ho, q⟩ := h
    have hu := hu_of hr
    have hr1 : Room 1 _ := hr.mono (by decide)
    refine ⟨_, pss_cons (ps_if (PW.pt (pw_or (pt_not (pt_val (pe_callB call_isi (by rfl) B.isi boot_isinstance (pa_cons (pv 0) (pa_cons (pe_bltn (v := .ty "tuple") (by rfl) B.tuple boot_tuple rfl) pa_nil)))))
        (pw_or1 (pt_cmpR op_ne (pe_callB call_len_seq (by rfl) B.len PySem.boot_len (pa_cons (pv 0) pa_nil)) pe_int (nomark _))))) (pss_one (ps_ret pe_bl)) pss_nil)
      (pss_cons (ps_asg (pv 0) (pg_tup rfl (pgs_cons (pg_name (i := 2) sc_is_pair.nd rfl (Or.inl rfl)) (pgs_cons (pg_name (i := 3) sc_is_pair.nd rfl (Or.inl rfl)) pgs_nil))))
      (pss_cons (ps_if (PW.pt (pw_or (pt_not (pt_val (pe_call GN hr1 rfl FN.g FN.F.kp FN.b .nil pass0 (pa_cons (pv 2) pa_nil)))) (pw_or1 (pt_cmp (pc_din hu (pv 2) (pv 1)))))) (pss_one (ps_ret pe_bl)) pss_nil)
      (pss_one (ps_ret (pe_or (pe_cmp (pc_isN (pv 3))) (pe_one (pe_call GC hr rfl FC.g FC.F.kp FC.b .nil pass0 (pa_cons (pv 3) (pa_cons (pv 1) pa_nil))))))))), ?_⟩
    refine ⟨_, rfl, _, _, _, _, true, rfl, .ty _, .base (.tup ha), kit_ty (by decide +kernel), _, rfl, ?_⟩
    refine ⟨_, rfl, a, _, rfl, .inr (.of ha), rfl, _, rfl, ?_⟩
    refine ⟨_, rfl, a, _, rfl, .of ha, rfl, _, _, rfl, _, _, rfl, rfl, ?_⟩
    refine ⟨_, rfl, c, rfl, hc, fun H1 s1 => ⟨true, rfl, ?_⟩⟩
    refine ⟨_, rfl, _, rfl, d, _, rfl, DGet.k (k := Sum.inr c) (s1 _ _ hd), _, rfl, ?_⟩
    rw [kvs_none hcn]
    cases o with
    | none => exact ⟨_, rfl, true, rfl, q H1 s1⟩
    | some x =>
      obtain ⟨hx, nx⟩ := ho x rfl
      refine ⟨_, rfl, false, rfl, ?_⟩
      refine ⟨_, rfl, _, rfl, x, d, _, rfl, nx, s1 _ _ hd, fun H2 s2 => ?_⟩
      obtain ⟨⟨x', o'⟩, hm, rfl⟩ := List.mem_map.mp hx
      rw [kvs_some hnd hm]
      exact q H2 (s1.trans s2)
end
end T15

set_option maxHeartbeats 1000000
namespace T15
open PySem L2 PyProof.Rows TX
section
variable {P : Program} {w : World} {K : PySem.W.Frag} {mg : Str → Option Value} {base : Heap}
/-- the defs of the program that all trees' proofs call -/
structure Kd (K : PySem.W.Frag) (mg : Str → Option Value) (fN fC fP fT fO : Addr) (dN dC dP dT dO : FuncData) : Prop where
  B : Bn mg
  C : Cn mg
  isn : Fn K mg "is_name" s_is_name ["thing"] fN dN
  isc : Fn K mg "is_name_in" s_is_name_in ["thing", "names"] fC dC
  isp : Fn K mg "_is_pair" s_is_pair ["thing", "overs"] fP dP
  told : Fn K mg "_told_overs" s_told ["pairs"] fT dT
  ord : Fn K mg "_in_order" s_in_order ["overs", "upper"] fO dO
variable {fN fC fP fT fO : Addr} {dN dC dP dT dO : FuncData}
theorem sc_told : FnScope ["pairs", "overs", "at", "pair"] ["pairs"] (defScope s_told) := ⟨rfl, rfl, rfl, by decide +kernel, rfl, by decide +kernel, by decide +kernel⟩
def sp_told : Sp := fun vs H Q _ => ∃ (L : Addr) (ps : List TM.Pr), vs = [.ref L] ∧ PairsAt H L ps ∧ TM.Valid [] ps ∧ ps.length ≤ 8 ∧ (∀ x ∈ ps.map Prod.fst, TM.NameOk x) ∧
  ∀ H' d, Same H H' → H d = none → H' d = some (.dK (kvsOf ps)) → Q (.ref d) H'
theorem ok_told (T : Kd K mg fN fC fP fT fO dN dC dP dT dO) : FnOk P w K mg base CX0 4 fT dT ["pairs"] sp_told := by
  have GP : FnOk P w K mg base CX0 3 fP dP ["thing", "overs"] sp_is_pair := ok_is_pair T.isp T.B T.C T.isn T.isc
  refine T.told.F.ok sc_told (fun vs H Q E h => ?_) (fun cdv A outer s H vs Q E hr h => ?_)
  · obtain ⟨L, ps, rfl, _⟩ := h
    rfl
  · obtain ⟨L, ps, rfl, ⟨as, hL, ht⟩, va, hl8, hnm, q⟩ := h
    have hu := hu_of hr
    have B := T.B
    obtain ⟨tl, hmo⟩ := T.C.most
    have hal := ht.len
    have hnd := TM.valid_nodup va
    refine ⟨_, pss_cons (ps_if (pt_not (pt_val (pe_callB call_isi (by rfl) B.isi boot_isinstance (pa_cons (pv 0) (pa_cons (pe_bltn (v := .ty "list") (by rfl) B.list boot_list rfl) pa_nil))))) (pss_one ps_never) pss_nil)
      (pss_cons (ps_set (i := 1) sc_told.nd rfl (Or.inl rfl) pe_dnewK)
      (pss_cons (ps_for PassesOwn.never rfl (pi_enum rfl B.enum (pa_cons (pv 0) pa_nil)) (pg_tup rfl (pgs_cons (pg_name (i := 2) sc_told.nd rfl (Or.inl rfl)) (pgs_cons (pg_name (i := 3) sc_told.nd rfl (Or.inl rfl)) pgs_nil)))
        (pss_cons (ps_if (PW.pt (pw_or (pt_cmpR op_ge (pv 2) (pe_glob (v := .int 8) (by rfl) hmo ⟨_, rfl⟩) (nomark _)) (pw_or1 (pt_not (pt_val (pe_call GP hr rfl T.isp.g T.isp.F.kp T.isp.b .nil pass0 (pa_cons (pv 3) (pa_cons (pv 1) pa_nil)))))))) (pss_one ps_never) pss_nil)
        (pss_one (ps_dput hu (pv 1) (pe_ix ix_tup (pv 3) pe_int (fun _ _ => rfl)) (pe_ix ix_tup (pv 3) pe_int (fun _ _ => rfl)) rfl))))
      (pss_one (ps_ret (pv 1))))), ?_⟩
    refine ⟨_, rfl, _, _, _, _, true, rfl, .ty _, .base (.lst hL), kit_ty (by decide +kernel), _, rfl, ?_⟩
    intro d nd
    have hLd : L ≠ d := ne_of_none hL nd
    refine ⟨_, rfl, L, as.map V.ref, rfl, .of (by rw [upd_ne hLd]; exact hL), ?_⟩
    refine for_it (walk_enum (xs := as.map V.ref)) (fun i σ H' => ∃ v1 v2 : Option V, σ = [some (.ref L), some (.ref d), v1, v2] ∧ H' d = some (.dK (kvsOf (ps.take i))) ∧ Same H H')
      ⟨none, none, rfl, upd_same, Same.new nd⟩ (fun i σ H1 hi ⟨_, _, _, _, s1⟩ => .of (s1 _ _ hL)) ?_ ?_
    · rintro i x σ H1 H1' hi ⟨v1, v2, rfl, e1, s1⟩ ⟨T', x1, x2, rfl, nT, rfl, hx1, hx2⟩
      rw [List.length_map] at hi
      obtain rfl : V.int (i : Int) = x1 := Option.some.inj hx1
      have hi' : i < ps.length := by omega
      obtain ⟨a, ha, rfl⟩ : ∃ a, as[i]? = some a ∧ x2 = V.ref a := by
        have h2 : (as.map V.ref)[i]? = some x2 := hx2
        rw [List.getElem?_map, List.getElem?_eq_getElem hi] at h2
        exact ⟨as[i], List.getElem?_eq_getElem hi, (Option.some.inj h2).symm⟩
      obtain ⟨⟨c, o⟩, hq, hta⟩ := ht.get ha
      obtain ⟨hc, ho⟩ := TM.valid_at va hq
      rw [List.nil_append] at hc ho
      have sT : Same H (upd H1 T' (.tup [.int (i : Int), .ref a])) := s1.trans (Same.new nT)
      have e1' : upd H1 T' (.tup [.int (i : Int), .ref a]) d = some (.dK (kvsOf (ps.take i))) := by rw [upd_ne (ne_of_none e1 nT)]; exact e1
      have hcm : c ∈ ps.map Prod.fst := List.mem_map.mpr ⟨(c, o), List.mem_of_getElem? hq, rfl⟩
      have hsub : ∀ x, x ∈ (ps.take i).map Prod.fst → x ∈ ps.map Prod.fst := fun x hx => by
        rw [List.map_take] at hx
        exact List.mem_of_mem_take hx
      have hndi : ((ps.take i).map Prod.fst).Nodup := TM.valid_nodup (TM.valid_take i va)
      refine ⟨T', _, rfl, .of upd_same, rfl, _, _, rfl, _, _, rfl, rfl, ?_⟩
      refine ⟨_, rfl, _, _, rfl, rfl, _, rfl, ite2 (fun hge => ?_) (fun _ => ?_)⟩
      · have := of_decide_eq_true hge
        omega
      refine ⟨_, rfl, _, rfl, a, d, c, o, ps.take i, rfl, sT _ _ hta, e1', hndi, hnm c hcm, hc, fun x hx => ⟨ho x hx, hnm x (hsub x (ho x hx))⟩, fun H2 s2 => ⟨true, rfl, ?_⟩⟩
      have sa2 : H2 a = some (.tup [.str c, optV o]) := s2 _ _ (sT _ _ hta)
      have sd2 := s2 _ _ e1'
      refine ⟨_, rfl, a, _, _, _, rfl, rfl, .of sa2, atI_nat (j := 1) rfl, _, rfl, _, rfl, a, _, _, _, rfl, rfl, .of sa2, atI_nat (j := 0) rfl, d, _, rfl, DPut.k (k := Sum.inr c) sd2 ?_, _, _, rfl, ?_, ?_⟩
      · rw [kvs_len, List.length_take]
        exact line100' (by omega)
      · rw [upd_same, kvs_put hc, List.take_add_one, hq]
        rfl
      · exact Same.mut (sT.trans s2) nd
    · rintro σ H1 ⟨v1, v2, rfl, e1, s1⟩
      rw [List.length_map, hal, List.take_length] at e1
      exact ⟨_, rfl, q H1 d s1 nd e1⟩
end
end T15

set_option maxHeartbeats 1000000
namespace T15
open PySem L2 PyProof.Rows TX
section
variable {P : Program} {w : World} {K : PySem.W.Frag} {mg : Str → Option Value} {base : Heap}
variable {fN fC fP fT fO : Addr} {dN dC dP dT dO : FuncData}
theorem sc_in_order : FnScope ["overs", "upper", "found", "column"] ["overs", "upper"] (defScope s_in_order) := ⟨rfl, rfl, rfl, by decide +kernel, rfl, by decide +kernel, by decide +kernel⟩
def sp_in_order (n : Nat) : Sp := fun vs H Q _ => ∃ (d : Addr) (od : Obj) (ps : List TM.Pr) (u : Option Str), vs = [.ref d, optV u] ∧ H d = some (.frz od (.dK (kvsOf ps))) ∧ TM.Valid [] ps ∧ ps.length ≤ 8 ∧ TM.Below ps u n ∧
  ∀ H' p, Same H H' → H p = none → H' p = some (.lst ((TM.ord ps u).map V.str)) → Q (.ref p) H'
theorem len2 {n : Nat} {vs : List V} {H : Hp} {Q : VK} {E : XK} (h : sp_in_order n vs H Q E) : vs.length = 2 := by
  obtain ⟨d, od, ps, u, rfl, _⟩ := h
  rfl
theorem ok_in_order (T : Kd K mg fN fC fP fT fO dN dC dP dT dO) : ∀ n : Nat, FnOk P w K mg base CX0 n fO dO ["overs", "upper"] (sp_in_order n)
  | 0 => ⟨fun vs H Q E h => len2 h, fun A outer s H args us vs Q E hr e b r h => by
      obtain ⟨d, od, ps, u, rfl, _, _, _, ⟨pre, t, _, hlt, _⟩, _⟩ := h
      exact absurd hlt (Nat.not_lt_zero _)⟩
  | n + 1 => by
    have G := ok_in_order T n
    refine T.ord.F.ok sc_in_order (fun vs H Q E h => len2 h) (fun cdv A outer s H vs Q E hr h => ?_)
    obtain ⟨d, od, ps, u, rfl, hd, va, hl8, hb, q⟩ := h
    have hu := hu_of hr
    refine ⟨_, pss_cons (ps_set (i := 2) sc_in_order.nd rfl (Or.inl rfl) (pe_lst pa_nil))
      (pss_cons (ps_for PassesOwn.never rfl (pi_keys (pv 0)) (pg_name (i := 3) sc_in_order.nd rfl (Or.inl rfl))
        (pss_one (ps_if (pt_cmpR op_eq (pe_dget hu (pv 0) (pv 3) (fun _ _ => rfl)) (pv 1) (nomark _))
          (pss_one (ps_expr (pe_bm PySem.F.plainAttrs_list PySem.F.slot_list_extend PySem.F.type_list_extend mt_extend (pv 2)
            (pa_cons (pe_op op_cat (pe_lst (pa_cons (pv 3) pa_nil)) (pe_call G hr rfl T.ord.g T.ord.F.kp T.ord.b .nil pass0 (pa_cons (pv 0) (pa_cons (pv 3) pa_nil)))) pa_nil)))) pss_nil)))
      (pss_one (ps_ret (pv 2)))), ?_⟩
    refine ⟨by decide, fun p np => ?_⟩
    have hdp : d ≠ p := ne_of_none hd np
    refine ⟨_, rfl, d, od, rfl, .inl ⟨_, by rw [upd_ne hdp]; exact hd, ?_⟩⟩
    refine for_it (walk_keys (kvs := kvsOf ps)) (fun i σ H' => ∃ v : Option V, σ = [some (.ref d), some (optV u), some (.ref p), v] ∧ H' p = some (.lst (((ps.take i).flatMap (TM.step ps u)).map V.str)) ∧ Same H H')
      ⟨none, rfl, upd_same, Same.new np⟩ (fun i σ H1 _ ⟨_, _, _, s1⟩ => s1 _ _ hd) ?_ ?_
    · rintro i x σ H0 H1 hi ⟨v, rfl, e1, s1⟩ ⟨rfl, k, y, hk, rfl⟩
      rw [kvs_len] at hi
      obtain ⟨⟨c, o⟩, hq⟩ : ∃ q, ps[i]? = some q := ⟨ps[i], List.getElem?_eq_getElem hi⟩
      rw [kvs_get, hq] at hk
      obtain ⟨rfl, rfl⟩ := Prod.mk.inj (Option.some.inj hk)
      have hnd := TM.valid_nodup va
      have hv : valV (kvsOf ps) (Sum.inr c : Key) = some (optV o) := kvs_some hnd (List.mem_of_getElem? hq)
      refine ⟨_, rfl, _, rfl, d, optV o, rfl, .inl ⟨_, Sum.inr c, .inr ⟨od, s1 _ _ hd⟩, rfl, hv.symm⟩, _, rfl, ?_, _, rfl, ite2 (fun he => ?_) (fun he => ?_)⟩
      · cases o <;> cases u <;> rfl
      · have ho : o = u := optV_inj (of_decide_eq_true he)
        have hb2 : TM.Below ps (some c) n := TM.below_at va hq (ho ▸ hb)
        refine ⟨_, rfl, .inl ⟨rfl, _, .inl (.inl e1)⟩, _, rfl, by show 1 ≤ sizeLine; decide, fun c1 nc1 => ?_⟩
        have sc1 : Same H1 (upd H1 c1 (.lst [.str c])) := Same.new nc1
        refine ⟨_, rfl, _, rfl, d, od, ps, some c, rfl, sc1 _ _ (s1 _ _ hd), va, hl8, hb2, fun H2 r s2 nr er => ?_⟩
        have ep2 : H2 p = some (.lst (((ps.take i).flatMap (TM.step ps u)).map V.str)) := s2 _ _ (sc1 _ _ e1)
        have ec1 : H2 c1 = some (.lst [.str c]) := s2 _ _ upd_same
        have hol : (TM.ord ps (some c)).length ≤ 8 := Nat.le_trans (TM.ord_le va _) hl8
        refine ⟨c1, r, _, _, rfl, rfl, ec1, er, ?_, fun r2 nr2 => ?_⟩
        · show 1 + _ ≤ sizeLine
          rw [List.length_map]
          exact line100 (by omega)
        have ep3 : ∀ o, (upd H2 r2 o) p = some (.lst (((ps.take i).flatMap (TM.step ps u)).map V.str)) := fun o => by rw [upd_ne (ne_of_none ep2 nr2)]; exact ep2
        refine ⟨p, r2, _, _, rfl, rfl, ep3 _, upd_same, ?_, _, rfl, ?_, ?_⟩
        · have hf : ((ps.take i).flatMap (TM.step ps u)).length ≤ 9 * (ps.take i).length := TM.flat_le fun q _ => by
            unfold TM.step
            split
            · have := TM.ord_le va (some q.1)
              rw [List.length_cons]
              omega
            · exact Nat.zero_le _
          rw [List.length_take] at hf
          rw [List.length_map, List.length_append, List.length_map]
          exact line100 (by show _ + (1 + _) ≤ 1000; omega)
        · rw [upd_same, TM.ord_take hq]
          have : TM.step ps u (c, o) = c :: TM.ord ps (some c) := if_pos ho
          rw [this, List.map_append]
          rfl
        · exact Same.mut (((s1.trans sc1).trans s2).trans (Same.new nr2)) np
      · have ho : ¬ o = u := fun z => he (decide_eq_true (congrArg optV z))
        refine ⟨_, rfl, ?_, s1⟩
        rw [TM.ord_take hq]
        have : TM.step ps u (c, o) = [] := if_neg ho
        rw [this, List.append_nil]
        exact e1
    · rintro σ H1 ⟨v, rfl, e1, s1⟩
      refine ⟨_, rfl, q H1 p s1 np ?_⟩
      rw [kvs_len, List.take_length] at e1
      rw [e1, TM.ord_flat va u]
end
end T15

set_option maxHeartbeats 1000000
namespace T15
open PySem L2 PyProof.Rows TX
section
variable {P : Program} {w : World} {K : PySem.W.Frag} {mg : Str → Option Value} {base : Heap}
variable {fN fC fP fT fO : Addr} {dN dC dP dT dO : FuncData}
theorem sc_tinit : FnScope ["self", "pairs", "told", "column"] ["self", "pairs"] (defScope s_tinit) := ⟨rfl, rfl, rfl, by decide +kernel, rfl, by decide +kernel, by decide +kernel⟩
def sp_tinit (C : Addr) : Sp := fun vs H Q _ => ∃ (p L dx : Addr) (ps : List TM.Pr), vs = [.ref p, .ref L] ∧ H p = some (.ins C dx []) ∧ PairsAt H L ps ∧ TM.Valid [] ps ∧ ps.length ≤ 8 ∧ (∀ x ∈ ps.map Prod.fst, TM.NameOk x) ∧
  ∀ H', TreeAt C H' p (TM.mk ps none) → (∀ b o, b ≠ p → H b = some o → H' b = some o) → Q .non H'
theorem ok_tinit {f C : Addr} {fd : FuncData} (F : Fun K "__init__" "Tree.__init__" s_tinit f fd) (T : Kd K mg fN fC fP fT fO dN dC dP dT dO) (c : Tc K mg C) : FnOk P w K mg base CX0 10 f fd ["self", "pairs"] (sp_tinit C) := by
  have GT : FnOk P w K mg base CX0 4 fT dT ["pairs"] sp_told := ok_told T
  have GO : FnOk P w K mg base CX0 9 fO dO ["overs", "upper"] (sp_in_order 9) := ok_in_order T 9
  refine F.ok sc_tinit (fun vs H Q E h => ?_) (fun cdv A outer s H vs Q E hr h => ?_)
  · obtain ⟨p, L, dx, ps, rfl, _⟩ := h
    rfl
  · obtain ⟨p, L, dx, ps, rfl, hp, hL, va, hl8, hnm, q⟩ := h
    have hu := hu_of hr
    have hr4 : Room 4 _ := hr.mono (by decide)
    refine ⟨_, pss_cons (ps_set (i := 2) sc_tinit.nd rfl (Or.inr rfl) (pe_call GT hr4 rfl T.told.g T.told.F.kp T.told.b .nil pass0 (pa_cons (pv 1) pa_nil)))
      (pss_cons (ps_lock (ps_fld (pv 0) (pe_call GO hr rfl T.ord.g T.ord.F.kp T.ord.b .nil pass0 (pa_cons (pv 2) (pa_cons pe_non pa_nil))) rfl))
      (pss_one (ps_fld (pv 0) (pe_dc (own := [("column", 3)]) (g := gName 3) (tt := tYes) rfl sc_tinit.nd (pi_list (pe_fld (pv 0) rfl)) (blkOk_by (N := ["self", "pairs", "told", "column"]) (sc := defScope s_tinit) (by decide +kernel))
        (fun _ _ _ _ _ => pg_name (i := 3) sc_tinit.nd rfl (Or.inl rfl)) (fun _ _ _ _ _ => pts_nil) (fun _ _ _ _ _ => pv 3) (fun _ _ _ _ _ => pe_dget hu (pv 2) (pv 3) (fun _ _ => rfl))) rfl))), ?_⟩
    refine ⟨_, rfl, L, ps, rfl, hL, va, hl8, hnm, fun H1 d s1 nd ed => ?_⟩
    have ndp : p ≠ d := ne_of_none hp nd
    refine ⟨d, _, ed, trivial, fun od => ?_⟩
    have sf : ∀ b o, b ≠ d → H1 b = some o → upd H1 d (.frz od (.dK (kvsOf ps))) b = some o := fun b o hb e => by rw [upd_ne hb]; exact e
    refine ⟨_, rfl, d, od, ps, none, rfl, upd_same, va, hl8, TM.below_top ps (by omega), fun H2 l s2 nl el => ?_⟩
    have ep1 : H1 p = some (.ins C dx []) := s1 _ _ hp
    have ep2 : H2 p = some (.ins C dx []) := s2 _ _ (sf _ _ ndp ep1)
    have ed2 : H2 d = some (.frz od (.dK (kvsOf ps))) := s2 _ _ upd_same
    have nld : l ≠ d := fun z => by rw [z, upd_same] at nl; cases nl
    have nlp : l ≠ p := fun z => by rw [z, sf _ _ ndp ep1] at nl; cases nl
    refine ⟨_, rfl, p, C, dx, [], rfl, ep2, c.cl, c.nC, by show 0 < 1000; decide, by rw [upd_ne ndp.symm]; exact ed2, ?_⟩
    generalize hH3 : upd (upd H2 p (.ins C dx (putF "_columns" (.ref l) []))) d (.dK (kvsOf ps)) = H3
    have e3p : H3 p = some (.ins C dx (putF "_columns" (.ref l) [])) := by rw [← hH3, upd_ne ndp, upd_same]
    have e3d : H3 d = some (.dK (kvsOf ps)) := by rw [← hH3, upd_same]
    have e3l : H3 l = some (.lst ((TM.ord ps none).map V.str)) := by rw [← hH3, upd_ne nld, upd_ne nlp]; exact el
    have s3 : ∀ b o, b ≠ p → H b = some o → H3 b = some o := fun b o hb e => by
      have hbd : b ≠ d := ne_of_none e nd
      rw [← hH3, upd_ne hbd, upd_ne hb]
      exact s2 _ _ (sf _ _ hbd (s1 _ _ e))
    have lk : (putF "_columns" (V.ref l) [] : List (Str × V)).lookup ("_columns" : Str) = some (.ref l) := by rw [lookup_putF, if_pos rfl]
    refine ⟨_, rfl, p, C, dx, _, _, rfl, e3p, c.cl, c.nC, lk, l, rfl, ⟨_, .of e3l⟩, fun Dn nDn => ?_⟩
    have F := foOk_mk va hl8 hnm
    have hfn : (TM.flat (TM.mk ps none) none).map Prod.fst = TM.ord ps none := TM.flat_names _ _
    have hnd := TM.valid_nodup va
    refine dc_walk (walk_list (xs := (TM.ord ps none).map V.str)) (fun i h => h Dn = some (.dK (kvsOf ((TM.flat (TM.mk ps none) none).take i))) ∧ Same H3 h)
      ⟨upd_same, Same.new nDn⟩ (fun i h _ ⟨_, s⟩ => .of (s _ _ e3l)) ?_ ?_
    · rintro i x h h' hi ⟨e4, s4⟩ ⟨rfl, hx⟩
      rw [List.length_map] at hi
      have hfl : (TM.flat (TM.mk ps none) none).length = (TM.ord ps none).length := by rw [← hfn, List.length_map]
      obtain ⟨⟨cn, o⟩, hq⟩ : ∃ q, (TM.flat (TM.mk ps none) none)[i]? = some q := ⟨_, List.getElem?_eq_getElem (by omega)⟩
      have hxn : x = V.str cn := by
        rw [← hfn, List.getElem?_map, List.getElem?_map, hq] at hx
        exact (Option.some.inj hx).symm
      subst hxn
      have hv := kvs_some hnd (TM.mk_sub (List.mem_of_getElem? hq))
      refine ⟨rfl, ?_⟩
      refine ⟨_, rfl, _, rfl, _, rfl, d, optV o, rfl, .inl ⟨_, Sum.inr cn, .inl (s4 _ _ e3d), rfl, hv.symm⟩, _, Sum.inr cn, rfl, e4, ?_, ?_, ?_⟩
      · rw [kvs_len, List.length_take]
        have := F.le
        have e5 : (TM.names (TM.mk ps none)) = TM.ord ps none := rfl
        rw [e5] at this
        exact line100' (by omega)
      · have hc : cn ∉ ((TM.flat (TM.mk ps none) none).take i).map Prod.fst := by
          intro hm
          rw [List.map_take, hfn, List.mem_take_iff_getElem] at hm
          obtain ⟨j, hj, ej⟩ := hm
          have ei : (TM.ord ps none)[i] = cn := by
            have h1 : (TM.ord ps none)[i]? = some cn := by rw [← hfn, List.getElem?_map, hq]; rfl
            rw [List.getElem?_eq_getElem hi] at h1
            exact Option.some.inj h1
          have := (List.getElem_inj (TM.ord_nodup va) (i := j) (j := i)).mp (ej.trans ei.symm)
          omega
        rw [upd_same, kvs_put hc, List.take_add_one, hq]
        rfl
      · exact Same.mut s4 nDn
    · rintro h ⟨e4, s4⟩
      rw [List.length_map] at e4
      have hfl : (TM.flat (TM.mk ps none) none).length = (TM.ord ps none).length := by rw [← hfn, List.length_map]
      rw [← hfl, List.take_length] at e4
      refine ⟨_, rfl, p, C, dx, _, rfl, s4 _ _ e3p, c.cl, c.nO, by show 1 < 1000; decide, ?_⟩
      have nDp : Dn ≠ p := fun z => by rw [z, e3p] at nDn; cases nDn
      have nlD : l ≠ Dn := fun z => by rw [← z, e3l] at nDn; cases nDn
      refine q _ ⟨dx, l, Dn, upd_same, ?_, ?_⟩ fun b o hb e => ?_
      · rw [upd_ne nlp]
        exact s4 _ _ e3l
      · rw [upd_ne nDp]
        exact e4
      · rw [upd_ne hb]
        exact s4 _ _ (s3 b o hb e)
end
end T15

set_option maxHeartbeats 1000000
namespace T15
open PySem L2 PyProof.Rows TX
section
variable {P : Program} {w : World} {K : PySem.W.Frag} {mg : Str → Option Value} {base : Heap}
theorem sc_tcolumns : FnScope ["self"] ["self"] (defScope s_tcolumns) := ⟨rfl, rfl, rfl, by decide +kernel, rfl, by decide +kernel, by decide +kernel⟩
def sp_tcolumns (C : Addr) : Sp := fun vs H Q _ => ∃ (p : Addr) (f : TM.Fo), vs = [.ref p] ∧ TreeAt C H p f ∧ ∀ H' L, Same H H' → H L = none → H' L = some (.lst ((TM.names f).map V.str)) → Q (.ref L) H'
theorem ok_tcolumns {f C : Addr} {fd : FuncData} (F : Fun K "columns" "Tree.columns" s_tcolumns f fd) (B : Bn mg) (c : Tc K mg C) : FnOk P w K mg base CX0 1 f fd ["self"] (sp_tcolumns C) := by
  refine F.ok sc_tcolumns (fun vs H Q E h => ?_) (fun cdv A outer s H vs Q E hr h => ?_)
  · obtain ⟨p, g, rfl, _⟩ := h
    rfl
  · obtain ⟨p, g, rfl, ⟨dx, l, d, h1, h2, h3⟩, q⟩ := h
    refine ⟨_, pss_one (ps_ret (pe_callTy call_list_of (by rfl) B.list boot_list (pa_cons (pe_fld (pv 0) rfl) pa_nil))), ?_⟩
    exact ⟨_, rfl, p, C, dx, _, _, rfl, h1, c.cl, c.nC, tflds_col _ _, l, _, rfl, .inl (.of h2), fun L nL => q _ L (Same.new nL) nL upd_same⟩
theorem sc_tpairs : FnScope ["self", "column"] ["self"] (defScope s_tpairs) := ⟨rfl, rfl, rfl, by decide +kernel, rfl, by decide +kernel, by decide +kernel⟩
def sp_tpairs (C : Addr) : Sp := fun vs H Q _ => ∃ (p : Addr) (f : TM.Fo), vs = [.ref p] ∧ TreeAt C H p f ∧ FoOk f ∧ ∀ H' L, Same H H' → H L = none → PairsAt H' L (TM.flat f none) → Q (.ref L) H'
theorem ok_tpairs {f C : Addr} {fd : FuncData} (F : Fun K "pairs" "Tree.pairs" s_tpairs f fd) (B : Bn mg) (c : Tc K mg C) : FnOk P w K mg base CX0 1 f fd ["self"] (sp_tpairs C) := by
  refine F.ok sc_tpairs (fun vs H Q E h => ?_) (fun cdv A outer s H vs Q E hr h => ?_)
  · obtain ⟨p, g, rfl, _⟩ := h
    rfl
  · obtain ⟨p, g, rfl, ⟨dx, l, d, h1, h2, h3⟩, ok, q⟩ := h
    have hu := hu_of hr
    have hfn : (TM.flat g none).map Prod.fst = TM.names g := TM.flat_names _ _
    have hfl : (TM.flat g none).length = (TM.names g).length := by rw [← hfn, List.length_map]
    have hle := ok.le
    refine ⟨_, pss_one (ps_ret (pe_lc (own := [("column", 1)]) (g := gName 1) (tt := tYes) (te := tTup (tCons (tVar 1) (tCons (tDGet (tFld K (tVar 0) "_over") (tVar 1)) tNil))) rfl sc_tpairs.nd (pi_list (pe_fld (pv 0) rfl)) (blkOk_by (N := ["self", "column"]) (sc := defScope s_tpairs) (by decide +kernel))
        (fun _ _ _ _ _ => pg_name (i := 1) sc_tpairs.nd rfl (Or.inl rfl)) (fun _ _ _ _ _ => pts_nil)
        (fun _ _ _ _ _ => pe_tup (pa_cons (pv 1) (pa_cons (pe_dget hu (pe_fld (pv 0) rfl) (pv 1) (fun _ _ => rfl)) pa_nil))))), ?_⟩
    refine ⟨_, rfl, p, C, dx, _, _, rfl, h1, c.cl, c.nC, tflds_col _ _, l, rfl, ⟨_, .of h2⟩, fun L nL => ?_⟩
    refine lc_it (walk_list (xs := (TM.names g).map V.str)) (fun i h => ∃ as, h L = some (.lst (as.map V.ref)) ∧ TupsAt h as ((TM.flat g none).take i) ∧ Same H h)
      ⟨[], upd_same, .nil, Same.new nL⟩ (fun i h _ ⟨_, _, _, s⟩ => .of (s _ _ h2)) ?_ ?_
    · rintro i x h h' hi ⟨as, e4, t4, s4⟩ ⟨rfl, hx⟩
      rw [List.length_map] at hi
      obtain ⟨⟨cn, o⟩, hq⟩ : ∃ q, (TM.flat g none)[i]? = some q := ⟨_, List.getElem?_eq_getElem (by omega)⟩
      have hxn : x = V.str cn := by
        rw [← hfn, List.getElem?_map, List.getElem?_map, hq] at hx
        exact (Option.some.inj hx).symm
      subst hxn
      have hv : valV (kvsOf (TM.flat g none)) (Sum.inr cn : Key) = some (optV o) := kvs_some (by rw [hfn]; exact ok.nd) (List.mem_of_getElem? hq)
      refine ⟨rfl, ?_⟩
      refine ⟨_, rfl, _, rfl, p, C, dx, _, _, rfl, s4 _ _ h1, c.cl, c.nO, tflds_over _ _, _, rfl, d, optV o, rfl, .inl ⟨_, Sum.inr cn, .inl (s4 _ _ h3), rfl, hv.symm⟩, two_le, fun y ny => ?_⟩
      have e5 : ∀ o, upd h' y o L = some (.lst (as.map V.ref)) := fun o => by rw [upd_ne (ne_of_none e4 ny)]; exact e4
      refine ⟨_, e5 _, ?_, as ++ [y], ?_, ?_, ?_⟩
      · rw [List.length_map, t4.len, List.length_take]
        exact line100' (by omega)
      · rw [upd_same, List.map_append]
        rfl
      · rw [List.take_add_one, hq]
        exact ((t4.same (Same.new ny)).snoc (q := (cn, o)) upd_same).put (e5 _)
      · exact Same.mut (s4.trans (Same.new ny)) nL
    · rintro h ⟨as, e4, t4, s4⟩
      rw [List.length_map, ← hfl, List.take_length] at t4
      exact q h L s4 nL ⟨as, e4, t4⟩
theorem sc_tlen : FnScope ["self"] ["self"] (defScope s_tlen) := ⟨rfl, rfl, rfl, by decide +kernel, rfl, by decide +kernel, by decide +kernel⟩
def sp_tlen (C : Addr) : Sp := fun vs H Q _ => ∃ (p : Addr) (f : TM.Fo), vs = [.ref p] ∧ TreeAt C H p f ∧ Q (.int (TM.names f).length) H
theorem ok_tlen {f C : Addr} {fd : FuncData} (F : Fun K "__len__" "Tree.__len__" s_tlen f fd) (B : Bn mg) (c : Tc K mg C) : FnOk P w K mg base CX0 1 f fd ["self"] (sp_tlen C) := by
  refine F.ok sc_tlen (fun vs H Q E h => ?_) (fun cdv A outer s H vs Q E hr h => ?_)
  · obtain ⟨p, g, rfl, _⟩ := h
    rfl
  · obtain ⟨p, g, rfl, ⟨dx, l, d, h1, h2, h3⟩, q⟩ := h
    refine ⟨_, pss_one (ps_ret (pe_callB call_len_seq (by rfl) B.len PySem.boot_len (pa_cons (pe_fld (pv 0) rfl) pa_nil))), ?_⟩
    refine ⟨_, rfl, p, C, dx, _, _, rfl, h1, c.cl, c.nC, tflds_col _ _, l, _, rfl, .inl (.of h2), ?_⟩
    rw [List.length_map]
    exact q
theorem sc_teq : FnScope ["self", "other"] ["self", "other"] (defScope s_teq) := ⟨rfl, rfl, rfl, by decide +kernel, rfl, by decide +kernel, by decide +kernel⟩
/-- two trees of one forest -/
def SameTree (C : Addr) : Addr → Addr → Hp → Prop := fun a b H => ∃ f, TreeAt C H a f ∧ TreeAt C H b f ∧ FoOk f
theorem ok_teq {f C : Addr} {fd : FuncData} (F : Fun K "__eq__" "Tree.__eq__" s_teq f fd) (B : Bn mg) (c : Tc K mg C) : FnOk P w K mg base CX0 1 f fd ["self", "other"] (spEq (SameTree C)) := by
  refine F.ok sc_teq (fun vs H Q E h => ?_) (fun cdv A outer s H vs Q E hr h => ?_)
  · obtain ⟨a, b, rfl, _⟩ := h
    rfl
  · obtain ⟨a, b, rfl, ⟨g, ⟨dx, l, d, h1, h2, h3⟩, ⟨dx', l', d', h1', h2', h3'⟩, ok⟩, q⟩ := h
    have hu := hu_of hr
    have hu0 := hr.units0
    have hu64 := hr.units
    refine ⟨_, pss_one (ps_ret (pe_and (pe_callB call_isi (by rfl) B.isi boot_isinstance (pa_cons (pv 1) (pa_cons (pe_glob (v := .ref C) (by rfl) c.g rfl) pa_nil)))
      (pe_and (pe_cmpR (op_eqD hu64) (pe_fld (pv 0) rfl) (pe_fld (pv 1) rfl) (nomark _)) (pe_one (pe_cmpR (op_eq_dictA hu0) (pe_fld (pv 0) rfl) (pe_fld (pv 1) rfl) (nomark _)))))), ?_⟩
    refine ⟨_, rfl, _, _, _, _, true, rfl, .own C, .base (.ins h1' c.cl c.ins.ha c.ins.hn c.ins.htk c.ins.hm), c.ins.me, true, rfl, ?_⟩
    refine ⟨_, rfl, a, C, dx, _, _, rfl, h1, c.cl, c.nC, tflds_col _ _, _, rfl, b, C, dx', _, _, rfl, h1', c.cl, c.nC, tflds_col _ _, _, _, DpS h2, DpS h2', shS ok.ok, shS ok.ok, true, ?_, ?_⟩
    · rw [eqv_dS, decide_eq_true rfl]
    refine ⟨_, rfl, a, C, dx, _, _, rfl, h1, c.cl, c.nO, tflds_over _ _, _, rfl, b, C, dx', _, _, rfl, h1', c.cl, c.nO, tflds_over _ _, d, d', _, _, rfl, rfl, h3, h3', rfl, ?_, q H fun _ _ h => h⟩
    intro p hp
    obtain ⟨⟨x, o⟩, hm, rfl⟩ := List.mem_map.mp hp
    refine ⟨kvs_some ?_ hm, ?_⟩
    · rw [TM.flat_names]
      exact ok.nd
    · cases o <;> rfl
end
end T15

set_option maxHeartbeats 2000000
/-! Rules of our own: the length of an own instance; isinstance of a caught error, one class or several. -/
namespace TY
open PySem L2 PyProof.Rows TX
section
variable {X : Cx}
/-- len(o) by an own __len__ -/
def rLenO (C : Addr) (sp : Sp) (E : XK) : List V → Hp → VK → Prop := fun xs H Q => ∃ a dx fs, xs = [.ref a] ∧ H a = some (.ins C dx fs) ∧ sp [.ref a] H (fun v H' => ∃ k : Nat, v = .int k ∧ k ≤ 1000000 ∧ Q (.int k) H') E
theorem call_lenO {CX : CXT} {C f : Addr} {fd : FuncData} {ps : List Str} {sp : Sp} {E : XK} {n : Nat} (F : FnOk X.prog X.w X.K X.mg X.base CX n f fd ps sp) (hs : PySem.W.findIn X.K (.ref C) "__len__" = some (some (.ref f)))
    (hf : PySem.W.isFn X.K (.ref f) = true) (hb : Binds X.K fd ps []) (hx : Passes CX X E) (hr : Room (n + 1) X.A) : CallR X (.builtin "len") (rLenO C sp E) := by
  intro pins s σ H xs us Q I r h
  obtain ⟨a, dx, fs, rfl, ha, hsp⟩ := h
  obtain ⟨u, rfl, rx⟩ := vals1 r
  cases rx
  obtain ⟨mA, J, _⟩ := ins_get I.hok ha
  obtain ⟨od, J, _⟩ := J.look
  obtain ⟨m, hF⟩ := I.fr
  refine PySem.W.len_K hF I.ok.mod.kin J hs hf ?_
  have e0 : Env0 X.prog X.w X.K X.mg X.base X.A.in1 X.stack s H := by
    have e := I.env0
    exact ⟨e.frames, e.mod, e.bs, e.bsz, e.funs, e.frf, e.hok, e.bare⟩
  have hl := F.len _ _ _ _ hsp
  refine wpAny_call (codeAny_mono (F.run X.A.in1 X.stack s H ⟨[.ref a], []⟩ [.ref a] [.ref a] _ E hr.in1 e0 (by
    have := hb s [.ref a] I.kIn (by simpa using hl)
    simpa using this) (.cons rfl .nil) hsp) fun r s' hq => ?_)
  cases r with
  | error e => exact hx pins σ H s e s' I hq
  | ok fl =>
    cases fl with
    | ret u =>
      obtain ⟨z, H', I', rz, k, ez, hk, q⟩ := I.after hq
      subst ez
      obtain ⟨t, rfl⟩ := rz
      show PySem.W.LenBack _ (.int (k : Int) t) s'
      exact ⟨by omega, ⟨.int k, H', I'.tok _, ⟨_, rfl⟩, q⟩⟩
    | next => exact False.elim hq
    | brk => exact False.elim hq
    | cont => exact False.elim hq
/-- isinstance of the error that the suite holds: one class, or a tuple of classes that was just laid -/
def rIsX (K : PySem.W.Frag) (a : Addr) (cls : Value) (d : Option Addr) : List V → Hp → VK → Prop := fun xs H Q => ∃ (D : Addr) (c : V) (b : Bool), cls = .ref D ∧ d = none ∧ ExcC K D ∧ xs = [.ref a, c] ∧
  ((∃ cv, ClsV c cv ∧ PySem.W.kitOne K (.ref D) cv = some b) ∨ (∃ tp cs us, c = .ref tp ∧ H tp = some (.tup cs) ∧ Paired ClsV cs us ∧ PySem.W.kitAny K (.ref D) us = some b)) ∧ Q (.bl b) H
theorem call_isX {a : Addr} {oe : Obj} {cls : Value} {d : Option Addr} {pn : List (Addr × Obj)} (hz : Zc cls d oe) (hf : ∃ vs, oe.data = .fields vs) : CallR (X.suite a ((a, oe) :: pn)) (.builtin "isinstance") (rIsX X.K a cls d) := by
  intro pins s σ H xs us Q I r h
  obtain ⟨D, c, b, rfl, rfl, C, rfl, hc, q⟩ := h
  obtain ⟨u1, u2, rfl, r1, r2⟩ := vals2 r
  cases r1
  obtain ⟨hget, _⟩ := I.pin (a, oe) (List.mem_append.mpr (.inl List.mem_cons_self))
  obtain ⟨vs, hv⟩ := hf
  have J : PySem.W.InstAt s.heap a oe D none := by
    obtain ⟨oc, od, oda, osl⟩ := oe
    obtain ⟨h1, h2⟩ := hz
    dsimp only at h1 h2 hv
    subst h1 h2 hv
    exact ⟨hget, rfl, rfl, trivial⟩
  have Z := PySem.W.handS_kitx_exc (x := a) (ox := oe) C.hg C.hk C.hs C.hd C.ha C.hn C.ht C.hm
  rcases hc with ⟨cv, hcv, e⟩ | ⟨tp, cs, ws, rfl, hT, k, e⟩
  · have e2 := hcv.eq r2
    subst e2
    exact PySem.W.kia_one Z I.kIn J e (fun z => nomatch z) fun tk => ⟨.bl b, H, I.kept (t' := tk) fun _ _ z => z, rfl, q⟩
  · cases (show u2 = Value.ref tp from r2)
    obtain ⟨_, its, rv, o, h1, h2, n, h3⟩ := (show ObjOk X.prog X.w H s.heap tp (.tup cs) from I.hok tp _ hT)
    have e3 := ClsV.all k rv
    subst e3
    obtain ⟨oc, od, dt, sl⟩ := o
    simp only at h2 h3
    subst h2 h3
    exact PySem.W.kia_tup Z I.kIn J h1 e (fun z => nomatch z) fun tk => ⟨.bl b, H, I.kept (t' := tk) fun _ _ z => z, rfl, q⟩
end
end TY

set_option maxHeartbeats 1000000
namespace T15
open PySem L2 PyProof.Rows TX TY
section
variable {P : Program} {w : World} {K : PySem.W.Frag} {mg : Str → Option Value} {base : Heap}
variable {fN fC fP fT fO : Addr} {dN dC dP dT dO : FuncData}
/-- the class of trees with what is called of it -/
structure Td (K : PySem.W.Frag) (mg : Str → Option Value) (C fI fc fp fl fe : Addr) (dI dc dp dl de : FuncData) : Prop where
  c : Tc K mg C
  iF : Fun K "__init__" "Tree.__init__" s_tinit fI dI
  iM : Mk K C fI
  iB : Binds K dI ["self", "pairs"] []
  col : Mt K C "columns" "Tree.columns" s_tcolumns ["self"] fc dc
  prs : Mt K C "pairs" "Tree.pairs" s_tpairs ["self"] fp dp
  len : Mt K C "__len__" "Tree.__len__" s_tlen ["self"] fl dl
  eq : Mt K C "__eq__" "Tree.__eq__" s_teq ["self", "other"] fe de
variable {C fI fc fp fl fe : Addr} {dI dc dp dl de : FuncData}
theorem sc_beside : FnScope ["one", "other", "ones", "column"] ["one", "other"] (defScope s_beside) := ⟨rfl, rfl, rfl, by decide +kernel, rfl, by decide +kernel, by decide +kernel⟩
/-- the trees have a column in common, or more than eight together -/
def Clash (f g : TM.Fo) : Prop := (∃ x ∈ TM.names f, x ∈ TM.names g) ∨ 8 < (TM.names f).length + (TM.names g).length
def sp_beside (C Cn : Addr) : Sp := fun vs H Q E => ∃ (a b : Addr) (f g : TM.Fo), vs = [.ref a, .ref b] ∧ TreeAt C H a f ∧ TreeAt C H b g ∧ FoOk f ∧ FoOk g ∧ (Clash f g → ∀ H', Same H H' → E (.ref Cn) none H') ∧
  (¬ Clash f g → ∀ H' p, Same H H' → H p = none → TreeAt C H' p (TM.app f g) → Q (.ref p) H')
theorem ok_beside {f Cn : Addr} {fd : FuncData} (F : Fn K mg "tree_beside" s_beside ["one", "other"] f fd) (T : Kd K mg fN fC fP fT fO dN dC dP dT dO) (D : Td K mg C fI fc fp fl fe dI dc dp dl de) (N : Ec K mg "NoColumns" Cn) :
    FnOk P w K mg base (L2.CX P w) 12 f fd ["one", "other"] (sp_beside C Cn) := by
  have B := T.B
  have GI : FnOk P w K mg base CX0 10 fI dI ["self", "pairs"] (sp_tinit C) := ok_tinit D.iF T D.c
  have Gc : FnOk P w K mg base CX0 1 fc dc ["self"] (sp_tcolumns C) := ok_tcolumns D.col.F B D.c
  have Gp : FnOk P w K mg base CX0 1 fp dp ["self"] (sp_tpairs C) := ok_tpairs D.prs.F B D.c
  refine F.F.okX sc_beside (fun vs H Q E h => ?_) (fun cdv A outer s H vs Q E hr h => ?_)
  · obtain ⟨a, b, f, g, rfl, _⟩ := h
    rfl
  · obtain ⟨a, b, f, g, rfl, ha, hb, fo, go, qE, qQ⟩ := h
    have hu := hu_of hr
    have hr1 : Room 1 _ := hr.mono (by decide)
    have hr11 : Room 11 _ := hr.mono (by decide)
    obtain ⟨tl, hmo⟩ := T.C.most
    refine ⟨_, pss_cons (ps_set (i := 2) sc_beside.nd rfl (Or.inr rfl) (pe_meth0 (pv 0) D.c.cl D.col.me Gc hr1 D.col.b .nil pass0))
      (pss_cons (ps_if (pt_val (pe_callB (cr_any rfl) (by rfl) B.any boot_any (pa_cons (pe_lc (own := [("column", 3)]) (g := gName 3) (tt := tYes) (te := tOp (rIn K false) (tVar 3) (tVar 2)) rfl sc_beside.nd (pi_list (pe_meth0 (pv 1) D.c.cl D.col.me Gc hr1 D.col.b .nil pass0))
            (blkOk_by (N := ["one", "other", "ones", "column"]) (sc := defScope s_beside) (by decide +kernel)) (fun _ _ _ _ _ => pg_name (i := 3) sc_beside.nd rfl (Or.inl rfl)) (fun _ _ _ _ _ => pts_nil) (fun _ _ _ _ _ => pe_cmpR op_in_seq (pv 3) (pv 2) rfl)) pa_nil)))
          (pss_one (ps_raise rfl (takes_of rfl rfl rfl rfl) (pmk_own PySem.F.excBase_ValueError N.ex N.g N.k (raises_own N.b N.t) (by exact rfl)))) pss_nil)
      (pss_cons (ps_if (pt_cmpR op_gt (pe_op op_add (pe_callB call_len_seq (by rfl) B.len PySem.boot_len (pa_cons (pv 2) pa_nil)) (pe_callB call_len_seq (by rfl) B.len PySem.boot_len (pa_cons (pe_meth0 (pv 1) D.c.cl D.col.me Gc hr1 D.col.b .nil pass0) pa_nil))) (pe_glob (v := .int 8) (by rfl) hmo ⟨_, rfl⟩) (nomark _))
          (pss_one (ps_raise rfl (takes_of rfl rfl rfl rfl) (pmk_own PySem.F.excBase_ValueError N.ex N.g N.k (raises_own N.b N.t) (by exact rfl)))) pss_nil)
      (pss_one (ps_ret (pe_make D.iM GI hr11 rfl D.c.g D.iB .nil pass0 (pa_cons (pe_op op_cat (pe_meth0 (pv 0) D.c.cl D.prs.me Gp hr1 D.prs.b .nil pass0) (pe_meth0 (pv 1) D.c.cl D.prs.me Gp hr1 D.prs.b .nil pass0)) pa_nil)))))), ?_⟩
    obtain ⟨dxa, la, da, ha1, ha2, ha3⟩ := id ha
    obtain ⟨dxb, lb, db, hb1, hb2, hb3⟩ := id hb
    have noc : ∀ l d, (tflds l d).lookup ("columns" : Str) = none := fun l d => tflds_no l d (by decide +kernel) (by decide +kernel)
    have nop : ∀ l d, (tflds l d).lookup ("pairs" : Str) = none := fun l d => tflds_no l d (by decide +kernel) (by decide +kernel)
    refine ⟨_, rfl, a, dxa, _, rfl, ha1, noc _ _, a, f, rfl, ha, fun H1 L1 s1 n1 e1 => ?_⟩
    refine ⟨_, rfl, b, dxb, _, rfl, s1 _ _ hb1, noc _ _, b, g, rfl, hb.same s1, fun H2 L2 s2 n2 e2 => ?_⟩
    refine ⟨L2, rfl, ⟨_, .of e2⟩, fun Dn nD => ?_⟩
    refine lc_it (walk_list (xs := (TM.names g).map V.str)) (fun i h => h Dn = some (.lst (((TM.names g).take i).map fun x => V.bl (decide (x ∈ TM.names f)))) ∧ Same H2 h)
      ⟨upd_same, Same.new nD⟩ (fun i h _ ⟨_, s⟩ => .of (s _ _ e2)) ?_ ?_
    · rintro i x h h' hi ⟨e4, s4⟩ ⟨rfl, hx⟩
      rw [List.length_map] at hi
      rw [List.getElem?_map] at hx
      obtain ⟨y, hy, rfl⟩ : ∃ y, (TM.names g)[i]? = some y ∧ x = V.str y := by
        rw [List.getElem?_eq_getElem hi] at hx
        exact ⟨_, List.getElem?_eq_getElem hi, (Option.some.inj hx).symm⟩
      refine ⟨rfl, ?_⟩
      refine ⟨_, rfl, _, rfl, L1, _, rfl, .inl (.of (s4 _ _ (s2 _ _ e1))), rfl, flat_strs _, _, e4, ?_, ?_, Same.mut s4 nD⟩
      · rw [List.length_map, List.length_take]
        have := go.le
        exact line100' (by omega)
      · rw [upd_same, inV_str, List.take_add_one, hy, List.map_append]
        rfl
    rintro h3 ⟨e4, s4⟩
    rw [List.length_map, List.take_length] at e4
    refine ⟨Dn, (TM.names g).map fun x => decide (x ∈ TM.names f), rfl, .of (by rw [e4, List.map_map]; rfl), _, rfl, ?_⟩
    have s3 : Same H h3 := (s1.trans s2).trans s4
    refine ite2 (fun hc => ?_) (fun hc => ?_)
    · refine qE (.inl ?_) h3 s3
      obtain ⟨x, hx, hx2⟩ := List.any_eq_true.mp hc
      obtain ⟨y, hy, rfl⟩ := List.mem_map.mp hx
      exact ⟨y, of_decide_eq_true hx2, hy⟩
    have hno : ¬ ∃ x ∈ TM.names f, x ∈ TM.names g := by
      rintro ⟨x, h1, h2⟩
      refine hc (List.any_eq_true.mpr ⟨decide (x ∈ TM.names f), List.mem_map.mpr ⟨x, h2, rfl⟩, decide_eq_true h1⟩)
    have e13 : h3 L1 = some (.lst ((TM.names f).map V.str)) := s4 _ _ (s2 _ _ e1)
    refine ⟨_, rfl, L1, _, rfl, .inl (.of e13), _, rfl, b, dxb, _, rfl, s3 _ _ hb1, noc _ _, b, g, rfl, hb.same s3, fun H4 L4 s5 n4 e5 => ?_⟩
    refine ⟨L4, _, rfl, .inl (.of e5), _, _, rfl, rfl, _, _, rfl, rfl, _, rfl, ?_⟩
    rw [List.length_map, List.length_map]
    have s6 : Same H H4 := s3.trans s5
    refine ite2 (fun hc2 => ?_) (fun hc2 => ?_)
    · have := of_decide_eq_true hc2
      exact qE (.inr (by omega)) H4 s6
    have hle : (TM.names f).length + (TM.names g).length ≤ 8 := Nat.le_of_not_lt fun hlt => hc2 (decide_eq_true (by omega))
    have hcl : ¬ Clash f g := fun z => z.elim hno (by omega)
    refine ⟨_, rfl, a, dxa, _, rfl, s6 _ _ ha1, nop _ _, a, f, rfl, ha.same s6, fo, fun H5 L5 s7 n5 p5 => ?_⟩
    have s8 : Same H H5 := s6.trans s7
    refine ⟨_, rfl, b, dxb, _, rfl, s8 _ _ hb1, nop _ _, b, g, rfl, hb.same s8, go, fun H6 L6 s9 n6 p6 => ?_⟩
    obtain ⟨as, ea, ta⟩ := p5.same s9
    obtain ⟨bs, eb, tb⟩ := p6
    have hal := ta.len
    have hbl := tb.len
    have f1 : (TM.flat f none).length = (TM.names f).length := by rw [← TM.flat_names f none, List.length_map]
    have f2 : (TM.flat g none).length = (TM.names g).length := by rw [← TM.flat_names g none, List.length_map]
    refine ⟨L5, L6, _, _, rfl, rfl, ea, eb, ?_, fun L7 n7 => ?_⟩
    · rw [List.length_map, List.length_map]
      exact line100 (by omega)
    have ao := fo.app go (fun x h1 h2 => hno ⟨x, h1, h2⟩) hle
    have p7 : PairsAt (upd H6 L7 (.lst (as.map V.ref ++ bs.map V.ref))) L7 (TM.flat (TM.app f g) none) := by
      refine ⟨as ++ bs, by rw [upd_same, List.map_append], ?_⟩
      rw [TM.flat_app]
      exact (ta.app tb).same (Same.new n7)
    intro x dx nx ndx hne
    have sx : Same (upd H6 L7 (.lst (as.map V.ref ++ bs.map V.ref))) (upd (upd (upd H6 L7 (.lst (as.map V.ref ++ bs.map V.ref))) dx (.own x)) x (.ins C dx [])) := fun c o e => by
      rw [upd_ne (ne_of_none e nx), upd_ne (ne_of_none e ndx)]
      exact e
    have va : TM.Valid [] (TM.flat (TM.app f g) none) := TM.valid_flat _ [] none (fun x e => nomatch e) (by simpa using ao.nd)
    refine ⟨x, L7, dx, TM.flat (TM.app f g) none, rfl, upd_same, p7.same sx, va, ?_, ?_, fun H8 t8 k8 => ⟨rfl, ?_⟩⟩
    · have : (TM.flat (TM.app f g) none).length = (TM.names (TM.app f g)).length := by rw [← TM.flat_names (TM.app f g) none, List.length_map]
      rw [this]
      exact ao.le
    · rw [TM.flat_names]
      exact ao.ok
    · rw [TM.mk_own ao.nd] at t8
      have s10 : Same H (upd H6 L7 (.lst (as.map V.ref ++ bs.map V.ref))) := (s8.trans s9).trans (Same.new n7)
      refine qQ hcl H8 x (fun c o e => k8 c o (ne_of_none (s10 _ _ e) nx) (sx _ _ (s10 _ _ e))) (s10.free nx) t8
end
end T15

set_option maxHeartbeats 1000000
namespace T15
open PySem L2 PyProof.Rows TX TY
section
variable {P : Program} {w : World} {K : PySem.W.Frag} {mg : Str → Option Value} {base : Heap}
variable {fN fC fP fT fO : Addr} {dN dC dP dT dO : FuncData}
variable {C fI fc fp fl fe : Addr} {dI dc dp dl de : FuncData}
/-- the errors: all refusals, no columns, no column, no tree -/
structure Er (K : PySem.W.Frag) (mg : Str → Option Value) (CF Cn Cl Ct : Addr) : Prop where
  n : Ec K mg "NoColumns" Cn
  gF : mg "FoldError" = some (.ref CF)
  gL : mg "NoColumn" = some (.ref Cl)
  gT : mg "NoTree" = some (.ref Ct)
  te : PySem.W.exmOne K (.ref Cn) (.ref CF) = some true
  xc : ExcC K Cn
  i1 : PySem.W.kitOne K (.ref Cn) (.ref Cn) = some true
  i2 : PySem.W.kitOne K (.ref Cn) (.ref Cl) = some false
  i3 : PySem.W.kitOne K (.ref Cn) (.ref Ct) = some false
theorem sc_said : FnScope ["_law_one", "_law_other", "_law_found", "e"] ["_law_one", "_law_other"] (defScope s_said) := ⟨rfl, rfl, rfl, by decide +kernel, rfl, by decide +kernel, by decide +kernel⟩
def t_said (K : PySem.W.Frag) (Cn Cl Ct : Addr) : Addr → Value → Option Addr → TS := fun a cls d => tSeq (tAsg (tC (.str "other")) (gName 2))
  (tIfS (tAnd (tB (tCB (rIsX K a cls d) (tCons (tVar 3) (tCons (tC (.ref Cn)) tNil)))) (tNot (tB (tCB (rIsX K a cls d) (tCons (tVar 3) (tCons (tTup (tCons (tC (.ref Cl)) (tCons (tC (.ref Ct)) tNil))) tNil))))))
    (tAsg (tC (.str "columns")) (gName 2)) tNext)
def sp_said (C : Addr) : Sp := fun vs H Q _ => ∃ (a b : Addr) (f g : TM.Fo), vs = [.ref a, .ref b] ∧ TreeAt C H a f ∧ TreeAt C H b g ∧ FoOk f ∧ FoOk g ∧ (Clash f g → ∀ H', Same H H' → Q (.str "columns") H') ∧
  (¬ Clash f g → ∀ H' p, Same H H' → H p = none → TreeAt C H' p (TM.app f g) → Q (.ref p) H')
theorem ok_said {f fb CF Cn Cl Ct : Addr} {fd fdb : FuncData} (F : Fn K mg "_law_said" s_said ["_law_one", "_law_other"] f fd) (FB : Fn K mg "tree_beside" s_beside ["one", "other"] fb fdb) (T : Kd K mg fN fC fP fT fO dN dC dP dT dO) (D : Td K mg C fI fc fp fl fe dI dc dp dl de) (N : Er K mg CF Cn Cl Ct) :
    FnOk P w K mg base CX0 13 f fd ["_law_one", "_law_other"] (sp_said C) := by
  have B := T.B
  have GB : FnOk P w K mg base (L2.CX P w) 12 fb fdb ["one", "other"] (sp_beside C Cn) := ok_beside FB T D N.n
  refine F.F.ok sc_said (fun vs H Q E h => ?_) (fun cdv A outer s H vs Q E hr h => ?_)
  · obtain ⟨a, b, f, g, rfl, _⟩ := h
    rfl
  · obtain ⟨a, b, f, g, rfl, ha, hb, fo, go, q1, q2⟩ := h
    refine ⟨_, pss_cons (ps_set (i := 2) sc_said.nd rfl (Or.inl rfl) pe_non)
      (pss_cons (ps_try_as (i := 3) (tb := fun W => tAsg (tCallS (sp_beside C Cn) (WE W) (tCons (tVar 0) (tCons (tVar 1) tNil))) (gName 2)) (ts := t_said K Cn Cl Ct) (Wout := fun _ _ _ _ => False) rfl rfl sc_said.nd rfl rfl ⟨rfl, by decide, Or.inl N.gF⟩ takes0
        (fun W pn xe tk _ => pss_one (ps_set (i := 2) sc_said.nd rfl (Or.inl rfl) (by exact (pe_callS GB hr rfl FB.g FB.F.kp FB.b (fun σ => passAt tk σ) (by exact (pa_cons (pv 0) (pa_cons (pv 1) pa_nil)))))))
        (fun a oe cls d pn hz hf => pss_cons (ps_set (i := 2) sc_said.nd rfl (Or.inl rfl) pe_str)
          (pss_one (ps_if (PW.pt (pw_and (pt_val (pe_callB (call_isX hz hf) (by rfl) B.isi boot_isinstance (pa_cons (pv 3) (pa_cons (pe_glob (v := .ref Cn) (by rfl) N.n.g rfl) pa_nil))))
            (pw_and1 (pt_not (pt_val (pe_callB (call_isX hz hf) (by rfl) B.isi boot_isinstance (pa_cons (pv 3) (pa_cons (pe_tup (pa_cons (pe_glob (v := .ref Cl) (by rfl) N.gL rfl) (pa_cons (pe_glob (v := .ref Ct) (by rfl) N.gT rfl) pa_nil))) pa_nil)))))))) (pss_one (ps_set (i := 2) sc_said.nd rfl (Or.inl rfl) pe_str)) pss_nil))))
      (pss_one (ps_ret (pv 2)))), ?_⟩
    refine ⟨_, rfl, _, rfl, a, b, f, g, rfl, ha, hb, fo, go, fun hc H1 s1 => ?_, fun hc H1 p s1 n1 t1 => ?_⟩
    · refine ⟨true, N.te, fun _ e0 ne0 => ?_, fun q => Bool.noConfusion q⟩
      refine ⟨_, rfl, Cn, _, true, rfl, rfl, N.xc, rfl, .inl ⟨_, .own Cn, N.i1⟩, true, rfl, ?_⟩
      refine ⟨_, rfl, two_le, fun T' nT => ?_⟩
      refine ⟨Cn, _, false, rfl, rfl, N.xc, rfl, .inr ⟨T', _, [.ref Cl, .ref Ct], rfl, upd_same, .cons (.own _) (.cons (.own _) .nil), ?_⟩, false, rfl, ?_⟩
      · exact kitAny_cons N.i2 (fun _ => kitAny_cons N.i3 (fun _ => kitAny_nil) (fun z => z)) (fun z => Bool.noConfusion z)
      · exact ⟨_, rfl, q1 hc _ (s1.trans (Same.new nT))⟩
    · exact ⟨_, rfl, q2 hc H1 p s1 n1 t1⟩
end
end T15

set_option maxHeartbeats 2000000
namespace T15
open PySem L2 PyProof.Rows TX TY
section
variable {P : Program} {w : World} {K : PySem.W.Frag} {mg : Str → Option Value} {base : Heap}
variable {fN fC fP fT fO : Addr} {dN dC dP dT dO : FuncData}
variable {C fI fc fp fl fe : Addr} {dI dc dp dl de : FuncData}
abbrev N_right : List Str := ["_law_well_here", "_law_shared", "_law_wide", "_law_names_here", "_law_pairs_here", "_law_begin", "_law_others", "_law_one", "_law_other", "_law_ahead", "_law_found", "_law_name", "_law_over"]
theorem sc_right : FnScope N_right ["_law_well_here"] (defScope s_right) := ⟨rfl, rfl, rfl, by decide +kernel, rfl, by decide +kernel, by decide +kernel⟩
def sp_right : Sp := fun vs H Q _ => ∃ W : Addr, vs = [.ref W] ∧ WellAt 1000 H W ∧ ∀ H', Sm W H H' → Q (.bl true) H'
/-- the defs of the statement that make what it asks -/
structure Ld (K : PySem.W.Frag) (mg : Str → Option Value) (gD gN gP gS gB : Addr) (eD eN eP eS eB : FuncData) : Prop where
  draw : Fn K mg "_law_draw" s_draw ["_law_well_here", "_law_top"] gD eD
  nms : Fn K mg "_law_names" s_names ["_law_well_here", "_law_count"] gN eN
  prs : Fn K mg "_law_pairs" s_pairs ["_law_well_here", "_law_names_here"] gP eP
  said : Fn K mg "_law_said" s_said ["_law_one", "_law_other"] gS eS
  bes : Fn K mg "tree_beside" s_beside ["one", "other"] gB eB
/-- the names of the pairs at L1 that stand in those at L2, too -/
theorem rd_common {H : Hp} {W L1 L2 : Addr} {as1 as2 : List Addr} {ps1 ps2 : List TM.Pr} {v1 v2 v3 v5 v7 v8 v9 v10 v11 v12 : Option V} {Q : VK} (e1 : H L1 = some (.lst (as1.map V.ref))) (t1 : TupsAt H as1 ps1) (e2 : H L2 = some (.lst (as2.map V.ref))) (t2 : TupsAt H as2 ps2)
    (nd2 : (ps2.map Prod.fst).Nodup) (l1 : ps1.length ≤ 8) (q : ∀ H' Dn, Same H H' → H' Dn = some (.lst (((ps1.filter fun q => decide (q.1 ∈ ps2.map Prod.fst)).map Prod.fst).map V.str)) → Q (.ref Dn) H') :
    tLc (iList K (tVar 4)) (gTup K 2 (gCons (gName 11) (gCons (gName 12) gNil))) (tB (tDIn (tVar 11) (tCB (rDP K) (tCons (tVar 6) tNil)))) (tVar 11) [11, 12]
      [some (.ref W), v1, v2, v3, some (.ref L1), v5, some (.ref L2), v7, v8, v9, v10, v11, v12] H Q := by
  refine ⟨_, rfl, L1, rfl, ⟨_, .of e1⟩, fun Dn nDn => ?_⟩
  refine lc_it (walk_list (xs := as1.map V.ref)) (fun i h => h Dn = some (.lst ((((ps1.take i).filter fun q => decide (q.1 ∈ ps2.map Prod.fst)).map Prod.fst).map V.str)) ∧ Same H h)
    ⟨upd_same, Same.new nDn⟩ (fun i h _ ⟨_, s⟩ => .of (s _ _ e1)) ?_ ?_
  · rintro i x h h' hi ⟨e4, s4⟩ ⟨rfl, hx⟩
    rw [List.length_map] at hi
    obtain ⟨a, ha, rfl⟩ : ∃ a, as1[i]? = some a ∧ x = V.ref a := by
      rw [List.getElem?_map, List.getElem?_eq_getElem hi] at hx
      exact ⟨as1[i], List.getElem?_eq_getElem hi, (Option.some.inj hx).symm⟩
    obtain ⟨⟨c, o⟩, hq, hta⟩ := t1.get ha
    have hal := t1.len
    refine ⟨a, _, rfl, .of (s4 _ _ hta), rfl, _, _, rfl, _, _, rfl, rfl, rfl, ?_⟩
    refine ⟨_, rfl, _, rfl, L2, as2, kvsOf ps2, rfl, .of (s4 _ _ e2), pairs_es (t2.same s4), fun d nd => ?_⟩
    have ed : upd h' d (.dK (mergeK [] (kvsOf ps2))) d = some (.dK (kvsOf ps2)) := by rw [upd_same, merge_nil nd2]
    have e5 : ∀ o, upd h' d o Dn = some (.lst ((((ps1.take i).filter fun q => decide (q.1 ∈ ps2.map Prod.fst)).map Prod.fst).map V.str)) := fun o => by rw [upd_ne (ne_of_none e4 nd)]; exact e4
    refine ⟨d, _, rfl, DGet.k (k := Sum.inr c) ed, _, rfl, ?_⟩
    rw [kvs_isSome nd2]
    have ht : ps1.take (i + 1) = ps1.take i ++ [(c, o)] := by rw [List.take_add_one, hq]; rfl
    by_cases hc : c ∈ ps2.map Prod.fst
    · rw [decide_eq_true hc]
      refine ⟨_, rfl, _, e5 _, ?_, ?_, Same.mut (s4.trans (Same.new nd)) nDn⟩
      · rw [List.length_map, List.length_map]
        have h1 := List.length_filter_le (fun q : TM.Pr => decide (q.1 ∈ ps2.map Prod.fst)) (ps1.take i)
        rw [List.length_take] at h1
        exact line100' (by omega)
      · rw [upd_same, ht, List.filter_append]
        have : List.filter (fun q : TM.Pr => decide (q.1 ∈ ps2.map Prod.fst)) [(c, o)] = [(c, o)] :=
          List.filter_cons_of_pos (p := fun q : TM.Pr => decide (q.1 ∈ ps2.map Prod.fst)) (a := (c, o)) (l := []) (decide_eq_true hc)
        rw [this, List.map_append, List.map_append]
        rfl
    · rw [decide_eq_false hc]
      refine ⟨?_, s4.trans (Same.new nd)⟩
      have : List.filter (fun q : TM.Pr => decide (q.1 ∈ ps2.map Prod.fst)) [(c, o)] = [] :=
        List.filter_cons_of_neg (p := fun q : TM.Pr => decide (q.1 ∈ ps2.map Prod.fst)) (a := (c, o)) (l := []) (fun z => hc (of_decide_eq_true z))
      rw [ht, List.filter_append, this, List.append_nil]
      exact e5 _
  · rintro h ⟨e4, s4⟩
    rw [List.length_map, t1.len, List.take_length] at e4
    exact q h Dn s4 e4
theorem ok_right {f CF Cn Cl Ct gD gN gP gS gB : Addr} {fd eD eN eP eS eB : FuncData} (F : Fn K mg "_law_right" s_right ["_law_well_here"] f fd) (T : Kd K mg fN fC fP fT fO dN dC dP dT dO)
    (D : Td K mg C fI fc fp fl fe dI dc dp dl de) (N : Er K mg CF Cn Cl Ct) (L : Ld K mg gD gN gP gS gB eD eN eP eS eB) : FnOk P w K mg base CX0 14 f fd ["_law_well_here"] sp_right := by
  have B := T.B
  have GD : FnOk P w K mg base CX0 1 gD eD ["_law_well_here", "_law_top"] sp_draw := ok_draw L.draw
  have GN : FnOk P w K mg base CX0 2 gN eN ["_law_well_here", "_law_count"] sp_names := ok_names L.nms B L.draw
  have GP : FnOk P w K mg base CX0 2 gP eP ["_law_well_here", "_law_names_here"] sp_pairs := ok_pairs L.prs B L.draw
  have GS : FnOk P w K mg base CX0 13 gS eS ["_law_one", "_law_other"] (sp_said C) := ok_said L.said L.bes T D N
  have GB : FnOk P w K mg base (L2.CX P w) 12 gB eB ["one", "other"] (sp_beside C Cn) := ok_beside L.bes T D N.n
  have GI : FnOk P w K mg base CX0 10 fI dI ["self", "pairs"] (sp_tinit C) := ok_tinit D.iF T D.c
  have Gp : FnOk P w K mg base CX0 1 fp dp ["self"] (sp_tpairs C) := ok_tpairs D.prs.F B D.c
  have Gl : FnOk P w K mg base CX0 1 fl dl ["self"] (sp_tlen C) := ok_tlen D.len.F B D.c
  have Ge : FnOk P w K mg base CX0 1 fe de ["self", "other"] (spEq (SameTree C)) := ok_teq D.eq.F B D.c
  refine F.F.ok sc_right (fun vs H Q E h => ?_) (fun cdv A outer s H vs Q E hr h => ?_)
  · obtain ⟨W, rfl, _⟩ := h
    rfl
  · obtain ⟨W, rfl, hW, q⟩ := h
    have hu := hu_of hr
    have hu64 := hr.units
    have r1 : Room 1 _ := hr.mono (by decide)
    have r2 : Room 2 _ := hr.mono (by decide)
    have r11 : Room 11 _ := hr.mono (by decide)
    have r12 : Room 12 _ := hr.mono (by decide)
    have nd := sc_right.nd
    refine ⟨_, pss_cons (ps_set (i := 1) nd rfl (Or.inl rfl) (pe_ix ix_list (pe_lst (pa_cons pe_int (pa_cons pe_int (pa_cons pe_int (pa_cons pe_int pa_nil))))) (pe_call GD r1 rfl L.draw.g L.draw.F.kp L.draw.b .nil pass0 (pa_cons (pv 0) (pa_cons pe_int pa_nil))) (fun _ _ => rfl)))
      (pss_cons (ps_set (i := 2) nd rfl (Or.inl rfl) (pe_call GD r1 rfl L.draw.g L.draw.F.kp L.draw.b .nil pass0 (pa_cons (pv 0) (pa_cons pe_int pa_nil))))
      (pss_cons (ps_set (i := 3) nd rfl (Or.inl rfl) (pe_call GN r2 rfl L.nms.g L.nms.F.kp L.nms.b .nil pass0 (pa_cons (pv 0) (pa_cons pe_int pa_nil))))
      (pss_cons (ps_set (i := 4) nd rfl (Or.inl rfl) (pe_call GP r2 rfl L.prs.g L.prs.F.kp L.prs.b .nil pass0 (pa_cons (pv 0) (pa_cons (pe_slice sl_list (pv 3) po_none (po_some (pv 2))) pa_nil))))
      (pss_cons (ps_set (i := 5) nd rfl (Or.inl rfl) (pe_callB (call_max2 rfl) (by rfl) B.max boot_max (pa_cons pe_int (pa_cons (pe_op op_sub (pv 2) (pv 1)) pa_nil))))
      (pss_cons (ps_set (i := 6) nd rfl (Or.inr rfl) (pe_call GP r2 rfl L.prs.g L.prs.F.kp L.prs.b .nil pass0 (pa_cons (pv 0) (pa_cons (pe_slice sl_list (pv 3) (po_some (pv 5))
          (po_some (pe_op op_add (pv 5) (pe_call GD r1 rfl L.draw.g L.draw.F.kp L.draw.b .nil pass0 (pa_cons (pv 0) (pa_cons pe_int pa_nil)))))) pa_nil))))
      (pss_cons (ps_par (i := 7) (j := 8) rfl nd rfl rfl (by decide) rfl rfl (pa_cons (pe_make D.iM GI r11 rfl D.c.g D.iB .nil pass0 (pa_cons (pv 4) pa_nil)) (pa_cons (pe_make D.iM GI r11 rfl D.c.g D.iB .nil pass0 (pa_cons (pv 6) pa_nil)) pa_nil)) rfl)
      (pss_cons (ps_set (i := 9) nd rfl (Or.inl rfl) (pe_lst (pa_cons (pe_meth0 (pv 7) D.c.cl D.prs.me Gp r1 D.prs.b .nil pass0) (pa_cons (pe_meth0 (pv 8) D.c.cl D.prs.me Gp r1 D.prs.b .nil pass0) pa_nil))))
      (pss_cons (ps_set (i := 10) nd rfl (Or.inl rfl) (pe_call GS hr rfl L.said.g L.said.F.kp L.said.b .nil pass0 (pa_cons (pv 7) (pa_cons (pv 8) pa_nil))))
      (pss_cons (ps_if (PW.pt (pw_or (pt_cmpR (op_neD hu64) (pe_lc (own := [("_law_name", 11), ("_law_over", 12)]) (g := gTup K 2 (gCons (gName 11) (gCons (gName 12) gNil))) (tt := tB (tDIn (tVar 11) (tCB (rDP K) (tCons (tVar 6) tNil)))) (te := tVar 11) rfl nd (pi_list (pv 4))
            (blkOk_by (N := N_right) (sc := defScope s_right) (by decide +kernel)) (fun _ _ _ _ _ => pg_tup rfl (pgs_cons (pg_name (i := 11) nd rfl (Or.inl rfl)) (pgs_cons (pg_name (i := 12) nd rfl (Or.inl rfl)) pgs_nil)))
            (fun _ _ _ _ _ => pts_one (pt_cmp (pc_din hu (pv 11) (pe_callTy (call_dP rfl) (by rfl) B.dict boot_dict (pa_cons (pv 6) pa_nil))))) (fun _ _ _ _ _ => pv 11)) (pe_lst pa_nil) (nomark _))
          (pw_or1 (pt_cmpR op_gt (pe_op op_add (pe_callB call_len_seq (by rfl) B.len PySem.boot_len (pa_cons (pv 4) pa_nil)) (pe_callB call_len_seq (by rfl) B.len PySem.boot_len (pa_cons (pv 6) pa_nil))) pe_int (nomark _)))))
        (pss_one (ps_ret (pe_and (pe_cmpR op_eq (pv 10) pe_str (nomark _)) (pe_one (pe_cmpR (op_eqD hu64) (pe_lst (pa_cons (pe_meth0 (pv 7) D.c.cl D.prs.me Gp r1 D.prs.b .nil pass0) (pa_cons (pe_meth0 (pv 8) D.c.cl D.prs.me Gp r1 D.prs.b .nil pass0) pa_nil))) (pv 9) (nomark _)))))) pss_nil)
      (pss_cons (ps_if (PW.pt (pw_or (pt_not (pt_val (pe_callB call_isi (by rfl) B.isi boot_isinstance (pa_cons (pv 10) (pa_cons (pe_glob (v := .ref C) (by rfl) D.c.g rfl) pa_nil)))))
          (pw_or1 (pt_cmpR (op_neD hu64) (pe_meth0 (pv 10) D.c.cl D.prs.me Gp r1 D.prs.b .nil pass0) (pe_op op_cat (pe_meth0 (pv 7) D.c.cl D.prs.me Gp r1 D.prs.b .nil pass0) (pe_meth0 (pv 8) D.c.cl D.prs.me Gp r1 D.prs.b .nil pass0)) (nomark _))))) (pss_one (ps_ret pe_bl)) pss_nil)
      (pss_cons (ps_if (PW.pt (pw_or (pt_cmpR (op_neD hu64) (pe_lst (pa_cons (pe_meth0 (pv 7) D.c.cl D.prs.me Gp r1 D.prs.b .nil pass0) (pa_cons (pe_meth0 (pv 8) D.c.cl D.prs.me Gp r1 D.prs.b .nil pass0) pa_nil))) (pv 9) (nomark _))
          (pw_or1 (pt_cmpR op_ne (pe_callB (call_lenO Gl D.len.me.at_ D.len.me.fn D.len.b pass0 r2) (by rfl) B.len PySem.boot_len (pa_cons (pv 10) pa_nil))
            (pe_op op_add (pe_callB call_len_seq (by rfl) B.len PySem.boot_len (pa_cons (pv 4) pa_nil)) (pe_callB call_len_seq (by rfl) B.len PySem.boot_len (pa_cons (pv 6) pa_nil))) (nomark _))))) (pss_one (ps_ret pe_bl)) pss_nil)
      (pss_one (ps_ret (pe_and (pe_cmpR (op_eqG (rcG_ins Ge D.eq.me.at_ D.eq.me.fn D.eq.b pass0) r1) (pe_call GB r12 rfl L.bes.g L.bes.F.kp L.bes.b .nil passL (pa_cons (pv 7) (pa_cons (pe_make D.iM GI r11 rfl D.c.g D.iB .nil pass0 (pa_cons (pe_lst pa_nil) pa_nil)) pa_nil))) (pv 7) (nomark _))
        (pe_one (pe_cmpR (op_eqG (rcG_ins Ge D.eq.me.at_ D.eq.me.fn D.eq.b pass0) r1) (pe_call GB r12 rfl L.bes.g L.bes.F.kp L.bes.b .nil passL (pa_cons (pe_make D.iM GI r11 rfl D.c.g D.iB .nil pass0 (pa_cons (pe_lst pa_nil) pa_nil)) (pa_cons (pv 8) pa_nil))) (pv 8) (nomark _))))))))))))))))), ?_⟩
    -- shared, wide
    refine ⟨by decide, fun p1 n1 => ?_⟩
    have pW1 : p1 ≠ W := (hW.ne n1).symm
    refine ⟨_, rfl, W, 4, 999, rfl, by decide, by decide, hW.new n1, fun H1 k hk s1 w1 => ?_⟩
    obtain ⟨sh, hsh, hsh2⟩ : ∃ sh : Nat, atI [V.int 0, V.int 0, V.int 1, V.int 2] (k : Int) = some (V.int (sh : Int)) ∧ sh ≤ 2 := by
      have : k = 0 ∨ k = 1 ∨ k = 2 ∨ k = 3 := by omega
      rcases this with e | e | e | e <;> subst e
      · exact ⟨0, rfl, by decide⟩
      · exact ⟨0, rfl, by decide⟩
      · exact ⟨1, rfl, by decide⟩
      · exact ⟨2, rfl, by decide⟩
    refine ⟨p1, _, _, _, rfl, rfl, .of (s1 _ _ pW1 upd_same), hsh, ?_⟩
    have m1 : Sm W H H1 := (Sm.new .rfl' n1).trans s1
    refine ⟨_, rfl, W, 9, 998, rfl, by decide, by decide, w1, fun H2 wd hwd s2 w2 => ?_⟩
    -- names
    refine ⟨_, rfl, W, 16, 987, rfl, by decide, w2, fun H3 Ln ns s3 w3 nLn LnW eLn lns ndn okn => ?_⟩
    have m3 : Sm W H H3 := (m1.trans s2).trans s3
    -- the pairs of the one
    obtain ⟨ms, ems, sms, lms⟩ := cut_strs ns none (some (wd : Int))
    rw [HT.sIx_none, HT.sIx_nat, lns] at lms
    refine ⟨_, rfl, _, rfl, _, rfl, _, rfl, Ln, _, rfl, .of eLn, fun pa npa => ?_⟩
    have paW : pa ≠ W := (w3.ne npa).symm
    have ms8 : ms.length ≤ 8 := by omega
    refine ⟨W, pa, ms, 900, rfl, by rw [upd_same, ems], paW, sms.nodup ndn, by omega, (w3.new npa).mono (by omega), fun H4 L1 ps1 s4 w4 nL1 L1W pr1 hf1 va1 => ?_⟩
    have eLn4 : H4 Ln = some (.lst (ns.map V.str)) := s4 _ _ LnW (by rw [upd_ne (ne_of_none eLn npa)]; exact eLn)
    have m4 : Sm W H H4 := (m3.new npa).trans s4
    -- begin
    refine ⟨_, rfl, _, rfl, _, _, rfl, rfl, _, _, rfl, ?_⟩
    have eb : (if ((wd : Int) - (sh : Int)) > 0 then ((wd : Int) - (sh : Int)) else 0) = ((wd - sh : Nat) : Int) := by split <;> omega
    dsimp only
    rw [eb]
    -- the pairs of the other
    refine ⟨_, rfl, _, rfl, _, rfl, _, rfl, _, rfl, _, rfl, W, 9, 899, rfl, by decide, by decide, w4, fun H5 r hr5 s5 w5 => ?_⟩
    have eLn5 : H5 Ln = some (.lst (ns.map V.str)) := s5 _ _ LnW eLn4
    refine ⟨_, _, rfl, rfl, _, rfl, Ln, _, rfl, .of eLn5, fun pb npb => ?_⟩
    dsimp only
    rw [show (((wd - sh : Nat) : Int) + (r : Int)) = ((wd - sh + r : Nat) : Int) by omega]
    obtain ⟨ms', ems', sms', lms'⟩ := cut_strs ns (some ((wd - sh : Nat) : Int)) (some ((wd - sh + r : Nat) : Int))
    rw [HT.sIx_nat, HT.sIx_nat, lns] at lms'
    have pbW : pb ≠ W := (w5.ne npb).symm
    have ms8' : ms'.length ≤ 8 := by omega
    refine ⟨W, pb, ms', 800, rfl, by rw [upd_same, ems'], pbW, sms'.nodup ndn, by omega, (w5.new npb).mono (by omega), fun H6 L2 ps2 s6 w6 nL2 L2W pr2 hf2 va2 => ?_⟩
    have m6 : Sm W H H6 := ((m4.trans s5).new npb).trans s6
    have pr1' : PairsAt H6 L1 ps1 := ((pr1.sm s5 ⟨_, w4⟩ L1W).same (Same.new npb)).sm s6 ⟨_, w5.new npb⟩ L1W
    obtain ⟨as1, e1, t1⟩ := id pr1'
    obtain ⟨as2, e2, t2⟩ := id pr2
    have l1 : ps1.length ≤ 8 := by rw [← List.length_map (f := Prod.fst), hf1]; exact ms8
    have l2 : ps2.length ≤ 8 := by rw [← List.length_map (f := Prod.fst), hf2]; exact ms8'
    have ok1 : ∀ x ∈ ps1.map Prod.fst, TM.NameOk x := fun x hx => okn x (sms.subset (hf1 ▸ hx))
    have ok2 : ∀ x ∈ ps2.map Prod.fst, TM.NameOk x := fun x hx => okn x (sms'.subset (hf2 ▸ hx))
    have fo1 := foOk_mk va1 l1 ok1
    have fo2 := foOk_mk va2 l2 ok2
    -- the trees
    refine ⟨_, rfl, fun x dx nx ndx hne => ?_⟩
    have sx : Same H6 (upd (upd H6 dx (.own x)) x (.ins C dx [])) := fun c o e => by rw [upd_ne (ne_of_none e nx), upd_ne (ne_of_none e ndx)]; exact e
    refine ⟨x, L1, dx, ps1, rfl, upd_same, pr1'.same sx, va1, l1, ok1, fun H7 tx k7 => ⟨rfl, ?_⟩⟩
    have s7 : Same H6 H7 := fun c o e => k7 c o (ne_of_none e nx) (sx _ _ e)
    refine ⟨_, rfl, fun y dy ny ndy hne2 => ?_⟩
    have sy : Same H7 (upd (upd H7 dy (.own y)) y (.ins C dy [])) := fun c o e => by rw [upd_ne (ne_of_none e ny), upd_ne (ne_of_none e ndy)]; exact e
    refine ⟨y, L2, dy, ps2, rfl, upd_same, (pr2.same s7).same sy, va2, l2, ok2, fun H8 ty k8 => ⟨rfl, ?_⟩⟩
    have s8' : Same H7 H8 := fun c o e => k8 c o (ne_of_none e ny) (sy _ _ e)
    have s8 : Same H6 H8 := s7.trans s8'
    have tx8 : TreeAt C H8 x (TM.mk ps1 none) := tx.same s8'
    refine ⟨_, _, rfl, ?_⟩
    have nop : ∀ l d, (tflds l d).lookup ("pairs" : Str) = none := fun l d => tflds_no l d (by decide +kernel) (by decide +kernel)
    obtain ⟨dx', lx, ddx, hx1, hx2, hx3⟩ := id tx8
    obtain ⟨dy', ly, ddy, hy1, hy2, hy3⟩ := id ty
    have psA : PsOk (TM.flat (TM.mk ps1 none) none) := PsOk.flat fo1
    have psB : PsOk (TM.flat (TM.mk ps2 none) none) := PsOk.flat fo2
    have nd2 := TM.valid_nodup va2
    -- ahead
    refine ⟨_, rfl, x, dx', _, rfl, hx1, nop _ _, x, _, rfl, tx8, fo1, fun H9 La s9 nLa pLa => ?_⟩
    refine ⟨_, rfl, y, dy', _, rfl, s9 _ _ hy1, nop _ _, y, _, rfl, ty.same s9, fo2, fun H10 Lb s10 nLb pLb => ?_⟩
    refine ⟨two_le, fun Lh nLh => ?_⟩
    have s11 : Same H8 (upd H10 Lh (.lst [.ref La, .ref Lb])) := (s9.trans s10).trans (Same.new nLh)
    have pLa1 := (pLa.same s10).same (Same.new (o := .lst [.ref La, .ref Lb]) nLh)
    have pLb1 := pLb.same (Same.new (o := .lst [.ref La, .ref Lb]) nLh)
    have o1 := ord_len va1
    have o2 := ord_len va2
    have i1 : ∀ c, c ∈ TM.names (TM.mk ps1 none) ↔ c ∈ ps1.map Prod.fst := fun c => (TM.ord_perm va1).mem_iff
    have i2 : ∀ c, c ∈ TM.names (TM.mk ps2 none) ↔ c ∈ ps2.map Prod.fst := fun c => (TM.ord_perm va2).mem_iff
    have hal1 := t1.len
    have hal2 := t2.len
    generalize hcm : ((ps1.filter fun q => decide (q.1 ∈ ps2.map Prod.fst)).map Prod.fst) = cm
    have cm_mem : ∀ c, c ∈ cm ↔ c ∈ ps1.map Prod.fst ∧ c ∈ ps2.map Prod.fst := by
      intro c
      rw [← hcm]
      constructor
      · intro h
        obtain ⟨q, hq, rfl⟩ := List.mem_map.mp h
        obtain ⟨h1, h2⟩ := List.mem_filter.mp hq
        exact ⟨List.mem_map.mpr ⟨q, h1, rfl⟩, of_decide_eq_true h2⟩
      · rintro ⟨h1, h2⟩
        obtain ⟨q, hq, rfl⟩ := List.mem_map.mp h1
        exact List.mem_map.mpr ⟨q, List.mem_filter.mpr ⟨hq, decide_eq_true h2⟩, rfl⟩
    have cm_ok : ∀ c ∈ cm, TM.NameOk c := fun c hc => ok1 c ((cm_mem c).mp hc).1
    have no_ok : ∀ c ∈ ([] : List Str), TM.NameOk c := fun c hc => nomatch hc
    -- what is said of both
    refine ⟨_, rfl, _, rfl, x, y, _, _, rfl, tx8.same s11, ty.same s11, fo1, fo2, fun hc H12 s12 => ?_, fun hc H12 z s12 nz tz => ?_⟩
    · have sA : Same H6 H12 := (s8.trans s11).trans s12
      have sB : Same H8 H12 := s11.trans s12
      dsimp only [tSeq, tIfS, tOr, tTest, tOp, gName]
      refine rd_common (K := K) (W := W) (v1 := some (.int (sh : Int))) (v2 := some (.int (wd : Int))) (v3 := some (.ref Ln)) (v5 := some (.int ((wd - sh : Nat) : Int))) (v7 := some (.ref x)) (v8 := some (.ref y)) (v9 := some (.ref Lh)) (v10 := some (.str "columns")) (v11 := none) (v12 := none) (sA _ _ e1) (t1.same sA) (sA _ _ e2) (t2.same sA) nd2 l1 fun H13 Dn s13 eDn => ?_
      rw [hcm] at eDn
      refine ⟨by decide, fun p0 np0 => ?_⟩
      refine ⟨dS cm, dS [], DpS (by rw [upd_ne (ne_of_none eDn np0)]; exact eDn), DpS upd_same, shS cm_ok, shS no_ok, _, rfl, ?_⟩
      rw [eqv_dS]
      have sC : Same H12 (upd H13 p0 (.lst [])) := s13.trans (Same.new np0)
      by_cases hm : cm = []
      · rw [decide_eq_true hm]
        refine ⟨_, rfl, L1, _, rfl, .inl (.of (sC _ _ (sA _ _ e1))), _, rfl, L2, _, rfl, .inl (.of (sC _ _ (sA _ _ e2))), _, _, rfl, rfl, _, _, rfl, rfl, _, rfl, ite2 (fun _ => ?_) (fun hf => ?_)⟩
        rotate_left
        · exfalso
          refine hf (decide_eq_true ?_)
          rw [List.length_map, List.length_map]
          rcases hc with ⟨c, h1, h2⟩ | hlt
          · have : c ∈ cm := (cm_mem c).mpr ⟨(i1 c).mp h1, (i2 c).mp h2⟩
            rw [hm] at this
            cases this
          · omega
        refine ⟨_, rfl, rfl, true, congrArg V.bl (decide_eq_true rfl), ?_⟩
        have sD := sB.trans sC
        refine ⟨_, rfl, x, dx', _, rfl, sD _ _ hx1, nop _ _, x, _, rfl, tx8.same sD, fo1, fun H14 Lc s14 nLc pLc => ?_⟩
        have sE := sD.trans s14
        refine ⟨_, rfl, y, dy', _, rfl, sE _ _ hy1, nop _ _, y, _, rfl, ty.same sE, fo2, fun H15 Ld s15 nLd pLd => ?_⟩
        refine ⟨two_le, fun Le nLe => ?_⟩
        have sF : Same H12 (upd H15 Le (.lst [.ref Lc, .ref Ld])) := ((sC.trans s14).trans s15).trans (Same.new nLe)
        refine ⟨_, rfl, _, _, Dp2 upd_same ((pLc.same s15).same (Same.new nLe)) (pLd.same (Same.new nLe)), Dp2 (sF _ _ (s12 _ _ upd_same)) ((pLa1.same s12).same sF) ((pLb1.same s12).same sF), sh2 psA psB, sh2 psA psB, ?_⟩
        rw [eqv_refl2]
        exact q _ (m6.trans (.of (sA.trans sF)))
      · rw [decide_eq_false hm]
        refine ⟨_, rfl, rfl, true, congrArg V.bl (decide_eq_true rfl), ?_⟩
        have sD := sB.trans sC
        refine ⟨_, rfl, x, dx', _, rfl, sD _ _ hx1, nop _ _, x, _, rfl, tx8.same sD, fo1, fun H14 Lc s14 nLc pLc => ?_⟩
        have sE := sD.trans s14
        refine ⟨_, rfl, y, dy', _, rfl, sE _ _ hy1, nop _ _, y, _, rfl, ty.same sE, fo2, fun H15 Ld s15 nLd pLd => ?_⟩
        refine ⟨two_le, fun Le nLe => ?_⟩
        have sF : Same H12 (upd H15 Le (.lst [.ref Lc, .ref Ld])) := ((sC.trans s14).trans s15).trans (Same.new nLe)
        refine ⟨_, rfl, _, _, Dp2 upd_same ((pLc.same s15).same (Same.new nLe)) (pLd.same (Same.new nLe)), Dp2 (sF _ _ (s12 _ _ upd_same)) ((pLa1.same s12).same sF) ((pLb1.same s12).same sF), sh2 psA psB, sh2 psA psB, ?_⟩
        rw [eqv_refl2]
        exact q _ (m6.trans (.of (sA.trans sF)))
    · have sA : Same H6 H12 := (s8.trans s11).trans s12
      have sB : Same H8 H12 := s11.trans s12
      have ao := fo1.app fo2 (fun c h1 h2 => hc (.inl ⟨c, h1, h2⟩)) (Nat.le_of_not_lt fun hlt => hc (.inr hlt))
      have psC : PsOk (TM.flat (TM.app (TM.mk ps1 none) (TM.mk ps2 none)) none) := PsOk.flat ao
      dsimp only [tSeq, tIfS, tOr, tTest, tOp, gName]
      refine rd_common (K := K) (W := W) (v1 := some (.int (sh : Int))) (v2 := some (.int (wd : Int))) (v3 := some (.ref Ln)) (v5 := some (.int ((wd - sh : Nat) : Int))) (v7 := some (.ref x)) (v8 := some (.ref y)) (v9 := some (.ref Lh)) (v10 := some (.ref z)) (v11 := none) (v12 := none) (sA _ _ e1) (t1.same sA) (sA _ _ e2) (t2.same sA) nd2 l1 fun H13 Dn s13 eDn => ?_
      rw [hcm] at eDn
      refine ⟨by decide, fun p0 np0 => ?_⟩
      refine ⟨dS cm, dS [], DpS (by rw [upd_ne (ne_of_none eDn np0)]; exact eDn), DpS upd_same, shS cm_ok, shS no_ok, _, rfl, ?_⟩
      have hm : cm = [] := by
        cases hcc : cm with
        | nil => rfl
        | cons c r =>
          exfalso
          obtain ⟨h1, h2⟩ := (cm_mem c).mp (by rw [hcc]; exact List.mem_cons_self)
          exact hc (.inl ⟨c, (i1 c).mpr h1, (i2 c).mpr h2⟩)
      rw [eqv_dS, decide_eq_true hm]
      have sC : Same H12 (upd H13 p0 (.lst [])) := s13.trans (Same.new np0)
      refine ⟨_, rfl, L1, _, rfl, .inl (.of (sC _ _ (sA _ _ e1))), _, rfl, L2, _, rfl, .inl (.of (sC _ _ (sA _ _ e2))), _, _, rfl, rfl, _, _, rfl, rfl, _, rfl, ite2 (fun hf => ?_) (fun _ => ?_)⟩
      · exfalso
        have h9 := of_decide_eq_true hf
        rw [List.length_map, List.length_map] at h9
        exact hc (.inr (by omega))
      -- the tree of both
      generalize upd H13 p0 (.lst []) = H14 at sC
      have sD := sB.trans sC
      have sG := sA.trans sC
      obtain ⟨dz, lz, ddz, hz1, hz2, hz3⟩ := tz.same sC
      have tz14 : TreeAt C H14 z (TM.app (TM.mk ps1 none) (TM.mk ps2 none)) := tz.same sC
      refine ⟨_, rfl, _, _, _, _, true, rfl, .own C, .base (.ins hz1 D.c.cl D.c.ins.ha D.c.ins.hn D.c.ins.htk D.c.ins.hm), D.c.ins.me, _, rfl, ?_⟩
      refine ⟨_, rfl, z, dz, _, rfl, hz1, nop _ _, z, _, rfl, tz14, ao, fun H15 Lz s15 nLz pLz => ?_⟩
      have sH := sD.trans s15
      refine ⟨_, rfl, x, dx', _, rfl, sH _ _ hx1, nop _ _, x, _, rfl, tx8.same sH, fo1, fun H16 Lc s16 nLc pLc => ?_⟩
      have sI := sH.trans s16
      refine ⟨_, rfl, y, dy', _, rfl, sI _ _ hy1, nop _ _, y, _, rfl, ty.same sI, fo2, fun H17 Ld s17 nLd pLd => ?_⟩
      obtain ⟨ac, ec, tc⟩ := pLc.same s17
      obtain ⟨ad, ed, td⟩ := id pLd
      have fc8 := fo1.le
      have fd8 := fo2.le
      have lc1 : (TM.flat (TM.mk ps1 none) none).length = (TM.names (TM.mk ps1 none)).length := by rw [← TM.flat_names (TM.mk ps1 none) none, List.length_map]
      have ld1 : (TM.flat (TM.mk ps2 none) none).length = (TM.names (TM.mk ps2 none)).length := by rw [← TM.flat_names (TM.mk ps2 none) none, List.length_map]
      have hcl := tc.len
      have hdl := td.len
      refine ⟨Lc, Ld, _, _, rfl, rfl, ec, ed, ?_, fun Le nLe => ?_⟩
      · rw [List.length_map, List.length_map]
        exact line100 (by omega)
      have pe : PairsAt (upd H17 Le (.lst (ac.map V.ref ++ ad.map V.ref))) Le (TM.flat (TM.mk ps1 none) none ++ TM.flat (TM.mk ps2 none) none) := PairsAt.app (a := Lc) (b := Ld) tc td (Same.new nLe) upd_same
      refine ⟨_, _, (((pLz.same s16).same s17).same (Same.new nLe)).dp, pe.dp, shP psC, shP (psA.app psB), _, rfl, ?_⟩
      rw [eqv_dP, decide_eq_true (TM.flat_app _ _ _)]
      -- all as it was ahead; how many
      have sJ : Same H8 (upd H17 Le (.lst (ac.map V.ref ++ ad.map V.ref))) := (sI.trans s17).trans (Same.new nLe)
      have sK : Same H14 (upd H17 Le (.lst (ac.map V.ref ++ ad.map V.ref))) := ((s15.trans s16).trans s17).trans (Same.new nLe)
      generalize upd H17 Le (.lst (ac.map V.ref ++ ad.map V.ref)) = H18 at sJ sK
      refine ⟨_, rfl, x, dx', _, rfl, sJ _ _ hx1, nop _ _, x, _, rfl, tx8.same sJ, fo1, fun H19 Lf s19 nLf pLf => ?_⟩
      have sL := sJ.trans s19
      refine ⟨_, rfl, y, dy', _, rfl, sL _ _ hy1, nop _ _, y, _, rfl, ty.same sL, fo2, fun H20 Lg s20 nLg pLg => ?_⟩
      refine ⟨two_le, fun Li nLi => ?_⟩
      have sM : Same H18 (upd H20 Li (.lst [.ref Lf, .ref Lg])) := (s19.trans s20).trans (Same.new nLi)
      have sN : Same H12 (upd H20 Li (.lst [.ref Lf, .ref Lg])) := (sC.trans sK).trans sM
      refine ⟨_, rfl, _, _, Dp2 upd_same ((pLf.same s20).same (Same.new nLi)) (pLg.same (Same.new nLi)), Dp2 (sN _ _ (s12 _ _ upd_same)) ((pLa1.same s12).same sN) ((pLb1.same s12).same sN), sh2 psA psB, sh2 psA psB, _, rfl, ?_⟩
      rw [eqv_refl2]
      generalize upd H20 Li (.lst [.ref Lf, .ref Lg]) = H21 at sM sN
      have sO := sK.trans sM
      have sP := sA.trans sN
      refine ⟨_, rfl, z, dz, _, rfl, sO _ _ hz1, z, _, rfl, tz14.same sO, _, rfl, Nat.le_trans ao.le (by decide), ?_⟩
      refine ⟨_, rfl, L1, _, rfl, .inl (.of (sP _ _ e1)), _, rfl, L2, _, rfl, .inl (.of (sP _ _ e2)), _, _, rfl, rfl, rfl, _, rfl, ite2 (fun hf => ?_) (fun _ => ?_)⟩
      · exfalso
        have hl : ((TM.names (TM.app (TM.mk ps1 none) (TM.mk ps2 none))).length : Int) = ((as1.map V.ref).length : Int) + ((as2.map V.ref).length : Int) := by
          rw [TM.names_app, List.length_append, List.length_map, List.length_map]
          omega
        rw [decide_eq_true (congrArg V.int hl)] at hf
        cases hf
      -- beside a tree without columns
      have sQ : Same H8 H21 := sJ.trans sM
      have mkn : TM.mk [] none = TM.Fo.nil := rfl
      refine ⟨_, rfl, by decide, fun pe0 npe0 => ?_⟩
      intro u du nu ndu hne3
      have su : Same H21 (upd (upd (upd H21 pe0 (.lst [])) du (.own u)) u (.ins C du [])) := fun c o e => by
        rw [upd_ne (ne_of_none (Same.new npe0 _ _ e) nu), upd_ne (ne_of_none (Same.new npe0 _ _ e) ndu)]
        exact Same.new npe0 _ _ e
      have pe1 : PairsAt (upd (upd (upd H21 pe0 (.lst [])) du (.own u)) u (.ins C du [])) pe0 [] := PairsAt.nil (by
        rw [upd_ne (ne_of_none upd_same nu), upd_ne (ne_of_none upd_same ndu), upd_same])
      refine ⟨u, pe0, du, [], rfl, upd_same, pe1, trivial, by decide, (fun _ h => nomatch h), fun H22 tu ku => ⟨rfl, ?_⟩⟩
      have s22 : Same H21 H22 := fun c o e => ku c o (ne_of_none (Same.new npe0 _ _ e) nu) (su _ _ e)
      rw [mkn] at tu
      refine ⟨x, u, _, .nil, rfl, (tx8.same sQ).same s22, tu, fo1, foOk_nil, fun hc2 => ?_, fun _ H23 v s23 nv tv => ?_⟩
      · exfalso
        rcases hc2 with ⟨c, _, h2⟩ | hlt
        · cases h2
        · have h0 : (TM.names TM.Fo.nil).length = 0 := rfl
          have := fo1.le
          omega
      rw [TM.app_nil] at tv
      have sR : Same H8 H23 := (sQ.trans s22).trans s23
      obtain ⟨dv, lv, ddv, hv1, hv2, hv3⟩ := id tv
      refine ⟨_, rfl, ⟨v, x, dv, dx', _, _, rfl, rfl, hv1, sR _ _ hx1, _, tv, tx8.same sR, fo1⟩, fun H24 s24 => ⟨true, rfl, ?_⟩⟩
      have sS : Same H8 H24 := sR.trans s24
      refine ⟨by decide, fun pe2 npe2 => ?_⟩
      intro t dt nt ndt hne4
      have st : Same H24 (upd (upd (upd H24 pe2 (.lst [])) dt (.own t)) t (.ins C dt [])) := fun c o e => by
        rw [upd_ne (ne_of_none (Same.new npe2 _ _ e) nt), upd_ne (ne_of_none (Same.new npe2 _ _ e) ndt)]
        exact Same.new npe2 _ _ e
      have pe3 : PairsAt (upd (upd (upd H24 pe2 (.lst [])) dt (.own t)) t (.ins C dt [])) pe2 [] := PairsAt.nil (by
        rw [upd_ne (ne_of_none upd_same nt), upd_ne (ne_of_none upd_same ndt), upd_same])
      refine ⟨t, pe2, dt, [], rfl, upd_same, pe3, trivial, by decide, (fun _ h => nomatch h), fun H25 tt kt => ⟨rfl, ?_⟩⟩
      have s25 : Same H24 H25 := fun c o e => kt c o (ne_of_none (Same.new npe2 _ _ e) nt) (st _ _ e)
      rw [mkn] at tt
      refine ⟨_, rfl, t, y, .nil, _, rfl, tt, (ty.same sS).same s25, foOk_nil, fo2, fun hc2 => ?_, fun _ H26 v2 s26 nv2 tv2 => ?_⟩
      · exfalso
        rcases hc2 with ⟨c, h1, _⟩ | hlt
        · cases h1
        · have h0 : (TM.names TM.Fo.nil).length = 0 := rfl
          have := fo2.le
          omega
      have e0 : TM.app TM.Fo.nil (TM.mk ps2 none) = TM.mk ps2 none := rfl
      rw [e0] at tv2
      have sT : Same H8 H26 := (sS.trans s25).trans s26
      obtain ⟨dw, lw, ddw, hw1, hw2, hw3⟩ := id tv2
      refine ⟨_, rfl, ⟨v2, y, dw, dy', _, _, rfl, rfl, hw1, sT _ _ hy1, _, tv2, ty.same sT, fo2⟩, fun H27 s27 => ?_⟩
      exact q _ (m6.trans (.of ((s8.trans sT).trans s27)))
end
end T15

set_option maxHeartbeats 2000000
namespace T15
open PySem L2 PyProof.Rows TX TY
section
variable {P : Program} {w : World} {K : PySem.W.Frag} {mg : Str → Option Value} {base : Heap}
variable {fN fC fP fT fO : Addr} {dN dC dP dT dO : FuncData}
variable {C fI fc fp fl fe : Addr} {dI dc dp dl de : FuncData}
theorem sc_law : FnScope ["_law_script", "_law_k", "_law_cell"] ["_law_script"] (defScope s_law) := ⟨rfl, rfl, rfl, by decide +kernel, rfl, by decide +kernel, by decide +kernel⟩
def sp_law (K : PySem.W.Frag) : Sp := fun vs H Q _ => ∃ (a : Addr) (ns : List Int), vs = [.ref a] ∧ SqL K H a (ns.map V.int) ∧ ns.length ≤ 63 ∧ ∀ H', Q (.bl true) H'
theorem ok_law {f gW gR CF Cn Cl Ct gD gN gP gS gB : Addr} {fd eW eR eD eN eP eS eB : FuncData} (F : Fn K mg "law" s_law ["_law_script"] f fd) (FW : Fn K mg "_law_well" s_well ["_law_cell", "_law_k"] gW eW) (FR : Fn K mg "_law_right" s_right ["_law_well_here"] gR eR)
    (T : Kd K mg fN fC fP fT fO dN dC dP dT dO) (D : Td K mg C fI fc fp fl fe dI dc dp dl de) (N : Er K mg CF Cn Cl Ct) (L : Ld K mg gD gN gP gS gB eD eN eP eS eB) : FnOk P w K mg base CX0 15 f fd ["_law_script"] (sp_law K) := by
  have B := T.B
  have GW : FnOk P w K mg base CX0 1 gW eW ["_law_cell", "_law_k"] sp_well := ok_well FW B
  have GR : FnOk P w K mg base CX0 14 gR eR ["_law_well_here"] sp_right := ok_right FR T D N L
  refine F.F.ok sc_law (fun vs H Q E h => ?_) (fun cdv A outer s H vs Q E hr h => ?_)
  · obtain ⟨a, ns, rfl, _⟩ := h
    rfl
  · obtain ⟨a, ns, rfl, hS, hl, q⟩ := h
    have r1 : Room 1 _ := hr.mono (by decide)
    refine ⟨_, pss_cons (ps_for PassesOwn.never rfl (pi_enum rfl B.enum (pa_cons (pe_op op_cat (pe_lst (pa_cons pe_int pa_nil)) (pe_slice sl_list (pv 0) po_none (po_some pe_int))) pa_nil))
        (pg_tup rfl (pgs_cons (pg_name (i := 1) sc_law.nd rfl (Or.inl rfl)) (pgs_cons (pg_name (i := 2) sc_law.nd rfl (Or.inl rfl)) pgs_nil)))
        (pss_one (ps_if (pt_not (pt_val (pe_call GR hr rfl FR.g FR.F.kp FR.b .nil pass0 (pa_cons (pe_call GW r1 rfl FW.g FW.F.kp FW.b .nil pass0 (pa_cons (pv 2) (pa_cons (pv 1) pa_nil))) pa_nil)))) (pss_one (ps_ret pe_bl)) pss_nil)))
      (pss_one (ps_ret pe_bl)), ?_⟩
    refine ⟨by decide, fun p1 n1 => ?_⟩
    have hS1 : SqL K (upd H p1 (.lst [.int 0])) a (ns.map V.int) := (Same.new n1).seq hS
    refine ⟨_, rfl, _, rfl, a, _, rfl, hS1, fun p2 n2 => ?_⟩
    obtain ⟨ms, ems, lms⟩ : ∃ ms : List Int, cutV (ns.map V.int) none (some 10) = ms.map V.int ∧ ms.length ≤ 10 := by
      refine ⟨(ns.drop (HT.sIx ns.length 0 none)).take (HT.sIx ns.length ns.length (some 10) - HT.sIx ns.length 0 none), ?_, ?_⟩
      · unfold cutV
        rw [List.length_map, List.map_take, List.map_drop]
      · rw [List.length_take, HT.sIx_none, show (some (10 : Int)) = some ((10 : Nat) : Int) from rfl, HT.sIx_nat]
        omega
    have e1 : upd (upd H p1 (.lst [.int 0])) p2 (.lst (cutV (ns.map V.int) none (some 10))) p1 = some (.lst [.int 0]) := by rw [upd_ne (ne_of_none upd_same n2)]; exact upd_same
    refine ⟨p1, p2, _, _, rfl, rfl, e1, upd_same, ?_, fun p3 n3 => ?_⟩
    · rw [ems, List.length_map]
      show 1 + _ ≤ sizeLine
      exact line100 (by omega)
    rw [ems]
    have e3 : ∀ h, upd h p3 (.lst ([V.int 0] ++ ms.map V.int)) p3 = some (.lst ((0 :: ms).map V.int)) := fun h => upd_same
    refine ⟨p3, (0 :: ms).map V.int, rfl, .of (e3 _), ?_⟩
    refine for_it (walk_enum (xs := (0 :: ms).map V.int)) (fun i σ H' => ∃ v1 v2 : Option V, σ = [some (.ref a), v1, v2] ∧ H' p3 = some (.lst ((0 :: ms).map V.int)))
      ⟨none, none, rfl, e3 _⟩ (fun i σ H1 _ ⟨_, _, _, e⟩ => .of e) ?_ ?_
    · rintro i x σ H1 H1' hi ⟨v1, v2, rfl, e4⟩ ⟨T', x1, x2, rfl, nT, rfl, hx1, hx2⟩
      rw [List.length_map] at hi
      obtain rfl : V.int (i : Int) = x1 := Option.some.inj hx1
      obtain ⟨cell, rfl⟩ : ∃ c : Int, x2 = V.int c := by
        have h2 : ((0 :: ms).map V.int)[i]? = some x2 := hx2
        rw [List.getElem?_map, List.getElem?_eq_getElem hi] at h2
        exact ⟨_, (Option.some.inj h2).symm⟩
      have hi11 : i < 11 := by
        rw [List.length_cons] at hi
        omega
      have e5 : upd H1 T' (.tup [.int (i : Int), .int cell]) p3 = some (.lst ((0 :: ms).map V.int)) := by rw [upd_ne (ne_of_none e4 nT)]; exact e4
      refine ⟨T', _, rfl, .of upd_same, rfl, _, _, rfl, _, _, rfl, rfl, ?_⟩
      refine ⟨_, rfl, _, rfl, cell, (i : Int), rfl, by omega, by omega, fun H2 W s2 nW wW => ?_⟩
      have hne : p3 ≠ W := ne_of_none e5 nW
      refine ⟨W, rfl, wW.mono (by decide), fun H3 s3 => ⟨true, rfl, ?_⟩⟩
      exact ⟨_, _, rfl, s3 _ _ hne (s2 _ _ e5)⟩
    · rintro σ H1 ⟨v1, v2, rfl, e4⟩
      exact q H1
end
end T15

set_option maxHeartbeats 4000000
namespace T15
open PySem L2 PyProof.Rows TX TY
theorem all_mk {l : PySem.W.OpenLaw} {w : World} {K : PySem.W.Frag} {h : Heap} {mg : Str → Option Value} {fa f_is_name f_is_name_in f_tree_beside f__told_overs f__is_pair f__in_order f__law_well f__law_draw f__law_names f__law_pairs f__law_said f__law_right f_law c_Tree f_Tree___init__ f_Tree_columns f_Tree_pairs f_Tree___len__ f_Tree___eq__ c_FoldError c_NoColumns c_NoColumn c_NoTree : Addr} (X : K.In h) (G : h.Ns mainGlobals mg) (hfa : mg "law" = some (.ref fa))
    {od1 an1 : Option Addr} {sl1 : Array (Option Value)} {oc1 kV1 dc1 pm1 cd1 ct1 : Value}
    {od2 an2 : Option Addr} {sl2 : Array (Option Value)} {oc2 kV2 dc2 pm2 cd2 ct2 : Value}
    {od3 an3 : Option Addr} {sl3 : Array (Option Value)} {oc3 kV3 dc3 pm3 cd3 ct3 : Value}
    {od4 an4 : Option Addr} {sl4 : Array (Option Value)} {oc4 kV4 dc4 pm4 cd4 ct4 : Value}
    {od5 an5 : Option Addr} {sl5 : Array (Option Value)} {oc5 kV5 dc5 pm5 cd5 ct5 : Value}
    {od6 an6 : Option Addr} {sl6 : Array (Option Value)} {oc6 kV6 dc6 pm6 cd6 ct6 : Value}
    {od7 an7 : Option Addr} {sl7 : Array (Option Value)} {oc7 kV7 dc7 pm7 cd7 ct7 : Value}
    {od8 an8 : Option Addr} {sl8 : Array (Option Value)} {oc8 kV8 dc8 pm8 cd8 ct8 : Value}
    {od9 an9 : Option Addr} {sl9 : Array (Option Value)} {oc9 kV9 dc9 pm9 cd9 ct9 : Value}
    {od10 an10 : Option Addr} {sl10 : Array (Option Value)} {oc10 kV10 dc10 pm10 cd10 ct10 : Value}
    {od11 an11 : Option Addr} {sl11 : Array (Option Value)} {oc11 kV11 dc11 pm11 cd11 ct11 : Value}
    {od12 an12 : Option Addr} {sl12 : Array (Option Value)} {oc12 kV12 dc12 pm12 cd12 ct12 : Value}
    {od13 an13 : Option Addr} {sl13 : Array (Option Value)} {oc13 kV13 dc13 pm13 cd13 ct13 : Value}
    {od14 an14 : Option Addr} {sl14 : Array (Option Value)} {oc14 kV14 dc14 pm14 cd14 ct14 : Value}
    {od15 an15 : Option Addr} {sl15 : Array (Option Value)} {oc15 kV15 dc15 pm15 cd15 ct15 : Value}
    {od16 an16 : Option Addr} {sl16 : Array (Option Value)} {oc16 kV16 dc16 pm16 cd16 ct16 : Value}
    {od17 an17 : Option Addr} {sl17 : Array (Option Value)} {oc17 kV17 dc17 pm17 cd17 ct17 : Value}
    {od18 an18 : Option Addr} {sl18 : Array (Option Value)} {oc18 kV18 dc18 pm18 cd18 ct18 : Value}
    {t_longest : Tok}
    {t_most : Tok}
    (a_is_name : PySem.W.nsIn K mainGlobals "is_name" = some (some (.ref f_is_name)))
    (l_is_name : K.lookup f_is_name = some ⟨oc1, od1, .func (PySem.W.fnOf "is_name" "is_name" (defArgs s_is_name) (defBody s_is_name) (defScope s_is_name) .none kV1 dc1 pm1 an1 cd1 ct1), sl1⟩)
    (o_is_name : PySem.W.codeIn K cd1 "is_name" = true)
    (k_is_name : PySem.W.keepIn K (.ref f_is_name) = true)
    (a_is_name_in : PySem.W.nsIn K mainGlobals "is_name_in" = some (some (.ref f_is_name_in)))
    (l_is_name_in : K.lookup f_is_name_in = some ⟨oc2, od2, .func (PySem.W.fnOf "is_name_in" "is_name_in" (defArgs s_is_name_in) (defBody s_is_name_in) (defScope s_is_name_in) .none kV2 dc2 pm2 an2 cd2 ct2), sl2⟩)
    (o_is_name_in : PySem.W.codeIn K cd2 "is_name_in" = true)
    (k_is_name_in : PySem.W.keepIn K (.ref f_is_name_in) = true)
    (a_tree_beside : PySem.W.nsIn K mainGlobals "tree_beside" = some (some (.ref f_tree_beside)))
    (l_tree_beside : K.lookup f_tree_beside = some ⟨oc3, od3, .func (PySem.W.fnOf "tree_beside" "tree_beside" (defArgs s_beside) (defBody s_beside) (defScope s_beside) .none kV3 dc3 pm3 an3 cd3 ct3), sl3⟩)
    (o_tree_beside : PySem.W.codeIn K cd3 "tree_beside" = true)
    (k_tree_beside : PySem.W.keepIn K (.ref f_tree_beside) = true)
    (a__told_overs : PySem.W.nsIn K mainGlobals "_told_overs" = some (some (.ref f__told_overs)))
    (l__told_overs : K.lookup f__told_overs = some ⟨oc4, od4, .func (PySem.W.fnOf "_told_overs" "_told_overs" (defArgs s_told) (defBody s_told) (defScope s_told) .none kV4 dc4 pm4 an4 cd4 ct4), sl4⟩)
    (o__told_overs : PySem.W.codeIn K cd4 "_told_overs" = true)
    (k__told_overs : PySem.W.keepIn K (.ref f__told_overs) = true)
    (a__is_pair : PySem.W.nsIn K mainGlobals "_is_pair" = some (some (.ref f__is_pair)))
    (l__is_pair : K.lookup f__is_pair = some ⟨oc5, od5, .func (PySem.W.fnOf "_is_pair" "_is_pair" (defArgs s_is_pair) (defBody s_is_pair) (defScope s_is_pair) .none kV5 dc5 pm5 an5 cd5 ct5), sl5⟩)
    (o__is_pair : PySem.W.codeIn K cd5 "_is_pair" = true)
    (k__is_pair : PySem.W.keepIn K (.ref f__is_pair) = true)
    (a__in_order : PySem.W.nsIn K mainGlobals "_in_order" = some (some (.ref f__in_order)))
    (l__in_order : K.lookup f__in_order = some ⟨oc6, od6, .func (PySem.W.fnOf "_in_order" "_in_order" (defArgs s_in_order) (defBody s_in_order) (defScope s_in_order) .none kV6 dc6 pm6 an6 cd6 ct6), sl6⟩)
    (o__in_order : PySem.W.codeIn K cd6 "_in_order" = true)
    (k__in_order : PySem.W.keepIn K (.ref f__in_order) = true)
    (a__law_well : PySem.W.nsIn K mainGlobals "_law_well" = some (some (.ref f__law_well)))
    (l__law_well : K.lookup f__law_well = some ⟨oc7, od7, .func (PySem.W.fnOf "_law_well" "_law_well" (defArgs s_well) (defBody s_well) (defScope s_well) .none kV7 dc7 pm7 an7 cd7 ct7), sl7⟩)
    (o__law_well : PySem.W.codeIn K cd7 "_law_well" = true)
    (k__law_well : PySem.W.keepIn K (.ref f__law_well) = true)
    (a__law_draw : PySem.W.nsIn K mainGlobals "_law_draw" = some (some (.ref f__law_draw)))
    (l__law_draw : K.lookup f__law_draw = some ⟨oc8, od8, .func (PySem.W.fnOf "_law_draw" "_law_draw" (defArgs s_draw) (defBody s_draw) (defScope s_draw) .none kV8 dc8 pm8 an8 cd8 ct8), sl8⟩)
    (o__law_draw : PySem.W.codeIn K cd8 "_law_draw" = true)
    (k__law_draw : PySem.W.keepIn K (.ref f__law_draw) = true)
    (a__law_names : PySem.W.nsIn K mainGlobals "_law_names" = some (some (.ref f__law_names)))
    (l__law_names : K.lookup f__law_names = some ⟨oc9, od9, .func (PySem.W.fnOf "_law_names" "_law_names" (defArgs s_names) (defBody s_names) (defScope s_names) .none kV9 dc9 pm9 an9 cd9 ct9), sl9⟩)
    (o__law_names : PySem.W.codeIn K cd9 "_law_names" = true)
    (k__law_names : PySem.W.keepIn K (.ref f__law_names) = true)
    (a__law_pairs : PySem.W.nsIn K mainGlobals "_law_pairs" = some (some (.ref f__law_pairs)))
    (l__law_pairs : K.lookup f__law_pairs = some ⟨oc10, od10, .func (PySem.W.fnOf "_law_pairs" "_law_pairs" (defArgs s_pairs) (defBody s_pairs) (defScope s_pairs) .none kV10 dc10 pm10 an10 cd10 ct10), sl10⟩)
    (o__law_pairs : PySem.W.codeIn K cd10 "_law_pairs" = true)
    (k__law_pairs : PySem.W.keepIn K (.ref f__law_pairs) = true)
    (a__law_said : PySem.W.nsIn K mainGlobals "_law_said" = some (some (.ref f__law_said)))
    (l__law_said : K.lookup f__law_said = some ⟨oc11, od11, .func (PySem.W.fnOf "_law_said" "_law_said" (defArgs s_said) (defBody s_said) (defScope s_said) .none kV11 dc11 pm11 an11 cd11 ct11), sl11⟩)
    (o__law_said : PySem.W.codeIn K cd11 "_law_said" = true)
    (k__law_said : PySem.W.keepIn K (.ref f__law_said) = true)
    (a__law_right : PySem.W.nsIn K mainGlobals "_law_right" = some (some (.ref f__law_right)))
    (l__law_right : K.lookup f__law_right = some ⟨oc12, od12, .func (PySem.W.fnOf "_law_right" "_law_right" (defArgs s_right) (defBody s_right) (defScope s_right) .none kV12 dc12 pm12 an12 cd12 ct12), sl12⟩)
    (o__law_right : PySem.W.codeIn K cd12 "_law_right" = true)
    (k__law_right : PySem.W.keepIn K (.ref f__law_right) = true)
    (a_law : PySem.W.nsIn K mainGlobals "law" = some (some (.ref f_law)))
    (l_law : K.lookup f_law = some ⟨oc13, od13, .func (PySem.W.fnOf "law" "law" (defArgs s_law) (defBody s_law) (defScope s_law) .none kV13 dc13 pm13 an13 cd13 ct13), sl13⟩)
    (o_law : PySem.W.codeIn K cd13 "law" = true)
    (k_law : PySem.W.keepIn K (.ref f_law) = true)
    (a_Tree : PySem.W.nsIn K mainGlobals "Tree" = some (some (.ref c_Tree)))
    (a_Tree___init__ : PySem.W.findIn K (.ref c_Tree) "__init__" = some (some (.ref f_Tree___init__)))
    (i_Tree___init__ : PySem.W.isFn K (.ref f_Tree___init__) = true)
    (l_Tree___init__ : K.lookup f_Tree___init__ = some ⟨oc14, od14, .func (PySem.W.fnOf "__init__" "Tree.__init__" (defArgs s_tinit) (defBody s_tinit) (defScope s_tinit) .none kV14 dc14 pm14 an14 cd14 ct14), sl14⟩)
    (o_Tree___init__ : PySem.W.codeIn K cd14 "Tree.__init__" = true)
    (k_Tree___init__ : PySem.W.keepIn K (.ref f_Tree___init__) = true)
    (a_Tree_columns : PySem.W.findIn K (.ref c_Tree) "columns" = some (some (.ref f_Tree_columns)))
    (i_Tree_columns : PySem.W.isFn K (.ref f_Tree_columns) = true)
    (l_Tree_columns : K.lookup f_Tree_columns = some ⟨oc15, od15, .func (PySem.W.fnOf "columns" "Tree.columns" (defArgs s_tcolumns) (defBody s_tcolumns) (defScope s_tcolumns) .none kV15 dc15 pm15 an15 cd15 ct15), sl15⟩)
    (o_Tree_columns : PySem.W.codeIn K cd15 "Tree.columns" = true)
    (k_Tree_columns : PySem.W.keepIn K (.ref f_Tree_columns) = true)
    (a_Tree_pairs : PySem.W.findIn K (.ref c_Tree) "pairs" = some (some (.ref f_Tree_pairs)))
    (i_Tree_pairs : PySem.W.isFn K (.ref f_Tree_pairs) = true)
    (l_Tree_pairs : K.lookup f_Tree_pairs = some ⟨oc16, od16, .func (PySem.W.fnOf "pairs" "Tree.pairs" (defArgs s_tpairs) (defBody s_tpairs) (defScope s_tpairs) .none kV16 dc16 pm16 an16 cd16 ct16), sl16⟩)
    (o_Tree_pairs : PySem.W.codeIn K cd16 "Tree.pairs" = true)
    (k_Tree_pairs : PySem.W.keepIn K (.ref f_Tree_pairs) = true)
    (a_Tree___len__ : PySem.W.findIn K (.ref c_Tree) "__len__" = some (some (.ref f_Tree___len__)))
    (i_Tree___len__ : PySem.W.isFn K (.ref f_Tree___len__) = true)
    (l_Tree___len__ : K.lookup f_Tree___len__ = some ⟨oc17, od17, .func (PySem.W.fnOf "__len__" "Tree.__len__" (defArgs s_tlen) (defBody s_tlen) (defScope s_tlen) .none kV17 dc17 pm17 an17 cd17 ct17), sl17⟩)
    (o_Tree___len__ : PySem.W.codeIn K cd17 "Tree.__len__" = true)
    (k_Tree___len__ : PySem.W.keepIn K (.ref f_Tree___len__) = true)
    (a_Tree___eq__ : PySem.W.findIn K (.ref c_Tree) "__eq__" = some (some (.ref f_Tree___eq__)))
    (i_Tree___eq__ : PySem.W.isFn K (.ref f_Tree___eq__) = true)
    (l_Tree___eq__ : K.lookup f_Tree___eq__ = some ⟨oc18, od18, .func (PySem.W.fnOf "__eq__" "Tree.__eq__" (defArgs s_teq) (defBody s_teq) (defScope s_teq) .none kV18 dc18 pm18 an18 cd18 ct18), sl18⟩)
    (o_Tree___eq__ : PySem.W.codeIn K cd18 "Tree.__eq__" = true)
    (k_Tree___eq__ : PySem.W.keepIn K (.ref f_Tree___eq__) = true)
    (pg_Tree : PySem.W.plainGet K c_Tree Str.empty = true)
    (hd_Tree : PySem.W.hasDictIn K c_Tree = true)
    (po_Tree : PySem.W.plainOver K c_Tree = true)
    (sa_Tree : PySem.W.findIn K (.ref c_Tree) "__setattr__" = some (some (.builtin "object.__setattr__")))
    (mk_Tree : PySem.W.makesIn K c_Tree = true)
    (kc_Tree : PySem.W.keepIn K (.ref c_Tree) = true)
    (ha_Tree : PySem.W.findIn K (.ref c_Tree) "__class__" = some (some (.builtin "object.__class__")))
    (hm_Tree : PySem.W.mroIn K c_Tree (.type "object") = some true)
    (me_Tree : PySem.W.kitOne K (.ref c_Tree) (.ref c_Tree) = some true)
    (n_Tree_columns : PySem.W.findIn K (.ref c_Tree) "_columns" = some none)
    (n_Tree_over : PySem.W.findIn K (.ref c_Tree) "_over" = some none)
    (hn : PySem.W.specialIn K (.builtin "object.__class__") "__get__" = some (some (.builtin "getset_descriptor.__get__")))
    (ht : PySem.W.takesIn K (.builtin "object.__class__") = some true)
    (a_FoldError : PySem.W.nsIn K mainGlobals "FoldError" = some (some (.ref c_FoldError)))
    (a_NoColumns : PySem.W.nsIn K mainGlobals "NoColumns" = some (some (.ref c_NoColumns)))
    (a_NoColumn : PySem.W.nsIn K mainGlobals "NoColumn" = some (some (.ref c_NoColumn)))
    (a_NoTree : PySem.W.nsIn K mainGlobals "NoTree" = some (some (.ref c_NoTree)))
    (g_longest : PySem.W.nsIn K mainGlobals "LONGEST_NAME" = some (some (.int 8 t_longest)))
    (g_most : PySem.W.nsIn K mainGlobals "MOST_COLUMNS" = some (some (.int 8 t_most)))
    (z_len : PySem.W.nsIn K mainGlobals "len" = some none)
    (z_isi : PySem.W.nsIn K mainGlobals "isinstance" = some none)
    (z_str : PySem.W.nsIn K mainGlobals "str" = some none)
    (z_list : PySem.W.nsIn K mainGlobals "list" = some none)
    (z_tuple : PySem.W.nsIn K mainGlobals "tuple" = some none)
    (z_dict : PySem.W.nsIn K mainGlobals "dict" = some none)
    (z_int : PySem.W.nsIn K mainGlobals "int" = some none)
    (z_range : PySem.W.nsIn K mainGlobals "range" = some none)
    (z_enum : PySem.W.nsIn K mainGlobals "enumerate" = some none)
    (z_all : PySem.W.nsIn K mainGlobals "all" = some none)
    (z_any : PySem.W.nsIn K mainGlobals "any" = some none)
    (z_max : PySem.W.nsIn K mainGlobals "max" = some none)
    (z_sorted : PySem.W.nsIn K mainGlobals "sorted" = some none)
    (xn : PySem.W.excIn K c_NoColumns [.type "ValueError", .type "Exception", .type "BaseException", .type "object"] "ValueError.__new__" = true)
    (kn : PySem.W.keepIn K (.ref c_NoColumns) = true)
    (bnn : PySem.W.subIn K (.ref c_NoColumns) (.type "BaseException") = some true)
    (tn : PySem.W.typeIn K (.ref c_NoColumns) = some (.type "type"))
    (bf : PySem.W.subIn K (.ref c_FoldError) (.type "BaseException") = some true)
    (hf : PySem.W.hasDictIn K c_FoldError = true)
    (tf : PySem.W.typeIn K (.ref c_FoldError) = some (.type "type"))
    (snf : PySem.W.subIn K (.ref c_NoColumns) (.ref c_FoldError) = some true)
    (xg : PySem.W.findIn K (.ref c_NoColumns) "__getattribute__" = some (some (.builtin "BaseException.__getattribute__")))
    (xk : PySem.W.findIn K (.ref c_NoColumns) "__getattr__" = some none)
    (xd : PySem.W.hasDictIn K c_NoColumns = true)
    (xa : PySem.W.findIn K (.ref c_NoColumns) "__class__" = some (some (.builtin "object.__class__")))
    (xm : PySem.W.mroIn K c_NoColumns (.type "object") = some true)
    (j1 : PySem.W.kitOne K (.ref c_NoColumns) (.ref c_NoColumns) = some true)
    (j2 : PySem.W.kitOne K (.ref c_NoColumns) (.ref c_NoColumn) = some false)
    (j3 : PySem.W.kitOne K (.ref c_NoColumns) (.ref c_NoTree) = some false)
    : ∃ fd : FuncData, (∀ (s : Shared) (v : Value), BindsTo s fd ⟨[v], []⟩ [("_law_script", v)]) ∧ ∀ base : Heap, K.In base → base.Ns mainGlobals mg → FnOk l.prog w K mg base CX0 15 fa fd ["_law_script"] (sp_law K) := by
  have e := hfa.symm.trans (PySem.W.mg_of X G a_law)
  cases e
  have F_is_name := fun_mk (st := s_is_name) l_is_name o_is_name k_is_name
  have b_is_name := F_is_name.binds (ps := ["thing"]) fun _ _ _ _ _ _ us hl => match us, hl with | [_], _ => rfl
  have N_is_name : Fn K mg "is_name" s_is_name ["thing"] f_is_name _ := ⟨F_is_name, PySem.W.mg_of X G a_is_name, b_is_name⟩
  have F_is_name_in := fun_mk (st := s_is_name_in) l_is_name_in o_is_name_in k_is_name_in
  have b_is_name_in := F_is_name_in.binds (ps := ["thing", "names"]) fun _ _ _ _ _ _ us hl => match us, hl with | [_, _], _ => rfl
  have N_is_name_in : Fn K mg "is_name_in" s_is_name_in ["thing", "names"] f_is_name_in _ := ⟨F_is_name_in, PySem.W.mg_of X G a_is_name_in, b_is_name_in⟩
  have F_tree_beside := fun_mk (st := s_beside) l_tree_beside o_tree_beside k_tree_beside
  have b_tree_beside := F_tree_beside.binds (ps := ["one", "other"]) fun _ _ _ _ _ _ us hl => match us, hl with | [_, _], _ => rfl
  have N_tree_beside : Fn K mg "tree_beside" s_beside ["one", "other"] f_tree_beside _ := ⟨F_tree_beside, PySem.W.mg_of X G a_tree_beside, b_tree_beside⟩
  have F__told_overs := fun_mk (st := s_told) l__told_overs o__told_overs k__told_overs
  have b__told_overs := F__told_overs.binds (ps := ["pairs"]) fun _ _ _ _ _ _ us hl => match us, hl with | [_], _ => rfl
  have N__told_overs : Fn K mg "_told_overs" s_told ["pairs"] f__told_overs _ := ⟨F__told_overs, PySem.W.mg_of X G a__told_overs, b__told_overs⟩
  have F__is_pair := fun_mk (st := s_is_pair) l__is_pair o__is_pair k__is_pair
  have b__is_pair := F__is_pair.binds (ps := ["thing", "overs"]) fun _ _ _ _ _ _ us hl => match us, hl with | [_, _], _ => rfl
  have N__is_pair : Fn K mg "_is_pair" s_is_pair ["thing", "overs"] f__is_pair _ := ⟨F__is_pair, PySem.W.mg_of X G a__is_pair, b__is_pair⟩
  have F__in_order := fun_mk (st := s_in_order) l__in_order o__in_order k__in_order
  have b__in_order := F__in_order.binds (ps := ["overs", "upper"]) fun _ _ _ _ _ _ us hl => match us, hl with | [_, _], _ => rfl
  have N__in_order : Fn K mg "_in_order" s_in_order ["overs", "upper"] f__in_order _ := ⟨F__in_order, PySem.W.mg_of X G a__in_order, b__in_order⟩
  have F__law_well := fun_mk (st := s_well) l__law_well o__law_well k__law_well
  have b__law_well := F__law_well.binds (ps := ["_law_cell", "_law_k"]) fun _ _ _ _ _ _ us hl => match us, hl with | [_, _], _ => rfl
  have N__law_well : Fn K mg "_law_well" s_well ["_law_cell", "_law_k"] f__law_well _ := ⟨F__law_well, PySem.W.mg_of X G a__law_well, b__law_well⟩
  have F__law_draw := fun_mk (st := s_draw) l__law_draw o__law_draw k__law_draw
  have b__law_draw := F__law_draw.binds (ps := ["_law_well_here", "_law_top"]) fun _ _ _ _ _ _ us hl => match us, hl with | [_, _], _ => rfl
  have N__law_draw : Fn K mg "_law_draw" s_draw ["_law_well_here", "_law_top"] f__law_draw _ := ⟨F__law_draw, PySem.W.mg_of X G a__law_draw, b__law_draw⟩
  have F__law_names := fun_mk (st := s_names) l__law_names o__law_names k__law_names
  have b__law_names := F__law_names.binds (ps := ["_law_well_here", "_law_count"]) fun _ _ _ _ _ _ us hl => match us, hl with | [_, _], _ => rfl
  have N__law_names : Fn K mg "_law_names" s_names ["_law_well_here", "_law_count"] f__law_names _ := ⟨F__law_names, PySem.W.mg_of X G a__law_names, b__law_names⟩
  have F__law_pairs := fun_mk (st := s_pairs) l__law_pairs o__law_pairs k__law_pairs
  have b__law_pairs := F__law_pairs.binds (ps := ["_law_well_here", "_law_names_here"]) fun _ _ _ _ _ _ us hl => match us, hl with | [_, _], _ => rfl
  have N__law_pairs : Fn K mg "_law_pairs" s_pairs ["_law_well_here", "_law_names_here"] f__law_pairs _ := ⟨F__law_pairs, PySem.W.mg_of X G a__law_pairs, b__law_pairs⟩
  have F__law_said := fun_mk (st := s_said) l__law_said o__law_said k__law_said
  have b__law_said := F__law_said.binds (ps := ["_law_one", "_law_other"]) fun _ _ _ _ _ _ us hl => match us, hl with | [_, _], _ => rfl
  have N__law_said : Fn K mg "_law_said" s_said ["_law_one", "_law_other"] f__law_said _ := ⟨F__law_said, PySem.W.mg_of X G a__law_said, b__law_said⟩
  have F__law_right := fun_mk (st := s_right) l__law_right o__law_right k__law_right
  have b__law_right := F__law_right.binds (ps := ["_law_well_here"]) fun _ _ _ _ _ _ us hl => match us, hl with | [_], _ => rfl
  have N__law_right : Fn K mg "_law_right" s_right ["_law_well_here"] f__law_right _ := ⟨F__law_right, PySem.W.mg_of X G a__law_right, b__law_right⟩
  have F_law := fun_mk (st := s_law) l_law o_law k_law
  have b_law := F_law.binds (ps := ["_law_script"]) fun _ _ _ _ _ _ us hl => match us, hl with | [_], _ => rfl
  have N_law : Fn K mg "law" s_law ["_law_script"] fa _ := ⟨F_law, PySem.W.mg_of X G a_law, b_law⟩
  have F_Tree___init__ := fun_mk (st := s_tinit) l_Tree___init__ o_Tree___init__ k_Tree___init__
  have b_Tree___init__ := F_Tree___init__.binds (ps := ["self", "pairs"]) fun _ _ _ _ _ _ us hl => match us, hl with | [_, _], _ => rfl
  have M_Tree___init__ : Mt K c_Tree "__init__" "Tree.__init__" s_tinit ["self", "pairs"] f_Tree___init__ _ := ⟨F_Tree___init__, ⟨a_Tree___init__, i_Tree___init__, k_Tree___init__⟩, b_Tree___init__⟩
  have F_Tree_columns := fun_mk (st := s_tcolumns) l_Tree_columns o_Tree_columns k_Tree_columns
  have b_Tree_columns := F_Tree_columns.binds (ps := ["self"]) fun _ _ _ _ _ _ us hl => match us, hl with | [_], _ => rfl
  have M_Tree_columns : Mt K c_Tree "columns" "Tree.columns" s_tcolumns ["self"] f_Tree_columns _ := ⟨F_Tree_columns, ⟨a_Tree_columns, i_Tree_columns, k_Tree_columns⟩, b_Tree_columns⟩
  have F_Tree_pairs := fun_mk (st := s_tpairs) l_Tree_pairs o_Tree_pairs k_Tree_pairs
  have b_Tree_pairs := F_Tree_pairs.binds (ps := ["self"]) fun _ _ _ _ _ _ us hl => match us, hl with | [_], _ => rfl
  have M_Tree_pairs : Mt K c_Tree "pairs" "Tree.pairs" s_tpairs ["self"] f_Tree_pairs _ := ⟨F_Tree_pairs, ⟨a_Tree_pairs, i_Tree_pairs, k_Tree_pairs⟩, b_Tree_pairs⟩
  have F_Tree___len__ := fun_mk (st := s_tlen) l_Tree___len__ o_Tree___len__ k_Tree___len__
  have b_Tree___len__ := F_Tree___len__.binds (ps := ["self"]) fun _ _ _ _ _ _ us hl => match us, hl with | [_], _ => rfl
  have M_Tree___len__ : Mt K c_Tree "__len__" "Tree.__len__" s_tlen ["self"] f_Tree___len__ _ := ⟨F_Tree___len__, ⟨a_Tree___len__, i_Tree___len__, k_Tree___len__⟩, b_Tree___len__⟩
  have F_Tree___eq__ := fun_mk (st := s_teq) l_Tree___eq__ o_Tree___eq__ k_Tree___eq__
  have b_Tree___eq__ := F_Tree___eq__.binds (ps := ["self", "other"]) fun _ _ _ _ _ _ us hl => match us, hl with | [_, _], _ => rfl
  have M_Tree___eq__ : Mt K c_Tree "__eq__" "Tree.__eq__" s_teq ["self", "other"] f_Tree___eq__ _ := ⟨F_Tree___eq__, ⟨a_Tree___eq__, i_Tree___eq__, k_Tree___eq__⟩, b_Tree___eq__⟩
  have B : Bn mg := ⟨PySem.W.mg_none_of X G z_len, PySem.W.mg_none_of X G z_isi, PySem.W.mg_none_of X G z_str, PySem.W.mg_none_of X G z_list, PySem.W.mg_none_of X G z_tuple, PySem.W.mg_none_of X G z_dict, PySem.W.mg_none_of X G z_int, PySem.W.mg_none_of X G z_range, PySem.W.mg_none_of X G z_enum, PySem.W.mg_none_of X G z_all, PySem.W.mg_none_of X G z_any, PySem.W.mg_none_of X G z_max, PySem.W.mg_none_of X G z_sorted⟩
  have Tk : Kd K mg f_is_name f_is_name_in f__is_pair f__told_overs f__in_order _ _ _ _ _ := ⟨B, ⟨⟨_, PySem.W.mg_of X G g_longest⟩, ⟨_, PySem.W.mg_of X G g_most⟩⟩, N_is_name, N_is_name_in, N__is_pair, N__told_overs, N__in_order⟩
  have Dk : Td K mg c_Tree f_Tree___init__ f_Tree_columns f_Tree_pairs f_Tree___len__ f_Tree___eq__ _ _ _ _ _ := ⟨⟨⟨pg_Tree, hd_Tree, po_Tree, sa_Tree⟩, n_Tree_columns, n_Tree_over, PySem.W.mg_of X G a_Tree, ⟨ha_Tree, hn, ht, hm_Tree, me_Tree⟩⟩, F_Tree___init__, ⟨mk_Tree, a_Tree___init__, i_Tree___init__, kc_Tree⟩, b_Tree___init__, M_Tree_columns, M_Tree_pairs, M_Tree___len__, M_Tree___eq__⟩
  have Nk : Er K mg c_FoldError c_NoColumns c_NoColumn c_NoTree := ⟨⟨xn, PySem.W.mg_of X G a_NoColumns, kn, bnn, tn⟩, PySem.W.mg_of X G a_FoldError, PySem.W.mg_of X G a_NoColumn, PySem.W.mg_of X G a_NoTree, PySem.W.exm_ref bf hf tf snf, ⟨xg, xk, bnn, xd, xa, hn, ht, xm⟩, j1, j2, j3⟩
  have Lk : Ld K mg f__law_draw f__law_names f__law_pairs f__law_said f_tree_beside _ _ _ _ _ := ⟨N__law_draw, N__law_names, N__law_pairs, N__law_said, N_tree_beside⟩
  exact ⟨PySem.W.fnOf "law" "law" (defArgs s_law) (defBody s_law) (defScope s_law) .none kV13 dc13 pm13 an13 cd13 ct13, fun s v => .of_eq rfl, fun base _ _ => ok_law N_law N__law_well N__law_right Tk Dk Nk Lk⟩
end T15
open PySem PySem.W PyProof.Rows
set_option maxRecDepth 100000 in
set_option maxHeartbeats 0 in
theorem PySem.Challenge.cw_foldbough_k15_trees_beside_holds : PySem.Challenge.rw_foldbough_k15_trees_beside.Holds := by
  w_on; o_law; k_head; (case hw => w_witness2)
  k_fill
  refine L2.walk_of (l := PySem.Challenge.rw_foldbough_k15_trees_beside) (n := 63) (k := 15) (x := "_law_script") (CX := fun _ => L2.CX0) (sp := fun w => T15.sp_law (_)) rfl (by decide) rfl ⟨rfl, by decide, by decide⟩ (fun w h Y => PySem.W.kIn_of Y) ?F (fun _ _ a ns hl _ hS => ⟨a, ns, rfl, hS, hl, fun _ => rfl⟩) (fun _ _ _ _ _ z => z)
  case F =>
    intro w mg fa h KX G hmg
    refine' T15.all_mk KX G hmg ?a_is_name ?l_is_name ?o_is_name ?k_is_name ?a_is_name_in ?l_is_name_in ?o_is_name_in ?k_is_name_in ?a_tree_beside ?l_tree_beside ?o_tree_beside ?k_tree_beside ?a__told_overs ?l__told_overs ?o__told_overs ?k__told_overs ?a__is_pair ?l__is_pair ?o__is_pair ?k__is_pair ?a__in_order ?l__in_order ?o__in_order ?k__in_order ?a__law_well ?l__law_well ?o__law_well ?k__law_well ?a__law_draw ?l__law_draw ?o__law_draw ?k__law_draw ?a__law_names ?l__law_names ?o__law_names ?k__law_names ?a__law_pairs ?l__law_pairs ?o__law_pairs ?k__law_pairs ?a__law_said ?l__law_said ?o__law_said ?k__law_said ?a__law_right ?l__law_right ?o__law_right ?k__law_right ?a_law ?l_law ?o_law ?k_law ?a_Tree ?a_Tree___init__ ?i_Tree___init__ ?l_Tree___init__ ?o_Tree___init__ ?k_Tree___init__ ?a_Tree_columns ?i_Tree_columns ?l_Tree_columns ?o_Tree_columns ?k_Tree_columns ?a_Tree_pairs ?i_Tree_pairs ?l_Tree_pairs ?o_Tree_pairs ?k_Tree_pairs ?a_Tree___len__ ?i_Tree___len__ ?l_Tree___len__ ?o_Tree___len__ ?k_Tree___len__ ?a_Tree___eq__ ?i_Tree___eq__ ?l_Tree___eq__ ?o_Tree___eq__ ?k_Tree___eq__ ?pg_Tree ?hd_Tree ?po_Tree ?sa_Tree ?mk_Tree ?kc_Tree ?ha_Tree ?hm_Tree ?me_Tree ?n_Tree_columns ?n_Tree_over ?hn ?ht ?a_FoldError ?a_NoColumns ?a_NoColumn ?a_NoTree ?g_longest ?g_most ?z_len ?z_isi ?z_str ?z_list ?z_tuple ?z_dict ?z_int ?z_range ?z_enum ?z_all ?z_any ?z_max ?z_sorted ?xn ?kn ?bnn ?tn ?bf ?hf ?tf ?snf ?xg ?xk ?xd ?xa ?xm ?j1 ?j2 ?j3
    (case a_is_name => k_is)
    (case l_is_name => k_is)
    (case o_is_name => k_is)
    (case k_is_name => k_is)
    (case a_is_name_in => k_is)
    (case l_is_name_in => k_is)
    (case o_is_name_in => k_is)
    (case k_is_name_in => k_is)
    (case a_tree_beside => k_is)
    (case l_tree_beside => k_is)
    (case o_tree_beside => k_is)
    (case k_tree_beside => k_is)
    (case a__told_overs => k_is)
    (case l__told_overs => k_is)
    (case o__told_overs => k_is)
    (case k__told_overs => k_is)
    (case a__is_pair => k_is)
    (case l__is_pair => k_is)
    (case o__is_pair => k_is)
    (case k__is_pair => k_is)
    (case a__in_order => k_is)
    (case l__in_order => k_is)
    (case o__in_order => k_is)
    (case k__in_order => k_is)
    (case a__law_well => k_is)
    (case l__law_well => k_is)
    (case o__law_well => k_is)
    (case k__law_well => k_is)
    (case a__law_draw => k_is)
    (case l__law_draw => k_is)
    (case o__law_draw => k_is)
    (case k__law_draw => k_is)
    (case a__law_names => k_is)
    (case l__law_names => k_is)
    (case o__law_names => k_is)
    (case k__law_names => k_is)
    (case a__law_pairs => k_is)
    (case l__law_pairs => k_is)
    (case o__law_pairs => k_is)
    (case k__law_pairs => k_is)
    (case a__law_said => k_is)
    (case l__law_said => k_is)
    (case o__law_said => k_is)
    (case k__law_said => k_is)
    (case a__law_right => k_is)
    (case l__law_right => k_is)
    (case o__law_right => k_is)
    (case k__law_right => k_is)
    (case a_law => k_is)
    (case l_law => k_is)
    (case o_law => k_is)
    (case k_law => k_is)
    (case a_Tree => k_is)
    (case a_Tree___init__ => k_is)
    (case i_Tree___init__ => k_is)
    (case l_Tree___init__ => k_is)
    (case o_Tree___init__ => k_is)
    (case k_Tree___init__ => k_is)
    (case a_Tree_columns => k_is)
    (case i_Tree_columns => k_is)
    (case l_Tree_columns => k_is)
    (case o_Tree_columns => k_is)
    (case k_Tree_columns => k_is)
    (case a_Tree_pairs => k_is)
    (case i_Tree_pairs => k_is)
    (case l_Tree_pairs => k_is)
    (case o_Tree_pairs => k_is)
    (case k_Tree_pairs => k_is)
    (case a_Tree___len__ => k_is)
    (case i_Tree___len__ => k_is)
    (case l_Tree___len__ => k_is)
    (case o_Tree___len__ => k_is)
    (case k_Tree___len__ => k_is)
    (case a_Tree___eq__ => k_is)
    (case i_Tree___eq__ => k_is)
    (case l_Tree___eq__ => k_is)
    (case o_Tree___eq__ => k_is)
    (case k_Tree___eq__ => k_is)
    (case pg_Tree => k_is)
    (case hd_Tree => k_is)
    (case po_Tree => k_is)
    (case sa_Tree => k_is)
    (case mk_Tree => k_is)
    (case kc_Tree => k_is)
    (case ha_Tree => k_is)
    (case hm_Tree => k_is)
    (case me_Tree => kit_is)
    (case n_Tree_columns => k_is)
    (case n_Tree_over => k_is)
    (case hn => k_is)
    (case ht => k_is)
    (case a_FoldError => k_is)
    (case a_NoColumns => k_is)
    (case a_NoColumn => k_is)
    (case a_NoTree => k_is)
    (case g_longest => k_is)
    (case g_most => k_is)
    (case z_len => k_is)
    (case z_isi => k_is)
    (case z_str => k_is)
    (case z_list => k_is)
    (case z_tuple => k_is)
    (case z_dict => k_is)
    (case z_int => k_is)
    (case z_range => k_is)
    (case z_enum => k_is)
    (case z_all => k_is)
    (case z_any => k_is)
    (case z_max => k_is)
    (case z_sorted => k_is)
    (case xn => k_exc)
    (case kn => k_is)
    (case bnn => k_is)
    (case tn => k_is)
    (case bf => k_is)
    (case hf => k_is)
    (case tf => k_is)
    (case snf => k_is)
    (case xg => k_is)
    (case xk => k_is)
    (case xd => k_is)
    (case xa => k_is)
    (case xm => k_is)
    (case j1 => kit_is)
    (case j2 => kit_is)
    (case j3 => kit_is)

