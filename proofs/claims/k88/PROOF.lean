import PyProof.Rows.All
import Wide.All
import OpenK.AllK
import Wide.FinOn
import HandS.ForMost
import HandS.Exc
import HandS.TryOnly
import HandS.ExcOwn
import HandS.WordsExc
import HandS.IsInst
import HandS.ExcIs
import HandS.DictComp
import HandS.Walk
import HandS.Conv
import HandS.Codes
import HandS.OwnEq
import KE.KExcIs
import HandS.ExcInit
import HandS.ExcField
import HandS.Style
import HandS.Defaults
import PyProof.Rows.Range3
import HandS.FStr
import HandS.TupAny
import HandS.ListItems
import HandS.WordsDict
import HandS.TupMul
import HandS.Ends
import KE.KExcStr
import KE.RegKIsAll
import PySem.Challenge.RW_foldbough_k88_what_shows_no_tree
set_option Elab.async false
set_option linter.all false
set_option maxRecDepth 100000
/-! Mathematics of forests of names told as lists of pairs. -/
namespace TM
open PySem L2
/-- one to eight small letters -/
def NameOk (s : Str) : Prop := 1 ≤ s.length ∧ s.length ≤ 8 ∧ ∀ c ∈ s.cps.toList, 97 ≤ c ∧ c ≤ 122
inductive Fo where
  | nil
  | cons (c : Str) (kids rest : Fo)
abbrev Pr := Str × Option Str
def flat : Fo → Option Str → List Pr
  | .nil, _ => []
  | .cons c k r, u => (c, u) :: (flat k (some c) ++ flat r u)
def names : Fo → List Str
  | .nil => []
  | .cons c k r => c :: (names k ++ names r)
def app : Fo → Fo → Fo
  | .nil, g => g
  | .cons c k r, g => .cons c k (app r g)
/-- the forest beneath u of a list of pairs in which overs stand ahead -/
def mk : List Pr → Option Str → Fo
  | [], _ => .nil
  | (c, o) :: r, u => if o = u then .cons c (mk r (some c)) (mk r u) else mk r u
def ord (ps : List Pr) (u : Option Str) : List Str := names (mk ps u)
theorem ord_nil (u : Option Str) : ord [] u = [] := rfl
theorem ord_cons (c : Str) (o : Option Str) (r : List Pr) (u : Option Str) : ord ((c, o) :: r) u = if o = u then c :: (ord r (some c) ++ ord r u) else ord r u := by
  unfold ord
  show names (if o = u then .cons c (mk r (some c)) (mk r u) else mk r u) = _
  split <;> rfl
theorem flat_names : ∀ (f : Fo) (u : Option Str), (flat f u).map Prod.fst = names f
  | .nil, _ => rfl
  | .cons c k r, u => by
    show c :: ((flat k (some c) ++ flat r u).map Prod.fst) = c :: (names k ++ names r)
    rw [List.map_append, flat_names k, flat_names r]
theorem flat_app : ∀ (f g : Fo) (u : Option Str), flat (app f g) u = flat f u ++ flat g u
  | .nil, _, _ => rfl
  | .cons c k r, g, u => by
    show (c, u) :: (flat k (some c) ++ flat (app r g) u) = (c, u) :: (flat k (some c) ++ flat r u) ++ flat g u
    rw [flat_app r g u, List.cons_append, List.append_assoc]
theorem names_app : ∀ (f g : Fo), names (app f g) = names f ++ names g
  | .nil, _ => rfl
  | .cons c k r, g => by
    show c :: (names k ++ names (app r g)) = c :: (names k ++ names r) ++ names g
    rw [names_app r g, List.cons_append, List.append_assoc]
theorem app_nil : ∀ f : Fo, app f .nil = f
  | .nil => rfl
  | .cons c k r => by show Fo.cons c k (app r .nil) = _; rw [app_nil r]
/-- every over told is none, or a name that is told ahead; names unlike -/
def Valid : List Str → List Pr → Prop
  | _, [] => True
  | seen, (c, o) :: r => c ∉ seen ∧ (∀ x, o = some x → x ∈ seen) ∧ Valid (seen ++ [c]) r
theorem valid_notin : ∀ {ps : List Pr} {seen : List Str} {x : Str}, Valid seen ps → x ∈ seen → x ∉ ps.map Prod.fst
  | [], _, _, _, _ => by simp
  | (c, o) :: r, seen, x, h, hx => by
    obtain ⟨h1, _, h3⟩ := h
    have ih := valid_notin (x := x) h3 (List.mem_append_left _ hx)
    simp only [List.map_cons, List.mem_cons, not_or]
    exact ⟨fun e => h1 (e ▸ hx), ih⟩
theorem valid_nodup : ∀ {ps : List Pr} {seen : List Str}, Valid seen ps → (ps.map Prod.fst).Nodup
  | [], _, _ => by simp
  | (c, o) :: r, seen, h => by
    obtain ⟨_, _, h3⟩ := h
    simp only [List.map_cons, List.nodup_cons]
    exact ⟨valid_notin h3 (by simp), valid_nodup h3⟩
/-- nothing stands beneath a name that is told nowhere as an over -/
theorem mk_none : ∀ {ps : List Pr} {u : Option Str}, (∀ p ∈ ps, p.2 ≠ u) → mk ps u = .nil
  | [], _, _ => rfl
  | (c, o) :: r, u, h => by
    show (if o = u then _ else mk r u) = _
    rw [if_neg (h (c, o) List.mem_cons_self)]
    exact mk_none fun p hp => h p (List.mem_cons_of_mem _ hp)
/-- a forest told in its own order, and what comes behind -/
theorem mk_flat : ∀ (f : Fo) (r : List Pr) (u : Option Str), (names f).Nodup → (∀ x ∈ names f, u ≠ some x) → (∀ p ∈ r, ∀ x ∈ names f, p.2 ≠ some x) →
    mk (flat f u ++ r) u = app f (mk r u) ∧ ∀ v, v ≠ u → (∀ x ∈ names f, v ≠ some x) → mk (flat f u ++ r) v = mk r v
  | .nil, r, u, _, _, _ => ⟨rfl, fun v _ _ => rfl⟩
  | .cons c k s, r, u, hn, hu, hr => by
    have hn' : (c :: (names k ++ names s)).Nodup := hn
    rw [List.nodup_cons, List.nodup_append] at hn'
    obtain ⟨hc, hk, hs, hks⟩ := hn'
    have hck : c ∉ names k := fun z => hc (List.mem_append_left _ z)
    have hcs : c ∉ names s := fun z => hc (List.mem_append_right _ z)
    have mem_k : ∀ x ∈ names k, x ∈ names (Fo.cons c k s) := fun x hx => List.mem_cons_of_mem _ (List.mem_append_left _ hx)
    have mem_s : ∀ x ∈ names s, x ∈ names (Fo.cons c k s) := fun x hx => List.mem_cons_of_mem _ (List.mem_append_right _ hx)
    have mem_c : c ∈ names (Fo.cons c k s) := List.mem_cons_self
    have huc : u ≠ some c := hu c mem_c
    -- the rest behind the kids
    have over_s : ∀ p ∈ flat s u, p.2 = u ∨ ∃ x ∈ names s, p.2 = some x := by
      have gen : ∀ (f : Fo) (u : Option Str), ∀ p ∈ flat f u, p.2 = u ∨ ∃ x ∈ names f, p.2 = some x := by
        intro f
        induction f with
        | nil => intro u p hp; cases hp
        | cons c k r ihk ihr =>
          intro u p hp
          have hp' : p ∈ (c, u) :: (flat k (some c) ++ flat r u) := hp
          rcases List.mem_cons.mp hp' with e | hp'
          · left; rw [e]
          · rcases List.mem_append.mp hp' with hp' | hp'
            · rcases ihk _ p hp' with e | ⟨x, hx, e⟩
              · exact .inr ⟨c, List.mem_cons_self, e⟩
              · exact .inr ⟨x, List.mem_cons_of_mem _ (List.mem_append_left _ hx), e⟩
            · rcases ihr _ p hp' with e | ⟨x, hx, e⟩
              · exact .inl e
              · exact .inr ⟨x, List.mem_cons_of_mem _ (List.mem_append_right _ hx), e⟩
      exact gen s u
    have hR : ∀ p ∈ flat s u ++ r, ∀ x ∈ names k, p.2 ≠ some x := by
      intro p hp x hx e
      rcases List.mem_append.mp hp with hp | hp
      · rcases over_s p hp with e2 | ⟨y, hy, e2⟩
        · exact hu x (mem_k x hx) (e2 ▸ e)
        · rw [e2] at e
          exact hks x hx y hy (Option.some.inj e).symm
      · exact hr p hp x (mem_k x hx) e
    obtain ⟨k1, k2⟩ := mk_flat k (flat s u ++ r) (some c) hk (fun x hx e => hck (Option.some.inj e ▸ hx)) hR
    obtain ⟨s1, s2⟩ := mk_flat s r u hs (fun x hx => hu x (mem_s x hx)) (fun p hp x hx => hr p hp x (mem_s x hx))
    have rc : mk r (some c) = .nil := mk_none fun p hp => hr p hp c mem_c
    have sc : mk (flat s u ++ r) (some c) = .nil := by
      rw [s2 (some c) huc.symm (fun x hx e => hcs (Option.some.inj e ▸ hx)), rc]
    have e0 : flat (Fo.cons c k s) u ++ r = (c, u) :: (flat k (some c) ++ (flat s u ++ r)) := by
      show (c, u) :: (flat k (some c) ++ flat s u) ++ r = _
      rw [List.cons_append, List.append_assoc]
    rw [e0]
    refine ⟨?_, fun v hvu hv => ?_⟩
    · show (if u = u then Fo.cons c (mk (flat k (some c) ++ (flat s u ++ r)) (some c)) (mk (flat k (some c) ++ (flat s u ++ r)) u) else _) = Fo.cons c k (app s (mk r u))
      rw [if_pos rfl, k1, sc, app_nil, k2 u huc (fun x hx => hu x (mem_k x hx)), s1]
    · show (if u = v then _ else mk (flat k (some c) ++ (flat s u ++ r)) v) = _
      rw [if_neg (fun e => hvu e.symm), k2 v (hv c mem_c) (fun x hx => hv x (mem_k x hx)), s2 v hvu (fun x hx => hv x (mem_s x hx))]
theorem mk_own {f : Fo} (hn : (names f).Nodup) : mk (flat f none) none = f := by
  have h := (mk_flat f [] none hn (fun _ _ e => nomatch e) (fun p hp => nomatch hp)).1
  rw [List.append_nil] at h
  rw [h]
  exact app_nil f
theorem mk_two {f g : Fo} (hn : (names (app f g)).Nodup) : mk (flat f none ++ flat g none) none = app f g := by
  rw [← flat_app]
  exact mk_own hn
/-- a forest told in its own order is validly told -/
theorem valid_app : ∀ {ps qs : List Pr} {seen : List Str}, Valid seen ps → Valid (seen ++ ps.map Prod.fst) qs → Valid seen (ps ++ qs)
  | [], qs, seen, _, h => by simpa using h
  | (c, o) :: r, qs, seen, ⟨h1, h2, h3⟩, h => by
    refine ⟨h1, h2, valid_app h3 ?_⟩
    simpa [List.append_assoc] using h
theorem valid_flat : ∀ (f : Fo) (seen : List Str) (u : Option Str), (∀ x, u = some x → x ∈ seen) → (seen ++ names f).Nodup → Valid seen (flat f u)
  | .nil, _, _, _, _ => trivial
  | .cons c k r, seen, u, hu, hn => by
    have hn' : (seen ++ c :: (names k ++ names r)).Nodup := hn
    have e1 : seen ++ c :: (names k ++ names r) = seen ++ [c] ++ names k ++ names r := by simp [List.append_assoc]
    rw [e1] at hn'
    have n1 : (seen ++ [c] ++ names k).Nodup := (List.nodup_append.mp hn').1
    have n2 : (seen ++ [c]).Nodup := (List.nodup_append.mp n1).1
    refine ⟨fun hc => ?_, hu, valid_app (valid_flat k _ (some c) (fun x e => by cases e; simp) n1) ?_⟩
    · have := (List.nodup_append.mp n2).2.2
      exact this c hc c (by simp) rfl
    · rw [flat_names]
      exact valid_flat r _ u (fun x e => List.mem_append_left _ (List.mem_append_left _ (hu x e))) hn'
theorem over_flat : ∀ (f : Fo) (u : Option Str), ∀ p ∈ flat f u, p.2 = u ∨ ∃ x ∈ names f, p.2 = some x := by
  intro f
  induction f with
  | nil => intro u p hp; cases hp
  | cons c k r ihk ihr =>
    intro u p hp
    have hp' : p ∈ (c, u) :: (flat k (some c) ++ flat r u) := hp
    rcases List.mem_cons.mp hp' with e | hp'
    · left; rw [e]
    · rcases List.mem_append.mp hp' with hp' | hp'
      · rcases ihk _ p hp' with e | ⟨x, hx, e⟩
        · exact .inr ⟨c, List.mem_cons_self, e⟩
        · exact .inr ⟨x, List.mem_cons_of_mem _ (List.mem_append_left _ hx), e⟩
      · rcases ihr _ p hp' with e | ⟨x, hx, e⟩
        · exact .inl e
        · exact .inr ⟨x, List.mem_cons_of_mem _ (List.mem_append_right _ hx), e⟩
end TM
namespace TM
open PySem L2
theorem valid_at : ∀ {ps : List Pr} {seen : List Str} {i : Nat} {c : Str} {o : Option Str}, Valid seen ps → ps[i]? = some (c, o) → c ∉ seen ++ (ps.take i).map Prod.fst ∧ ∀ x, o = some x → x ∈ seen ++ (ps.take i).map Prod.fst
  | [], _, _, _, _, _, h => by simp at h
  | (a, b) :: r, seen, 0, c, o, ⟨h1, h2, _⟩, h => by
    simp only [List.getElem?_cons_zero, Option.some.injEq, Prod.mk.injEq] at h
    obtain ⟨rfl, rfl⟩ := h
    simpa using ⟨h1, h2⟩
  | (a, b) :: r, seen, i + 1, c, o, ⟨h1, h2, h3⟩, h => by
    have h' : r[i]? = some (c, o) := by simpa using h
    have ih := valid_at h3 h'
    simpa [List.append_assoc] using ih
theorem valid_take : ∀ {ps : List Pr} {seen : List Str} (i : Nat), Valid seen ps → Valid seen (ps.take i)
  | [], _, i, _ => by simp [Valid]
  | (a, b) :: r, seen, 0, _ => trivial
  | (a, b) :: r, seen, i + 1, ⟨h1, h2, h3⟩ => ⟨h1, h2, valid_take i h3⟩
/-- nothing ahead of a suffix stands right beneath u -/
def Below (ps : List Pr) (u : Option Str) (n : Nat) : Prop := ∃ pre t, ps = pre ++ t ∧ t.length < n ∧ ∀ p ∈ pre, p.2 ≠ u
theorem below_top (ps : List Pr) {n : Nat} (h : ps.length < n) : Below ps none n := ⟨[], ps, rfl, h, fun _ h => nomatch h⟩
/-- the over of a name stands nowhere ahead of it -/
theorem ahead : ∀ {ps : List Pr} {seen : List Str} {x : Str}, Valid seen ps → x ∉ seen → x ∉ ps.map Prod.fst → ∀ p ∈ ps, p.2 ≠ some x
  | [], _, _, _, _, _, p, hp => nomatch hp
  | (a, b) :: r, seen, x, ⟨h1, h2, h3⟩, hs, hx, p, hp => by
    rw [List.map_cons, List.mem_cons, not_or] at hx
    rcases List.mem_cons.mp hp with e | hp
    · rw [e]
      intro e2
      exact hs (h2 x e2)
    · exact ahead h3 (by simp [hs, hx.1]) hx.2 p hp
/-- beneath a column there is only what stands behind it -/
theorem ahead_at {ps : List Pr} {i : Nat} {c : Str} {o : Option Str} (va : Valid [] ps) (h : ps[i]? = some (c, o)) : ∀ p ∈ ps.take (i + 1), p.2 ≠ some c := by
  have hc := (valid_at va h).1
  rw [List.nil_append] at hc
  have e : ps.take (i + 1) = ps.take i ++ [(c, o)] := by rw [List.take_add_one, h]; rfl
  intro p hp
  rw [e] at hp
  rcases List.mem_append.mp hp with hp | hp
  · exact ahead (valid_take i va) (by simp) hc p hp
  · rw [List.mem_singleton.mp hp]
    intro e2
    have h2 := (valid_at va h).2 c e2
    rw [List.nil_append] at h2
    exact hc h2
theorem below_at {ps : List Pr} {i : Nat} {c : Str} {o : Option Str} {n : Nat} (va : Valid [] ps) (h : ps[i]? = some (c, o)) (b : Below ps o (n + 1)) : Below ps (some c) n := by
  obtain ⟨pre, t, e, hl, hp⟩ := b
  have hi : i < ps.length := (List.getElem?_eq_some_iff.mp h).1
  have hpi : pre.length ≤ i := by
    refine Nat.le_of_not_lt fun hlt => ?_
    have : pre[i]? = some (c, o) := by
      rw [e, List.getElem?_append_left hlt] at h
      exact h
    exact hp _ (List.mem_of_getElem? this) rfl
  refine ⟨ps.take (i + 1), ps.drop (i + 1), (List.take_append_drop _ _).symm, ?_, ahead_at va h⟩
  rw [List.length_drop]
  have := congrArg List.length e
  rw [List.length_append] at this
  omega
theorem mk_skip : ∀ {pre t : List Pr} {u : Option Str}, (∀ p ∈ pre, p.2 ≠ u) → mk (pre ++ t) u = mk t u
  | [], _, _, _ => rfl
  | (c, o) :: r, t, u, h => by
    show (if o = u then _ else mk (r ++ t) u) = _
    rw [if_neg (h (c, o) List.mem_cons_self)]
    exact mk_skip fun p hp => h p (List.mem_cons_of_mem _ hp)
/-- the order, told as the program tells it -/
def step (ps : List Pr) (u : Option Str) (p : Pr) : List Str := if p.2 = u then p.1 :: ord ps (some p.1) else []
theorem ord_suffix {ps : List Pr} (va : Valid [] ps) (u : Option Str) : ∀ (t pre : List Pr), ps = pre ++ t → ord t u = t.flatMap (step ps u)
  | [], _, _ => rfl
  | (c, o) :: r, pre, e => by
    have hi : ps[pre.length]? = some (c, o) := by rw [e]; simp
    have h1 : ord ps (some c) = ord r (some c) := by
      have h2 := ahead_at va hi
      have e2 : ps = ps.take (pre.length + 1) ++ r := by
        have e3 : pre ++ (c, o) :: r = (pre ++ [(c, o)]) ++ r := by simp
        have e4 : ps.take (pre.length + 1) = pre ++ [(c, o)] := by
          rw [e, e3, List.take_append_of_le_length (by simp)]
          rw [List.take_of_length_le (by simp)]
        rw [e4, ← e3]
        exact e
      unfold ord
      rw [e2, mk_skip h2]
    have ih := ord_suffix va u r (pre ++ [(c, o)]) (by rw [e]; simp)
    rw [ord_cons, List.flatMap_cons, ← ih]
    unfold step
    rw [h1]
    by_cases ho : o = u
    · simp [ho]
    · simp [ho]
theorem ord_flat {ps : List Pr} (va : Valid [] ps) (u : Option Str) : ord ps u = ps.flatMap (step ps u) := ord_suffix va u ps [] rfl
theorem ord_take {ps : List Pr} {u : Option Str} {i : Nat} {q : Pr} (h : ps[i]? = some q) : (ps.take (i + 1)).flatMap (step ps u) = (ps.take i).flatMap (step ps u) ++ step ps u q := by
  rw [List.take_add_one, h, List.flatMap_append]
  show _ ++ (step ps u q ++ []) = _
  rw [List.append_nil]
/-- the names in the tree's order are the names told -/
theorem pick : ∀ {us : List (Option Str)} {o : Option Str} {A : List Str} {g : Option Str → List Str}, us.Nodup → o ∈ us → (us.flatMap fun u => if o = u then A ++ g u else g u).Perm (A ++ us.flatMap g)
  | [], _, _, _, _, h => nomatch h
  | v :: us, o, A, g, hn, h => by
    rw [List.nodup_cons] at hn
    by_cases e : o = v
    · have hn2 : o ∉ us := e ▸ hn.1
      have e2 : (us.flatMap fun u => if o = u then A ++ g u else g u) = us.flatMap g := by
        clear hn h
        induction us with
        | nil => rfl
        | cons x r ih =>
          rw [List.mem_cons, not_or] at hn2
          rw [List.flatMap_cons, List.flatMap_cons, ih hn2.2, if_neg hn2.1]
      rw [List.flatMap_cons, List.flatMap_cons, e2, if_pos e, List.append_assoc]
    · have h2 : o ∈ us := (List.mem_cons.mp h).resolve_left e
      rw [List.flatMap_cons, List.flatMap_cons, if_neg e]
      have ih := pick (A := A) (g := g) hn.2 h2
      refine ((List.Perm.append_left (g v) ih).trans ?_)
      rw [← List.append_assoc, ← List.append_assoc]
      exact List.Perm.append_right _ List.perm_append_comm
theorem ords_perm : ∀ {ps : List Pr} {seen : List Str}, seen.Nodup → Valid seen ps → ((none :: seen.map some).flatMap (ord ps)).Perm (ps.map Prod.fst)
  | [], seen, _, _ => by
    have : ∀ us : List (Option Str), us.flatMap (ord []) = [] := by
      intro us
      induction us with
      | nil => rfl
      | cons u us ih => rw [List.flatMap_cons, ih]; rfl
    rw [this]
    exact List.Perm.nil
  | (c, o) :: r, seen, hn, ⟨h1, h2, h3⟩ => by
    have hn2 : (seen ++ [c]).Nodup := by
      rw [List.nodup_append]
      refine ⟨hn, by simp, fun a ha b hb => ?_⟩
      rw [List.mem_singleton.mp hb]
      exact fun e => h1 (e ▸ ha)
    have ih := ords_perm hn2 h3
    have hu : (none :: seen.map some : List (Option Str)).Nodup := by
      rw [List.nodup_cons]
      refine ⟨by simp, ?_⟩
      rw [List.nodup_iff_pairwise_ne, List.pairwise_map]
      exact List.Pairwise.imp (fun h e => h (Option.some.inj e)) (List.nodup_iff_pairwise_ne.mp hn)
    have ho : o ∈ (none :: seen.map some : List (Option Str)) := by
      cases o with
      | none => exact List.mem_cons_self
      | some x => exact List.mem_cons_of_mem _ (List.mem_map.mpr ⟨x, h2 x rfl, rfl⟩)
    have e1 : (none :: seen.map some).flatMap (ord ((c, o) :: r)) = (none :: seen.map some).flatMap fun u => if o = u then (c :: ord r (some c)) ++ ord r u else ord r u := by
      congr 1
      funext u
      rw [ord_cons]
      split <;> rfl
    rw [e1]
    refine (pick hu ho).trans ?_
    rw [List.map_cons, List.cons_append]
    refine List.Perm.cons c ?_
    refine List.Perm.trans ?_ ih
    rw [List.map_append, ← List.cons_append, List.flatMap_append]
    have e3 : List.flatMap (ord r) (List.map some [c]) = ord r (some c) := by
      show ord r (some c) ++ [] = _
      rw [List.append_nil]
    rw [e3]
    exact List.perm_append_comm
theorem ord_perm {ps : List Pr} (va : Valid [] ps) : (ord ps none).Perm (ps.map Prod.fst) := by
  have := ords_perm List.nodup_nil va
  simpa using this
theorem ord_nodup {ps : List Pr} (va : Valid [] ps) : (ord ps none).Nodup := (List.Perm.nodup_iff (ord_perm va)).mpr (valid_nodup va)
/-- the pairs in the tree's order are pairs told -/
theorem mk_sub : ∀ {ps : List Pr} {u : Option Str} {p : Pr}, p ∈ flat (mk ps u) u → p ∈ ps
  | [], _, _, h => nomatch h
  | (c, o) :: r, u, p, h => by
    have h' : p ∈ flat (if o = u then .cons c (mk r (some c)) (mk r u) else mk r u) u := h
    by_cases e : o = u
    · rw [if_pos e] at h'
      have h'' : p ∈ (c, u) :: (flat (mk r (some c)) (some c) ++ flat (mk r u) u) := h'
      rcases List.mem_cons.mp h'' with e2 | h2
      · rw [e2, e]
        exact List.mem_cons_self
      · rcases List.mem_append.mp h2 with h2 | h2
        · exact List.mem_cons_of_mem _ (mk_sub h2)
        · exact List.mem_cons_of_mem _ (mk_sub h2)
    · rw [if_neg e] at h'
      exact List.mem_cons_of_mem _ (mk_sub h')
end TM
namespace TM
open PySem L2
theorem flat_le {α β : Type} {f : α → List β} {k : Nat} : ∀ {l : List α}, (∀ a ∈ l, (f a).length ≤ k) → (l.flatMap f).length ≤ k * l.length
  | [], _ => by simp
  | a :: r, h => by
    rw [List.flatMap_cons, List.length_append, List.length_cons, Nat.mul_succ]
    have h1 := h a List.mem_cons_self
    have h2 := flat_le (l := r) fun b hb => h b (List.mem_cons_of_mem _ hb)
    omega
theorem flat_no {ps : List Pr} {c : Str} {o : Option Str} {us : List (Option Str)} (h : o ∉ us) : us.flatMap (ord ((c, o) :: ps)) = us.flatMap (ord ps) := by
  induction us with
  | nil => rfl
  | cons u r ih =>
    rw [List.mem_cons, not_or] at h
    rw [List.flatMap_cons, List.flatMap_cons, ih h.2, ord_cons, if_neg h.1]
theorem ords_le : ∀ {ps : List Pr} {seen : List Str} {us : List (Option Str)}, us.Nodup → Valid seen ps → (∀ x ∈ ps.map Prod.fst, some x ∉ us) → (us.flatMap (ord ps)).length ≤ ps.length
  | [], _, us, _, _, _ => by
    induction us with
    | nil => exact Nat.le_refl _
    | cons u us ih =>
      rw [List.flatMap_cons, List.length_append]
      rename_i h _ _
      have := ih (List.nodup_cons.mp (by assumption)).2 (fun x hx => nomatch hx)
      rw [ord_nil]
      simpa using this
  | (c, o) :: r, seen, us, hu, ⟨h1, h2, h3⟩, hx => by
    by_cases ho : o ∈ us
    · have e1 : us.flatMap (ord ((c, o) :: r)) = us.flatMap fun u => if o = u then (c :: ord r (some c)) ++ ord r u else ord r u := by
        congr 1
        funext u
        rw [ord_cons]
        split <;> rfl
      rw [e1, (pick (A := c :: ord r (some c)) (g := ord r) hu ho).length_eq]
      have hc : some c ∉ us := hx c (by simp)
      have ih := ords_le (us := some c :: us) (List.nodup_cons.mpr ⟨hc, hu⟩) h3 (fun x hx2 h => by
        rcases List.mem_cons.mp h with e | h
        · have := valid_notin h3 (x := c) (by simp)
          exact this (Option.some.inj e ▸ hx2)
        · exact hx x (List.mem_cons_of_mem _ hx2) h)
      rw [List.flatMap_cons, List.length_append] at ih
      simp only [List.length_append, List.length_cons]
      omega
    · rw [flat_no ho]
      have ih := ords_le hu h3 (fun x hx2 => hx x (List.mem_cons_of_mem _ hx2))
      rw [List.length_cons]
      omega
theorem valid_drop : ∀ {ps : List Pr} {seen : List Str} (i : Nat), Valid seen ps → ∃ s, Valid s (ps.drop i)
  | [], seen, i, _ => ⟨seen, by simp [Valid]⟩
  | (a, b) :: r, seen, 0, h => ⟨seen, h⟩
  | (a, b) :: r, seen, i + 1, ⟨_, _, h3⟩ => valid_drop i h3
theorem ord_le {ps : List Pr} (va : Valid [] ps) (u : Option Str) : (ord ps u).length ≤ ps.length := by
  have one : ∀ (qs : List Pr) (s : List Str), Valid s qs → (∀ x ∈ qs.map Prod.fst, u ≠ some x) → (ord qs u).length ≤ qs.length := fun qs s v h => by
    have := ords_le (us := [u]) (by simp) v (fun x hx e => h x hx (List.mem_singleton.mp e).symm)
    simpa using this
  by_cases h : ∃ c, u = some c ∧ c ∈ ps.map Prod.fst
  · obtain ⟨c, rfl, hc⟩ := h
    obtain ⟨⟨c', o⟩, hm, rfl⟩ := List.mem_map.mp hc
    obtain ⟨i, hi, hie⟩ := List.getElem_of_mem hm
    have hq : ps[i]? = some (c', o) := by rw [List.getElem?_eq_getElem hi, hie]
    have e : ord ps (some c') = ord (ps.drop (i + 1)) (some c') := by
      unfold ord
      have := mk_skip (t := ps.drop (i + 1)) (ahead_at va hq)
      rw [List.take_append_drop] at this
      rw [this]
    obtain ⟨s, vs⟩ := valid_drop (i + 1) va
    have hnd := valid_nodup va
    rw [e]
    refine Nat.le_trans (one _ s vs fun x hx e2 => ?_) (by rw [List.length_drop]; omega)
    cases e2
    rw [List.map_drop] at hx
    obtain ⟨j, hj, hje⟩ := List.getElem_of_mem hx
    rw [List.getElem_drop] at hje
    have h1 : (ps.map Prod.fst)[i]'(by simpa using hi) = c' := by rw [List.getElem_map, hie]
    have := (List.getElem_inj hnd).mp (hje.trans h1.symm)
    omega
  · exact one ps [] va fun x hx e => h ⟨x, e, hx⟩
end TM

/-! Where a name stands in a forest: what is above it, what is beneath. -/
namespace TM
open PySem L2
/-- what is above a name, and the forest beneath it -/
def loc : Fo → Str → Option (List Str × Fo)
  | .nil, _ => none
  | .cons d k r, c => if d = c then some ([], k) else match loc k c with
    | some (a, q) => some (d :: a, q)
    | none => loc r c
def tops : Fo → List Str
  | .nil => []
  | .cons c _ r => c :: tops r
theorem loc_names : ∀ {f : Fo} {c : Str}, c ∈ names f → ∃ a q, loc f c = some (a, q)
  | .nil, _, h => nomatch h
  | .cons d k r, c, h => by
    unfold loc
    by_cases e : d = c
    · exact ⟨_, _, if_pos e⟩
    · rw [if_neg e]
      cases hk : loc k c with
      | some p => exact ⟨_, _, rfl⟩
      | none =>
        have h' : c ∈ d :: (names k ++ names r) := h
        rcases List.mem_cons.mp h' with e2 | h2
        · exact absurd e2.symm e
        · rcases List.mem_append.mp h2 with h2 | h2
          · obtain ⟨a, q, e3⟩ := loc_names h2
            rw [hk] at e3
            cases e3
          · exact loc_names h2
theorem loc_mem : ∀ {f : Fo} {c : Str} {a : List Str} {q : Fo}, loc f c = some (a, q) → c ∈ names f
  | .nil, _, _, _, h => by unfold loc at h; cases h
  | .cons d k r, c, a, q, h => by
    unfold loc at h
    show c ∈ d :: (names k ++ names r)
    by_cases e : d = c
    · rw [e]; exact List.mem_cons_self
    · rw [if_neg e] at h
      cases hk : loc k c with
      | some p =>
        obtain ⟨b, p⟩ := p
        exact List.mem_cons_of_mem _ (List.mem_append_left _ (loc_mem hk))
      | none =>
        rw [hk] at h
        exact List.mem_cons_of_mem _ (List.mem_append_right _ (loc_mem h))
theorem loc_none {f : Fo} {c : Str} (h : c ∉ names f) : loc f c = none := by
  cases e : loc f c with
  | none => rfl
  | some p => exact absurd (loc_mem (a := p.1) (q := p.2) e) h
theorem nd_parts {d : Str} {k r : Fo} (h : (names (.cons d k r)).Nodup) : d ∉ names k ∧ d ∉ names r ∧ (names k).Nodup ∧ (names r).Nodup ∧ ∀ x ∈ names k, x ∉ names r := by
  have h' : (d :: (names k ++ names r)).Nodup := h
  rw [List.nodup_cons, List.nodup_append] at h'
  exact ⟨fun z => h'.1 (List.mem_append_left _ z), fun z => h'.1 (List.mem_append_right _ z), h'.2.1, h'.2.2.1, fun x hx hy => h'.2.2.2 x hx x hy rfl⟩
/-- the three ways in which a name stands in a forest -/
theorem loc_cases {d : Str} {k r : Fo} {c : Str} {a : List Str} {q : Fo} (h : loc (.cons d k r) c = some (a, q)) : (d = c ∧ a = [] ∧ q = k) ∨ (d ≠ c ∧ ∃ b, a = d :: b ∧ loc k c = some (b, q)) ∨ (d ≠ c ∧ loc k c = none ∧ loc r c = some (a, q)) := by
  unfold loc at h
  by_cases e : d = c
  · rw [if_pos e] at h
    cases h
    exact .inl ⟨e, rfl, rfl⟩
  · rw [if_neg e] at h
    cases hk : loc k c with
    | some p =>
      obtain ⟨b, p⟩ := p
      rw [hk] at h
      cases h
      exact .inr (.inl ⟨e, b, rfl, rfl⟩)
    | none =>
      rw [hk] at h
      exact .inr (.inr ⟨e, rfl, h⟩)
theorem loc_here {d : Str} {k r : Fo} : loc (.cons d k r) d = some ([], k) := by unfold loc; exact if_pos rfl
theorem loc_in {d c : Str} {k r : Fo} {b : List Str} {q : Fo} (e : d ≠ c) (h : loc k c = some (b, q)) : loc (.cons d k r) c = some (d :: b, q) := by
  unfold loc
  rw [if_neg e, h]
theorem loc_by {d c : Str} {k r : Fo} (e : d ≠ c) (h : loc k c = none) : loc (.cons d k r) c = loc r c := by
  rw [loc.eq_def]
  dsimp only
  rw [if_neg e, h]
theorem loc_sub : ∀ {f : Fo} {c : Str} {a : List Str} {q : Fo}, loc f c = some (a, q) → (a ++ [c]).Sublist (names f)
  | .nil, _, _, _, h => by unfold loc at h; cases h
  | .cons d k r, c, a, q, h => by
    show (a ++ [c]).Sublist (d :: (names k ++ names r))
    rcases loc_cases h with ⟨rfl, rfl, rfl⟩ | ⟨_, b, rfl, g⟩ | ⟨_, _, g⟩
    · exact List.Sublist.cons_cons _ (List.nil_sublist _)
    · exact List.Sublist.cons_cons _ ((loc_sub g).trans (List.sublist_append_left _ _))
    · exact List.Sublist.cons _ ((loc_sub g).trans (List.sublist_append_right _ _))
/-- what is beneath a name stands behind it, in one piece -/
theorem loc_seg : ∀ {f : Fo} {c : Str} {a : List Str} {q : Fo}, loc f c = some (a, q) → ∃ A B, names f = A ++ (c :: names q) ++ B
  | .nil, _, _, _, h => by unfold loc at h; cases h
  | .cons d k r, c, a, q, h => by
    have e0 : names (.cons d k r) = d :: (names k ++ names r) := rfl
    rcases loc_cases h with ⟨rfl, rfl, rfl⟩ | ⟨_, b, rfl, g⟩ | ⟨_, _, g⟩
    · exact ⟨[], names r, rfl⟩
    · obtain ⟨A, B, e⟩ := loc_seg g
      exact ⟨d :: A, B ++ names r, by rw [e0, e]; simp⟩
    · obtain ⟨A, B, e⟩ := loc_seg g
      exact ⟨d :: (names k ++ A), B, by rw [e0, e]; simp⟩
/-- the column right above -/
def lastOr (a : List Str) (u : Option Str) : Option Str := match a.getLast? with
  | some x => some x
  | none => u
theorem lastOr_snoc (a : List Str) (x : Str) (u : Option Str) : lastOr (a ++ [x]) u = some x := by unfold lastOr; rw [List.getLast?_concat]
theorem lastOr_cons (d : Str) (a : List Str) (u : Option Str) : lastOr (d :: a) u = lastOr a (some d) := by
  cases a with
  | nil => rfl
  | cons x r =>
    unfold lastOr
    rw [List.getLast?_cons_cons]
    rw [List.getLast?_eq_some_getLast (by simp)]
theorem loc_flat : ∀ {f : Fo} {c : Str} {a : List Str} {q : Fo} (u : Option Str), loc f c = some (a, q) → (c, lastOr a u) ∈ flat f u
  | .nil, _, _, _, _, h => by unfold loc at h; cases h
  | .cons d k r, c, a, q, u, h => by
    show _ ∈ (d, u) :: (flat k (some d) ++ flat r u)
    rcases loc_cases h with ⟨rfl, rfl, rfl⟩ | ⟨_, b, rfl, g⟩ | ⟨_, _, g⟩
    · exact List.mem_cons_self
    · rw [lastOr_cons]
      exact List.mem_cons_of_mem _ (List.mem_append_left _ (loc_flat (some d) g))
    · exact List.mem_cons_of_mem _ (List.mem_append_right _ (loc_flat u g))
/-- each one above, with what is above it -/
theorem loc_up : ∀ {f : Fo} {c : Str} {a : List Str} {q : Fo}, (names f).Nodup → loc f c = some (a, q) → ∀ (a1 a2 : List Str) (x : Str), a = a1 ++ x :: a2 → ∃ q1, loc f x = some (a1, q1) ∧ c ∈ names q1
  | .nil, _, _, _, _, h => by unfold loc at h; cases h
  | .cons d k r, c, a, q, hn, h => by
    intro a1 a2 x e
    obtain ⟨n1, n2, n3, n4, n5⟩ := nd_parts hn
    rcases loc_cases h with ⟨rfl, rfl, rfl⟩ | ⟨hd, b, rfl, g⟩ | ⟨hd, hk, g⟩
    · simp at e
    · cases a1 with
      | nil =>
        have e' : d :: b = x :: a2 := e
        injection e' with e1 e2
        subst e1
        exact ⟨k, loc_here, loc_mem g⟩
      | cons y a1 =>
        have e' : d :: b = y :: (a1 ++ x :: a2) := e
        injection e' with e1 e2
        subst e1
        obtain ⟨q1, h1, h2⟩ := loc_up n3 g _ _ _ e2
        exact ⟨q1, loc_in (fun z => n1 (z ▸ loc_mem h1)) h1, h2⟩
    · obtain ⟨q1, h1, h2⟩ := loc_up n4 g _ _ _ e
      have hx := loc_mem h1
      exact ⟨q1, (loc_by (fun (z : d = x) => n2 (z ▸ hx)) (loc_none fun z => n5 _ z hx)).trans h1, h2⟩
/-- each one beneath -/
theorem loc_down : ∀ {f : Fo} {c o : Str} {a a2 : List Str} {q q2 : Fo}, (names f).Nodup → loc f c = some (a, q) → loc q o = some (a2, q2) → loc f o = some (a ++ c :: a2, q2)
  | .nil, _, _, _, _, _, _, _, h, _ => by unfold loc at h; cases h
  | .cons d k r, c, o, a, a2, q, q2, hn, h, h2 => by
    obtain ⟨n1, n2, n3, n4, n5⟩ := nd_parts hn
    rcases loc_cases h with ⟨rfl, rfl, rfl⟩ | ⟨hd, b, rfl, g⟩ | ⟨hd, hk, g⟩
    · exact loc_in (fun z => n1 (z ▸ loc_mem h2)) h2
    · have ih := loc_down n3 g h2
      exact loc_in (fun z => n1 (z ▸ loc_mem ih)) ih
    · have ih := loc_down n4 g h2
      have hx := loc_mem ih
      exact (loc_by (fun (z : d = o) => n2 (z ▸ hx)) (loc_none fun z => n5 _ z hx)).trans ih
theorem loc_top : ∀ {f : Fo} {c : Str}, (names f).Nodup → (c ∈ tops f ↔ ∃ q, loc f c = some ([], q))
  | .nil, c, _ => ⟨(fun h => nomatch h), (fun ⟨q, h⟩ => by unfold loc at h; cases h)⟩
  | .cons d k r, c, hn => by
    obtain ⟨n1, n2, n3, n4, n5⟩ := nd_parts hn
    constructor
    · intro h
      have h' : c ∈ d :: tops r := h
      rcases List.mem_cons.mp h' with e | h2
      · subst e
        exact ⟨k, loc_here⟩
      · obtain ⟨q, e⟩ := (loc_top n4).mp h2
        have hx := loc_mem e
        exact ⟨q, (loc_by (fun (z : d = c) => n2 (z ▸ hx)) (loc_none fun z => n5 _ z hx)).trans e⟩
    · rintro ⟨q, h⟩
      show c ∈ d :: tops r
      rcases loc_cases h with ⟨rfl, _, _⟩ | ⟨_, b, e, _⟩ | ⟨_, _, h⟩
      · exact List.mem_cons_self
      · cases e
      · exact List.mem_cons_of_mem _ ((loc_top n4).mpr ⟨q, h⟩)
theorem tops_sub : ∀ f : Fo, (tops f).Sublist (names f)
  | .nil => List.Sublist.slnil
  | .cons d k r => List.Sublist.cons_cons _ ((tops_sub r).trans (List.sublist_append_right _ _))
theorem filter_mem : ∀ {l s : List Str}, l.Nodup → s.Sublist l → (l.filter fun x => decide (x ∈ s)) = s
  | [], s, _, h => by
    cases h
    rfl
  | x :: l, s, hn, h => by
    rw [List.nodup_cons] at hn
    cases h with
    | cons _ h =>
      have hx : x ∉ s := fun z => hn.1 (h.subset z)
      rw [List.filter_cons_of_neg (by simpa using hx)]
      exact filter_mem hn.2 h
    | cons_cons _ h =>
      rename_i s
      rw [List.filter_cons_of_pos (by simp)]
      congr 1
      have e : (l.filter fun y => decide (y ∈ x :: s)) = l.filter fun y => decide (y ∈ s) := by
        refine List.filter_congr fun y hy => ?_
        have : y ≠ x := fun z => hn.1 (z ▸ hy)
        simp [this]
      rw [e]
      exact filter_mem hn.2 h
/-- above and beneath are one thing, told from both ends -/
theorem up_down {f : Fo} {c o : Str} {a a' : List Str} {q q' : Fo} (hn : (names f).Nodup) (hc : loc f c = some (a, q)) (ho : loc f o = some (a', q')) : c ∈ a' ↔ o ∈ names q := by
  constructor
  · intro h
    obtain ⟨a1, a2, e⟩ := List.append_of_mem h
    obtain ⟨q1, h1, h2⟩ := loc_up hn ho _ _ _ e
    rw [hc] at h1
    cases h1
    exact h2
  · intro h
    obtain ⟨a2, q2, h2⟩ := loc_names h
    have := loc_down hn hc h2
    rw [ho] at this
    cases this
    simp
/-- what is right beneath a name -/
theorem kid_iff {f : Fo} {c o : Str} {a a' : List Str} {q q' : Fo} (hn : (names f).Nodup) (hq : (names q).Nodup) (hc : loc f c = some (a, q)) (ho : loc f o = some (a', q')) : a'.getLast? = some c ↔ o ∈ tops q := by
  constructor
  · intro h
    obtain ⟨a1, e⟩ : ∃ a1, a' = a1 ++ [c] := by
      rw [List.getLast?_eq_some_iff] at h
      exact h
    obtain ⟨q1, h1, h2⟩ := loc_up hn ho a1 [] c e
    rw [hc] at h1
    cases h1
    obtain ⟨a2, q2, h3⟩ := loc_names h2
    have h4 := loc_down hn hc h3
    rw [ho] at h4
    obtain ⟨e4, _⟩ := Prod.mk.inj (Option.some.inj h4)
    rw [e] at e4
    have e5 : [c] = c :: a2 := List.append_cancel_left e4
    have e6 : a2 = [] := by
      have := (List.cons.inj e5).2
      exact this.symm
    subst e6
    exact (loc_top hq).mpr ⟨q2, h3⟩
  · intro h
    obtain ⟨q2, h3⟩ := (loc_top hq).mp h
    have h4 := loc_down hn hc h3
    rw [ho] at h4
    obtain ⟨e4, _⟩ := Prod.mk.inj (Option.some.inj h4)
    rw [e4, List.getLast?_concat]
theorem sub_nodup {f : Fo} {c : Str} {a : List Str} {q : Fo} (hn : (names f).Nodup) (h : loc f c = some (a, q)) : (c :: names q).Nodup := by
  obtain ⟨A, B, e⟩ := loc_seg h
  rw [e, List.append_assoc, List.nodup_append] at hn
  exact (List.nodup_append.mp hn.2.1).1
theorem seg_sub {f : Fo} {c : Str} {a : List Str} {q : Fo} (h : loc f c = some (a, q)) : (c :: names q).Sublist (names f) := by
  obtain ⟨A, B, e⟩ := loc_seg h
  rw [e, List.append_assoc]
  exact (List.sublist_append_left _ _).trans (List.sublist_append_right _ _)
/-- the names beneath, child by child -/
def kidsOf (f : Fo) (c : Str) : List Str := match loc f c with
  | some (_, q) => c :: names q
  | none => []
theorem kids_flat : ∀ {q : Fo}, (names q).Nodup → (tops q).flatMap (kidsOf q) = names q
  | .nil, _ => rfl
  | .cons d k r, hn => by
    obtain ⟨n1, n2, n3, n4, n5⟩ := nd_parts hn
    show (d :: tops r).flatMap (kidsOf (.cons d k r)) = d :: (names k ++ names r)
    rw [List.flatMap_cons]
    have e1 : kidsOf (.cons d k r) d = d :: names k := by unfold kidsOf; rw [loc_here]
    have e2 : (tops r).flatMap (kidsOf (.cons d k r)) = (tops r).flatMap (kidsOf r) := by
      have : ∀ l : List Str, (∀ x ∈ l, x ∈ names r) → l.flatMap (kidsOf (.cons d k r)) = l.flatMap (kidsOf r) := by
        intro l
        induction l with
        | nil => intro _; rfl
        | cons x t ih =>
          intro h
          rw [List.flatMap_cons, List.flatMap_cons, ih fun y hy => h y (List.mem_cons_of_mem _ hy)]
          congr 1
          have hx := h x List.mem_cons_self
          unfold kidsOf
          rw [loc_by (fun (z : d = x) => n2 (z ▸ hx)) (loc_none fun z => n5 _ z hx)]
      exact this _ fun x hx => (tops_sub r).subset hx
    rw [e1, e2, kids_flat n4, List.cons_append]
end TM
namespace TM
open PySem L2
theorem perm_eq {α : Type} {R : α → α → Prop} (anti : ∀ a b, R a b → R b a → a = b) : ∀ {l m : List α}, l.Perm m → l.Pairwise R → m.Pairwise R → l = m
  | [], m, h, _, _ => by
    have := h.length_eq
    cases m with
    | nil => rfl
    | cons b m => simp at this
  | a :: l, [], h, _, _ => by
    have := h.length_eq
    simp at this
  | a :: l, b :: m, h, h1, h2 => by
    have hab : a = b := by
      have ha : a ∈ b :: m := h.subset List.mem_cons_self
      have hb : b ∈ a :: l := h.symm.subset List.mem_cons_self
      rcases List.mem_cons.mp ha with e | ha
      · exact e
      · rcases List.mem_cons.mp hb with e | hb
        · exact e.symm
        · exact anti a b ((List.pairwise_cons.mp h1).1 b hb) ((List.pairwise_cons.mp h2).1 a ha)
    subst hab
    rw [perm_eq anti (List.Perm.cons_inv h) (List.pairwise_cons.mp h1).2 (List.pairwise_cons.mp h2).2]
/-- the first i trees of a forest -/
def takeF : Nat → Fo → Fo
  | 0, _ => .nil
  | _ + 1, .nil => .nil
  | i + 1, .cons c k r => .cons c k (takeF i r)
theorem takeF_all : ∀ f : Fo, takeF (tops f).length f = f
  | .nil => rfl
  | .cons c k r => by
    show Fo.cons c k (takeF (tops r).length r) = _
    rw [takeF_all r]
theorem takeF_next : ∀ {f : Fo} {i : Nat} {c : Str}, (names f).Nodup → (tops f)[i]? = some c → ∃ k, loc f c = some ([], k) ∧ takeF (i + 1) f = app (takeF i f) (.cons c k .nil)
  | .nil, i, c, _, h => by simp [tops] at h
  | .cons d k r, 0, c, _, h => by
    have e : d = c := by simpa [tops] using h
    subst e
    exact ⟨k, loc_here, rfl⟩
  | .cons d k r, i + 1, c, hn, h => by
    have h' : (tops r)[i]? = some c := by simpa [tops] using h
    obtain ⟨n1, n2, n3, n4, n5⟩ := nd_parts hn
    obtain ⟨q, h1, h2⟩ := takeF_next n4 h'
    have hx := loc_mem h1
    refine ⟨q, (loc_by (fun (z : d = c) => n2 (z ▸ hx)) (loc_none fun z => n5 _ z hx)).trans h1, ?_⟩
    show Fo.cons d k (takeF (i + 1) r) = Fo.cons d k (app (takeF i r) (.cons c q .nil))
    rw [h2]
theorem takeF_sub : ∀ (f : Fo) (i : Nat), (names (takeF i f)).Sublist (names f)
  | _, 0 => List.nil_sublist _
  | .nil, i + 1 => List.Sublist.slnil
  | .cons c k r, i + 1 => by
    show (c :: (names k ++ names (takeF i r))).Sublist (c :: (names k ++ names r))
    exact List.Sublist.cons_cons _ (List.Sublist.append_left (takeF_sub r i) _)
/-- the pairs of one tree, picked out of a forest's -/
theorem pick_tree : ∀ {f : Fo} {c : Str} {k : Fo}, (names f).Nodup → loc f c = some ([], k) → (flat f none).filter (fun q => decide (q.1 ∈ c :: names k)) = flat (.cons c k .nil) none
  | .nil, _, _, _, h => by unfold loc at h; cases h
  | .cons d k' r, c, k, hn, h => by
    obtain ⟨n1, n2, n3, n4, n5⟩ := nd_parts hn
    have keep : ∀ (l : List Pr), (∀ q ∈ l, q.1 ∈ c :: names k) → l.filter (fun q => decide (q.1 ∈ c :: names k)) = l := fun l hl => List.filter_eq_self.mpr fun q hq => decide_eq_true (hl q hq)
    have drop : ∀ (l : List Pr), (∀ q ∈ l, q.1 ∉ c :: names k) → l.filter (fun q => decide (q.1 ∈ c :: names k)) = [] := fun l hl => List.filter_eq_nil_iff.mpr fun q hq z => hl q hq (of_decide_eq_true z)
    have nm : ∀ {g : Fo} {u : Option Str} {q : Pr}, q ∈ flat g u → q.1 ∈ names g := fun {g u q} hq => by rw [← flat_names g u]; exact List.mem_map.mpr ⟨q, hq, rfl⟩
    show ((d, none) :: (flat k' (some d) ++ flat r none)).filter _ = (c, none) :: (flat k (some c) ++ [])
    rcases loc_cases h with ⟨rfl, _, rfl⟩ | ⟨_, b, e, _⟩ | ⟨hd, hk, g⟩
    · rw [List.filter_cons_of_pos (by simp), List.filter_append, keep (flat k (some d)) fun q hq => List.mem_cons_of_mem _ (nm hq), drop (flat r none) fun q hq z => ?_]
      rcases List.mem_cons.mp z with z | z
      · exact n2 (z ▸ nm hq)
      · exact n5 _ z (nm hq)
    · cases e
    · have hs := seg_sub g
      rw [List.filter_cons_of_neg (by
        intro z
        exact n2 (hs.subset (of_decide_eq_true z))), List.filter_append, drop (flat k' (some d)) fun q hq z => n5 _ (nm hq) (hs.subset z), List.nil_append]
      exact pick_tree n4 g
end TM

set_option maxHeartbeats 2000000
/-! Words of our own, over any row. -/
namespace TX
open PySem L2 PyProof.Rows
/-- the built-in names that the text leaves alone -/
structure Bn (mg : Str → Option Value) : Prop where
  len : mg "len" = none
  isi : mg "isinstance" = none
  str : mg "str" = none
  list : mg "list" = none
  tuple : mg "tuple" = none
  dict : mg "dict" = none
  int : mg "int" = none
  range : mg "range" = none
  enum : mg "enumerate" = none
  all : mg "all" = none
  any : mg "any" = none
  max : mg "max" = none
  sorted : mg "sorted" = none
/-- a def of the module, ready to be called -/
structure Fn (K : PySem.W.Frag) (mg : Str → Option Value) (x : Str) (st : Stmt) (ps : List Str) (f : Addr) (fd : FuncData) : Prop where
  F : Fun K x x st f fd
  g : mg x = some (.ref f)
  b : Binds K fd ps []
/-- all that was tracked but at W is as it was -/
def Sm (W : Addr) (H H' : Hp) : Prop := ∀ b o, b ≠ W → H b = some o → H' b = some o
theorem Sm.rfl' {W : Addr} {H : Hp} : Sm W H H := fun _ _ _ h => h
theorem Sm.trans {W : Addr} {H H1 H2 : Hp} (a : Sm W H H1) (b : Sm W H1 H2) : Sm W H H2 := fun c o n h => b c o n (a c o n h)
theorem Sm.of {W : Addr} {H H' : Hp} (s : Same H H') : Sm W H H' := fun c o _ h => s c o h
theorem Same.new {H : Hp} {p : Addr} {o : HO} (h : H p = none) : Same H (upd H p o) := fun a u e => by rw [upd_ne (ne_of_none e h)]; exact e
theorem Same.new' {H H1 : Hp} {p : Addr} {o : HO} (s : Same H H1) (h : H1 p = none) : Same H (upd H1 p o) := s.trans (Same.new h)
theorem Sm.new {W : Addr} {H H1 : Hp} {p : Addr} {o : HO} (s : Sm W H H1) (h : H1 p = none) : Sm W H (upd H1 p o) := s.trans (.of (Same.new h))
theorem Sm.put {W : Addr} {H H1 : Hp} {o : HO} (s : Sm W H H1) : Sm W H (upd H1 W o) := fun a u n e => by rw [upd_ne n]; exact s a u n e
/-- a well: three ints; n draws may follow -/
def WellAt (n : Nat) (H : Hp) (W : Addr) : Prop := ∃ a b c : Int, H W = some (.lst [.int a, .int b, .int c]) ∧ 0 ≤ b ∧ b < 2147483648 ∧ 0 ≤ c ∧ c + n ≤ 1000000000000
theorem WellAt.mono {n m : Nat} {H : Hp} {W : Addr} (h : WellAt n H W) (hm : m ≤ n) : WellAt m H W := by
  obtain ⟨a, b, c, e, h1, h2, h3, h4⟩ := h
  exact ⟨a, b, c, e, h1, h2, h3, by omega⟩
theorem WellAt.same {n : Nat} {H H' : Hp} {W : Addr} (h : WellAt n H W) (s : Same H H') : WellAt n H' W := by
  obtain ⟨a, b, c, e, r⟩ := h
  exact ⟨a, b, c, s _ _ e, r⟩
theorem WellAt.new {n : Nat} {H : Hp} {W p : Addr} {o : HO} (h : WellAt n H W) (hp : H p = none) : WellAt n (upd H p o) W := h.same (Same.new hp)
theorem WellAt.ne {n : Nat} {H : Hp} {W p : Addr} (h : WellAt n H W) (hp : H p = none) : W ≠ p := by
  obtain ⟨a, b, c, e, r⟩ := h
  exact ne_of_none e hp
/-- a turn's or a test's joint: what is known of the slots and the heap behind -/
theorem two_le : (2 : Nat) ≤ sizeLine := by decide
theorem small100 {n : Nat} (h : n ≤ 1000) : n ≤ sizeLine := Nat.le_trans h (by decide)
end TX
namespace TX
open PySem L2 PyProof.Rows
theorem Same.mut {H H1 : Hp} {p : Addr} {o : HO} (s : Same H H1) (h : H p = none) : Same H (upd H1 p o) := fun a u e => by rw [upd_ne (ne_of_none e h)]; exact s a u e
theorem Sm.mut {W : Addr} {H H1 : Hp} {p : Addr} {o : HO} (s : Sm W H H1) (h : H p = none) : Sm W H (upd H1 p o) := fun a u n e => by rw [upd_ne (ne_of_none e h)]; exact s a u n e
theorem WellAt.upd {n : Nat} {H : Hp} {W p : Addr} {o : HO} (h : WellAt n H W) (hp : W ≠ p) : WellAt n (L2.upd H p o) W := by
  obtain ⟨a, b, c, e, r⟩ := h
  exact ⟨a, b, c, by rw [upd_ne hp]; exact e, r⟩
theorem Sm.free {W : Addr} {H H' : Hp} (e : Sm W H H') {n : Nat} (hW : WellAt n H W) {l : Addr} (h : H' l = Option.none) (hW' : ∃ m, WellAt m H' W) : H l = Option.none := by
  cases q : H l with
  | none => rfl
  | some o =>
    obtain ⟨m, a, b, c, z, _⟩ := hW'
    have : l ≠ W := fun x => by rw [x, z] at h; cases h
    rw [e l o this q] at h
    cases h
/-- signs as texts -/
def S (l : List Nat) : Str := ⟨l.toArray⟩
theorem S_len (l : List Nat) : (S l).length = l.length := by show l.toArray.size = _; rw [List.size_toArray]
theorem S_cps (l : List Nat) : (S l).cps.toList = l := rfl
theorem S_inj {l m : List Nat} (h : S l = S m) : l = m := by
  have := congrArg (fun s : Str => s.cps.toList) h
  exact this
theorem S_eta (s : Str) : s = S s.cps.toList := by
  obtain ⟨⟨l⟩⟩ := s
  rfl
theorem S_app (l m : List Nat) : S l ++ S m = S (l ++ m) := by
  show (⟨l.toArray ++ m.toArray⟩ : Str) = ⟨(l ++ m).toArray⟩
  simp
theorem join_empty : ∀ ys : List (List Nat), Txt.join (S []) (ys.map S) = S ys.flatten := by
  intro ys
  show Builtin.Str.glued (S []) (ys.map S) = _
  rw [StrLaws.glued_eq_join]
  induction ys with
  | nil => rfl
  | cons y r ih =>
    cases r with
    | nil =>
      show S y = S ([y].flatten)
      simp
    | cons z r =>
      show S y ++ S [] ++ Str.join (S []) ((z :: r).map S) = _
      rw [ih, S_app, S_app]
      simp
theorem cutS_S (l : List Nat) (lo hi : Option Int) : cutS (S l) lo hi = S ((l.drop (HT.sIx l.length 0 lo)).take (HT.sIx l.length l.length hi - HT.sIx l.length 0 lo)) := by
  unfold cutS
  rw [S_len]
  rfl
/-- the letters -/
def abc : Str := Str.ofString "abcdefghijklmnopqrstuvwxyz"
theorem abc_eq : abc = S [97, 98, 99, 100, 101, 102, 103, 104, 105, 106, 107, 108, 109, 110, 111, 112, 113, 114, 115, 116, 117, 118, 119, 120, 121, 122] := by decide +kernel
theorem abc_at {j : Nat} (h : j < 26) : atI abc.cps.toList (j : Int) = some (97 + j) := by
  rw [abc_eq]
  refine atI_nat ?_
  rw [S_cps]
  revert j
  decide
theorem abc_len : abc.length ≤ sizeLine := by rw [abc_eq, S_len]; decide
/-- the k-th name of a well's -/
def nmOf (base : List Nat) (spot more bg ap k : Nat) : Str := S (base.take spot ++ (97 + (bg + ap * k) % 26) :: (base.drop spot).take more)
theorem nm_ok {base : List Nat} {spot more bg ap k : Nat} (hb : base.length = 7) (hc : ∀ c ∈ base, 97 ≤ c ∧ c ≤ 122) (hs : spot + more ≤ 7) : TM.NameOk (nmOf base spot more bg ap k) := by
  unfold TM.NameOk nmOf
  rw [S_len, S_cps]
  simp only [List.length_append, List.length_cons, List.length_take, List.length_drop, hb]
  refine ⟨by omega, by omega, fun c h => ?_⟩
  rcases List.mem_append.mp h with h | h
  · exact hc c (List.mem_of_mem_take h)
  · rcases List.mem_cons.mp h with h | h
    · have := Nat.mod_lt (bg + ap * k) (show 26 > 0 by decide)
      omega
    · exact hc c (List.mem_of_mem_drop (List.mem_of_mem_take h))
theorem nm_inj {base : List Nat} {spot more bg ap k k' : Nat} (ha : ap ∈ [1, 3, 5, 7, 9, 11, 15, 17]) (hk : k < 26) (hk' : k' < 26) (h : nmOf base spot more bg ap k = nmOf base spot more bg ap k') : k = k' := by
  have h1 := S_inj h
  have h2 := (List.append_inj h1 rfl).2
  have h3 : 97 + (bg + ap * k) % 26 = 97 + (bg + ap * k') % 26 := (List.cons.inj h2).1
  simp only [List.mem_cons, List.not_mem_nil, or_false] at ha
  rcases ha with e | e | e | e | e | e | e | e <;> subst e <;> omega
theorem nm_nodup {base : List Nat} {spot more bg ap n : Nat} (ha : ap ∈ [1, 3, 5, 7, 9, 11, 15, 17]) (hn : n ≤ 26) : ((List.range n).map (nmOf base spot more bg ap)).Nodup := by
  rw [List.nodup_iff_pairwise_ne, List.pairwise_map]
  refine List.Pairwise.imp_of_mem ?_ (List.nodup_iff_pairwise_ne.mp List.nodup_range)
  intro a b ha' hb' hne e
  exact hne (nm_inj ha (by have := List.mem_range.mp ha'; omega) (by have := List.mem_range.mp hb'; omega) e)
end TX
namespace TX
open PySem L2 PyProof.Rows
theorem sum_signs (cs : List Nat) : (List.map (fun x : Str => x.length) (cs.map fun c => S [c])).sum = cs.length := by
  induction cs with
  | nil => rfl
  | cons c r ih =>
    rw [List.map_cons, List.map_cons, List.sum_cons, ih, S_len, List.length_cons]
    simp
    omega
theorem join_signs (cs : List Nat) : Txt.join (Str.ofString "") (cs.map fun c => S [c]) = S cs := by
  have e1 : Str.ofString "" = S [] := by decide +kernel
  have e2 : cs.map (fun c => S [c]) = (cs.map fun c => [c]).map S := by rw [List.map_map]; rfl
  have e3 : (cs.map fun c => [c]).flatten = cs := by
    clear e2
    induction cs with
    | nil => rfl
    | cons c r ih => rw [List.map_cons, List.flatten_cons, ih]; rfl
  rw [e1, e2, join_empty, e3]
theorem len_empty : (Str.ofString "").length = 0 := by decide +kernel
end TX
namespace TX
open PySem L2 PyProof.Rows
theorem line100 {n : Nat} (h : n ≤ 1000) : n ≤ sizeLine := Nat.le_trans h (by decide)
theorem line100' {n : Nat} (h : n ≤ 1000) : n < sizeLine := Nat.lt_of_le_of_lt h (by decide)
theorem sapp_len (a b : Str) : (a ++ b).length = a.length + b.length := by
  show (a.cps ++ b.cps).size = _
  rw [Array.size_append]
  rfl
end TX
namespace TX
open PySem L2 PyProof.Rows TM
def optV : Option Str → V
  | none => .non
  | some x => .str x
/-- tuples of a name and what stands over it -/
def TupsAt (H : Hp) : List Addr → List Pr → Prop := Paired fun a q => H a = some (.tup [.str q.1, optV q.2])
def PairsAt (H : Hp) (p : Addr) (ps : List Pr) : Prop := ∃ as, H p = some (.lst (as.map V.ref)) ∧ TupsAt H as ps
theorem TupsAt.sm {W : Addr} {H H' : Hp} {as : List Addr} {ps : List Pr} (h : TupsAt H as ps) (s : Sm W H H') (w : ∃ n, WellAt n H W) : TupsAt H' as ps :=
  Paired.mapP h fun a q e => s a _ (by obtain ⟨n, x, y, z, e2, _⟩ := w; exact ne_of e e2 (by intro z; cases z)) e
theorem TupsAt.same {H H' : Hp} {as : List Addr} {ps : List Pr} (h : TupsAt H as ps) (s : Same H H') : TupsAt H' as ps := Paired.mapP h fun a q e => s a _ e
theorem TupsAt.put {H : Hp} {as : List Addr} {ps : List Pr} {p : Addr} {xs : List V} {o : HO} (h : TupsAt H as ps) (hp : H p = some (.lst xs)) : TupsAt (upd H p o) as ps :=
  Paired.mapP h fun a q e => by rw [upd_ne (ne_of e hp (by intro z; cases z))]; exact e
theorem TupsAt.snoc {H : Hp} {as : List Addr} {ps : List Pr} {a : Addr} {q : Pr} (h : TupsAt H as ps) (e : H a = some (.tup [.str q.1, optV q.2])) : TupsAt H (as ++ [a]) (ps ++ [q]) := by
  unfold TupsAt at *
  induction h with
  | nil => exact .cons e .nil
  | cons h _ ih => exact .cons h ih
theorem TupsAt.len {H : Hp} {as : List Addr} {ps : List Pr} (h : TupsAt H as ps) : as.length = ps.length := Paired.length h
theorem PairsAt.same {H H' : Hp} {p : Addr} {ps : List Pr} (h : PairsAt H p ps) (s : Same H H') : PairsAt H' p ps := by
  obtain ⟨as, e, t⟩ := h
  exact ⟨as, s _ _ e, t.same s⟩
theorem PairsAt.sm {W : Addr} {H H' : Hp} {p : Addr} {ps : List Pr} (h : PairsAt H p ps) (s : Sm W H H') (w : ∃ n, WellAt n H W) (hp : p ≠ W) : PairsAt H' p ps := by
  obtain ⟨as, e, t⟩ := h
  exact ⟨as, s _ _ hp e, t.sm s w⟩
end TX
namespace TX
open PySem L2 PyProof.Rows TM
def kvsOf (ps : List Pr) : List (Key × V) := ps.map fun q => ((Sum.inr q.1 : Key), optV q.2)
theorem kvs_none : ∀ {ps : List Pr} {x : Str}, x ∉ ps.map Prod.fst → valV (kvsOf ps) (Sum.inr x : Key) = none
  | [], _, _ => rfl
  | (c, o) :: r, x, h => by
    have hne : ¬ ((Sum.inr c : Key) = Sum.inr x) := fun e => by
      injection e with e
      exact h (by rw [e]; exact List.mem_cons_self)
    show valV (((Sum.inr c : Key), optV o) :: kvsOf r) _ = none
    rw [valV_neg hne]
    exact kvs_none fun hx => h (List.mem_cons_of_mem _ hx)
theorem kvs_some : ∀ {ps : List Pr} {x : Str} {o : Option Str}, (ps.map Prod.fst).Nodup → (x, o) ∈ ps → valV (kvsOf ps) (Sum.inr x : Key) = some (optV o)
  | [], _, _, _, h => nomatch h
  | (c, p) :: r, x, o, hn, h => by
    rw [List.map_cons, List.nodup_cons] at hn
    rcases List.mem_cons.mp h with e | h
    · obtain ⟨rfl, rfl⟩ := Prod.mk.inj e
      exact valV_pos (p := ((Sum.inr x : Key), optV o)) rfl
    · have hne : ¬ ((Sum.inr c : Key) = Sum.inr x) := fun e => by
        injection e with e
        exact hn.1 (by rw [e]; exact List.mem_map.mpr ⟨(x, o), h, rfl⟩)
      show valV (((Sum.inr c : Key), optV p) :: kvsOf r) _ = _
      rw [valV_neg hne]
      exact kvs_some hn.2 h
theorem optV_inj {o o' : Option Str} (h : optV o = optV o') : o = o' := by
  cases o with
  | none =>
    cases o' with
    | none => rfl
    | some y => cases h
  | some x =>
    cases o' with
    | none => cases h
    | some y =>
      have h' : V.str x = V.str y := h
      injection h' with h'
      rw [h']
/-- in a list or in a dict -/
theorem PC.or {X : Cx} {op : CmpOp} {a b : Expr} {t u : TE} (h1 : PC X op a b t) (h2 : PC X op a b u) : PC X op a b (fun σ H Q => t σ H Q ∨ u σ H Q) :=
  ⟨fun pins s σ H Q I h => h.elim (h1.run pins s σ H Q I) (h2.run pins s σ H Q I)⟩
theorem PC.ofR {X : Cx} {op : CmpOp} {a b : Expr} {ta tb : TE} {r : R2} (ho : OpR X (compareOp op) r) (ha : PE X a ta) (hb : PE X b tb) : PC X op a b (tOp r ta tb) :=
  ⟨fun pins s σ H Q I h => thn (ha.run pins s σ H _ I h) fun u s1 ⟨x, H1, I1, rx, h1⟩ => thn (hb.run pins s1 σ H1 _ I1 h1) fun v s2 ⟨y, H2, I2, ry, h2⟩ => ho pins s2 σ H2 x y u v Q I2 rx ry h2⟩
/-- the order of one sign and a letter -/
theorem lt_sign (c d : Nat) : ([c] < [d]) ↔ c < d := by
  constructor
  · intro h
    cases h with
    | rel h => exact h
    | cons h => cases h
  · intro h
    exact List.Lex.rel h
theorem str_a : Str.ofString "a" = S [97] := by decide +kernel
theorem str_z : Str.ofString "z" = S [122] := by decide +kernel
end TX
namespace TX
open PySem L2 PyProof.Rows TM
theorem TupsAt.get {H : Hp} {as : List Addr} {ps : List Pr} (h : TupsAt H as ps) : ∀ {i : Nat} {a : Addr}, as[i]? = some a → ∃ q, ps[i]? = some q ∧ H a = some (.tup [.str q.1, optV q.2]) := by
  unfold TupsAt at h
  induction h with
  | nil => intro i a e; simp at e
  | cons h _ ih =>
    intro i a e
    cases i with
    | zero =>
      simp at e
      subst e
      exact ⟨_, by simp, h⟩
    | succ i =>
      obtain ⟨q, h1, h2⟩ := ih (by simpa using e)
      exact ⟨q, by simpa using h1, h2⟩
theorem kvs_put {ps : List Pr} {c : Str} {o : Option Str} (h : c ∉ ps.map Prod.fst) : putK (kvsOf ps) (Sum.inr c : Key) (optV o) = kvsOf (ps ++ [(c, o)]) := by
  rw [putK_new _ (kvs_none h)]
  unfold kvsOf
  rw [List.map_append]
  rfl
theorem kvs_len (ps : List Pr) : (kvsOf ps).length = ps.length := by unfold kvsOf; rw [List.length_map]
theorem kvs_get {ps : List Pr} {i : Nat} : (kvsOf ps)[i]? = ps[i]?.map fun q => ((Sum.inr q.1 : Key), optV q.2) := by unfold kvsOf; rw [List.getElem?_map]
end TX
namespace TX
open PySem L2 PyProof.Rows TM
/-- a dict comprehension over a walk: Pr by the turn and the heap -/
theorem dc_walk {J : It} {n : Nat} {G : Hp → Prop} {Y : Nat → Hp → V → Hp → Prop} (wk : Walk J n G Y) {tgt : TG} {cond : TT} {key val : TE} {own : List Nat} {slots : L2.St} {Hs : Hp} {Dn : Addr} {Qf : Hp → Prop}
    (Pw : Nat → Hp → Prop) (start : Pw 0 (upd Hs Dn (.dK []))) (good : ∀ i h, i ≤ n → Pw i h → G h)
    (turn : ∀ i v h h', i < n → Pw i h → Y i h v h' → tgt v (wipe slots own) h' fun s2 h2 => wipe s2 own = wipe slots own ∧ cond s2 h2 fun b h3 =>
      (if b = true then (key s2 h3 fun ky h4 => val s2 h4 fun vl h5 => ∃ es kk, ky = kV kk ∧ h5 Dn = some (.dK es) ∧ es.length < sizeLine ∧ Pw (i + 1) (upd h5 Dn (.dK (putK es kk vl)))) else Pw (i + 1) h3))
    (fin : ∀ h, Pw n h → Qf h) :
    ∃ Z : Nat → Nat → Hp → Prop, (∃ m, Z 0 m (upd Hs Dn (.dK []))) ∧ ∀ i m h, Z i m h → (J.stop i h ∧ Qf h) ∨ (J.go i h ∧ ∃ Nx : Hp → Prop, (∀ h', Nx h' → ∃ m', m' < m ∧ Z (i + 1) m' h') ∧
      ∀ v h', J.yld i h v h' → tgt v (wipe slots own) h' fun s2 h2 => wipe s2 own = wipe slots own ∧ cond s2 h2 fun b h3 =>
        (if b = true then (key s2 h3 fun ky h4 => val s2 h4 fun vl h5 => ∃ es kk, ky = kV kk ∧ h5 Dn = some (.dK es) ∧ es.length < sizeLine ∧ Nx (upd h5 Dn (.dK (putK es kk vl)))) else Nx h3)) := by
  refine ⟨fun i m h => i ≤ n ∧ m = n - i ∧ Pw i h, ⟨n, Nat.zero_le _, by simp, start⟩, ?_⟩
  rintro i m h ⟨hi, rfl, pw⟩
  have g := good i h hi pw
  rcases Nat.lt_or_ge i n with hlt | hge
  · exact .inr ⟨wk.goes i h hlt g, Pw (i + 1), fun h' p' => ⟨n - (i + 1), by omega, hlt, rfl, p'⟩, fun v h' y => turn i v h h' hlt pw (wk.yields i h v h' hlt g y)⟩
  · obtain rfl : i = n := by omega
    exact .inl ⟨wk.stops h g, fin h pw⟩
/-- what is asked of a tree's names -/
structure FoOk (f : Fo) : Prop where
  nd : (names f).Nodup
  le : (names f).length ≤ 8
  ok : ∀ x ∈ names f, NameOk x
theorem foOk_mk {ps : List Pr} (va : Valid [] ps) (hl : ps.length ≤ 8) (hn : ∀ x ∈ ps.map Prod.fst, NameOk x) : FoOk (mk ps none) :=
  ⟨ord_nodup va, Nat.le_trans (ord_le va none) hl, fun x hx => hn x ((ord_perm va).mem_iff.mp hx)⟩
theorem kcol : ¬ (("_columns" : Str) = "_over") := by decide +kernel
/-- the attributes of a tree, in the order in which they are stored -/
def tflds (l d : Addr) : List (Str × V) := putF "_over" (.ref d) (putF "_columns" (.ref l) [])
theorem tflds_col (l d : Addr) : (tflds l d).lookup ("_columns" : Str) = some (.ref l) := by
  unfold tflds
  rw [lookup_putF, if_neg kcol, lookup_putF, if_pos rfl]
theorem tflds_over (l d : Addr) : (tflds l d).lookup ("_over" : Str) = some (.ref d) := by
  unfold tflds
  rw [lookup_putF, if_pos rfl]
theorem tflds_no (l d : Addr) {m : Str} (h1 : ¬ m = "_over") (h2 : ¬ m = "_columns") : (tflds l d).lookup m = none := by
  unfold tflds
  rw [lookup_putF, if_neg h1, lookup_putF, if_neg h2]
  rfl
theorem tflds_len (l d : Addr) : (tflds l d).length < 1000 := by
  unfold tflds
  show (if ("_columns" : Str) = "_over" then [(("_columns" : Str), V.ref d)] else (("_columns" : Str), V.ref l) :: putF "_over" (V.ref d) []).length < 1000
  rw [if_neg kcol]
  show 2 < 1000
  decide
/-- a tree stands at p -/
def TreeAt (C : Addr) (H : Hp) (p : Addr) (f : Fo) : Prop := ∃ dx l d, H p = some (.ins C dx (tflds l d)) ∧ H l = some (.lst ((names f).map V.str)) ∧ H d = some (.dK (kvsOf (flat f none)))
theorem TreeAt.same {C : Addr} {H H' : Hp} {p : Addr} {f : Fo} (t : TreeAt C H p f) (s : Same H H') : TreeAt C H' p f := by
  obtain ⟨dx, l, d, h1, h2, h3⟩ := t
  exact ⟨dx, l, d, s _ _ h1, s _ _ h2, s _ _ h3⟩
/-- an own class that isinstance may be asked of -/
structure Ic (K : PySem.W.Frag) (C : Addr) : Prop where
  ha : PySem.W.findIn K (.ref C) "__class__" = some (some (.builtin "object.__class__"))
  hn : PySem.W.specialIn K (.builtin "object.__class__") "__get__" = some (some (.builtin "getset_descriptor.__get__"))
  htk : PySem.W.takesIn K (.builtin "object.__class__") = some true
  hm : PySem.W.mroIn K C (.type "object") = some true
  me : PySem.W.kitOne K (.ref C) (.ref C) = some true
/-- what the top says of the class -/
structure Tc (K : PySem.W.Frag) (mg : Str → Option Value) (C : Addr) : Prop where
  cl : Cls K C
  nC : NoAttr K C "_columns"
  nO : NoAttr K C "_over"
  g : mg "Tree" = some (.ref C)
  ins : Ic K C
end TX
namespace TX
open PySem L2 PyProof.Rows TM
theorem strOk_name {x : Str} (h : NameOk x) : PyData.strOk x = true := by
  unfold PyData.strOk
  rw [Array.all_eq_true']
  intro c hc
  have := h.2.2 c (Array.mem_toList_iff.mpr hc)
  exact decide_eq_true (by omega)
def dS (ns : List Str) : PyData := .list (ns.map .str)
def dO : Option Str → PyData
  | none => .none
  | some x => .str x
def dP (ps : List Pr) : PyData := .list (ps.map fun q => .tuple [.str q.1, dO q.2])
theorem canS : ∀ {ns : List Str}, (∀ x ∈ ns, NameOk x) → PyData.canLayAll0 (ns.map .str) = true
  | [], _ => rfl
  | x :: r, h => by
    rw [List.map_cons]
    unfold PyData.canLayAll0
    rw [show PyData.canLay0 (.str x) = true from strOk_name (h x List.mem_cons_self), canS fun y hy => h y (List.mem_cons_of_mem _ hy)]
    rfl
theorem depS : ∀ (ns : List Str), PyData.depthAll (ns.map .str) = 0
  | [] => rfl
  | x :: r => by
    rw [List.map_cons]
    unfold PyData.depthAll
    rw [depS r]
    rfl
theorem shS {ns : List Str} (h : ∀ x ∈ ns, NameOk x) : SeqAt.shaped (dS ns) = true := by
  unfold SeqAt.shaped dS
  have h1 : PyData.canLay0 (.list (ns.map .str)) = true := by unfold PyData.canLay0; exact canS h
  have h2 : PyData.depth (.list (ns.map .str)) ≤ 64 := by unfold PyData.depth; rw [depS]; decide
  rw [h1, decide_eq_true h2]
  rfl
theorem eqvS : ∀ (ns ms : List Str), PyData.eqvAll (ns.map .str) (ms.map .str) = decide (ns = ms)
  | [], [] => rfl
  | [], _ :: _ => rfl
  | _ :: _, [] => rfl
  | x :: r, y :: t => by
    rw [List.map_cons, List.map_cons]
    unfold PyData.eqvAll PyData.eqv
    rw [eqvS r t]
    by_cases h : x = y <;> by_cases h2 : r = t <;> simp [h, h2]
theorem DpAll_strs {K : PySem.W.Frag} {H : Hp} : ∀ (ns : List Str), DpAll K H (ns.map V.str) (ns.map .str)
  | [] => .nil
  | x :: r => .cons (.str x) (DpAll_strs r)
theorem DpS {K : PySem.W.Frag} {H : Hp} {a : Addr} {ns : List Str} (h : H a = some (.lst (ns.map V.str))) : Dp K H (.ref a) (dS ns) := .lst (.of h) (DpAll_strs ns)
end TX
namespace TX
open PySem L2 PyProof.Rows TM
/-- all names of a list of pairs are names -/
def PsOk (ps : List Pr) : Prop := ∀ q ∈ ps, NameOk q.1 ∧ ∀ x, q.2 = some x → NameOk x
theorem PsOk.flat {f : Fo} (h : FoOk f) : PsOk (flat f none) := fun q hq => by
  refine ⟨h.ok _ ?_, fun x hx => ?_⟩
  · rw [← flat_names f none]
    exact List.mem_map.mpr ⟨q, hq, rfl⟩
  · rcases over_flat f none q hq with e | ⟨y, hy, e⟩
    · rw [e] at hx; cases hx
    · rw [e] at hx
      cases hx
      exact h.ok _ hy
theorem can_pair {q : Pr} (h : NameOk q.1 ∧ ∀ x, q.2 = some x → NameOk x) : PyData.canLay0 (.tuple [.str q.1, dO q.2]) = true := by
  obtain ⟨c, o⟩ := q
  have h1 : PyData.canLay0 (.str c) = true := strOk_name h.1
  have h2 : PyData.canLay0 (dO o) = true := by
    cases o with
    | none => rfl
    | some x => exact strOk_name (h.2 x rfl)
  unfold PyData.canLay0 PyData.canLayAll0 PyData.canLayAll0 PyData.canLayAll0
  rw [h1, h2]
  rfl
theorem canP : ∀ {ps : List Pr}, PsOk ps → PyData.canLayAll0 (ps.map fun q => .tuple [.str q.1, dO q.2]) = true
  | [], _ => rfl
  | x :: r, h => by
    rw [List.map_cons]
    unfold PyData.canLayAll0
    rw [can_pair (h x List.mem_cons_self), canP fun y hy => h y (List.mem_cons_of_mem _ hy)]
    rfl
theorem dep_dO (o : Option Str) : PyData.depth (dO o) = 0 := by cases o <;> rfl
theorem depP : ∀ (ps : List Pr), PyData.depthAll (ps.map fun q => .tuple [.str q.1, dO q.2]) ≤ 1
  | [] => Nat.zero_le _
  | x :: r => by
    rw [List.map_cons]
    unfold PyData.depthAll
    have h1 : PyData.depth (.tuple [.str x.1, dO x.2]) = 1 := by
      unfold PyData.depth PyData.depthAll PyData.depthAll PyData.depthAll
      rw [dep_dO]
      rfl
    have := depP r
    rw [h1]
    omega
theorem shP {ps : List Pr} (h : PsOk ps) : SeqAt.shaped (dP ps) = true := by
  unfold SeqAt.shaped dP
  have h1 : PyData.canLay0 (.list (ps.map fun q => .tuple [.str q.1, dO q.2])) = true := by unfold PyData.canLay0; exact canP h
  have h2 : PyData.depth (.list (ps.map fun q => .tuple [.str q.1, dO q.2])) ≤ 64 := by
    unfold PyData.depth
    have := depP ps
    omega
  rw [h1, decide_eq_true h2]
  rfl
theorem eqv_dO : ∀ (o p : Option Str), PyData.eqv (dO o) (dO p) = decide (o = p)
  | none, none => rfl
  | none, some _ => rfl
  | some _, none => rfl
  | some x, some y => by
    show PyData.eqv (.str x) (.str y) = _
    unfold PyData.eqv
    by_cases h : x = y <;> simp [h]
theorem eqv_pair (q r : Pr) : PyData.eqv (.tuple [.str q.1, dO q.2]) (.tuple [.str r.1, dO r.2]) = decide (q = r) := by
  obtain ⟨a, b⟩ := q
  obtain ⟨c, d⟩ := r
  unfold PyData.eqv PyData.eqvAll PyData.eqvAll PyData.eqvAll
  rw [eqv_dO]
  have : PyData.eqv (.str a) (.str c) = decide (a = c) := by unfold PyData.eqv; by_cases h : a = c <;> simp [h]
  show (PyData.eqv (.str a) (.str c) && (decide (b = d) && true)) = _
  rw [this]
  by_cases h : a = c <;> by_cases h2 : b = d <;> simp [h, h2]
theorem eqvP : ∀ (ps qs : List Pr), PyData.eqvAll (ps.map fun q => .tuple [.str q.1, dO q.2]) (qs.map fun q => .tuple [.str q.1, dO q.2]) = decide (ps = qs)
  | [], [] => rfl
  | [], _ :: _ => rfl
  | _ :: _, [] => rfl
  | x :: r, y :: t => by
    rw [List.map_cons, List.map_cons]
    unfold PyData.eqvAll
    rw [eqvP r t, eqv_pair]
    by_cases h : x = y <;> by_cases h2 : r = t <;> simp [h, h2]
theorem Dp_optV {K : PySem.W.Frag} {H : Hp} : ∀ (o : Option Str), Dp K H (optV o) (dO o)
  | none => .non
  | some x => .str x
theorem DpAll_tups {K : PySem.W.Frag} {H : Hp} {as : List Addr} {ps : List Pr} (h : TupsAt H as ps) : DpAll K H (as.map V.ref) (ps.map fun q => .tuple [.str q.1, dO q.2]) := by
  unfold TupsAt at h
  induction h with
  | nil => exact .nil
  | cons h _ ih => exact .cons (.tup (.of h) (.cons (.str _) (.cons (Dp_optV _) .nil))) ih
theorem PairsAt.dp {K : PySem.W.Frag} {H : Hp} {a : Addr} {ps : List Pr} (h : PairsAt H a ps) : Dp K H (.ref a) (dP ps) := by
  obtain ⟨as, e, t⟩ := h
  exact .lst (.of e) (DpAll_tups t)
theorem eqv_dS (ns ms : List Str) : PyData.eqv (dS ns) (dS ms) = decide (ns = ms) := by
  unfold dS PyData.eqv
  exact eqvS ns ms
theorem eqv_dP (ps qs : List Pr) : PyData.eqv (dP ps) (dP qs) = decide (ps = qs) := by
  unfold dP PyData.eqv
  exact eqvP ps qs
end TX
namespace TX
open PySem L2 PyProof.Rows TM
/-- a method of a class, ready to be called -/
structure Mt (K : PySem.W.Frag) (C : Addr) (m qual : Str) (st : Stmt) (ps : List Str) (f : Addr) (fd : FuncData) : Prop where
  F : Fun K m qual st f fd
  me : Meth K C m f
  b : Binds K fd ps []
theorem TupsAt.app {H : Hp} {as bs : List Addr} {ps qs : List Pr} (h : TupsAt H as ps) (k : TupsAt H bs qs) : TupsAt H (as ++ bs) (ps ++ qs) := by
  unfold TupsAt at *
  induction h with
  | nil => exact k
  | cons h _ ih => exact .cons h ih
/-- an error class of our own that is raised with a text -/
structure Ec (K : PySem.W.Frag) (mg : Str → Option Value) (x : Str) (C : Addr) : Prop where
  ex : PySem.W.excIn K C [.type "ValueError", .type "Exception", .type "BaseException", .type "object"] "ValueError.__new__" = true
  g : mg x = some (.ref C)
  k : PySem.W.keepIn K (.ref C) = true
  b : PySem.W.subIn K (.ref C) (.type "BaseException") = some true
  t : PySem.W.typeIn K (.ref C) = some (.type "type")
theorem FoOk.app {f g : Fo} (hf : FoOk f) (hg : FoOk g) (hd : ∀ x ∈ names f, x ∉ names g) (hl : (names f).length + (names g).length ≤ 8) : FoOk (app f g) := by
  refine ⟨?_, ?_, fun x hx => ?_⟩
  · rw [names_app, List.nodup_append]
    exact ⟨hf.nd, hg.nd, fun a ha b hb e => hd a ha (e ▸ hb)⟩
  · rw [names_app, List.length_append]
    exact hl
  · rw [names_app] at hx
    rcases List.mem_append.mp hx with hx | hx
    · exact hf.ok x hx
    · exact hg.ok x hx
theorem inV_str (x : Str) (ns : List Str) : inV (.str x) (ns.map V.str) = decide (x ∈ ns) := by
  unfold inV
  induction ns with
  | nil => rfl
  | cons y r ih =>
    rw [List.map_cons, List.any_cons, ih]
    show ((y == x) || decide (x ∈ r)) = _
    by_cases h : x = y
    · simp [h]
    · have h' : ¬ y = x := fun e => h e.symm
      simp [h, h']
theorem flat_strs (ns : List Str) : (ns.map V.str).all flatV = true := by
  rw [List.all_map, List.all_eq_true]
  intro x _
  rfl
end TX
namespace TX
open PySem L2 PyProof.Rows TM
theorem merge_kvs : ∀ (qs pre : List Pr), ((pre ++ qs).map Prod.fst).Nodup → mergeK (kvsOf pre) (kvsOf qs) = kvsOf (pre ++ qs)
  | [], pre, _ => by rw [List.append_nil]; rfl
  | (c, o) :: r, pre, h => by
    have hc : c ∉ pre.map Prod.fst := by
      rw [List.map_append, List.nodup_append] at h
      intro hm
      exact h.2.2 c hm c (by simp) rfl
    show mergeK (putK (kvsOf pre) (Sum.inr c : Key) (optV o)) (kvsOf r) = _
    rw [kvs_put hc, merge_kvs r (pre ++ [(c, o)]) (by simpa using h)]
    simp
theorem merge_nil {ps : List Pr} (h : (ps.map Prod.fst).Nodup) : mergeK [] (kvsOf ps) = kvsOf ps := by
  have := merge_kvs ps [] (by simpa using h)
  rw [List.nil_append] at this
  exact this
theorem kvs_isSome {ps : List Pr} (h : (ps.map Prod.fst).Nodup) (x : Str) : (valV (kvsOf ps) (Sum.inr x : Key)).isSome = decide (x ∈ ps.map Prod.fst) := by
  by_cases hx : x ∈ ps.map Prod.fst
  · obtain ⟨⟨x', o⟩, hm, rfl⟩ := List.mem_map.mp hx
    rw [kvs_some h hm, decide_eq_true hx]
    rfl
  · rw [kvs_none hx, decide_eq_false hx]
    rfl
theorem cut_strs (ns : List Str) (lo hi : Option Int) : ∃ ms : List Str, cutV (ns.map V.str) lo hi = ms.map V.str ∧ ms.Sublist ns ∧ ms.length ≤ HT.sIx ns.length ns.length hi - HT.sIx ns.length 0 lo := by
  refine ⟨(ns.drop (HT.sIx ns.length 0 lo)).take (HT.sIx ns.length ns.length hi - HT.sIx ns.length 0 lo), ?_, ?_, ?_⟩
  · unfold cutV
    rw [List.length_map, List.map_take, List.map_drop]
  · exact (List.take_sublist _ _).trans (List.drop_sublist _ _)
  · rw [List.length_take]
    exact Nat.min_le_left _ _
/-- dict(pairs) -/
def rDP (K : PySem.W.Frag) : List V → Hp → VK → Prop := fun vs H Q => ∃ (L : Addr) (as : List Addr) (es : List (Key × V)), vs = [.ref L] ∧ SqL K H L (as.map V.ref) ∧
  Paired (fun a e => SqT K H a [kV e.1, e.2]) as es ∧ ∀ d, H d = none → Q (.ref d) (upd H d (.dK (mergeK [] es)))
theorem call_dP {X : Cx} (hc : X.calm = true) : CallR X (.type "dict") (rDP X.K) := call_dictP hc
theorem pairs_es {K : PySem.W.Frag} {H : Hp} {as : List Addr} {ps : List Pr} (h : TupsAt H as ps) : Paired (fun a (e : Key × V) => SqT K H a [kV e.1, e.2]) as (kvsOf ps) := by
  unfold TupsAt at h
  induction h with
  | nil => exact .nil
  | cons h _ ih => exact .cons (.of h) ih
theorem PairsAt.nil {H : Hp} {p : Addr} (h : H p = some (.lst [])) : PairsAt H p [] := ⟨[], h, .nil⟩
theorem ord_len {ps : List Pr} (va : Valid [] ps) : (names (mk ps none)).length = ps.length := by
  have := (ord_perm va).length_eq
  rw [List.length_map] at this
  exact this
theorem foOk_nil : FoOk .nil := ⟨List.nodup_nil, Nat.zero_le _, fun _ h => nomatch h⟩
theorem PairsAt.app {H H' : Hp} {a b p : Addr} {ps qs : List Pr} {as bs : List Addr} (h : TupsAt H as ps) (k : TupsAt H bs qs) (s : Same H H') (e : H' p = some (.lst (as.map V.ref ++ bs.map V.ref))) : PairsAt H' p (ps ++ qs) :=
  ⟨as ++ bs, by rw [e, List.map_append], (h.app k).same s⟩
theorem PsOk.app {ps qs : List Pr} (h : PsOk ps) (k : PsOk qs) : PsOk (ps ++ qs) := fun q hq => (List.mem_append.mp hq).elim (h q) (k q)
/-- [pairs, pairs] -/
theorem sh2 {ps qs : List Pr} (h : PsOk ps) (k : PsOk qs) : SeqAt.shaped (.list [dP ps, dP qs]) = true := by
  unfold SeqAt.shaped
  have a1 : PyData.canLay0 (dP ps) = true := (Bool.and_eq_true_iff.mp (shP h)).1
  have a2 : PyData.canLay0 (dP qs) = true := (Bool.and_eq_true_iff.mp (shP k)).1
  have b1 : PyData.depth (dP ps) ≤ 2 := by unfold dP PyData.depth; have := depP ps; omega
  have b2 : PyData.depth (dP qs) ≤ 2 := by unfold dP PyData.depth; have := depP qs; omega
  have h1 : PyData.canLay0 (.list [dP ps, dP qs]) = true := by
    unfold PyData.canLay0 PyData.canLayAll0 PyData.canLayAll0 PyData.canLayAll0
    rw [a1, a2]
    rfl
  have h2 : PyData.depth (.list [dP ps, dP qs]) ≤ 64 := by
    unfold PyData.depth PyData.depthAll PyData.depthAll PyData.depthAll
    omega
  rw [h1, decide_eq_true h2]
  rfl
theorem eqv_refl2 (ps qs : List Pr) : PyData.eqv (.list [dP ps, dP qs]) (.list [dP ps, dP qs]) = true := by
  unfold PyData.eqv PyData.eqvAll PyData.eqvAll PyData.eqvAll
  rw [eqv_dP, eqv_dP, decide_eq_true rfl, decide_eq_true rfl]
  rfl
theorem Dp2 {K : PySem.W.Frag} {H : Hp} {p a b : Addr} {ps qs : List Pr} (h : H p = some (.lst [.ref a, .ref b])) (ha : PairsAt H a ps) (hb : PairsAt H b qs) : Dp K H (.ref p) (.list [dP ps, dP qs]) :=
  .lst (.of h) (.cons ha.dp (.cons hb.dp .nil))
end TX
namespace TX
open PySem L2 PyProof.Rows TM
theorem optV_ne_none {o : Option Str} : decide (optV o = .non) = o.isNone := by
  cases o with
  | none => rfl
  | some x => rfl
/-- the over of a name, found in the dict -/
theorem over_get {f : Fo} (ok : FoOk f) {c : Str} {a : List Str} {q : Fo} (h : loc f c = some (a, q)) : valV (kvsOf (flat f none)) (Sum.inr c : Key) = some (optV (lastOr a none)) :=
  kvs_some (by rw [flat_names]; exact ok.nd) (loc_flat none h)
end TX
namespace TX
open PySem L2 PyProof.Rows TM
/-- an expression that is v whatever is asked behind, and only makes objects -/
def Ee (te : TE) (s : L2.St) (H : Hp) (v : V) : Prop := ∀ h, Same H h → ∀ Q : VK, (∀ h', Same h h' → Q v h') → te s h Q
def Et (tt : TT) (s : L2.St) (H : Hp) (b : Bool) : Prop := ∀ h, Same H h → ∀ Q : Bool → Hp → Prop, (∀ h', Same h h' → Q b h') → tt s h Q
theorem et_yes {s : L2.St} {H : Hp} : Et tYes s H true := fun h _ Q q => q h (fun _ _ e => e)
theorem ee_var {i : Nat} {s : L2.St} {H : Hp} {v : V} (e : s[i]? = some (some v)) : Ee (tVar i) s H v := fun h _ Q q => ⟨v, e, q h (fun _ _ e => e)⟩
/-- [e for x in l if t], the items of the list l -/
theorem lc_all {K : PySem.W.Frag} {l : Addr} {i : Nat} {tt : TT} {te : TE} {s : L2.St} {H : Hp} {xs : List V} {g : V → V} {p : V → Bool} {Q : VK} {ti : TE} (hi : ti s H fun v h => v = .ref l ∧ Same H h) (mono : ∀ Q1 Q2 : VK, (∀ v h, Q1 v h → Q2 v h) → ti s H Q1 → ti s H Q2)
    (hl : SqL K H l xs) (hn : xs.length ≤ 1000) (ht : ∀ x ∈ xs, ∀ h, Same H h → Et tt ((wipe s [i]).set i (some x)) h (p x)) (he : ∀ x ∈ xs, p x = true → ∀ h, Same H h → Ee te ((wipe s [i]).set i (some x)) h (g x))
    (q : ∀ L h, Same H h → H L = none → h L = some (.lst ((xs.filter p).map g)) → Q (.ref L) h) : tLc (iList K ti) (gName i) tt te [i] s H Q := by
  refine mono _ _ (fun v H1 => ?_) hi
  rintro ⟨rfl, s1⟩
  refine ⟨l, rfl, ⟨xs, s1.seq hl⟩, fun D nD => ?_⟩
  refine lc_it (walk_list (xs := xs)) (fun j h => h D = some (.lst (((xs.take j).filter p).map g)) ∧ Same H1 h) ⟨upd_same, Same.new nD⟩ (fun j h _ ⟨_, s2⟩ => s2.seq (s1.seq hl)) ?_ ?_
  · rintro j x h h' hj ⟨e, s2⟩ ⟨rfl, hx⟩
    have hm : x ∈ xs := List.mem_of_getElem? hx
    have htk : xs.take (j + 1) = xs.take j ++ [x] := by rw [List.take_add_one, hx]; rfl
    have s3 := s1.trans s2
    refine ⟨?_, ?_⟩
    · show (((wipe s [i]).set i (some x)).set i none) = wipe s [i]
      show (((s.set i none).set i (some x)).set i none) = s.set i none
      rw [List.set_set, List.set_set]
    refine ht x hm h' s3 h' (fun _ _ e => e) _ fun h4 s4 => ?_
    have e4 := s4 _ _ e
    cases hp : p x with
    | true =>
      refine he x hm hp h4 (s3.trans s4) h4 (fun _ _ e => e) _ fun h5 s5 => ?_
      refine ⟨_, s5 _ _ e4, ?_, ?_, Same.mut ((s2.trans s4).trans s5) nD⟩
      · rw [List.length_map]
        have h1 := List.length_filter_le p (xs.take j)
        rw [List.length_take] at h1
        exact line100' (by omega)
      · rw [upd_same, htk, List.filter_append, List.filter_cons_of_pos hp, List.map_append]
        rfl
    | false =>
      refine ⟨?_, s2.trans s4⟩
      rw [htk, List.filter_append, List.filter_cons_of_neg (by rw [hp]; exact Bool.false_ne_true), List.filter_nil, List.append_nil]
      exact e4
  · rintro h ⟨e, s2⟩
    rw [List.take_length] at e
    exact q D h (s1.trans s2) (s1.free nD) e
theorem mono_var {i : Nat} {s : L2.St} {H : Hp} : ∀ Q1 Q2 : VK, (∀ v h, Q1 v h → Q2 v h) → tVar i s H Q1 → tVar i s H Q2 := fun Q1 Q2 k ⟨v, e, h⟩ => ⟨v, e, k v H h⟩
theorem mono_fld {K : PySem.W.Frag} {i : Nat} {f : Str} {s : L2.St} {H : Hp} : ∀ Q1 Q2 : VK, (∀ v h, Q1 v h → Q2 v h) → tFld K (tVar i) f s H Q1 → tFld K (tVar i) f s H Q2 :=
  fun Q1 Q2 k ⟨v, e, a, C, dx, fs, w, h1, h2, h3, h4, h5, h⟩ => ⟨v, e, a, C, dx, fs, w, h1, h2, h3, h4, h5, k w H h⟩
theorem filter_strs (ns : List Str) (p : Str → Bool) (r : V → Bool) (h : ∀ n ∈ ns, r (.str n) = p n) : (ns.map V.str).filter r = (ns.filter p).map V.str := by
  induction ns with
  | nil => rfl
  | cons n t ih =>
    rw [List.map_cons, List.filter_cons, List.filter_cons, h n List.mem_cons_self, ih fun m hm => h m (List.mem_cons_of_mem _ hm)]
    cases p n <;> rfl
end TX
namespace TX
open PySem L2 PyProof.Rows TM
/-- an if whose test is false, whatever was made -/
theorem sq_no {tc : TT} {t B : TS} {D : Ends} {s : L2.St} {H : Hp} (h : Et tc s H false) (k : ∀ h', Same H h' → B D s h') : tSeq (tIfS tc t tNext) B D s H := h H (fun _ _ e => e) _ k
theorem et_or {t u : TT} {s : L2.St} {H : Hp} (h : Et t s H false) (k : ∀ h', Same H h' → Et u s h' false) : Et (tOr t u) s H false := fun h1 s1 Q q =>
  h h1 s1 _ fun h2 s2 => k h2 (s1.trans s2) h2 (fun _ _ e => e) Q fun h3 s3 => q h3 (s2.trans s3)
theorem kids_take {q : Fo} {ks : List Str} {i : Nat} {c : Str} (h : ks[i]? = some c) : (ks.take (i + 1)).flatMap (kidsOf q) = (ks.take i).flatMap (kidsOf q) ++ kidsOf q c := by
  rw [List.take_add_one, h, List.flatMap_append]
  show _ ++ (kidsOf q c ++ []) = _
  rw [List.append_nil]
theorem bool_data (bs : List Bool) : SeqAt.shaped (.list (bs.map PyData.bool)) = true := by
  have h1 : PyData.canLayAll0 (bs.map PyData.bool) = true := by
    induction bs with
    | nil => rfl
    | cons b r ih => rw [List.map_cons]; unfold PyData.canLayAll0; rw [ih]; rfl
  have h2 : PyData.depthAll (bs.map PyData.bool) = 0 := by
    clear h1
    induction bs with
    | nil => rfl
    | cons b r ih => rw [List.map_cons]; unfold PyData.depthAll; rw [ih]; rfl
  unfold SeqAt.shaped
  have a1 : PyData.canLay0 (.list (bs.map PyData.bool)) = true := by unfold PyData.canLay0; exact h1
  have a2 : PyData.depth (.list (bs.map PyData.bool)) ≤ 64 := by unfold PyData.depth; rw [h2]; decide
  rw [a1, decide_eq_true a2]
  rfl
theorem bool_refl (bs : List Bool) : PyData.eqv (.list (bs.map PyData.bool)) (.list (bs.map PyData.bool)) = true := by
  unfold PyData.eqv
  induction bs with
  | nil => rfl
  | cons b r ih =>
    rw [List.map_cons]
    unfold PyData.eqvAll
    rw [ih]
    show (b == b && true) = true
    simp
theorem Dp_bools {K : PySem.W.Frag} {H : Hp} {a : Addr} {bs : List Bool} (h : H a = some (.lst (bs.map V.bl))) : Dp K H (.ref a) (.list (bs.map PyData.bool)) := by
  refine .lst (.of h) ?_
  clear h
  induction bs with
  | nil => exact .nil
  | cons b r ih => exact .cons (.bl b) ih
theorem filter_yes {xs : List V} : xs.filter (fun _ => true) = xs := by
  induction xs with
  | nil => rfl
  | cons x r ih => rw [List.filter_cons_of_pos rfl, ih]
theorem dec_strs (n : Str) (ks : List Str) : decide (V.str n ∈ ks.map V.str) = decide (n ∈ ks) := by
  by_cases hm : n ∈ ks
  · rw [decide_eq_true hm, decide_eq_true (List.mem_map.mpr ⟨n, hm, rfl⟩)]
  · rw [decide_eq_false hm, decide_eq_false]
    intro z
    obtain ⟨m, hm2, e2⟩ := List.mem_map.mp z
    exact hm (V.str.inj e2 ▸ hm2)
theorem same_rfl {H : Hp} : Same H H := fun _ _ e => e
end TX
namespace TX
open PySem L2 PyProof.Rows TM
theorem lt_anti : ∀ {a b : List Nat}, PySem.Spec.ltCps a b = false → PySem.Spec.ltCps b a = false → a = b
  | [], [], _, _ => rfl
  | [], _ :: _, h, _ => by cases h
  | _ :: _, [], _, h => by cases h
  | x :: a, y :: b, h1, h2 => by
    have g1 : (decide (x < y) || (x == y && PySem.Spec.ltCps a b)) = false := h1
    have g2 : (decide (y < x) || (y == x && PySem.Spec.ltCps b a)) = false := h2
    have e : x = y := by
      have a1 : ¬ x < y := fun z => by rw [decide_eq_true z] at g1; cases g1
      have a2 : ¬ y < x := fun z => by rw [decide_eq_true z] at g2; cases g2
      omega
    subst e
    simp at g1 g2
    rw [lt_anti g1 g2]
theorem lt_trans' : ∀ {a b c : List Nat}, PySem.Spec.ltCps b a = false → PySem.Spec.ltCps c b = false → PySem.Spec.ltCps c a = false
  | [], _, [], _, _ => rfl
  | [], [], _ :: _, _, h => rfl
  | [], _ :: _, _ :: _, _, _ => rfl
  | _ :: _, [], _, h, _ => by cases h
  | x :: a, y :: b, [], _, h => by cases h
  | x :: a, y :: b, z :: c, h1, h2 => by
    have g1 : (decide (y < x) || (y == x && PySem.Spec.ltCps b a)) = false := h1
    have g2 : (decide (z < y) || (z == y && PySem.Spec.ltCps c b)) = false := h2
    show (decide (z < x) || (z == x && PySem.Spec.ltCps c a)) = false
    have a1 : ¬ y < x := fun w => by rw [decide_eq_true w] at g1; cases g1
    have a2 : ¬ z < y := fun w => by rw [decide_eq_true w] at g2; cases g2
    have a3 : ¬ z < x := by omega
    rw [decide_eq_false a3, Bool.false_or]
    by_cases e : z = x
    · have e1 : y = x := by omega
      subst e
      subst e1
      simp at g1 g2
      rw [lt_trans' g1 g2]
      simp
    · have : (z == x) = false := by simpa using e
      rw [this]
      rfl
theorem sorted_pair : ∀ {l : List Str}, PyProof.Rows.sortedS l = true → l.Pairwise fun a b => PySem.Spec.ltCps b.cps.toList a.cps.toList = false
  | [], _ => List.Pairwise.nil
  | [x], _ => List.pairwise_singleton _ _
  | x :: y :: r, h => by
    have h' : (!PySem.Spec.ltCps y.cps.toList x.cps.toList && PyProof.Rows.risingS y r) = true := h
    rw [Bool.and_eq_true] at h'
    have ih : (y :: r).Pairwise fun a b => PySem.Spec.ltCps b.cps.toList a.cps.toList = false := sorted_pair h'.2
    have h1 : PySem.Spec.ltCps y.cps.toList x.cps.toList = false := by simpa using h'.1
    refine List.pairwise_cons.mpr ⟨fun z hz => ?_, ih⟩
    rcases List.mem_cons.mp hz with e | hz
    · rw [e]
      exact h1
    · exact lt_trans' h1 ((List.pairwise_cons.mp ih).1 z hz)
theorem sorted_same {l m : List Str} (h : l.Perm m) (h1 : PyProof.Rows.sortedS l = true) (h2 : PyProof.Rows.sortedS m = true) : l = m := by
  refine perm_eq (fun a b r1 r2 => ?_) h (sorted_pair h1) (sorted_pair h2)
  rw [S_eta a, S_eta b, lt_anti r2 r1]
theorem mono_c {v : V} {s : L2.St} {H : Hp} : ∀ Q1 Q2 : VK, (∀ v h, Q1 v h → Q2 v h) → tC v s H Q1 → tC v s H Q2 := fun _ _ k h => k _ _ h
end TX

set_option maxHeartbeats 2000000
/-! Rules of our own: the length of an own instance; isinstance of a caught error, one class or several. -/
namespace TY
open PySem L2 PyProof.Rows TX
section
variable {X : Cx}
/-- len(o) by an own __len__ -/
def rLenO (C : Addr) (sp : Sp) (E : XK) : List V → Hp → VK → Prop := fun xs H Q => ∃ a dx fs, xs = [.ref a] ∧ H a = some (.ins C dx fs) ∧ sp [.ref a] H (fun v H' => ∃ k : Nat, v = .int k ∧ k ≤ 1000000 ∧ Q (.int k) H') E
theorem call_lenO {CX : CXT} {C f : Addr} {fd : FuncData} {ps : List Str} {sp : Sp} {E : XK} {n : Nat} (F : FnOk X.prog X.w X.K X.mg X.base CX n f fd ps sp) (hs : PySem.W.findIn X.K (.ref C) "__len__" = some (some (.ref f)))
    (hf : PySem.W.isFn X.K (.ref f) = true) (hb : Binds X.K fd ps []) (hx : Passes CX X E) (hr : Room (n + 1) X.A) : CallR X (.builtin "len") (rLenO C sp E) := by
  intro pins s σ H xs us Q I r h
  obtain ⟨a, dx, fs, rfl, ha, hsp⟩ := h
  obtain ⟨u, rfl, rx⟩ := vals1 r
  cases rx
  obtain ⟨mA, J, _⟩ := ins_get I.hok ha
  obtain ⟨od, J, _⟩ := J.look
  obtain ⟨m, hF⟩ := I.fr
  refine PySem.W.len_K hF I.ok.mod.kin J hs hf ?_
  have e0 : Env0 X.prog X.w X.K X.mg X.base X.A.in1 X.stack s H := by
    have e := I.env0
    exact ⟨e.frames, e.mod, e.bs, e.bsz, e.funs, e.frf, e.hok, e.bare⟩
  have hl := F.len _ _ _ _ hsp
  refine wpAny_call (codeAny_mono (F.run X.A.in1 X.stack s H ⟨[.ref a], []⟩ [.ref a] [.ref a] _ E hr.in1 e0 (by
    have := hb s [.ref a] I.kIn (by simpa using hl)
    simpa using this) (.cons rfl .nil) hsp) fun r s' hq => ?_)
  cases r with
  | error e => exact hx pins σ H s e s' I hq
  | ok fl =>
    cases fl with
    | ret u =>
      obtain ⟨z, H', I', rz, k, ez, hk, q⟩ := I.after hq
      subst ez
      obtain ⟨t, rfl⟩ := rz
      show PySem.W.LenBack _ (.int (k : Int) t) s'
      exact ⟨by omega, ⟨.int k, H', I'.tok _, ⟨_, rfl⟩, q⟩⟩
    | next => exact False.elim hq
    | brk => exact False.elim hq
    | cont => exact False.elim hq
/-- isinstance of the error that the suite holds: one class, or a tuple of classes that was just laid -/
def rIsX (K : PySem.W.Frag) (a : Addr) (cls : Value) (d : Option Addr) : List V → Hp → VK → Prop := fun xs H Q => ∃ (D : Addr) (c : V) (b : Bool), cls = .ref D ∧ d = none ∧ ExcC K D ∧ xs = [.ref a, c] ∧
  ((∃ cv, ClsV c cv ∧ PySem.W.kitOne K (.ref D) cv = some b) ∨ (∃ tp cs us, c = .ref tp ∧ H tp = some (.tup cs) ∧ Paired ClsV cs us ∧ PySem.W.kitAny K (.ref D) us = some b)) ∧ Q (.bl b) H
theorem call_isX {a : Addr} {oe : Obj} {cls : Value} {d : Option Addr} {pn : List (Addr × Obj)} (hz : Zc cls d oe) (hf : ∃ vs, oe.data = .fields vs) : CallR (X.suite a ((a, oe) :: pn)) (.builtin "isinstance") (rIsX X.K a cls d) := by
  intro pins s σ H xs us Q I r h
  obtain ⟨D, c, b, rfl, rfl, C, rfl, hc, q⟩ := h
  obtain ⟨u1, u2, rfl, r1, r2⟩ := vals2 r
  cases r1
  obtain ⟨hget, _⟩ := I.pin (a, oe) (List.mem_append.mpr (.inl List.mem_cons_self))
  obtain ⟨vs, hv⟩ := hf
  have J : PySem.W.InstAt s.heap a oe D none := by
    obtain ⟨oc, od, oda, osl⟩ := oe
    obtain ⟨h1, h2⟩ := hz
    dsimp only at h1 h2 hv
    subst h1 h2 hv
    exact ⟨hget, rfl, rfl, trivial⟩
  have Z := PySem.W.handS_kitx_exc (x := a) (ox := oe) C.hg C.hk C.hs C.hd C.ha C.hn C.ht C.hm
  rcases hc with ⟨cv, hcv, e⟩ | ⟨tp, cs, ws, rfl, hT, k, e⟩
  · have e2 := hcv.eq r2
    subst e2
    exact PySem.W.kia_one Z I.kIn J e (fun z => nomatch z) fun tk => ⟨.bl b, H, I.kept (t' := tk) fun _ _ z => z, rfl, q⟩
  · cases (show u2 = Value.ref tp from r2)
    obtain ⟨_, its, rv, o, h1, h2, n, h3⟩ := (show ObjOk X.prog X.w H s.heap tp (.tup cs) from I.hok tp _ hT)
    have e3 := ClsV.all k rv
    subst e3
    obtain ⟨oc, od, dt, sl⟩ := o
    simp only at h2 h3
    subst h2 h3
    exact PySem.W.kia_tup Z I.kIn J h1 e (fun z => nomatch z) fun tk => ⟨.bl b, H, I.kept (t' := tk) fun _ _ z => z, rfl, q⟩
end
end TY

set_option maxHeartbeats 2000000
/-! Rules of our own: a made instance whose __init__ may raise; isinstance of a caught error that has a dict; two lists of the same items. -/
namespace TY
open PySem L2 PyProof.Rows TX
section
variable {X : Cx} {CX : CXT} {k : Nat} {f C : Addr} {fd : FuncData} {ps : List Str} {sp : Sp} {E : L2.St → XK} {x : Str} {p pos : Pos} {e : Expr} {es : List Expr} {t : TA}
theorem run_makeS {pins : List (Addr × Obj)} {σ : L2.St} {H : Hp} {s : Shared} {Q : VK} {us : List Value} {vs : List V} (M : Mk X.K C f) (F : FnOk X.prog X.w X.K X.mg X.base CX k f fd ps sp) (hr : Room (k + 1) X.A) (hb : Binds X.K fd ps [])
    (hx : PassesAt CX X σ (E σ)) (I : Inv X pins σ H s) (r : Vals vs us)
    (h : ∀ x dx, H x = none → H dx = none → dx ≠ x → sp (.ref x :: vs) (upd (upd H dx (.own x)) x (.ins C dx [])) (fun v H2 => v = .non ∧ Q (.ref x) H2) (E σ)) :
    wpAny (model X.prog X.w) X.A (call (.ref C) us) (EP X pins σ Q) X.xe s := by
  have hq := h (s.heap.objs.size + 1) s.heap.objs.size (I.hok.fresh (Nat.le_succ _)) (I.hok.fresh (Nat.le_refl _)) (Nat.ne_of_lt (Nat.lt_succ_self _))
  have I2 := Inv.made (C := C) I
  have r2 : Vals (V.ref (s.heap.objs.size + 1) :: vs) (Value.ref (s.heap.objs.size + 1) :: us) := .cons rfl r
  have hl : (Value.ref (s.heap.objs.size + 1) :: us).length = ps.length := by
    have e := r2.length
    rw [F.len _ _ _ _ hq] at e
    exact e.symm
  have b := hb _ (Value.ref (s.heap.objs.size + 1) :: us) I2.kIn (by rw [List.append_nil]; exact hl)
  rw [List.append_nil] at b
  refine wpAny_call (make_map (f := f) I.kIn M.makes M.init (beq_iff_eq.mp M.fn) (codeAny_mono (F.run _ X.stack _ _ ⟨Value.ref (s.heap.objs.size + 1) :: us, []⟩ (Value.ref (s.heap.objs.size + 1) :: us) _ _ (E σ) (hr.make C us [])
    (I2.env0.make C us []) b r2 hq) fun r s' hq' => ?_))
  cases r with
  | error e => exact hx pins _ _ e s' I2 hq'
  | ok fl =>
    cases fl with
    | ret u =>
      obtain ⟨v, H', I3, rv, ev, q3⟩ := I2.after hq'
      subst ev
      exact ⟨rv, ⟨V.ref (s.heap.objs.size + 1), H', I3, rfl, q3⟩⟩
    | next => exact False.elim hq'
    | brk => exact False.elim hq'
    | cont => exact False.elim hq'
/-- C(..), whose __init__ may raise -/
def tMakeS (C : Addr) (sp : Sp) (E : L2.St → XK) (t : TA) : TE := fun σ H Q => t σ H fun vs H1 => ∀ x dx, H1 x = none → H1 dx = none → dx ≠ x →
  sp (.ref x :: vs) (upd (upd H1 dx (.own x)) x (.ins C dx [])) (fun v H2 => v = .non ∧ Q (.ref x) H2) (E σ)
theorem pe_makeS (M : Mk X.K C f) (F : FnOk X.prog X.w X.K X.mg X.base CX k f fd ps sp) (hr : Room (k + 1) X.A) (hg : Gl X x) (hm : X.mg x = some (.ref C)) (hb : Binds X.K fd ps []) (hx : ∀ σ, PassesAt CX X σ (E σ))
    (ha : PA X (e :: es) t) (hdb : (x == ("__debug__" : Str)) = false := by decide) (he : starEach (e :: es) X.env = (false, eval e X.env) :: starEach es X.env := by rfl) (hpl : (backTo pos (starEach es X.env)).any (·.1) = false := by rfl) :
    PE X (.Call (.Name x p) (e :: es) [] pos) (tMakeS C sp E t) := by
  refine ⟨fun pins s σ H Q I h => ?_⟩
  refine wpAny_Call_Name_kw (ld_glob I hg hm ?_ hdb)
  refine PySem.W.callWith_K (h₀ := X.base) I.ok.mod.kin M.kp (thn (ha.run pos pins s σ H _ I h) fun us s1 ⟨vs, H1, I1, r, q⟩ => ⟨I1.kIn, ?_⟩) he hpl
  exact run_makeS M F hr hb (hx σ) I1 r q
/-- isinstance of the error that the suite holds, which has a dict -/
def rIsXd (K : PySem.W.Frag) (a : Addr) (cls : Value) (d : Option Addr) : List V → Hp → VK → Prop := fun xs H Q => ∃ (D : Addr) (c : V) (b : Bool), cls = .ref D ∧ ExcC K D ∧ (∃ (dd : Addr) (fs : List (Str × V)), d = some dd ∧ H dd = some (.xd fs)) ∧ xs = [.ref a, c] ∧
  ((∃ cv, ClsV c cv ∧ PySem.W.kitOne K (.ref D) cv = some b) ∨ (∃ tp cs us, c = .ref tp ∧ H tp = some (.tup cs) ∧ Paired ClsV cs us ∧ PySem.W.kitAny K (.ref D) us = some b)) ∧ Q (.bl b) H
theorem call_isXd {a : Addr} {oe : Obj} {cls : Value} {d : Option Addr} {pn : List (Addr × Obj)} (hz : Zc cls d oe) (hf : ∃ vs, oe.data = .fields vs) : CallR (X.suite a ((a, oe) :: pn)) (.builtin "isinstance") (rIsXd X.K a cls d) := by
  intro pins s σ H xs us Q I r h
  obtain ⟨D, c, b, rfl, C, ⟨dd, fs, rfl, hdd⟩, rfl, hc, q⟩ := h
  obtain ⟨u1, u2, rfl, r1, r2⟩ := vals2 r
  cases r1
  obtain ⟨hget, _⟩ := I.pin (a, oe) (List.mem_append.mpr (.inl List.mem_cons_self))
  obtain ⟨vs, hv⟩ := hf
  have hx : ObjOk X.prog X.w H s.heap dd (.xd fs) := I.hok dd _ hdd
  obtain ⟨mA, hns, hr⟩ := hx
  obtain ⟨od, ho, hl⟩ := lookIn_ns hns
  have J : PySem.W.InstAt s.heap a oe D (some od) := ⟨hget, hz.1, by unfold PySem.W.notCls; rw [hv] <;> rfl, by rw [hz.2]; exact ho⟩
  have hcl : (PySem.W.clsIn X.K D).isSome = true := by
    obtain ⟨cd, hc', _⟩ := PySem.W.any_some C.hd
    rw [hc']
    rfl
  have Z := PySem.W.kitx_exc (x := a) (ox := oe) (od := some od) hcl C.hg C.hk C.hs C.ha C.hn C.ht C.hm
  rcases hc with ⟨cv, hcv, e⟩ | ⟨tp, cs, ws, rfl, hT, k, e⟩
  · have e2 := hcv.eq r2
    subst e2
    exact PySem.W.kia_one Z I.kIn J e (fun z => nomatch z) fun tk => ⟨.bl b, H, I.kept (t' := tk) fun _ _ z => z, rfl, q⟩
  · cases (show u2 = Value.ref tp from r2)
    obtain ⟨_, its, rv, o, h1, h2, n, h3⟩ := (show ObjOk X.prog X.w H s.heap tp (.tup cs) from I.hok tp _ hT)
    have e3 := ClsV.all k rv
    subst e3
    obtain ⟨oc, od', dt, sl⟩ := o
    simp only at h2 h3
    subst h2 h3
    exact PySem.W.kia_tup Z I.kIn J h1 e (fun z => nomatch z) fun tk => ⟨.bl b, H, I.kept (t' := tk) fun _ _ z => z, rfl, q⟩
/-- two lists of the same items: != is False -/
def itemV : V → Bool
  | .non => true
  | .bl _ => true
  | .int _ => true
  | .str _ => true
  | .ref _ => true
  | _ => false
theorem eqAt_item {A : Around} {s : Shared} {x : V} {u v : Value} (rx : RelV x u) (ry : RelV x v) (h : itemV x = true) : SeqAt.EqAt A s u v true := by
  cases x with
  | ref a =>
    cases (show u = Value.ref a from rx)
    cases (show v = Value.ref a from ry)
    intro prog w E Q hq
    unfold eqBool
    refine wpAny_holding ?_
    refine wpAny_ite_split (fun _ => ?_) (fun hab => absurd (by simp) hab)
    wp_walk
    exact hq
  | non => exact (eqAt_V rx ry rfl rfl : _)
  | bl b => have q := eqAt_V (A := A) (s := s) rx ry rfl rfl; rw [show eqV (.bl b) (.bl b) = true by simp [eqV]] at q; exact q
  | int i => have q := eqAt_V (A := A) (s := s) rx ry rfl rfl; rw [show eqV (.int i) (.int i) = true by simp [eqV]] at q; exact q
  | str z => have q := eqAt_V (A := A) (s := s) rx ry rfl rfl; rw [show eqV (.str z) (.str z) = true by simp [eqV]] at q; exact q
  | _ => cases h
def rNeSame (K : PySem.W.Frag) : R2 := fun x y H Q => ∃ a b xs, x = .ref a ∧ y = .ref b ∧ SqL K H a xs ∧ SqL K H b xs ∧ xs.all itemV = true ∧ Q (.bl false) H
theorem op_neSame (hu : X.A.units < cLine) : OpR X (compareOp .NotEq) (rNeSame X.K) := by
  intro pins s σ H x y v u Q I rx ry h
  obtain ⟨a, b, xs, rfl, rfl, ha, hb, hi, q⟩ := h
  cases rx
  cases ry
  obtain ⟨its, r, hl, _⟩ := I.list ha
  obtain ⟨its2, r2, hl2, _⟩ := I.list hb
  have hsz : its.toArray.size = its2.toArray.size := by rw [List.size_toArray, List.size_toArray, ← r.length, ← r2.length]
  have he : ∀ j (h1 : j < its.toArray.size) (h2 : j < its2.toArray.size), SeqAt.EqAt X.A.in1 s its.toArray[j] its2.toArray[j] ((fun _ => true) j) := by
    intro j h1 h2
    have k1 : j < xs.length := by rw [r.length]; simpa using h1
    obtain ⟨u1, e1, r1⟩ := r.get (List.getElem?_eq_getElem k1)
    obtain ⟨u2, e2, r3⟩ := r2.get (List.getElem?_eq_getElem k1)
    have g1 : its.toArray[j] = u1 := by
      have h1' : j < its.length := by simpa using h1
      rw [List.getElem?_eq_getElem h1'] at e1
      simpa using Option.some.inj e1
    have g2 : its2.toArray[j] = u2 := by
      have h2' : j < its2.length := by simpa using h2
      rw [List.getElem?_eq_getElem h2'] at e2
      simpa using Option.some.inj e2
    rw [g1, g2]
    exact eqAt_item r1 r3 (List.all_eq_true.mp hi _ (List.getElem_mem k1))
  have z := SeqAt.RcNeAt.lists hl.isList hl2.isList hsz hu he
  have e : (List.range its.toArray.size).all (fun _ => true) = true := by simp
  rw [e] at z
  exact z X.prog X.w X.xe _ ⟨.bl false, H, I, rfl, q⟩
/-- a list == [] -/
def rEqNil (K : PySem.W.Frag) : R2 := fun x y H Q => ∃ a b xs, x = .ref a ∧ y = .ref b ∧ SqL K H a xs ∧ SqL K H b [] ∧ Q (.bl xs.isEmpty) H
theorem op_eqNil (hu : X.A.units < cLine) : OpR X (compareOp .Eq) (rEqNil X.K) := by
  intro pins s σ H x y v u Q I rx ry h
  obtain ⟨a, b, xs, rfl, rfl, ha, hb, q⟩ := h
  cases rx
  cases ry
  obtain ⟨its, r, hl, _⟩ := I.list ha
  obtain ⟨its2, r2, hl2, _⟩ := I.list hb
  have h2 : its2 = [] := by
    cases r2
    rfl
  subst h2
  cases xs with
  | nil =>
    cases r
    have z := SeqAt.RcAt.lists (e := fun _ => true) hl.isList hl2.isList rfl hu (fun j h1 h2 => absurd h1 (by simp))
    exact z X.prog X.w X.xe _ ⟨.bl true, H, I, rfl, q⟩
  | cons z zs =>
    have hsz : (its.toArray.size != ([] : List Value).toArray.size) = true := by
      have : its.length = (z :: zs).length := r.length.symm
      simp [this]
    have z := SeqAt.RcAt.lists_lengths hl.isList hl2.isList hsz hu
    exact z X.prog X.w X.xe _ ⟨.bl false, H, I, rfl, q⟩
/-- one sign of a text -/
theorem found_sign (x : Str) (c : Nat) : (!(Builtin.Str.occurrences x ⟨#[c]⟩ 0 x.length 1).isEmpty) = decide (c ∈ x.cps.toList) := StrLaws.found_one x c
end
end TY

namespace T88
open PySem L2
def top (i : Nat) : Stmt := PySem.Challenge.pw_foldbough_k88_what_shows_no_tree.main.body.getD i (.Pass ⟨0, 0, 0, 0⟩)
abbrev s_notext : Stmt := inClass (top 4) 0
abbrev s_is_name : Stmt := top 9
abbrev s_is_name_in : Stmt := top 10
abbrev s_tinit : Stmt := inClass (top 12) 0
abbrev s_tcolumns : Stmt := inClass (top 12) 1
abbrev s_tpairs : Stmt := inClass (top 12) 2
abbrev s_tover : Stmt := inClass (top 12) 3
abbrev s_tabove : Stmt := inClass (top 12) 4
abbrev s_tbeneath : Stmt := inClass (top 12) 5
abbrev s_tchildren : Stmt := inClass (top 12) 6
abbrev s_tisabove : Stmt := inClass (top 12) 7
abbrev s_tcheck : Stmt := inClass (top 12) 8
abbrev s_tlen : Stmt := inClass (top 12) 9
abbrev s_teq : Stmt := inClass (top 12) 10
abbrev s_tstr : Stmt := inClass (top 12) 11
abbrev s_told : Stmt := top 13
abbrev s_is_pair : Stmt := top 14
abbrev s_in_order : Stmt := top 15
abbrev s_written : Stmt := top 16
abbrev s_rinit : Stmt := inClass (top 18) 0
abbrev s_rtakes : Stmt := inClass (top 18) 1
abbrev s_rends : Stmt := inClass (top 18) 2
abbrev s_rpairs : Stmt := inClass (top 18) 3
abbrev s_rletter : Stmt := inClass (top 18) 4
abbrev s_rendn : Stmt := inClass (top 18) 5
abbrev s_show : Stmt := top 19
abbrev s_read : Stmt := top 20
abbrev s_checkt : Stmt := top 21
abbrev s_well : Stmt := top 23
abbrev s_draw : Stmt := top 24
abbrev s_ltext : Stmt := top 25
abbrev s_spoilt : Stmt := top 26
abbrev s_stop : Stmt := top 27
abbrev s_answer : Stmt := top 28
abbrev s_law : Stmt := top 29
end T88

set_option maxHeartbeats 1000000
local macro_rules | `(tactic| walk_at "z") => `(tactic| ((try dsimp only); first | assumption | omega | decide | (simp only [List.length_cons, List.length_nil]; first | decide | omega)))
namespace T88
open PySem L2 PyProof.Rows TX
section
variable {P : Program} {w : World} {K : PySem.W.Frag} {mg : Str → Option Value} {base : Heap}
/-- the constants of the module -/
structure Cn (mg : Str → Option Value) : Prop where
  longest : ∃ t, mg "LONGEST_NAME" = some (.int 8 t)
  most : ∃ t, mg "MOST_COLUMNS" = some (.int 8 t)
theorem sc_is_name : FnScope ["thing", "sign"] ["thing"] (defScope s_is_name) := ⟨rfl, rfl, rfl, by decide +kernel, rfl, by decide +kernel, by decide +kernel⟩
def sp_is_name : Sp := fun vs H Q _ => ∃ (x : Str), vs = [.str x] ∧ TM.NameOk x ∧ ∀ H', Same H H' → Q (.bl true) H'
theorem ok_is_name {f : Addr} {fd : FuncData} (F : Fn K mg "is_name" s_is_name ["thing"] f fd) (B : Bn mg) (C : Cn mg) : FnOk P w K mg base CX0 1 f fd ["thing"] sp_is_name := by
  refine F.F.ok sc_is_name (fun vs H Q E h => ?_) (fun cdv A outer s H vs Q E hr h => ?_)
  · obtain ⟨x, rfl, _⟩ := h
    rfl
  · obtain ⟨x, rfl, ⟨n1, n2, n3⟩, q⟩ := h
    have hu := hu_of hr
    obtain ⟨tl, hlg⟩ := C.longest
    refine ⟨_, pss_cons (ps_if (PW.pt (pw_or (pt_not (pt_val (pe_callB call_isi (by rfl) B.isi boot_isinstance (pa_cons (pv 0) (pa_cons (pe_bltn (v := .ty "str") (by rfl) B.str boot_str rfl) pa_nil)))))
        (pw_or1 (pt_not (pt_chain op_le op_le pe_int (pe_callB call_len_str (by rfl) B.len PySem.boot_len (pa_cons (pv 0) pa_nil)) (pe_glob (v := .int 8) (by rfl) hlg ⟨_, rfl⟩)))))) (pss_one (ps_ret pe_bl)) pss_nil)
      (pss_one (ps_ret (pe_callB (cr_all rfl) (by rfl) B.all boot_all (pa_cons (pe_lc (own := [("sign", 1)]) (g := gName 1) (tt := tYes) rfl sc_is_name.nd (pi_str (pv 0)) (blkOk_by (N := ["thing", "sign"]) (sc := defScope s_is_name) (by decide +kernel))
          (fun _ _ _ _ _ => pg_name (i := 1) sc_is_name.nd rfl (Or.inl rfl)) (fun _ _ _ _ _ => pts_nil)
          (fun _ _ _ _ _ => pe_chain op_le_str op_le_str pe_str (pv 1) pe_str)) pa_nil)))), ?_⟩
    refine ⟨_, rfl, _, _, _, _, true, rfl, .ty _, .base (.str _), kit_ty (by decide +kernel), _, rfl, ?_⟩
    refine ⟨_, rfl, x, rfl, line100 (by omega), _, _, rfl, rfl, true, ?_, _, _, rfl, rfl, true, ?_, ?_⟩
    · exact congrArg V.bl (decide_eq_true (show (1 : Int) ≤ (x.length : Int) by omega))
    · exact congrArg V.bl (decide_eq_true (show (x.length : Int) ≤ 8 by omega))
    refine ⟨_, rfl, x, rfl, fun L nL => ?_⟩
    refine lc_it walk_str (fun i H' => H' L = some (.lst (List.replicate i (V.bl true))) ∧ Same H H') ⟨upd_same, Same.new nL⟩ (fun _ _ _ _ => trivial) ?_ ?_
    · rintro i v H1 H1' hi ⟨e1, s1⟩ ⟨rfl, c, hc, rfl⟩
      have hcm : c ∈ x.cps.toList := by
        rw [Array.mem_toList_iff]
        exact Array.mem_of_getElem? hc
      obtain ⟨c1, c2⟩ := n3 c hcm
      refine ⟨rfl, ?_⟩
      have l1 : ¬ ([c] < (Str.ofString "a").cps.toList) := by
        rw [str_a, S_cps, lt_sign]
        omega
      have l2 : ¬ ((Str.ofString "z").cps.toList < [c]) := by
        rw [str_z, S_cps, lt_sign]
        omega
      refine ⟨_, rfl, _, _, rfl, rfl, true, ?_, _, _, rfl, rfl, ?_⟩
      · show V.bl (!decide ([c] < (Str.ofString "a").cps.toList)) = V.bl true
        rw [decide_eq_false l1]
        rfl
      · refine ⟨_, e1, ?_, ?_, Same.mut s1 nL⟩
        · rw [List.length_replicate]
          have : x.cps.size ≤ 8 := n2
          exact line100' (by omega)
        · rw [upd_same, List.replicate_succ']
          show some (HO.lst (List.replicate i (V.bl true) ++ [V.bl (!decide ((Str.ofString "z").cps.toList < [c]))])) = _
          rw [decide_eq_false l2]
          rfl
    · rintro H1 ⟨e1, s1⟩
      refine ⟨L, List.replicate x.cps.size true, rfl, .of (by rw [e1, List.map_replicate]), ?_⟩
      have : (List.replicate x.cps.size true).all id = true := by
        rw [List.all_eq_true]
        intro b hb
        rw [List.eq_of_mem_replicate hb]
        rfl
      rw [this]
      exact q _ s1
/-- is_name_in asked of a dict of names -/
theorem sc_is_name_in : FnScope ["thing", "names"] ["thing", "names"] (defScope s_is_name_in) := ⟨rfl, rfl, rfl, by decide +kernel, rfl, by decide +kernel, by decide +kernel⟩
def sp_is_name_inD : Sp := fun vs H Q _ => ∃ (x : Str) (d : Addr) (kvs : List (Key × V)), vs = [.str x, .ref d] ∧ TM.NameOk x ∧ H d = some (.dK kvs) ∧ ∀ H', Same H H' → Q (.bl (valV kvs (Sum.inr x : Key)).isSome) H'
theorem ok_is_name_inD {f fN : Addr} {fd fdN : FuncData} (F : Fn K mg "is_name_in" s_is_name_in ["thing", "names"] f fd) (B : Bn mg) (C : Cn mg) (FN : Fn K mg "is_name" s_is_name ["thing"] fN fdN) : FnOk P w K mg base CX0 2 f fd ["thing", "names"] sp_is_name_inD := by
  have GN : FnOk P w K mg base CX0 1 fN fdN ["thing"] sp_is_name := ok_is_name FN B C
  refine F.F.ok sc_is_name_in (fun vs H Q E h => ?_) (fun cdv A outer s H vs Q E hr h => ?_)
  · obtain ⟨x, d, kvs, rfl, _⟩ := h
    rfl
  · obtain ⟨x, d, kvs, rfl, hx, hd, q⟩ := h
    have hu := hu_of hr
    refine ⟨_, pss_one (ps_ret (pe_and (pe_call GN hr rfl FN.g FN.F.kp FN.b .nil pass0 (pa_cons (pv 0) pa_nil)) (pe_one (pe_cmp (pc_din hu (pv 0) (pv 1)))))), ?_⟩
    refine ⟨_, rfl, x, rfl, hx, fun H1 s1 => ⟨true, rfl, ?_⟩⟩
    exact ⟨_, rfl, _, rfl, d, _, rfl, DGet.k (k := Sum.inr x) (s1 _ _ hd), q H1 s1⟩
/-- a pair that may stand behind those told -/
theorem sc_is_pair : FnScope ["thing", "overs", "column", "upper"] ["thing", "overs"] (defScope s_is_pair) := ⟨rfl, rfl, rfl, by decide +kernel, rfl, by decide +kernel, by decide +kernel⟩
def sp_is_pair : Sp := fun vs H Q _ => ∃ (a d : Addr) (c : Str) (o : Option Str) (ps : List TM.Pr), vs = [.ref a, .ref d] ∧ H a = some (.tup [.str c, optV o]) ∧ H d = some (.dK (kvsOf ps)) ∧ (ps.map Prod.fst).Nodup ∧ TM.NameOk c ∧ c ∉ ps.map Prod.fst ∧
  (∀ x, o = some x → x ∈ ps.map Prod.fst ∧ TM.NameOk x) ∧ ∀ H', Same H H' → Q (.bl true) H'
theorem ok_is_pair {f fN fC : Addr} {fd fdN fdC : FuncData} (F : Fn K mg "_is_pair" s_is_pair ["thing", "overs"] f fd) (B : Bn mg) (C : Cn mg) (FN : Fn K mg "is_name" s_is_name ["thing"] fN fdN) (FC : Fn K mg "is_name_in" s_is_name_in ["thing", "names"] fC fdC) :
    FnOk P w K mg base CX0 3 f fd ["thing", "overs"] sp_is_pair := by
  have GN : FnOk P w K mg base CX0 1 fN fdN ["thing"] sp_is_name := ok_is_name FN B C
  have GC : FnOk P w K mg base CX0 2 fC fdC ["thing", "names"] sp_is_name_inD := ok_is_name_inD FC B C FN
  refine F.F.ok sc_is_pair (fun vs H Q E h => ?_) (fun cdv A outer s H vs Q E hr h => ?_)
  · obtain ⟨a, d, c, o, ps, rfl, _⟩ := h
    rfl
  · obtain ⟨a, d, c, o, ps, rfl, ha, hd, hnd, hc, hcn, ho, q⟩ := h
    have hu := hu_of hr
    have hr1 : Room 1 _ := hr.mono (by decide)
    refine ⟨_, pss_cons (ps_if (PW.pt (pw_or (pt_not (pt_val (pe_callB call_isi (by rfl) B.isi boot_isinstance (pa_cons (pv 0) (pa_cons (pe_bltn (v := .ty "tuple") (by rfl) B.tuple boot_tuple rfl) pa_nil)))))
        (pw_or1 (pt_cmpR op_ne (pe_callB call_len_seq (by rfl) B.len PySem.boot_len (pa_cons (pv 0) pa_nil)) pe_int (nomark _))))) (pss_one (ps_ret pe_bl)) pss_nil)
      (pss_cons (ps_asg (pv 0) (pg_tup rfl (pgs_cons (pg_name (i := 2) sc_is_pair.nd rfl (Or.inl rfl)) (pgs_cons (pg_name (i := 3) sc_is_pair.nd rfl (Or.inl rfl)) pgs_nil))))
      (pss_cons (ps_if (PW.pt (pw_or (pt_not (pt_val (pe_call GN hr1 rfl FN.g FN.F.kp FN.b .nil pass0 (pa_cons (pv 2) pa_nil)))) (pw_or1 (pt_cmp (pc_din hu (pv 2) (pv 1)))))) (pss_one (ps_ret pe_bl)) pss_nil)
      (pss_one (ps_ret (pe_or (pe_cmp (pc_isN (pv 3))) (pe_one (pe_call GC hr rfl FC.g FC.F.kp FC.b .nil pass0 (pa_cons (pv 3) (pa_cons (pv 1) pa_nil))))))))), ?_⟩
    refine ⟨_, rfl, _, _, _, _, true, rfl, .ty _, .base (.tup ha), kit_ty (by decide +kernel), _, rfl, ?_⟩
    refine ⟨_, rfl, a, _, rfl, .inr (.of ha), rfl, _, rfl, ?_⟩
    refine ⟨_, rfl, a, _, rfl, .of ha, rfl, _, _, rfl, _, _, rfl, rfl, ?_⟩
    refine ⟨_, rfl, c, rfl, hc, fun H1 s1 => ⟨true, rfl, ?_⟩⟩
    refine ⟨_, rfl, _, rfl, d, _, rfl, DGet.k (k := Sum.inr c) (s1 _ _ hd), _, rfl, ?_⟩
    rw [kvs_none hcn]
    cases o with
    | none => exact ⟨_, rfl, true, rfl, q H1 s1⟩
    | some x =>
      obtain ⟨hx, nx⟩ := ho x rfl
      refine ⟨_, rfl, false, rfl, ?_⟩
      refine ⟨_, rfl, _, rfl, x, d, _, rfl, nx, s1 _ _ hd, fun H2 s2 => ?_⟩
      obtain ⟨⟨x', o'⟩, hm, rfl⟩ := List.mem_map.mp hx
      rw [kvs_some hnd hm]
      exact q H2 (s1.trans s2)
end
end T88

set_option maxHeartbeats 1000000
namespace T88
open PySem L2 PyProof.Rows TX
section
variable {P : Program} {w : World} {K : PySem.W.Frag} {mg : Str → Option Value} {base : Heap}
/-- the defs of the program that all trees' proofs call -/
structure Kd (K : PySem.W.Frag) (mg : Str → Option Value) (fN fC fP fT fO : Addr) (dN dC dP dT dO : FuncData) : Prop where
  B : Bn mg
  C : Cn mg
  isn : Fn K mg "is_name" s_is_name ["thing"] fN dN
  isc : Fn K mg "is_name_in" s_is_name_in ["thing", "names"] fC dC
  isp : Fn K mg "_is_pair" s_is_pair ["thing", "overs"] fP dP
  told : Fn K mg "_told_overs" s_told ["pairs"] fT dT
  ord : Fn K mg "_in_order" s_in_order ["overs", "upper"] fO dO
variable {fN fC fP fT fO : Addr} {dN dC dP dT dO : FuncData}
theorem sc_told : FnScope ["pairs", "overs", "at", "pair"] ["pairs"] (defScope s_told) := ⟨rfl, rfl, rfl, by decide +kernel, rfl, by decide +kernel, by decide +kernel⟩
def sp_told : Sp := fun vs H Q _ => ∃ (L : Addr) (ps : List TM.Pr), vs = [.ref L] ∧ PairsAt H L ps ∧ TM.Valid [] ps ∧ ps.length ≤ 8 ∧ (∀ x ∈ ps.map Prod.fst, TM.NameOk x) ∧
  ∀ H' d, Same H H' → H d = none → H' d = some (.dK (kvsOf ps)) → Q (.ref d) H'
theorem ok_told (T : Kd K mg fN fC fP fT fO dN dC dP dT dO) : FnOk P w K mg base CX0 4 fT dT ["pairs"] sp_told := by
  have GP : FnOk P w K mg base CX0 3 fP dP ["thing", "overs"] sp_is_pair := ok_is_pair T.isp T.B T.C T.isn T.isc
  refine T.told.F.ok sc_told (fun vs H Q E h => ?_) (fun cdv A outer s H vs Q E hr h => ?_)
  · obtain ⟨L, ps, rfl, _⟩ := h
    rfl
  · obtain ⟨L, ps, rfl, ⟨as, hL, ht⟩, va, hl8, hnm, q⟩ := h
    have hu := hu_of hr
    have B := T.B
    obtain ⟨tl, hmo⟩ := T.C.most
    have hal := ht.len
    have hnd := TM.valid_nodup va
    refine ⟨_, pss_cons (ps_if (pt_not (pt_val (pe_callB call_isi (by rfl) B.isi boot_isinstance (pa_cons (pv 0) (pa_cons (pe_bltn (v := .ty "list") (by rfl) B.list boot_list rfl) pa_nil))))) (pss_one ps_never) pss_nil)
      (pss_cons (ps_set (i := 1) sc_told.nd rfl (Or.inl rfl) pe_dnewK)
      (pss_cons (ps_for PassesOwn.never rfl (pi_enum rfl B.enum (pa_cons (pv 0) pa_nil)) (pg_tup rfl (pgs_cons (pg_name (i := 2) sc_told.nd rfl (Or.inl rfl)) (pgs_cons (pg_name (i := 3) sc_told.nd rfl (Or.inl rfl)) pgs_nil)))
        (pss_cons (ps_if (PW.pt (pw_or (pt_cmpR op_ge (pv 2) (pe_glob (v := .int 8) (by rfl) hmo ⟨_, rfl⟩) (nomark _)) (pw_or1 (pt_not (pt_val (pe_call GP hr rfl T.isp.g T.isp.F.kp T.isp.b .nil pass0 (pa_cons (pv 3) (pa_cons (pv 1) pa_nil)))))))) (pss_one ps_never) pss_nil)
        (pss_one (ps_dput hu (pv 1) (pe_ix ix_tup (pv 3) pe_int (fun _ _ => rfl)) (pe_ix ix_tup (pv 3) pe_int (fun _ _ => rfl)) rfl))))
      (pss_one (ps_ret (pv 1))))), ?_⟩
    refine ⟨_, rfl, _, _, _, _, true, rfl, .ty _, .base (.lst hL), kit_ty (by decide +kernel), _, rfl, ?_⟩
    intro d nd
    have hLd : L ≠ d := ne_of_none hL nd
    refine ⟨_, rfl, L, as.map V.ref, rfl, .of (by rw [upd_ne hLd]; exact hL), ?_⟩
    refine for_it (walk_enum (xs := as.map V.ref)) (fun i σ H' => ∃ v1 v2 : Option V, σ = [some (.ref L), some (.ref d), v1, v2] ∧ H' d = some (.dK (kvsOf (ps.take i))) ∧ Same H H')
      ⟨none, none, rfl, upd_same, Same.new nd⟩ (fun i σ H1 hi ⟨_, _, _, _, s1⟩ => .of (s1 _ _ hL)) ?_ ?_
    · rintro i x σ H1 H1' hi ⟨v1, v2, rfl, e1, s1⟩ ⟨T', x1, x2, rfl, nT, rfl, hx1, hx2⟩
      rw [List.length_map] at hi
      obtain rfl : V.int (i : Int) = x1 := Option.some.inj hx1
      have hi' : i < ps.length := by omega
      obtain ⟨a, ha, rfl⟩ : ∃ a, as[i]? = some a ∧ x2 = V.ref a := by
        have h2 : (as.map V.ref)[i]? = some x2 := hx2
        rw [List.getElem?_map, List.getElem?_eq_getElem hi] at h2
        exact ⟨as[i], List.getElem?_eq_getElem hi, (Option.some.inj h2).symm⟩
      obtain ⟨⟨c, o⟩, hq, hta⟩ := ht.get ha
      obtain ⟨hc, ho⟩ := TM.valid_at va hq
      rw [List.nil_append] at hc ho
      have sT : Same H (upd H1 T' (.tup [.int (i : Int), .ref a])) := s1.trans (Same.new nT)
      have e1' : upd H1 T' (.tup [.int (i : Int), .ref a]) d = some (.dK (kvsOf (ps.take i))) := by rw [upd_ne (ne_of_none e1 nT)]; exact e1
      have hcm : c ∈ ps.map Prod.fst := List.mem_map.mpr ⟨(c, o), List.mem_of_getElem? hq, rfl⟩
      have hsub : ∀ x, x ∈ (ps.take i).map Prod.fst → x ∈ ps.map Prod.fst := fun x hx => by
        rw [List.map_take] at hx
        exact List.mem_of_mem_take hx
      have hndi : ((ps.take i).map Prod.fst).Nodup := TM.valid_nodup (TM.valid_take i va)
      refine ⟨T', _, rfl, .of upd_same, rfl, _, _, rfl, _, _, rfl, rfl, ?_⟩
      refine ⟨_, rfl, _, _, rfl, rfl, _, rfl, ite2 (fun hge => ?_) (fun _ => ?_)⟩
      · have := of_decide_eq_true hge
        omega
      refine ⟨_, rfl, _, rfl, a, d, c, o, ps.take i, rfl, sT _ _ hta, e1', hndi, hnm c hcm, hc, fun x hx => ⟨ho x hx, hnm x (hsub x (ho x hx))⟩, fun H2 s2 => ⟨true, rfl, ?_⟩⟩
      have sa2 : H2 a = some (.tup [.str c, optV o]) := s2 _ _ (sT _ _ hta)
      have sd2 := s2 _ _ e1'
      refine ⟨_, rfl, a, _, _, _, rfl, rfl, .of sa2, atI_nat (j := 1) rfl, _, rfl, _, rfl, a, _, _, _, rfl, rfl, .of sa2, atI_nat (j := 0) rfl, d, _, rfl, DPut.k (k := Sum.inr c) sd2 ?_, _, _, rfl, ?_, ?_⟩
      · rw [kvs_len, List.length_take]
        exact line100' (by omega)
      · rw [upd_same, kvs_put hc, List.take_add_one, hq]
        rfl
      · exact Same.mut (sT.trans s2) nd
    · rintro σ H1 ⟨v1, v2, rfl, e1, s1⟩
      rw [List.length_map, hal, List.take_length] at e1
      exact ⟨_, rfl, q H1 d s1 nd e1⟩
end
end T88

set_option maxHeartbeats 1000000
namespace T88
open PySem L2 PyProof.Rows TX
section
variable {P : Program} {w : World} {K : PySem.W.Frag} {mg : Str → Option Value} {base : Heap}
variable {fN fC fP fT fO : Addr} {dN dC dP dT dO : FuncData}
theorem sc_in_order : FnScope ["overs", "upper", "found", "column"] ["overs", "upper"] (defScope s_in_order) := ⟨rfl, rfl, rfl, by decide +kernel, rfl, by decide +kernel, by decide +kernel⟩
def sp_in_order (n : Nat) : Sp := fun vs H Q _ => ∃ (d : Addr) (od : Obj) (ps : List TM.Pr) (u : Option Str), vs = [.ref d, optV u] ∧ H d = some (.frz od (.dK (kvsOf ps))) ∧ TM.Valid [] ps ∧ ps.length ≤ 8 ∧ TM.Below ps u n ∧
  ∀ H' p, Same H H' → H p = none → H' p = some (.lst ((TM.ord ps u).map V.str)) → Q (.ref p) H'
theorem len2 {n : Nat} {vs : List V} {H : Hp} {Q : VK} {E : XK} (h : sp_in_order n vs H Q E) : vs.length = 2 := by
  obtain ⟨d, od, ps, u, rfl, _⟩ := h
  rfl
theorem ok_in_order (T : Kd K mg fN fC fP fT fO dN dC dP dT dO) : ∀ n : Nat, FnOk P w K mg base CX0 n fO dO ["overs", "upper"] (sp_in_order n)
  | 0 => ⟨fun vs H Q E h => len2 h, fun A outer s H args us vs Q E hr e b r h => by
      obtain ⟨d, od, ps, u, rfl, _, _, _, ⟨pre, t, _, hlt, _⟩, _⟩ := h
      exact absurd hlt (Nat.not_lt_zero _)⟩
  | n + 1 => by
    have G := ok_in_order T n
    refine T.ord.F.ok sc_in_order (fun vs H Q E h => len2 h) (fun cdv A outer s H vs Q E hr h => ?_)
    obtain ⟨d, od, ps, u, rfl, hd, va, hl8, hb, q⟩ := h
    have hu := hu_of hr
    refine ⟨_, pss_cons (ps_set (i := 2) sc_in_order.nd rfl (Or.inl rfl) (pe_lst pa_nil))
      (pss_cons (ps_for PassesOwn.never rfl (pi_keys (pv 0)) (pg_name (i := 3) sc_in_order.nd rfl (Or.inl rfl))
        (pss_one (ps_if (pt_cmpR op_eq (pe_dget hu (pv 0) (pv 3) (fun _ _ => rfl)) (pv 1) (nomark _))
          (pss_one (ps_expr (pe_bm PySem.F.plainAttrs_list PySem.F.slot_list_extend PySem.F.type_list_extend mt_extend (pv 2)
            (pa_cons (pe_op op_cat (pe_lst (pa_cons (pv 3) pa_nil)) (pe_call G hr rfl T.ord.g T.ord.F.kp T.ord.b .nil pass0 (pa_cons (pv 0) (pa_cons (pv 3) pa_nil)))) pa_nil)))) pss_nil)))
      (pss_one (ps_ret (pv 2)))), ?_⟩
    refine ⟨by decide, fun p np => ?_⟩
    have hdp : d ≠ p := ne_of_none hd np
    refine ⟨_, rfl, d, od, rfl, .inl ⟨_, by rw [upd_ne hdp]; exact hd, ?_⟩⟩
    refine for_it (walk_keys (kvs := kvsOf ps)) (fun i σ H' => ∃ v : Option V, σ = [some (.ref d), some (optV u), some (.ref p), v] ∧ H' p = some (.lst (((ps.take i).flatMap (TM.step ps u)).map V.str)) ∧ Same H H')
      ⟨none, rfl, upd_same, Same.new np⟩ (fun i σ H1 _ ⟨_, _, _, s1⟩ => s1 _ _ hd) ?_ ?_
    · rintro i x σ H0 H1 hi ⟨v, rfl, e1, s1⟩ ⟨rfl, k, y, hk, rfl⟩
      rw [kvs_len] at hi
      obtain ⟨⟨c, o⟩, hq⟩ : ∃ q, ps[i]? = some q := ⟨ps[i], List.getElem?_eq_getElem hi⟩
      rw [kvs_get, hq] at hk
      obtain ⟨rfl, rfl⟩ := Prod.mk.inj (Option.some.inj hk)
      have hnd := TM.valid_nodup va
      have hv : valV (kvsOf ps) (Sum.inr c : Key) = some (optV o) := kvs_some hnd (List.mem_of_getElem? hq)
      refine ⟨_, rfl, _, rfl, d, optV o, rfl, .inl ⟨_, Sum.inr c, .inr ⟨od, s1 _ _ hd⟩, rfl, hv.symm⟩, _, rfl, ?_, _, rfl, ite2 (fun he => ?_) (fun he => ?_)⟩
      · cases o <;> cases u <;> rfl
      · have ho : o = u := optV_inj (of_decide_eq_true he)
        have hb2 : TM.Below ps (some c) n := TM.below_at va hq (ho ▸ hb)
        refine ⟨_, rfl, .inl ⟨rfl, _, .inl (.inl e1)⟩, _, rfl, by show 1 ≤ sizeLine; decide, fun c1 nc1 => ?_⟩
        have sc1 : Same H1 (upd H1 c1 (.lst [.str c])) := Same.new nc1
        refine ⟨_, rfl, _, rfl, d, od, ps, some c, rfl, sc1 _ _ (s1 _ _ hd), va, hl8, hb2, fun H2 r s2 nr er => ?_⟩
        have ep2 : H2 p = some (.lst (((ps.take i).flatMap (TM.step ps u)).map V.str)) := s2 _ _ (sc1 _ _ e1)
        have ec1 : H2 c1 = some (.lst [.str c]) := s2 _ _ upd_same
        have hol : (TM.ord ps (some c)).length ≤ 8 := Nat.le_trans (TM.ord_le va _) hl8
        refine ⟨c1, r, _, _, rfl, rfl, ec1, er, ?_, fun r2 nr2 => ?_⟩
        · show 1 + _ ≤ sizeLine
          rw [List.length_map]
          exact line100 (by omega)
        have ep3 : ∀ o, (upd H2 r2 o) p = some (.lst (((ps.take i).flatMap (TM.step ps u)).map V.str)) := fun o => by rw [upd_ne (ne_of_none ep2 nr2)]; exact ep2
        refine ⟨p, r2, _, _, rfl, rfl, ep3 _, upd_same, ?_, _, rfl, ?_, ?_⟩
        · have hf : ((ps.take i).flatMap (TM.step ps u)).length ≤ 9 * (ps.take i).length := TM.flat_le fun q _ => by
            unfold TM.step
            split
            · have := TM.ord_le va (some q.1)
              rw [List.length_cons]
              omega
            · exact Nat.zero_le _
          rw [List.length_take] at hf
          rw [List.length_map, List.length_append, List.length_map]
          exact line100 (by show _ + (1 + _) ≤ 1000; omega)
        · rw [upd_same, TM.ord_take hq]
          have : TM.step ps u (c, o) = c :: TM.ord ps (some c) := if_pos ho
          rw [this, List.map_append]
          rfl
        · exact Same.mut (((s1.trans sc1).trans s2).trans (Same.new nr2)) np
      · have ho : ¬ o = u := fun z => he (decide_eq_true (congrArg optV z))
        refine ⟨_, rfl, ?_, s1⟩
        rw [TM.ord_take hq]
        have : TM.step ps u (c, o) = [] := if_neg ho
        rw [this, List.append_nil]
        exact e1
    · rintro σ H1 ⟨v, rfl, e1, s1⟩
      refine ⟨_, rfl, q H1 p s1 np ?_⟩
      rw [kvs_len, List.take_length] at e1
      rw [e1, TM.ord_flat va u]
end
end T88

set_option maxHeartbeats 1000000
namespace T88
open PySem L2 PyProof.Rows TX
section
variable {P : Program} {w : World} {K : PySem.W.Frag} {mg : Str → Option Value} {base : Heap}
variable {fN fC fP fT fO : Addr} {dN dC dP dT dO : FuncData}
theorem sc_tinit : FnScope ["self", "pairs", "told", "column"] ["self", "pairs"] (defScope s_tinit) := ⟨rfl, rfl, rfl, by decide +kernel, rfl, by decide +kernel, by decide +kernel⟩
def sp_tinit (C : Addr) : Sp := fun vs H Q _ => ∃ (p L dx : Addr) (ps : List TM.Pr), vs = [.ref p, .ref L] ∧ H p = some (.ins C dx []) ∧ PairsAt H L ps ∧ TM.Valid [] ps ∧ ps.length ≤ 8 ∧ (∀ x ∈ ps.map Prod.fst, TM.NameOk x) ∧
  ∀ H', TreeAt C H' p (TM.mk ps none) → (∀ b o, b ≠ p → H b = some o → H' b = some o) → (∀ b o z, b ≠ p → H b = some o → TreeAt C (upd H' b z) p (TM.mk ps none)) → Q .non H'
theorem ok_tinit {f C : Addr} {fd : FuncData} (F : Fun K "__init__" "Tree.__init__" s_tinit f fd) (T : Kd K mg fN fC fP fT fO dN dC dP dT dO) (c : Tc K mg C) : FnOk P w K mg base CX0 10 f fd ["self", "pairs"] (sp_tinit C) := by
  have GT : FnOk P w K mg base CX0 4 fT dT ["pairs"] sp_told := ok_told T
  have GO : FnOk P w K mg base CX0 9 fO dO ["overs", "upper"] (sp_in_order 9) := ok_in_order T 9
  refine F.ok sc_tinit (fun vs H Q E h => ?_) (fun cdv A outer s H vs Q E hr h => ?_)
  · obtain ⟨p, L, dx, ps, rfl, _⟩ := h
    rfl
  · obtain ⟨p, L, dx, ps, rfl, hp, hL, va, hl8, hnm, q⟩ := h
    have hu := hu_of hr
    have hr4 : Room 4 _ := hr.mono (by decide)
    refine ⟨_, pss_cons (ps_set (i := 2) sc_tinit.nd rfl (Or.inr rfl) (pe_call GT hr4 rfl T.told.g T.told.F.kp T.told.b .nil pass0 (pa_cons (pv 1) pa_nil)))
      (pss_cons (ps_lock (ps_fld (pv 0) (pe_call GO hr rfl T.ord.g T.ord.F.kp T.ord.b .nil pass0 (pa_cons (pv 2) (pa_cons pe_non pa_nil))) rfl))
      (pss_one (ps_fld (pv 0) (pe_dc (own := [("column", 3)]) (g := gName 3) (tt := tYes) rfl sc_tinit.nd (pi_list (pe_fld (pv 0) rfl)) (blkOk_by (N := ["self", "pairs", "told", "column"]) (sc := defScope s_tinit) (by decide +kernel))
        (fun _ _ _ _ _ => pg_name (i := 3) sc_tinit.nd rfl (Or.inl rfl)) (fun _ _ _ _ _ => pts_nil) (fun _ _ _ _ _ => pv 3) (fun _ _ _ _ _ => pe_dget hu (pv 2) (pv 3) (fun _ _ => rfl))) rfl))), ?_⟩
    refine ⟨_, rfl, L, ps, rfl, hL, va, hl8, hnm, fun H1 d s1 nd ed => ?_⟩
    have ndp : p ≠ d := ne_of_none hp nd
    refine ⟨d, _, ed, trivial, fun od => ?_⟩
    have sf : ∀ b o, b ≠ d → H1 b = some o → upd H1 d (.frz od (.dK (kvsOf ps))) b = some o := fun b o hb e => by rw [upd_ne hb]; exact e
    refine ⟨_, rfl, d, od, ps, none, rfl, upd_same, va, hl8, TM.below_top ps (by omega), fun H2 l s2 nl el => ?_⟩
    have ep1 : H1 p = some (.ins C dx []) := s1 _ _ hp
    have ep2 : H2 p = some (.ins C dx []) := s2 _ _ (sf _ _ ndp ep1)
    have ed2 : H2 d = some (.frz od (.dK (kvsOf ps))) := s2 _ _ upd_same
    have nld : l ≠ d := fun z => by rw [z, upd_same] at nl; cases nl
    have nlp : l ≠ p := fun z => by rw [z, sf _ _ ndp ep1] at nl; cases nl
    refine ⟨_, rfl, p, C, dx, [], rfl, ep2, c.cl, c.nC, by show 0 < 1000; decide, by rw [upd_ne ndp.symm]; exact ed2, ?_⟩
    generalize hH3 : upd (upd H2 p (.ins C dx (putF "_columns" (.ref l) []))) d (.dK (kvsOf ps)) = H3
    have e3p : H3 p = some (.ins C dx (putF "_columns" (.ref l) [])) := by rw [← hH3, upd_ne ndp, upd_same]
    have e3d : H3 d = some (.dK (kvsOf ps)) := by rw [← hH3, upd_same]
    have e3l : H3 l = some (.lst ((TM.ord ps none).map V.str)) := by rw [← hH3, upd_ne nld, upd_ne nlp]; exact el
    have s3 : ∀ b o, b ≠ p → H b = some o → H3 b = some o := fun b o hb e => by
      have hbd : b ≠ d := ne_of_none e nd
      rw [← hH3, upd_ne hbd, upd_ne hb]
      exact s2 _ _ (sf _ _ hbd (s1 _ _ e))
    have lk : (putF "_columns" (V.ref l) [] : List (Str × V)).lookup ("_columns" : Str) = some (.ref l) := by rw [lookup_putF, if_pos rfl]
    refine ⟨_, rfl, p, C, dx, _, _, rfl, e3p, c.cl, c.nC, lk, l, rfl, ⟨_, .of e3l⟩, fun Dn nDn => ?_⟩
    have F := foOk_mk va hl8 hnm
    have hfn : (TM.flat (TM.mk ps none) none).map Prod.fst = TM.ord ps none := TM.flat_names _ _
    have hnd := TM.valid_nodup va
    refine dc_walk (walk_list (xs := (TM.ord ps none).map V.str)) (fun i h => h Dn = some (.dK (kvsOf ((TM.flat (TM.mk ps none) none).take i))) ∧ Same H3 h)
      ⟨upd_same, Same.new nDn⟩ (fun i h _ ⟨_, s⟩ => .of (s _ _ e3l)) ?_ ?_
    · rintro i x h h' hi ⟨e4, s4⟩ ⟨rfl, hx⟩
      rw [List.length_map] at hi
      have hfl : (TM.flat (TM.mk ps none) none).length = (TM.ord ps none).length := by rw [← hfn, List.length_map]
      obtain ⟨⟨cn, o⟩, hq⟩ : ∃ q, (TM.flat (TM.mk ps none) none)[i]? = some q := ⟨_, List.getElem?_eq_getElem (by omega)⟩
      have hxn : x = V.str cn := by
        rw [← hfn, List.getElem?_map, List.getElem?_map, hq] at hx
        exact (Option.some.inj hx).symm
      subst hxn
      have hv := kvs_some hnd (TM.mk_sub (List.mem_of_getElem? hq))
      refine ⟨rfl, ?_⟩
      refine ⟨_, rfl, _, rfl, _, rfl, d, optV o, rfl, .inl ⟨_, Sum.inr cn, .inl (s4 _ _ e3d), rfl, hv.symm⟩, _, Sum.inr cn, rfl, e4, ?_, ?_, ?_⟩
      · rw [kvs_len, List.length_take]
        have := F.le
        have e5 : (TM.names (TM.mk ps none)) = TM.ord ps none := rfl
        rw [e5] at this
        exact line100' (by omega)
      · have hc : cn ∉ ((TM.flat (TM.mk ps none) none).take i).map Prod.fst := by
          intro hm
          rw [List.map_take, hfn, List.mem_take_iff_getElem] at hm
          obtain ⟨j, hj, ej⟩ := hm
          have ei : (TM.ord ps none)[i] = cn := by
            have h1 : (TM.ord ps none)[i]? = some cn := by rw [← hfn, List.getElem?_map, hq]; rfl
            rw [List.getElem?_eq_getElem hi] at h1
            exact Option.some.inj h1
          have := (List.getElem_inj (TM.ord_nodup va) (i := j) (j := i)).mp (ej.trans ei.symm)
          omega
        rw [upd_same, kvs_put hc, List.take_add_one, hq]
        rfl
      · exact Same.mut s4 nDn
    · rintro h ⟨e4, s4⟩
      rw [List.length_map] at e4
      have hfl : (TM.flat (TM.mk ps none) none).length = (TM.ord ps none).length := by rw [← hfn, List.length_map]
      rw [← hfl, List.take_length] at e4
      refine ⟨_, rfl, p, C, dx, _, rfl, s4 _ _ e3p, c.cl, c.nO, by show 1 < 1000; decide, ?_⟩
      have nDp : Dn ≠ p := fun z => by rw [z, e3p] at nDn; cases nDn
      have nlD : l ≠ Dn := fun z => by rw [← z, e3l] at nDn; cases nDn
      have nlH : H l = none := by
        cases e : H l with
        | none => rfl
        | some o =>
          rw [upd_ne nld, s1 _ _ e] at nl
          cases nl
      have nDH : H Dn = none := by
        cases e : H Dn with
        | none => rfl
        | some o =>
          rw [s3 Dn o nDp e] at nDn
          cases nDn
      refine q _ ⟨dx, l, Dn, upd_same, ?_, ?_⟩ (fun b o hb e => ?_) fun b o z hb e => ⟨dx, l, Dn, ?_, ?_, ?_⟩
      · rw [upd_ne nlp]
        exact s4 _ _ e3l
      · rw [upd_ne nDp]
        exact e4
      · rw [upd_ne hb]
        exact s4 _ _ (s3 b o hb e)
      · rw [upd_ne hb.symm, upd_same]
        rfl
      · rw [upd_ne (ne_of_none e nlH).symm, upd_ne nlp]
        exact s4 _ _ e3l
      · rw [upd_ne (ne_of_none e nDH).symm, upd_ne nDp]
        exact e4
end
end T88

set_option maxHeartbeats 1000000
namespace T88
open PySem L2 PyProof.Rows TX
section
variable {P : Program} {w : World} {K : PySem.W.Frag} {mg : Str → Option Value} {base : Heap}
theorem sc_tcolumns : FnScope ["self"] ["self"] (defScope s_tcolumns) := ⟨rfl, rfl, rfl, by decide +kernel, rfl, by decide +kernel, by decide +kernel⟩
def sp_tcolumns (C : Addr) : Sp := fun vs H Q _ => ∃ (p : Addr) (f : TM.Fo), vs = [.ref p] ∧ TreeAt C H p f ∧ ∀ H' L, Same H H' → H L = none → H' L = some (.lst ((TM.names f).map V.str)) → Q (.ref L) H'
theorem ok_tcolumns {f C : Addr} {fd : FuncData} (F : Fun K "columns" "Tree.columns" s_tcolumns f fd) (B : Bn mg) (c : Tc K mg C) : FnOk P w K mg base CX0 1 f fd ["self"] (sp_tcolumns C) := by
  refine F.ok sc_tcolumns (fun vs H Q E h => ?_) (fun cdv A outer s H vs Q E hr h => ?_)
  · obtain ⟨p, g, rfl, _⟩ := h
    rfl
  · obtain ⟨p, g, rfl, ⟨dx, l, d, h1, h2, h3⟩, q⟩ := h
    refine ⟨_, pss_one (ps_ret (pe_callTy call_list_of (by rfl) B.list boot_list (pa_cons (pe_fld (pv 0) rfl) pa_nil))), ?_⟩
    exact ⟨_, rfl, p, C, dx, _, _, rfl, h1, c.cl, c.nC, tflds_col _ _, l, _, rfl, .inl (.of h2), fun L nL => q _ L (Same.new nL) nL upd_same⟩
theorem sc_tpairs : FnScope ["self", "column"] ["self"] (defScope s_tpairs) := ⟨rfl, rfl, rfl, by decide +kernel, rfl, by decide +kernel, by decide +kernel⟩
def sp_tpairs (C : Addr) : Sp := fun vs H Q _ => ∃ (p : Addr) (f : TM.Fo), vs = [.ref p] ∧ TreeAt C H p f ∧ FoOk f ∧ ∀ H' L, Same H H' → H L = none → PairsAt H' L (TM.flat f none) → Q (.ref L) H'
theorem ok_tpairs {f C : Addr} {fd : FuncData} (F : Fun K "pairs" "Tree.pairs" s_tpairs f fd) (B : Bn mg) (c : Tc K mg C) : FnOk P w K mg base CX0 1 f fd ["self"] (sp_tpairs C) := by
  refine F.ok sc_tpairs (fun vs H Q E h => ?_) (fun cdv A outer s H vs Q E hr h => ?_)
  · obtain ⟨p, g, rfl, _⟩ := h
    rfl
  · obtain ⟨p, g, rfl, ⟨dx, l, d, h1, h2, h3⟩, ok, q⟩ := h
    have hu := hu_of hr
    have hfn : (TM.flat g none).map Prod.fst = TM.names g := TM.flat_names _ _
    have hfl : (TM.flat g none).length = (TM.names g).length := by rw [← hfn, List.length_map]
    have hle := ok.le
    refine ⟨_, pss_one (ps_ret (pe_lc (own := [("column", 1)]) (g := gName 1) (tt := tYes) (te := tTup (tCons (tVar 1) (tCons (tDGet (tFld K (tVar 0) "_over") (tVar 1)) tNil))) rfl sc_tpairs.nd (pi_list (pe_fld (pv 0) rfl)) (blkOk_by (N := ["self", "column"]) (sc := defScope s_tpairs) (by decide +kernel))
        (fun _ _ _ _ _ => pg_name (i := 1) sc_tpairs.nd rfl (Or.inl rfl)) (fun _ _ _ _ _ => pts_nil)
        (fun _ _ _ _ _ => pe_tup (pa_cons (pv 1) (pa_cons (pe_dget hu (pe_fld (pv 0) rfl) (pv 1) (fun _ _ => rfl)) pa_nil))))), ?_⟩
    refine ⟨_, rfl, p, C, dx, _, _, rfl, h1, c.cl, c.nC, tflds_col _ _, l, rfl, ⟨_, .of h2⟩, fun L nL => ?_⟩
    refine lc_it (walk_list (xs := (TM.names g).map V.str)) (fun i h => ∃ as, h L = some (.lst (as.map V.ref)) ∧ TupsAt h as ((TM.flat g none).take i) ∧ Same H h)
      ⟨[], upd_same, .nil, Same.new nL⟩ (fun i h _ ⟨_, _, _, s⟩ => .of (s _ _ h2)) ?_ ?_
    · rintro i x h h' hi ⟨as, e4, t4, s4⟩ ⟨rfl, hx⟩
      rw [List.length_map] at hi
      obtain ⟨⟨cn, o⟩, hq⟩ : ∃ q, (TM.flat g none)[i]? = some q := ⟨_, List.getElem?_eq_getElem (by omega)⟩
      have hxn : x = V.str cn := by
        rw [← hfn, List.getElem?_map, List.getElem?_map, hq] at hx
        exact (Option.some.inj hx).symm
      subst hxn
      have hv : valV (kvsOf (TM.flat g none)) (Sum.inr cn : Key) = some (optV o) := kvs_some (by rw [hfn]; exact ok.nd) (List.mem_of_getElem? hq)
      refine ⟨rfl, ?_⟩
      refine ⟨_, rfl, _, rfl, p, C, dx, _, _, rfl, s4 _ _ h1, c.cl, c.nO, tflds_over _ _, _, rfl, d, optV o, rfl, .inl ⟨_, Sum.inr cn, .inl (s4 _ _ h3), rfl, hv.symm⟩, two_le, fun y ny => ?_⟩
      have e5 : ∀ o, upd h' y o L = some (.lst (as.map V.ref)) := fun o => by rw [upd_ne (ne_of_none e4 ny)]; exact e4
      refine ⟨_, e5 _, ?_, as ++ [y], ?_, ?_, ?_⟩
      · rw [List.length_map, t4.len, List.length_take]
        exact line100' (by omega)
      · rw [upd_same, List.map_append]
        rfl
      · rw [List.take_add_one, hq]
        exact ((t4.same (Same.new ny)).snoc (q := (cn, o)) upd_same).put (e5 _)
      · exact Same.mut (s4.trans (Same.new ny)) nL
    · rintro h ⟨as, e4, t4, s4⟩
      rw [List.length_map, ← hfl, List.take_length] at t4
      exact q h L s4 nL ⟨as, e4, t4⟩
theorem sc_tlen : FnScope ["self"] ["self"] (defScope s_tlen) := ⟨rfl, rfl, rfl, by decide +kernel, rfl, by decide +kernel, by decide +kernel⟩
def sp_tlen (C : Addr) : Sp := fun vs H Q _ => ∃ (p : Addr) (f : TM.Fo), vs = [.ref p] ∧ TreeAt C H p f ∧ Q (.int (TM.names f).length) H
theorem ok_tlen {f C : Addr} {fd : FuncData} (F : Fun K "__len__" "Tree.__len__" s_tlen f fd) (B : Bn mg) (c : Tc K mg C) : FnOk P w K mg base CX0 1 f fd ["self"] (sp_tlen C) := by
  refine F.ok sc_tlen (fun vs H Q E h => ?_) (fun cdv A outer s H vs Q E hr h => ?_)
  · obtain ⟨p, g, rfl, _⟩ := h
    rfl
  · obtain ⟨p, g, rfl, ⟨dx, l, d, h1, h2, h3⟩, q⟩ := h
    refine ⟨_, pss_one (ps_ret (pe_callB call_len_seq (by rfl) B.len PySem.boot_len (pa_cons (pe_fld (pv 0) rfl) pa_nil))), ?_⟩
    refine ⟨_, rfl, p, C, dx, _, _, rfl, h1, c.cl, c.nC, tflds_col _ _, l, _, rfl, .inl (.of h2), ?_⟩
    rw [List.length_map]
    exact q
theorem sc_teq : FnScope ["self", "other"] ["self", "other"] (defScope s_teq) := ⟨rfl, rfl, rfl, by decide +kernel, rfl, by decide +kernel, by decide +kernel⟩
/-- two trees of one forest -/
def SameTree (C : Addr) : Addr → Addr → Hp → Prop := fun a b H => ∃ f, TreeAt C H a f ∧ TreeAt C H b f ∧ FoOk f
theorem ok_teq {f C : Addr} {fd : FuncData} (F : Fun K "__eq__" "Tree.__eq__" s_teq f fd) (B : Bn mg) (c : Tc K mg C) : FnOk P w K mg base CX0 1 f fd ["self", "other"] (spEq (SameTree C)) := by
  refine F.ok sc_teq (fun vs H Q E h => ?_) (fun cdv A outer s H vs Q E hr h => ?_)
  · obtain ⟨a, b, rfl, _⟩ := h
    rfl
  · obtain ⟨a, b, rfl, ⟨g, ⟨dx, l, d, h1, h2, h3⟩, ⟨dx', l', d', h1', h2', h3'⟩, ok⟩, q⟩ := h
    have hu := hu_of hr
    have hu0 := hr.units0
    have hu64 := hr.units
    refine ⟨_, pss_one (ps_ret (pe_and (pe_callB call_isi (by rfl) B.isi boot_isinstance (pa_cons (pv 1) (pa_cons (pe_glob (v := .ref C) (by rfl) c.g rfl) pa_nil)))
      (pe_and (pe_cmpR (op_eqD hu64) (pe_fld (pv 0) rfl) (pe_fld (pv 1) rfl) (nomark _)) (pe_one (pe_cmpR (op_eq_dictA hu0) (pe_fld (pv 0) rfl) (pe_fld (pv 1) rfl) (nomark _)))))), ?_⟩
    refine ⟨_, rfl, _, _, _, _, true, rfl, .own C, .base (.ins h1' c.cl c.ins.ha c.ins.hn c.ins.htk c.ins.hm), c.ins.me, true, rfl, ?_⟩
    refine ⟨_, rfl, a, C, dx, _, _, rfl, h1, c.cl, c.nC, tflds_col _ _, _, rfl, b, C, dx', _, _, rfl, h1', c.cl, c.nC, tflds_col _ _, _, _, DpS h2, DpS h2', shS ok.ok, shS ok.ok, true, ?_, ?_⟩
    · rw [eqv_dS, decide_eq_true rfl]
    refine ⟨_, rfl, a, C, dx, _, _, rfl, h1, c.cl, c.nO, tflds_over _ _, _, rfl, b, C, dx', _, _, rfl, h1', c.cl, c.nO, tflds_over _ _, d, d', _, _, rfl, rfl, h3, h3', rfl, ?_, q H fun _ _ h => h⟩
    intro p hp
    obtain ⟨⟨x, o⟩, hm, rfl⟩ := List.mem_map.mp hp
    refine ⟨kvs_some ?_ hm, ?_⟩
    · rw [TM.flat_names]
      exact ok.nd
    · cases o <;> rfl
end
end T88

set_option maxHeartbeats 1000000
namespace T88
open PySem L2 PyProof.Rows TX TY
section
variable {P : Program} {w : World} {K : PySem.W.Frag} {mg : Str → Option Value} {base : Heap}
variable {fN fC fP fT fO : Addr} {dN dC dP dT dO : FuncData}
/-- is_name_in asked of a list of names -/
def sp_is_name_inL : Sp := fun vs H Q _ => ∃ (x : Str) (d : Addr) (ns : List Str), vs = [.str x, .ref d] ∧ TM.NameOk x ∧ H d = some (.lst (ns.map V.str)) ∧ ∀ H', Same H H' → Q (.bl (decide (x ∈ ns))) H'
theorem ok_is_name_inL (T : Kd K mg fN fC fP fT fO dN dC dP dT dO) : FnOk P w K mg base CX0 2 fC dC ["thing", "names"] sp_is_name_inL := by
  have GN : FnOk P w K mg base CX0 1 fN dN ["thing"] sp_is_name := ok_is_name T.isn T.B T.C
  refine T.isc.F.ok sc_is_name_in (fun vs H Q E h => ?_) (fun cdv A outer s H vs Q E hr h => ?_)
  · obtain ⟨x, d, ns, rfl, _⟩ := h
    rfl
  · obtain ⟨x, d, ns, rfl, hx, hd, q⟩ := h
    have hu := hu_of hr
    refine ⟨_, pss_one (ps_ret (pe_and (pe_call GN hr rfl T.isn.g T.isn.F.kp T.isn.b .nil pass0 (pa_cons (pv 0) pa_nil)) (pe_one (pe_cmpR op_in_seq (pv 0) (pv 1) rfl)))), ?_⟩
    refine ⟨_, rfl, x, rfl, hx, fun H1 s1 => ⟨true, rfl, ?_⟩⟩
    refine ⟨_, rfl, _, rfl, d, _, rfl, .inl (.of (s1 _ _ hd)), rfl, TX.flat_strs _, ?_⟩
    show Q (.bl (inV (.str x) (ns.map V.str))) H1
    rw [inV_str]
    exact q H1 s1
variable {C fc fv fa fb fk fi : Addr} {dc dv da db dk di : FuncData}
theorem sc_tcheck : FnScope ["self", "column"] ["self", "column"] (defScope s_tcheck) := ⟨rfl, rfl, rfl, by decide +kernel, rfl, by decide +kernel, by decide +kernel⟩
def sp_tcheck (C : Addr) : Sp := fun vs H Q _ => ∃ (p : Addr) (f : TM.Fo) (x : Str), vs = [.ref p, .str x] ∧ TreeAt C H p f ∧ FoOk f ∧ x ∈ TM.names f ∧ ∀ H', Same H H' → Q .non H'
theorem ok_tcheck (F : Fun K "check_column" "Tree.check_column" s_tcheck fc dc) (T : Kd K mg fN fC fP fT fO dN dC dP dT dO) (c : Tc K mg C) : FnOk P w K mg base CX0 3 fc dc ["self", "column"] (sp_tcheck C) := by
  have GC : FnOk P w K mg base CX0 2 fC dC ["thing", "names"] sp_is_name_inL := ok_is_name_inL T
  refine F.ok sc_tcheck (fun vs H Q E h => ?_) (fun cdv A outer s H vs Q E hr h => ?_)
  · obtain ⟨p, g, x, rfl, _⟩ := h
    rfl
  · obtain ⟨p, g, x, rfl, ⟨dx, l, d, h1, h2, h3⟩, ok, hx, q⟩ := h
    refine ⟨_, pss_one (ps_if (pt_not (pt_val (pe_call GC hr rfl T.isc.g T.isc.F.kp T.isc.b .nil pass0 (pa_cons (pv 1) (pa_cons (pe_fld (pv 0) rfl) pa_nil))))) (pss_one ps_never) pss_nil), ?_⟩
    refine ⟨_, rfl, _, rfl, p, C, dx, _, _, rfl, h1, c.cl, c.nC, tflds_col _ _, x, l, TM.names g, rfl, ok.ok x hx, h2, fun H1 s1 => ⟨_, rfl, ?_⟩⟩
    rw [decide_eq_true hx]
    exact q H1 s1
/-- over -/
theorem sc_tover : FnScope ["self", "column"] ["self", "column"] (defScope s_tover) := ⟨rfl, rfl, rfl, by decide +kernel, rfl, by decide +kernel, by decide +kernel⟩
def sp_tover (C : Addr) : Sp := fun vs H Q _ => ∃ (p : Addr) (f : TM.Fo) (x : Str) (a : List Str) (k : TM.Fo), vs = [.ref p, .str x] ∧ TreeAt C H p f ∧ FoOk f ∧ TM.loc f x = some (a, k) ∧ ∀ H', Same H H' → Q (optV (TM.lastOr a none)) H'
theorem nochk (l d : Addr) : (tflds l d).lookup ("check_column" : Str) = none := tflds_no l d (by decide +kernel) (by decide +kernel)
theorem ok_tover (F : Fun K "over" "Tree.over" s_tover fv dv) (M : Mt K C "check_column" "Tree.check_column" s_tcheck ["self", "column"] fc dc) (T : Kd K mg fN fC fP fT fO dN dC dP dT dO) (c : Tc K mg C) : FnOk P w K mg base CX0 4 fv dv ["self", "column"] (sp_tover C) := by
  have GK : FnOk P w K mg base CX0 3 fc dc ["self", "column"] (sp_tcheck C) := ok_tcheck M.F T c
  refine F.ok sc_tover (fun vs H Q E h => ?_) (fun cdv A outer s H vs Q E hr h => ?_)
  · obtain ⟨p, g, x, a, k, rfl, _⟩ := h
    rfl
  · obtain ⟨p, g, x, a, k, rfl, tr, ok, hx, q⟩ := h
    have hu := hu_of hr
    obtain ⟨dx, l, d, h1, h2, h3⟩ := id tr
    refine ⟨_, pss_cons (ps_expr (pe_meth (pv 0) c.cl M.me GK hr M.b .nil pass0 (pa_cons (pv 1) pa_nil))) (pss_one (ps_ret (pe_dget hu (pe_fld (pv 0) rfl) (pv 1) (fun _ _ => rfl)))), ?_⟩
    refine ⟨_, rfl, p, dx, _, rfl, h1, nochk _ _, _, rfl, p, g, x, rfl, tr, ok, TM.loc_mem hx, fun H1 s1 => ?_⟩
    refine ⟨_, rfl, p, C, dx, _, _, rfl, s1 _ _ h1, c.cl, c.nO, tflds_over _ _, _, rfl, d, _, rfl, .inl ⟨_, Sum.inr x, .inl (s1 _ _ h3), rfl, (over_get ok hx).symm⟩, q H1 s1⟩
/-- above -/
theorem sc_tabove : FnScope ["self", "column", "found", "upper"] ["self", "column"] (defScope s_tabove) := ⟨rfl, rfl, rfl, by decide +kernel, rfl, by decide +kernel, by decide +kernel⟩
def sp_tabove (C : Addr) : Sp := fun vs H Q _ => ∃ (p : Addr) (f : TM.Fo) (x : Str) (a : List Str) (k : TM.Fo), vs = [.ref p, .str x] ∧ TreeAt C H p f ∧ FoOk f ∧ TM.loc f x = some (a, k) ∧ ∀ H' L, Same H H' → H L = none → H' L = some (.lst (a.map V.str)) → Q (.ref L) H'
theorem ok_tabove (F : Fun K "above" "Tree.above" s_tabove fa da) (M : Mt K C "check_column" "Tree.check_column" s_tcheck ["self", "column"] fc dc) (T : Kd K mg fN fC fP fT fO dN dC dP dT dO) (c : Tc K mg C) : FnOk P w K mg base CX0 4 fa da ["self", "column"] (sp_tabove C) := by
  have GK : FnOk P w K mg base CX0 3 fc dc ["self", "column"] (sp_tcheck C) := ok_tcheck M.F T c
  refine F.ok sc_tabove (fun vs H Q E h => ?_) (fun cdv A outer s H vs Q E hr h => ?_)
  · obtain ⟨p, g, x, a, k, rfl, _⟩ := h
    rfl
  · obtain ⟨p, g, x, a, k, rfl, tr, ok, hx, q⟩ := h
    have hu := hu_of hr
    obtain ⟨dx, l, d, h1, h2, h3⟩ := id tr
    have nd := sc_tabove.nd
    refine ⟨_, pss_cons (ps_expr (pe_meth (pv 0) c.cl M.me GK hr M.b .nil pass0 (pa_cons (pv 1) pa_nil)))
      (pss_cons (ps_set (i := 2) nd rfl (Or.inl rfl) (pe_lst pa_nil))
      (pss_cons (ps_set (i := 3) nd rfl (Or.inl rfl) (pe_dget hu (pe_fld (pv 0) rfl) (pv 1) (fun _ _ => rfl)))
      (pss_cons (ps_while PassesOwn.never (pt_cmp (pc_notN (pv 3)))
        (pss_cons (ps_expr (pe_bm PySem.F.plainAttrs_list PySem.F.slot_list_append PySem.F.type_list_append mt_append (pv 2) (pa_cons (pv 3) pa_nil)))
        (pss_one (ps_set (i := 3) nd rfl (Or.inl rfl) (pe_dget hu (pe_fld (pv 0) rfl) (pv 3) (fun _ _ => rfl))))))
      (pss_one (ps_ret (pe_revL (pv 2))))))), ?_⟩
    refine ⟨_, rfl, p, dx, _, rfl, h1, nochk _ _, _, rfl, p, g, x, rfl, tr, ok, TM.loc_mem hx, fun H1 s1 => ?_⟩
    refine ⟨by decide, fun L nL => ?_⟩
    have s2 : Same H (upd H1 L (.lst [])) := s1.trans (Same.new nL)
    have nLH : H L = none := s1.free nL
    refine ⟨_, rfl, p, C, dx, _, _, rfl, s2 _ _ h1, c.cl, c.nO, tflds_over _ _, _, rfl, d, _, rfl, .inl ⟨_, Sum.inr x, .inl (s2 _ _ h3), rfl, (over_get ok hx).symm⟩, ?_⟩
    have hal : a.length ≤ 8 := by
      have := (TM.loc_sub hx).length_le
      have h8 := ok.le
      rw [List.length_append] at this
      omega
    refine ⟨fun m σ H' => ∃ r b : List Str, r.length = m ∧ a = r ++ b ∧ σ = [some (.ref p), some (.str x), some (.ref L), some (optV (TM.lastOr r none))] ∧ H' L = some (.lst ((b.reverse).map V.str)) ∧ Same H H',
      ⟨a.length, a, [], rfl, by simp, rfl, upd_same, s2⟩, ?_⟩
    rintro m σ H2 ⟨r, b, rfl, eab, rfl, e2, s3⟩
    refine ⟨_, rfl, _, rfl, ?_⟩
    rcases List.eq_nil_or_concat r with rfl | ⟨r', u, rfl⟩
    · have e0 : optV (TM.lastOr [] none) = V.non := rfl
      rw [e0]
      show _
      refine ⟨_, rfl, L, _, rfl, .of e2, fun L2 nL2 => ?_⟩
      refine q _ L2 (s3.trans (Same.new nL2)) (s3.free nL2) ?_
      rw [upd_same, ← List.map_reverse, List.reverse_reverse, eab]
      rfl
    · have e0 : optV (TM.lastOr (r'.concat u) none) = V.str u := by rw [List.concat_eq_append, TM.lastOr_snoc]; rfl
      rw [e0]
      have ea : a = r' ++ u :: b := by rw [eab, List.concat_eq_append]; simp
      obtain ⟨q1, hu1, _⟩ := TM.loc_up ok.nd hx r' b u ea
      refine ⟨fun σ' H' => ∃ r b : List Str, r.length = r'.length ∧ a = r ++ b ∧ σ' = [some (.ref p), some (.str x), some (.ref L), some (optV (TM.lastOr r none))] ∧ H' L = some (.lst ((b.reverse).map V.str)) ∧ Same H H',
        fun σ' H' z => ⟨r'.length, by simp, z⟩, ?_⟩
      have hbl : b.length ≤ 8 := by
        have := congrArg List.length ea
        rw [List.length_append, List.length_cons] at this
        omega
      refine ⟨_, rfl, .inl ⟨rfl, _, .inl (.inl e2)⟩, _, rfl, L, _, _, rfl, rfl, e2, ?_, ?_⟩
      · rw [List.length_map, List.length_reverse]
        exact line100' (by omega)
      have s4 : Same H (upd H2 L (.lst ((b.reverse).map V.str ++ [.str u]))) := Same.mut s3 nLH
      refine ⟨_, rfl, p, C, dx, _, _, rfl, s4 _ _ h1, c.cl, c.nO, tflds_over _ _, _, rfl, d, _, rfl, .inl ⟨_, Sum.inr u, .inl (s4 _ _ h3), rfl, (over_get ok hu1).symm⟩, ?_⟩
      refine ⟨r', u :: b, rfl, ea, rfl, ?_, s4⟩
      rw [upd_same, List.reverse_cons, List.map_append]
      rfl
/-- beneath -/
theorem sc_tbeneath : FnScope ["self", "column", "name"] ["self", "column"] (defScope s_tbeneath) := ⟨rfl, rfl, rfl, by decide +kernel, rfl, by decide +kernel, by decide +kernel⟩
def sp_tbeneath (C : Addr) : Sp := fun vs H Q _ => ∃ (p : Addr) (f : TM.Fo) (x : Str) (a : List Str) (k : TM.Fo), vs = [.ref p, .str x] ∧ TreeAt C H p f ∧ FoOk f ∧ TM.loc f x = some (a, k) ∧
  ∀ H' L, Same H H' → H L = none → H' L = some (.lst ((x :: TM.names k).map V.str)) → Q (.ref L) H'
theorem noabv (l d : Addr) : (tflds l d).lookup ("above" : Str) = none := tflds_no l d (by decide +kernel) (by decide +kernel)
theorem ok_tbeneath (F : Fun K "beneath" "Tree.beneath" s_tbeneath fb db) (M : Mt K C "check_column" "Tree.check_column" s_tcheck ["self", "column"] fc dc) (MA : Mt K C "above" "Tree.above" s_tabove ["self", "column"] fa da)
    (T : Kd K mg fN fC fP fT fO dN dC dP dT dO) (c : Tc K mg C) : FnOk P w K mg base CX0 5 fb db ["self", "column"] (sp_tbeneath C) := by
  have GK : FnOk P w K mg base CX0 3 fc dc ["self", "column"] (sp_tcheck C) := ok_tcheck M.F T c
  have GA : FnOk P w K mg base CX0 4 fa da ["self", "column"] (sp_tabove C) := ok_tabove MA.F M T c
  refine F.ok sc_tbeneath (fun vs H Q E h => ?_) (fun cdv A outer s H vs Q E hr h => ?_)
  · obtain ⟨p, g, x, a, k, rfl, _⟩ := h
    rfl
  · obtain ⟨p, g, x, a, k, rfl, tr, ok, hx, q⟩ := h
    have hu := hu_of hr
    obtain ⟨dx, l, d, h1, h2, h3⟩ := id tr
    have nd := sc_tbeneath.nd
    have r3 : Room 3 _ := hr.mono (by decide)
    refine ⟨_, pss_cons (ps_expr (pe_meth (pv 0) c.cl M.me GK r3 M.b .nil pass0 (pa_cons (pv 1) pa_nil)))
      (pss_one (ps_ret (pe_lc (own := [("name", 2)]) (g := gName 2) (tt := tOr (tTest (tOp rEq (tVar 2) (tVar 1))) (tTest (tOp (rIn K false) (tVar 1) (tMeth C "above" (sp_tabove C) [] E0 (tVar 0) (tCons (tVar 2) tNil))))) (te := tVar 2) rfl nd (pi_list (pe_fld (pv 0) rfl))
          (blkOk_by (N := ["self", "column", "name"]) (sc := defScope s_tbeneath) (by decide +kernel)) (fun _ _ _ _ _ => pg_name (i := 2) nd rfl (Or.inl rfl))
          (fun _ _ _ _ _ => pts_one (PW.pt (pw_or (pt_cmpR op_eq (pv 2) (pv 1) (nomark _)) (pw_or1 (pt_cmpR op_in_seq (pv 1) (pe_meth (pv 0) c.cl MA.me GA hr MA.b .nil pass0 (pa_cons (pv 2) pa_nil)) rfl))))) (fun _ _ _ _ _ => pv 2)))), ?_⟩
    refine ⟨_, rfl, p, dx, _, rfl, h1, nochk _ _, _, rfl, p, g, x, rfl, tr, ok, TM.loc_mem hx, fun H1 s1 => ?_⟩
    refine ⟨_, rfl, p, C, dx, _, _, rfl, s1 _ _ h1, c.cl, c.nC, tflds_col _ _, l, rfl, ⟨_, .of (s1 _ _ h2)⟩, fun L nL => ?_⟩
    have hle := ok.le
    have fin : ((TM.names g).filter fun n => decide (n ∈ x :: TM.names k)) = x :: TM.names k := TM.filter_mem ok.nd (TM.seg_sub hx)
    refine lc_it (walk_list (xs := (TM.names g).map V.str)) (fun i h => h L = some (.lst ((((TM.names g).take i).filter fun n => decide (n ∈ x :: TM.names k)).map V.str)) ∧ Same H1 h)
      ⟨upd_same, Same.new nL⟩ (fun i h _ ⟨_, s⟩ => .of (s _ _ (s1 _ _ h2))) ?_ ?_
    · rintro i v h h' hi ⟨e4, s4⟩ ⟨rfl, hv⟩
      rw [List.length_map] at hi
      obtain ⟨n, hn, rfl⟩ : ∃ n, (TM.names g)[i]? = some n ∧ v = V.str n := by
        rw [List.getElem?_map, List.getElem?_eq_getElem hi] at hv
        exact ⟨_, List.getElem?_eq_getElem hi, (Option.some.inj hv).symm⟩
      have hnm : n ∈ TM.names g := List.mem_of_getElem? hn
      obtain ⟨an, kn, hln⟩ := TM.loc_names hnm
      have ht : (TM.names g).take (i + 1) = (TM.names g).take i ++ [n] := by rw [List.take_add_one, hn]; rfl
      have hlen : ∀ l : List Str, l = ((TM.names g).take i).filter (fun n => decide (n ∈ x :: TM.names k)) → l.length < sizeLine := by
        intro l e
        rw [e]
        have := List.length_filter_le (fun n => decide (n ∈ x :: TM.names k)) ((TM.names g).take i)
        rw [List.length_take] at this
        exact line100' (by omega)
      have put : ∀ (hh : Hp), n ∈ x :: TM.names k → hh L = some (.lst ((((TM.names g).take i).filter fun n => decide (n ∈ x :: TM.names k)).map V.str)) → Same H1 hh →
          (upd hh L (.lst ((((TM.names g).take i).filter fun n => decide (n ∈ x :: TM.names k)).map V.str ++ [.str n])) L = some (.lst ((((TM.names g).take (i + 1)).filter fun n => decide (n ∈ x :: TM.names k)).map V.str)) ∧ Same H1 (upd hh L (.lst ((((TM.names g).take i).filter fun n => decide (n ∈ x :: TM.names k)).map V.str ++ [.str n])))) := by
        intro hh hm he hs
        refine ⟨?_, Same.mut hs nL⟩
        rw [upd_same, ht, List.filter_append, List.filter_cons_of_pos (p := fun n => decide (n ∈ x :: TM.names k)) (a := n) (l := []) (decide_eq_true hm), List.map_append]
        rfl
      refine ⟨rfl, ?_⟩
      refine ⟨_, rfl, _, rfl, rfl, _, rfl, ?_⟩
      by_cases hxn : n = x
      · rw [decide_eq_true (congrArg V.str hxn)]
        refine ⟨_, rfl, _, e4, ?_, put _ (by rw [hxn]; exact List.mem_cons_self) e4 s4⟩
        rw [List.length_map]
        exact hlen _ rfl
      · rw [decide_eq_false (fun z : V.str n = V.str x => hxn (V.str.inj z))]
        have s5 := s1.trans s4
        refine ⟨_, rfl, _, rfl, p, dx, _, rfl, s5 _ _ h1, noabv _ _, _, rfl, p, g, n, an, kn, rfl, tr.same s5, ok, hln, fun H5 L5 s6 n5 e5 => ?_⟩
        refine ⟨L5, _, rfl, .inl (.of e5), rfl, TX.flat_strs _, _, rfl, ?_⟩
        show if inV (V.str x) (an.map V.str) = true then _ else _
        rw [inV_str]
        have eL5 := s6 _ _ e4
        have hiff : x ∈ an ↔ n ∈ TM.names k := TM.up_down ok.nd hx hln
        by_cases hm : x ∈ an
        · rw [decide_eq_true hm]
          refine ⟨_, rfl, _, eL5, ?_, put _ (List.mem_cons_of_mem _ (hiff.mp hm)) eL5 (s4.trans s6)⟩
          rw [List.length_map]
          exact hlen _ rfl
        · rw [decide_eq_false hm]
          refine ⟨?_, s4.trans s6⟩
          have hno : n ∉ x :: TM.names k := fun z => (List.mem_cons.mp z).elim hxn fun z => hm (hiff.mpr z)
          rw [ht, List.filter_append, List.filter_cons_of_neg (p := fun n => decide (n ∈ x :: TM.names k)) (a := n) (l := []) (fun z => hno (of_decide_eq_true z)), List.filter_nil, List.append_nil]
          exact eL5
    · rintro h ⟨e4, s4⟩
      rw [List.length_map, List.take_length, fin] at e4
      exact q h L (s1.trans s4) (s1.free nL) e4
end
end T88

set_option maxHeartbeats 1000000
namespace T88
open PySem L2 PyProof.Rows TX TY
section
variable {P : Program} {w : World} {K : PySem.W.Frag} {mg : Str → Option Value} {base : Heap}
variable {fN fC fP fT fO : Addr} {dN dC dP dT dO : FuncData}
variable {C fc fv fa fb fk fi : Addr} {dc dv da db dk di : FuncData}
theorem sc_tchildren : FnScope ["self", "column", "name"] ["self", "column"] (defScope s_tchildren) := ⟨rfl, rfl, rfl, by decide +kernel, rfl, by decide +kernel, by decide +kernel⟩
/-- the tops, or what stands right beneath a name -/
def Kids (f : TM.Fo) (o : Option Str) (ks : List Str) : Prop := (o = none ∧ ks = TM.tops f) ∨ ∃ x a k, o = some x ∧ TM.loc f x = some (a, k) ∧ ks = TM.tops k
theorem lastOr_none (a : List Str) : TM.lastOr a none = a.getLast? := by unfold TM.lastOr; cases a.getLast? <;> rfl
theorem kids_iff {f : TM.Fo} (ok : FoOk f) {o : Option Str} {ks : List Str} (h : Kids f o ks) {n : Str} {an : List Str} {kn : TM.Fo} (hn : TM.loc f n = some (an, kn)) : TM.lastOr an none = o ↔ n ∈ ks := by
  rw [lastOr_none]
  rcases h with ⟨rfl, rfl⟩ | ⟨x, a, k, rfl, hx, rfl⟩
  · rw [TM.loc_top ok.nd, List.getLast?_eq_none_iff]
    constructor
    · rintro rfl
      exact ⟨kn, hn⟩
    · rintro ⟨q, h⟩
      rw [hn] at h
      exact (Prod.mk.inj (Option.some.inj h)).1
  · exact TM.kid_iff ok.nd (List.nodup_cons.mp (TM.sub_nodup ok.nd hx)).2 hx hn
theorem kids_sub {f : TM.Fo} {o : Option Str} {ks : List Str} (h : Kids f o ks) : ks.Sublist (TM.names f) := by
  rcases h with ⟨rfl, rfl⟩ | ⟨x, a, k, rfl, hx, rfl⟩
  · exact TM.tops_sub f
  · exact (TM.tops_sub k).trans ((List.sublist_cons_self _ _).trans (TM.seg_sub hx))
def sp_tchildren (C : Addr) : Sp := fun vs H Q _ => ∃ (p : Addr) (f : TM.Fo) (o : Option Str) (ks : List Str), vs = [.ref p, optV o] ∧ TreeAt C H p f ∧ FoOk f ∧ Kids f o ks ∧ ∀ H' L, Same H H' → H L = none → H' L = some (.lst (ks.map V.str)) → Q (.ref L) H'
theorem scal_opt (o u : Option Str) : scal (optV o) (optV u) = true := by cases o <;> cases u <;> rfl
theorem dec_opt (o u : Option Str) : decide (optV o = optV u) = decide (o = u) := by
  by_cases h : o = u
  · rw [decide_eq_true h, decide_eq_true (congrArg optV h)]
  · rw [decide_eq_false h, decide_eq_false fun z => h (optV_inj z)]
theorem ok_tchildren (F : FunD K "children" "Tree.children" (defArgs s_tchildren) (defBody s_tchildren) (defScope s_tchildren) [.non] [] fk dk) (M : Mt K C "check_column" "Tree.check_column" s_tcheck ["self", "column"] fc dc)
    (T : Kd K mg fN fC fP fT fO dN dC dP dT dO) (c : Tc K mg C) : FnOk P w K mg base CX0 4 fk dk ["self", "column"] (sp_tchildren C) := by
  have GK : FnOk P w K mg base CX0 3 fc dc ["self", "column"] (sp_tcheck C) := ok_tcheck M.F T c
  refine F.ok sc_tchildren (fun vs H Q E h => ?_) (fun cdv A outer s H vs Q E hr h => ?_)
  · obtain ⟨p, g, o, ks, rfl, _⟩ := h
    rfl
  · obtain ⟨p, g, o, ks, rfl, tr, ok, hk, q⟩ := h
    have hu := hu_of hr
    obtain ⟨dx, l, d, h1, h2, h3⟩ := id tr
    have nd := sc_tchildren.nd
    refine ⟨_, pss_cons (ps_if (pt_cmp (pc_notN (pv 1))) (pss_one (ps_expr (pe_meth (pv 0) c.cl M.me GK hr M.b .nil pass0 (pa_cons (pv 1) pa_nil)))) pss_nil)
      (pss_one (ps_ret (pe_lc (own := [("name", 2)]) (g := gName 2) (tt := tTest (tOp rEq (tDGet (tFld K (tVar 0) "_over") (tVar 2)) (tVar 1))) (te := tVar 2) rfl nd (pi_list (pe_fld (pv 0) rfl))
          (blkOk_by (N := ["self", "column", "name"]) (sc := defScope s_tchildren) (by decide +kernel)) (fun _ _ _ _ _ => pg_name (i := 2) nd rfl (Or.inl rfl))
          (fun _ _ _ _ _ => pts_one (pt_cmpR op_eq (pe_dget hu (pe_fld (pv 0) rfl) (pv 2) (fun _ _ => rfl)) (pv 1) (nomark _))) (fun _ _ _ _ _ => pv 2)))), ?_⟩
    have hle := ok.le
    have fin : ((TM.names g).filter fun n => decide (n ∈ ks)) = ks := TM.filter_mem ok.nd (kids_sub hk)
    -- the comprehension, whatever was checked
    have comp : ∀ H1, Same H H1 → tLc (iList K (tFld K (tVar 0) "_columns")) (gName 2) (tTest (tOp rEq (tDGet (tFld K (tVar 0) "_over") (tVar 2)) (tVar 1))) (tVar 2) [2] [some (.ref p), some (optV o), none] H1 Q := by
      intro H1 s1
      refine lc_all (K := K) (l := l) (xs := (TM.names g).map V.str) (g := id) (p := fun v => decide (v ∈ ks.map V.str)) ⟨_, rfl, p, C, dx, _, _, rfl, s1 _ _ h1, c.cl, c.nC, tflds_col _ _, rfl, fun _ _ e => e⟩ mono_fld (.of (s1 _ _ h2)) (by rw [List.length_map]; omega) ?_ ?_ ?_
      · intro x hx h s2 h' s3 Q' q'
        obtain ⟨n, hn, rfl⟩ := List.mem_map.mp hx
        obtain ⟨an, kn, hln⟩ := TM.loc_names hn
        have s4 := (s1.trans s2).trans s3
        refine ⟨_, rfl, p, C, dx, _, _, rfl, s4 _ _ h1, c.cl, c.nO, tflds_over _ _, _, rfl, d, _, rfl, .inl ⟨_, Sum.inr n, .inl (s4 _ _ h3), rfl, (over_get ok hln).symm⟩, _, rfl, scal_opt _ _, _, rfl, ?_⟩
        rw [dec_opt]
        have e : decide (TM.lastOr an none = o) = decide (V.str n ∈ ks.map V.str) := by
          have i := kids_iff ok hk hln
          by_cases hm : n ∈ ks
          · rw [decide_eq_true (i.mpr hm), decide_eq_true (List.mem_map.mpr ⟨n, hm, rfl⟩)]
          · rw [decide_eq_false fun z => hm (i.mp z), decide_eq_false]
            intro z
            obtain ⟨m, hm2, e2⟩ := List.mem_map.mp z
            exact hm (V.str.inj e2 ▸ hm2)
        rw [e]
        exact q' h' fun _ _ e => e
      · intro x hx _ h s2
        exact ee_var rfl
      · intro L h s2 nL e
        refine q h L (s1.trans s2) (s1.free nL) ?_
        rw [e, List.map_id, filter_strs (TM.names g) (fun n => decide (n ∈ ks)) _ fun n _ => ?_, fin]
        by_cases hm : n ∈ ks
        · rw [decide_eq_true hm, decide_eq_true (List.mem_map.mpr ⟨n, hm, rfl⟩)]
        · rw [decide_eq_false hm, decide_eq_false]
          intro z
          obtain ⟨m, hm2, e2⟩ := List.mem_map.mp z
          exact hm (V.str.inj e2 ▸ hm2)
    rcases id hk with ⟨rfl, _⟩ | ⟨x, a, k, rfl, hx, _⟩
    · exact ⟨_, rfl, _, rfl, comp H fun _ _ e => e⟩
    · refine ⟨_, rfl, _, rfl, ?_⟩
      exact ⟨_, rfl, p, dx, _, rfl, h1, nochk _ _, _, rfl, p, g, x, rfl, tr, ok, TM.loc_mem hx, fun H1 s1 => comp H1 s1⟩
end
end T88

set_option maxHeartbeats 2000000
/-! Rules of our own: != of an instance whose class has an own __eq__ alone; == of one, whatever it says. -/
namespace TY
open PySem L2 PyProof.Rows TX
section
variable {prog : Program} {w : World} {A : Around} {E : Value → Shared → Prop} {s : Shared} {K : PySem.W.Frag} {x C f : Addr} {ox : Obj} {od : Option Obj} {b tb : Value}
theorem ifBound_B {M : Model} {id : String} {name : Str} {args : List Value} {Q : Option Value → Shared → Prop} (X : K.In s.heap) (I : PySem.W.InstAt s.heap x ox C od) (hs : PySem.W.findIn K (.ref C) name = some (some (.builtin id)))
    (hb : ∀ self, bindSpecial (.builtin id) self = pure (.builtin id, [self])) (h : wpAny M A (call (.builtin id) (.ref x :: args)) (fun v => Q (some v)) E s) : wpAny M A (callSpecialIfBound? (.ref x) name args) Q E s := by
  simp only [callSpecialIfBound?, bindSpecialIfBound?]
  refine wpAny_holding (wpAny_bind (wpAny_bind (wpAny_bind (I.type.here ((PySem.W.looks_findIn X hs).here ?_)))))
  refine wpAny_bind (wpAny_askSetting (wpAny_ite ?_))
  have fin : wpAny M A (call (.builtin id) ([.ref x] ++ args) >>= fun v => pure (some v)) Q E s := wpAny_bind (wpAny_mono h (fun v s' h' => wpAny_pure h') fun _ _ h' => h')
  rw [hb]
  split
  · exact wpAny_bind (wpAny_pure (wpAny_pure (by exact fin)))
  · exact wpAny_tryCatch (wpAny_bind (wpAny_pure (wpAny_pure (by exact fin))))
theorem objNe_own (hu : A.units < cLine) (X : K.In s.heap) (I : PySem.W.InstAt s.heap x ox C od) (hs : PySem.W.findIn K (.ref C) "__eq__" = some (some (.ref f))) (hf : PySem.W.isFn K (.ref f) = true) {Q : Fin → Shared → Prop}
    (h : wpAny (model prog w) A (call (.ref f) [.ref x, b]) (fun v s' => ∃ r, v = .bool r ∧ Q (.done (.ret (.bool (!r)))) s') E s) : wpAny (model prog w) A (Builtin.«object.__ne__» ⟨[.ref x, b], []⟩) Q E s := by
  have step : ∀ {Q' : Option Value → Shared → Prop}, (∀ r s', Q (.done (.ret (.bool (!r)))) s' → Q' (some (.bool r)) s') → wpAny (model prog w) A (callSpecialIfBound? (.ref x) "__eq__" [b]) Q' E s := fun hq =>
    PySem.W.ifBound_K X I hs hf (wpAny_mono h (fun v s' ⟨r, e, q⟩ => by subst e; exact hq r s' q) fun _ _ e => e)
  unfold Builtin.«object.__ne__»
  repeat (first | with_reducible refine wpAny_cRoomFor hu ?_ | with_reducible refine step (fun r s' q => ?_) | wp_step)
  exact q
theorem looks_obj {M : Model} (X : K.In s.heap) (I : PySem.W.InstAt s.heap x ox C od) (hm : PySem.W.mroIn K C (.type "object") = some true) : PySem.W.Looks M s.heap (isInstance (.ref x) (.type "object")) true := I.type.andThen (PySem.W.looks_mroIn X hm)
/-- x != b, the class having an own __eq__ alone -/
theorem ne_own {Q : Value → Shared → Prop} (hu : A.units + 1 < cLine) (X : K.In s.heap) (I : PySem.W.InstAt s.heap x ox C od) (hm : PySem.W.mroIn K C (.type "object") = some true) (hb : PySem.W.Looks (model prog w) s.heap (typeOf b) tb) (hn : PySem.W.notFirst K C tb = true)
    (hne : PySem.W.findIn K (.ref C) "__ne__" = some (some (.builtin "object.__ne__"))) (hs : PySem.W.findIn K (.ref C) "__eq__" = some (some (.ref f))) (hf : PySem.W.isFn K (.ref f) = true)
    (h : wpAny (model prog w) A.in1 (call (.ref f) [.ref x, b]) (fun v s' => ∃ r, v = .bool r ∧ Q (.bool (!r)) s') E s) : wpAny (model prog w) A (richCompare .NotEq (.ref x) b) Q E s := by
  have one : wpAny (model prog w) A (tryCompare (.ref x) (cmpInfo .NotEq).2.1 b) (fun r s' => ∃ v, r = some v ∧ Q v s') E s := by
    unfold tryCompare
    refine wpAny_bind (ifBound_B X I hne F.slot_tuple_iterator_ne.bind (wpAny_call (codeAny_call_builtin F.slot_tuple_iterator_ne.plain F.cmpEntry_ne ?_)))
    refine @PySem.W.check_slot (model prog w) _ _ s "object.__ne__" "object" "__ne__" (.ref x) [b] [] _ F.cmpKind_ne F.cmpSplit_ne (looks_obj X I hm) (F.cmpArgs_ne _ _) ?_
    refine objNe_own (by show A.in1.units < cLine; have : A.in1.units = A.units + 1 := rfl; omega) X I hs hf (wpAny_mono h (fun v s' ⟨r, e, q⟩ => ⟨r, e, ?_⟩) fun _ _ e => e)
    exact wpAny_pure ⟨_, rfl, q⟩
  unfold richCompare
  simp only [oneThing_ref]
  refine wpAny_holding (wpAny_bind (wpAny_cRoomFor (Nat.lt_of_succ_lt hu) ?_))
  refine wpAny_bind (I.type.here (wpAny_bind (hb.here ?_)))
  split
  · rename_i q
    have e : PySem.W.subIn K tb (.ref C) = some false := by
      rcases Bool.or_eq_true_iff.mp hn with e | e
      · rw [beq_iff_eq.mp e] at q; simp at q
      · exact beq_iff_eq.mp e
    refine wpAny_bind ((PySem.W.looks_subIn X e).here ?_)
    simp only [Bool.false_eq_true, if_false]
    refine wpAny_bind (wpAny_mono one (fun r s' z => ?_) fun _ _ e => e)
    obtain ⟨v, rfl, hq⟩ := z
    exact wpAny_pure hq
  · refine wpAny_bind (wpAny_pure ?_)
    simp only [Bool.false_eq_true, if_false]
    refine wpAny_bind (wpAny_mono one (fun r s' z => ?_) fun _ _ e => e)
    obtain ⟨v, rfl, hq⟩ := z
    exact wpAny_pure hq
end
/-! ### as expressions -/
section
variable {X : Cx} {CX : CXT} {n : Nat} {C f : Addr} {fd : FuncData} {ps : List Str} {sp : Sp} {E : XK}
/-- x == y and x != y by an own __eq__ -/
def rOwnEq (K : PySem.W.Frag) (C : Addr) (sp : Sp) (E : XK) (neg : Bool) : R2 := fun x y H Q => ∃ (a dx : Addr) (fs : List (Str × V)) (t : Value), x = .ref a ∧ H a = some (.ins C dx fs) ∧ TyX K H y t ∧ PySem.W.notFirst K C t = true ∧
  sp [x, y] H (fun v H' => ∃ r, v = .bl r ∧ Q (.bl (if neg = true then !r else r)) H') E
theorem run_own {A : Around} {pins : List (Addr × Obj)} {s : Shared} {σ : L2.St} {H : Hp} {x y : V} {v u : Value} {Q : VK} (F : FnOk X.prog X.w X.K X.mg X.base CX n f fd ps sp) (hb : Binds X.K fd ps []) (hx : Passes CX X E) (hr : Room n A) (hf : A.frames = X.A.frames)
    (I : Inv X pins σ H s) (rx : RelV x v) (ry : RelV y u) (h : sp [x, y] H Q E) : wpAny (model X.prog X.w) A (call (.ref f) [v, u]) (EP X pins σ Q) X.xe s := by
  have e0 : Env0 X.prog X.w X.K X.mg X.base A X.stack s H := by
    have e := I.env0
    exact ⟨by rw [hf]; exact e.frames, e.mod, e.bs, e.bsz, e.funs, e.frf, e.hok, e.bare⟩
  have hl := F.len _ _ _ _ h
  have r2 : Vals [x, y] [v, u] := .cons rx (.cons ry .nil)
  refine wpAny_call (codeAny_mono (F.run A X.stack s H ⟨[v, u], []⟩ [v, u] [x, y] _ E hr e0 (by
    have := hb s [v, u] I.kIn (by simpa using hl)
    simpa using this) r2 h) fun r s' hq => ?_)
  cases r with
  | error e => exact hx pins σ H s e s' I hq
  | ok fl =>
    cases fl with
    | ret w => exact I.after hq
    | next => exact False.elim hq
    | brk => exact False.elim hq
    | cont => exact False.elim hq
theorem op_eqOwn (F : FnOk X.prog X.w X.K X.mg X.base CX n f fd ps sp) (hs : PySem.W.findIn X.K (.ref C) "__eq__" = some (some (.ref f))) (hf : PySem.W.isFn X.K (.ref f) = true) (hb : Binds X.K fd ps []) (hx : Passes CX X E) (hr : Room n X.A) :
    OpR X (compareOp .Eq) (rOwnEq X.K C sp E false) := by
  intro pins s σ H x y v u Q I rx ry h
  obtain ⟨a, dx, fs, t, rfl, ha, ty, hn, q⟩ := h
  cases (show v = Value.ref a from rx)
  obtain ⟨mA, J, _⟩ := ins_get I.hok ha
  obtain ⟨od, J, _⟩ := J.look
  obtain ⟨P, Z, p, _⟩ := kit_of I ry ty
  obtain ⟨m, hF⟩ := I.fr
  refine PySem.W.cmp_ofEq (PySem.W.cmp_K (op := .Eq) (tb := t) hr.units0 hF I.ok.mod.kin J (Z.ty _ _ I.kIn p) hn hs hf ?_)
  refine wpAny_mono (run_own F hb hx hr rfl I rx ry q) (fun w s' z => ?_) fun _ _ e => e
  obtain ⟨z', H', I', rz, r, ez, qz⟩ := z
  subst ez
  cases (show w = Value.bool r from rz)
  exact ⟨.bl r, H', I', rfl, qz⟩
theorem op_neOwn (F : FnOk X.prog X.w X.K X.mg X.base CX n f fd ps sp) (hm : PySem.W.mroIn X.K C (.type "object") = some true) (hne : PySem.W.findIn X.K (.ref C) "__ne__" = some (some (.builtin "object.__ne__")))
    (hs : PySem.W.findIn X.K (.ref C) "__eq__" = some (some (.ref f))) (hf : PySem.W.isFn X.K (.ref f) = true) (hb : Binds X.K fd ps []) (hx : Passes CX X E) (hr : Room (n + 1) X.A) : OpR X (compareOp .NotEq) (rOwnEq X.K C sp E true) := by
  intro pins s σ H x y v u Q I rx ry h
  obtain ⟨a, dx, fs, t, rfl, ha, ty, hn, q⟩ := h
  cases (show v = Value.ref a from rx)
  obtain ⟨mA, J, _⟩ := ins_get I.hok ha
  obtain ⟨od, J, _⟩ := J.look
  obtain ⟨P, Z, p, _⟩ := kit_of I ry ty
  have hr1 : Room n X.A.in1 := hr.in1
  have hu : X.A.units + 1 < cLine := by
    have := hr1.units0
    exact this
  refine PySem.W.cmp_ofNotEq (ne_own hu I.kIn J hm (Z.ty _ _ I.kIn p) hn hne hs hf ?_)
  refine wpAny_mono (run_own F hb hx hr1 rfl I rx ry q) (fun w s' z => ?_) fun _ _ e => e
  obtain ⟨z', H', I', rz, r, ez, qz⟩ := z
  subst ez
  cases (show w = Value.bool r from rz)
  exact ⟨r, rfl, .bl (!r), H', I', rfl, qz⟩
end
end TY

set_option maxHeartbeats 2000000
/-! Rules of our own: dict == dict that may be False; str(o) by an own __str__. -/
namespace TQ
open PySem L2 PyProof.Rows TX TY
section
variable {κ : Type} [DecidableEq κ]
/-- whether each entry has its like -/
def likes (ls : List (κ × V)) (p : κ × V) : Bool := match valV ls p.1 with
  | some y => eqV p.2 y
  | none => false
theorem hits_any {A : Around} {s : Shared} {ls : List (κ × V)} {vb : List (κ × Value)} (rb : KV ls vb) (fb : ∀ p ∈ ls, flatV p.2 = true) : ∀ {ks : List (κ × V)} {va : List (κ × Value)}, KV ks va → (∀ p ∈ ks, flatV p.2 = true) → PySem.W.KeqHits A s vb va (ks.all (likes ls)) := by
  intro ks va ra
  unfold KV at ra
  induction ra with
  | nil => intro _; exact .nil
  | @cons p q ps qs h t ih =>
    intro hp
    obtain ⟨k, v⟩ := q
    obtain ⟨h1, h2⟩ := h
    have h1' : p.1 = k := h1
    subst h1'
    have rr := rb.val p.1
    rw [List.all_cons]
    cases e : valV ls p.1 with
    | none =>
      have e2 : likes ls p = false := by unfold likes; rw [e]
      rw [e] at rr
      rw [e2, Bool.false_and]
      refine .miss ?_
      cases hv : valueAt vb p.1 with
      | none => rfl
      | some y => rw [hv] at rr; cases rr
    | some y =>
      have e2 : likes ls p = eqV p.2 y := by unfold likes; rw [e]
      rw [e] at rr
      rw [e2]
      obtain ⟨u, hu, ru⟩ := rr.some_of
      have fy : flatV y = true := by
        unfold valV at e
        rw [Option.map_eq_some_iff] at e
        obtain ⟨q, hq, rfl⟩ := e
        exact fb q (List.mem_of_find?_eq_some hq)
      exact .hit hu (eqAt_V h2 ru (hp p List.mem_cons_self) fy) (ih fun q hq => hp q (List.mem_cons_of_mem _ hq))
end
section
variable {X : Cx}
/-- d == e -/
def rEqDB : R2 := fun x y H Q => ∃ a b ks ls, x = .ref a ∧ y = .ref b ∧ H a = some (.dK ks) ∧ H b = some (.dK ls) ∧ (∀ p ∈ ks, flatV p.2 = true) ∧ (∀ p ∈ ls, flatV p.2 = true) ∧ Q (.bl (ks.length == ls.length && ks.all (likes ls))) H
theorem op_eqDB (hu : X.A.units < cLine) : OpR X (compareOp .Eq) rEqDB := by
  intro pins s σ H x y v u Q I rx ry h
  obtain ⟨a, b, ks, ls, rfl, rfl, ea, eb, fa, fb, q⟩ := h
  cases (show v = Value.ref a from rx)
  cases (show u = Value.ref b from ry)
  obtain ⟨_, ya, va, ra, da⟩ := (show ObjOk X.prog X.w H s.heap a (.dK ks) from I.hok a _ ea)
  obtain ⟨_, yb, vb, rb, db⟩ := (show ObjOk X.prog X.w H s.heap b (.dK ls) from I.hok b _ eb)
  have la : va.length = ks.length := ra.length.symm
  have lb : vb.length = ls.length := rb.length.symm
  refine PySem.W.keq_eq (knd := mixKind X.prog X.w) (r := ks.all (likes ls)) ya yb da db hu (fun _ => hits_any rb fb ra fa) (fin_bl I q ?_)
  rw [la, lb]
theorem mi_str {P : Program} {w : World} {v : Value} {S : PySem.Spec} (hs : ∀ (A : Around) (R : Result → Shared → Prop) (s : Shared), S A R s → wpAny (model P w) A.in1 (Builtin.Str.strOf v) (fun r s' => R (.ok (.ret r)) s') (fun e s' => R (.error e) s') s) :
    MeetsIn P w (Builtin.«str.__new__» ⟨[.type "str", v], []⟩) S := MeetsIn.of_wp fun A R s h => by
  rw [str_new_tree v]
  exact wpAny_bind (wpAny_pure (wpAny_bind (wpAny_of_eq isSubtype_str_str (wpAny_bind (wpAny_mono (hs A R s h) (fun r s' h' => wpAny_pure ⟨_, rfl, h'⟩) fun _ _ e => e)))))
/-- str(o) by an own __str__ -/
def rStrO (C : Addr) (sp : Sp) (E : XK) : List V → Hp → VK → Prop := fun xs H Q => ∃ a dx fs, xs = [.ref a] ∧ H a = some (.ins C dx fs) ∧ sp [.ref a] H (fun v H' => ∃ y : Str, v = .str y ∧ Q (.str y) H') E
theorem call_strO {CX : CXT} {C f : Addr} {fd : FuncData} {ps : List Str} {sp : Sp} {E : XK} {n : Nat} (G : FnOk X.prog X.w X.K X.mg X.base CX n f fd ps sp) (hs : PySem.W.findIn X.K (.ref C) "__str__" = some (some (.ref f)))
    (hf : PySem.W.isFn X.K (.ref f) = true) (hb : Binds X.K fd ps []) (hx : Passes CX X E) (hr : Room (n + 2) X.A) : CallR X (.type "str") (rStrO C sp E) := by
  intro pins s σ H xs us Q I r h
  obtain ⟨a, dx, fs, rfl, ha, hsp⟩ := h
  obtain ⟨u, rfl, rx⟩ := vals1 r
  cases rx
  obtain ⟨mA, J, _⟩ := ins_get I.hok ha
  obtain ⟨od, J, _⟩ := J.look
  obtain ⟨m, hF⟩ := I.fr
  have hin : Room (n + 1) X.A.in1 := hr.in1
  have h1 : Room n X.A.in1.in1 := hin.in1
  refine callType_newIn (T := "str") (S := fun A' R s' => wpAny (model X.prog X.w) A'.in1 (Builtin.Str.strOf (.ref a)) (fun r s' => R (.ok (.ret r)) s') (fun e s' => R (.error e) s') s') F.called_str (by decide) (F.typeCall_str_1 _) (F.newCall_str_1 _) (fun obj => F.args_object_init_2 obj _) F.entry_str_new
    (mi_str fun A' R s' h => h) ?_
  show wpAny _ X.A.in1.in1 (Builtin.Str.strOf (.ref a)) _ _ s
  unfold Builtin.Str.strOf
  refine wpAny_bind (m := cRoomFor "str" _) (wpAny_cRoomFor h1.units0 ?_)
  refine wpAny_bind (m := callSpecial? (.ref a) (PySem.Str.ofString "__str__")) (PySem.W.special_fn I.kIn J hs (beq_iff_eq.mp hf) ?_)
  have e0 : Env0 X.prog X.w X.K X.mg X.base X.A.in1.in1 X.stack s H := by
    have e := I.env0
    exact ⟨e.frames, e.mod, e.bs, e.bsz, e.funs, e.frf, e.hok, e.bare⟩
  have hl := G.len _ _ _ _ hsp
  refine wpAny_call (codeAny_mono (G.run X.A.in1.in1 X.stack s H ⟨[.ref a], []⟩ [.ref a] [.ref a] _ E h1 e0 (by
    have := hb s [.ref a] I.kIn (by simpa using hl)
    simpa using this) (.cons rfl .nil) hsp) fun r s' hq => ?_)
  cases r with
  | error e => exact hx pins σ H s e s' I hq
  | ok fl =>
    cases fl with
    | ret u =>
      obtain ⟨z, H', I', rz, y, ez, q⟩ := I.after hq
      subst ez
      obtain ⟨t, rfl⟩ := rz
      refine wpAny_bind (wpAny_pure ?_)
      exact wpAny_pure ⟨typeIs_str _ _ _, .str y, H', I', ⟨t, rfl⟩, q⟩
    | next => exact False.elim hq
    | brk => exact False.elim hq
    | cont => exact False.elim hq
end
end TQ

/-! The text of a forest. -/
namespace TT
open PySem L2 PyProof.Rows TX TM
def cm : Str := ","
def word (c : Str) (ws : List Str) : Str := if ws = [] then c else c ++ ("(" ++ Txt.join cm ws ++ ")")
def txts : Fo → List Str
  | .nil => []
  | .cons c k r => word c (txts k) :: txts r
theorem s_assoc (a b c : Str) : a ++ b ++ c = a ++ (b ++ c) := by
  rw [S_eta a, S_eta b, S_eta c, S_app, S_app, S_app, S_app, List.append_assoc]
theorem word_some {c : Str} {ws : List Str} (h : ws ≠ []) : word c ws = Str.empty ++ c ++ "(" ++ Txt.join cm ws ++ ")" := by
  have e0 : Str.empty ++ c = c := by
    have : Str.empty = S [] := rfl
    rw [this, S_eta c, S_app, List.nil_append]
  unfold word
  rw [if_neg h, e0, s_assoc, s_assoc, s_assoc]
theorem jn (ws : List Str) : Txt.join cm ws = Str.join cm ws := by
  show Builtin.Str.glued cm ws = _
  rw [StrLaws.glued_eq_join]
theorem join_len : ∀ ws : List Str, (Txt.join cm ws).length ≤ (ws.map (·.length)).sum + ws.length := by
  intro ws
  rw [jn]
  induction ws with
  | nil => exact Nat.zero_le _
  | cons x r ih =>
    cases r with
    | nil =>
      show x.length ≤ _
      rw [List.map_cons, List.sum_cons]
      omega
    | cons y t =>
      show (x ++ cm ++ Str.join cm (y :: t)).length ≤ _
      rw [sapp_len, sapp_len, List.map_cons, List.sum_cons, List.length_cons]
      have : cm.length = 1 := by decide +kernel
      omega
theorem join_pos {x : Str} {ws : List Str} (h : 1 ≤ x.length) : 1 ≤ (Txt.join cm (x :: ws)).length := by
  rw [jn]
  cases ws with
  | nil => exact h
  | cons y t =>
    show 1 ≤ (x ++ cm ++ Str.join cm (y :: t)).length
    rw [sapp_len, sapp_len]
    omega
theorem word_ge (c : Str) (ws : List Str) : c.length ≤ (word c ws).length := by
  unfold word
  split
  · exact Nat.le_refl _
  · rw [sapp_len]
    omega
theorem brak_len (z : Str) : ("(" ++ z ++ ")" : Str).length = z.length + 2 := by
  rw [sapp_len, sapp_len]
  have h1 : ("(" : Str).length = 1 := by decide +kernel
  have h2 : (")" : Str).length = 1 := by decide +kernel
  omega
/-- all words of a forest are short -/
theorem txts_len : ∀ (f : Fo), (∀ x ∈ names f, x.length ≤ 8) → ((txts f).map (·.length)).sum + (txts f).length ≤ 12 * (names f).length
  | .nil, _ => Nat.le_refl _
  | .cons c k r, h => by
    have e0 : names (.cons c k r) = c :: (names k ++ names r) := rfl
    rw [e0] at h ⊢
    have hk := txts_len k fun x hx => h x (List.mem_cons_of_mem _ (List.mem_append_left _ hx))
    have hr := txts_len r fun x hx => h x (List.mem_cons_of_mem _ (List.mem_append_right _ hx))
    have hc := h c List.mem_cons_self
    show ((word c (txts k) :: txts r).map (·.length)).sum + (word c (txts k) :: txts r).length ≤ _
    rw [List.map_cons, List.sum_cons, List.length_cons, List.length_cons, List.length_append]
    have hw : (word c (txts k)).length ≤ c.length + 2 + (((txts k).map (·.length)).sum + (txts k).length) := by
      unfold word
      split
      · omega
      · rw [sapp_len, brak_len]
        have := join_len (txts k)
        omega
    omega
theorem txts_nil {f : Fo} : txts f = [] ↔ names f = [] := by
  cases f with
  | nil => exact ⟨fun _ => rfl, fun _ => rfl⟩
  | cons c k r => exact ⟨fun h => (nomatch h), fun h => (nomatch h)⟩
theorem txts_pos {f : Fo} (h : ∀ x ∈ names f, 1 ≤ x.length) (hn : txts f ≠ []) : 1 ≤ (Txt.join cm (txts f)).length := by
  cases f with
  | nil => exact absurd rfl hn
  | cons c k r =>
    show 1 ≤ (Txt.join cm (word c (txts k) :: txts r)).length
    exact join_pos (Nat.le_trans (h c List.mem_cons_self) (word_ge _ _))
/-- the part beneath a top -/
def kid (f : Fo) (c : Str) : Fo := match loc f c with
  | some (_, q) => q
  | none => .nil
theorem txts_tops : ∀ {f : Fo}, (names f).Nodup → txts f = (tops f).map fun c => word c (txts (kid f c))
  | .nil, _ => rfl
  | .cons d k r, hn => by
    obtain ⟨n1, n2, n3, n4, n5⟩ := nd_parts hn
    show word d (txts k) :: txts r = (d :: tops r).map _
    rw [List.map_cons]
    have e1 : kid (.cons d k r) d = k := by unfold kid; rw [loc_here]
    rw [e1, txts_tops n4]
    congr 1
    apply List.map_congr_left
    intro x hx
    have hx' := (tops_sub r).subset hx
    have : kid (.cons d k r) x = kid r x := by
      unfold kid
      rw [loc_by (fun (z : d = x) => n2 (z ▸ hx')) (loc_none fun z => n5 _ z hx')]
    rw [this]
/-- as the pairs tell it -/
def wstep (ps : List Pr) (u : Option Str) (p : Pr) : List Str := if p.2 = u then [word p.1 (txts (mk ps (some p.1)))] else []
theorem txts_suffix {ps : List Pr} (va : Valid [] ps) (u : Option Str) : ∀ (t pre : List Pr), ps = pre ++ t → txts (mk t u) = t.flatMap (wstep ps u)
  | [], _, _ => rfl
  | (c, o) :: r, pre, e => by
    have hi : ps[pre.length]? = some (c, o) := by rw [e]; simp
    have h2 := ahead_at va hi
    have e4 : ps.take (pre.length + 1) = pre ++ [(c, o)] := by
      rw [e, show pre ++ (c, o) :: r = (pre ++ [(c, o)]) ++ r by simp, List.take_append_of_le_length (by simp), List.take_of_length_le (by simp)]
    have h1 : mk ps (some c) = mk r (some c) := by
      have e2 : ps = ps.take (pre.length + 1) ++ r := by rw [e4, e]; simp
      rw [e2, mk_skip h2]
    have ih := txts_suffix va u r (pre ++ [(c, o)]) (by rw [e]; simp)
    rw [List.flatMap_cons, ← ih]
    unfold wstep
    rw [h1]
    by_cases ho : o = u
    · have e5 : mk ((c, o) :: r) u = .cons c (mk r (some c)) (mk r u) := if_pos ho
      rw [e5]
      simp only [ho, if_true]
      rfl
    · have e5 : mk ((c, o) :: r) u = mk r u := if_neg ho
      rw [e5]
      simp [ho]
theorem txts_flat {ps : List Pr} (va : Valid [] ps) (u : Option Str) : txts (mk ps u) = ps.flatMap (wstep ps u) := txts_suffix va u ps [] rfl
theorem wtake {ps : List Pr} {u : Option Str} {i : Nat} {q : Pr} (h : ps[i]? = some q) : (ps.take (i + 1)).flatMap (wstep ps u) = (ps.take i).flatMap (wstep ps u) ++ wstep ps u q := by
  rw [List.take_add_one, h, List.flatMap_append]
  show _ ++ (wstep ps u q ++ []) = _
  rw [List.append_nil]
end TT

set_option maxHeartbeats 1000000
/-! Tuples: slices and sums of any kind read once; rows of whole numbers. -/
namespace TW
open PySem L2 PyProof.Rows TX
section
variable {K : PySem.W.Frag}
theorem cutV_whole {xs : List V} {lo hi : Option Int} (h : HT.sIx xs.length 0 lo = 0 ∧ HT.sIx xs.length xs.length hi = xs.length) : cutV xs lo hi = xs := by
  unfold cutV
  rw [h.1, h.2]
  simp
/-- t[lo:hi] -/
theorem sl_both {xs : List V} {lo hi : Option Int} {a : Addr} {H : Hp} {Q : VK} (h : H a = some (.tup xs)) (q : ∀ p H', Same H H' → H' p = some (.tup (cutV xs lo hi)) → Q (.ref p) H') : rSlA K (.ref a) lo hi H Q := by
  refine ⟨a, xs, rfl, .of h, fun w => q a H same_rfl ?_, fun _ p np => q p _ (Same.new np) upd_same⟩
  rw [h, cutV_whole w]
/-- t + u -/
theorem cat_both {xs ys : List V} {a b : Addr} {H : Hp} {Q : VK} (h : H a = some (.tup xs)) (k : H b = some (.tup ys)) (hl : xs.length + ys.length ≤ 1000) (q : ∀ p H', Same H H' → H' p = some (.tup (xs ++ ys)) → Q (.ref p) H') : rCatA K (.ref a) (.ref b) H Q := by
  refine ⟨a, b, xs, ys, rfl, rfl, .of h, .of k, line100 hl, fun e => ?_, fun _ e => ?_, fun _ _ p np => q p _ (Same.new np) upd_same⟩
  · subst e
    exact q b H same_rfl k
  · subst e
    refine q a H same_rfl ?_
    rw [h, List.append_nil]
theorem cut_take {xs : List V} {n : Nat} : cutV xs none (some (n : Int)) = xs.take n := by
  unfold cutV
  rw [HT.sIx_none, HT.sIx_nat, List.drop_zero, Nat.sub_zero]
  rcases Nat.le_total n xs.length with h | h
  · rw [Nat.min_eq_left h]
  · rw [Nat.min_eq_right h, List.take_of_length_le h, List.take_of_length_le (Nat.le_refl _)]
theorem cut_drop {xs : List V} {n : Nat} : cutV xs (some (n : Int)) none = xs.drop n := by
  unfold cutV
  rw [HT.sIx_none, HT.sIx_nat]
  rcases Nat.le_total n xs.length with h | h
  · rw [Nat.min_eq_left h, List.take_of_length_le (by rw [List.length_drop]; omega)]
  · rw [Nat.min_eq_right h, List.drop_of_length_le h, List.drop_of_length_le (Nat.le_refl _), List.take_nil]
theorem cut_mid {xs : List V} {n m : Nat} : cutV xs (some (n : Int)) (some (m : Int)) = (xs.drop n).take (m - n) := by
  unfold cutV
  rw [HT.sIx_nat, HT.sIx_nat]
  rcases Nat.le_total n xs.length with h | h
  · rw [Nat.min_eq_left h]
    rcases Nat.le_total m xs.length with h2 | h2
    · rw [Nat.min_eq_left h2]
    · rw [Nat.min_eq_right h2, List.take_of_length_le (Nat.le_of_eq List.length_drop), List.take_of_length_le (by rw [List.length_drop]; omega)]
  · rw [Nat.min_eq_right h, List.drop_of_length_le h, List.drop_of_length_le (Nat.le_refl _)]
    simp
end
/-- what a draw leaves as it was -/
theorem well_strs {H : Hp} {W l : Addr} {ns : List Str} (w : ∃ n, WellAt n H W) (h : H l = some (.lst (ns.map V.str))) : l ≠ W := by
  rintro rfl
  obtain ⟨n, a, b, c, e, _⟩ := w
  rw [h] at e
  cases ns with
  | nil => cases e
  | cons x r =>
    have e2 := Option.some.inj e
    injection e2 with e3
    rw [List.map_cons] at e3
    injection e3 with e4 _
    cases e4
theorem well_no {H : Hp} {W l : Addr} {o : HO} (w : ∃ n, WellAt n H W) (h : H l = some o) (k : ∀ xs, o ≠ .lst xs) : l ≠ W := by
  rintro rfl
  obtain ⟨n, a, b, c, e, _⟩ := w
  rw [h] at e
  exact k _ (Option.some.inj e)
theorem _root_.TX.TreeAt.sm {C W : Addr} {H H' : Hp} {p : Addr} {f : TM.Fo} (t : TreeAt C H p f) (s : Sm W H H') (w : ∃ n, WellAt n H W) : TreeAt C H' p f := by
  obtain ⟨dx, l, d, h1, h2, h3⟩ := t
  exact ⟨dx, l, d, s _ _ (well_no w h1 fun _ z => by cases z) h1, s _ _ (well_strs w h2) h2, s _ _ (well_no w h3 fun _ z => by cases z) h3⟩
theorem tup_sm {W : Addr} {H H' : Hp} {p : Addr} {xs : List V} (h : H p = some (.tup xs)) (s : Sm W H H') (w : ∃ n, WellAt n H W) : H' p = some (.tup xs) := s _ _ (well_no w h fun _ z => by cases z) h
/-- a whole number -/
def wholeV : V → Bool
  | .int _ => true
  | _ => false
/-- a value that no memory is asked for -/
def plainV : V → Bool
  | .int _ => true
  | .bl _ => true
  | .non => true
  | .str _ => true
  | _ => false
def numV : V → Bool
  | .int _ => true
  | .bl _ => true
  | _ => false
def truthV : V → Bool
  | .bl _ => true
  | _ => false
theorem whole_num (v : V) : wholeV v = (numV v && !truthV v) := by cases v <;> rfl
theorem plain_ty {K : PySem.W.Frag} {H : Hp} {v : V} (h : plainV v = true) : ∃ t, TyOf K H v (.type t) ∧ kitB t "int" = some (numV v) ∧ kitB t "bool" = some (truthV v) := by
  cases v with
  | int i => exact ⟨_, .int i, (by decide +kernel : kitB "int" "int" = some true), (by decide +kernel : kitB "int" "bool" = some false)⟩
  | bl b => exact ⟨_, .bl b, (by decide +kernel : kitB "bool" "int" = some true), (by decide +kernel : kitB "bool" "bool" = some true)⟩
  | non => exact ⟨_, .non, (by decide +kernel : kitB "NoneType" "int" = some false), (by decide +kernel : kitB "NoneType" "bool" = some false)⟩
  | str s => exact ⟨_, .str s, (by decide +kernel : kitB "str" "int" = some false), (by decide +kernel : kitB "str" "bool" = some false)⟩
  | _ => cases h
/-- a thing that may be a row of so many values; whether it is one -/
def RowLike (H : Hp) (v : V) (many : Nat) (b : Bool) : Prop :=
  (∃ a xs, v = .ref a ∧ H a = some (.tup xs) ∧ xs.length ≤ 100 ∧ xs.all plainV = true ∧ b = (decide (xs.length = many) && xs.all wholeV)) ∨
  (b = false ∧ (v = .non ∨ (∃ s, v = .str s) ∨ (∃ i, v = .int i) ∨ ∃ a xs, v = .ref a ∧ H a = some (.lst xs)))
theorem RowLike.same {H H' : Hp} {v : V} {many : Nat} {b : Bool} (h : RowLike H v many b) (s : Same H H') : RowLike H' v many b := by
  rcases h with ⟨a, xs, e1, e2, e3⟩ | ⟨e1, e2 | e2 | e2 | ⟨a, xs, e2, e3⟩⟩
  · exact .inl ⟨a, xs, e1, s _ _ e2, e3⟩
  · exact .inr ⟨e1, .inl e2⟩
  · exact .inr ⟨e1, .inr (.inl e2)⟩
  · exact .inr ⟨e1, .inr (.inr (.inl e2))⟩
  · exact .inr ⟨e1, .inr (.inr (.inr ⟨a, xs, e2, s _ _ e3⟩))⟩
/-- a row of whole numbers -/
theorem row_like {H : Hp} {a : Addr} {xs : List V} {n : Nat} (h : H a = some (.tup xs)) (hl : xs.length = n) (hn : n ≤ 100) (hw : xs.all wholeV = true) : RowLike H (.ref a) n true := by
  refine .inl ⟨a, xs, rfl, h, by omega, ?_, ?_⟩
  · rw [List.all_eq_true] at hw ⊢
    intro x hx
    have := hw x hx
    cases x <;> first | rfl | cases this
  · rw [decide_eq_true hl, hw]
    rfl
theorem row_of {H : Hp} {v : V} {n : Nat} (h : RowLike H v n true) : ∃ a xs, v = .ref a ∧ H a = some (.tup xs) ∧ xs.length = n ∧ xs.all wholeV = true := by
  rcases h with ⟨a, xs, e1, e2, e3, e4, e5⟩ | ⟨e1, _⟩
  · have := e5.symm
    rw [Bool.and_eq_true, decide_eq_true_iff] at this
    exact ⟨a, xs, e1, e2, this.1, this.2⟩
  · cases e1
end TW
namespace TM
open PySem L2
/-- beneath a name there is its part of the forest -/
theorem mk_loc : ∀ {t : List Pr} {seen : List Str} {u : Option Str} {c : Str} {a : List Str} {k : Fo}, Valid seen t → (∀ x, u = some x → x ∈ seen) → loc (mk t u) c = some (a, k) → mk t (some c) = k
  | [], _, u, c, a, k, _, _, h => by
    have h' : loc Fo.nil c = some (a, k) := h
    unfold loc at h'
    cases h'
  | (d, o) :: r, seen, u, c, a, k, ⟨h1, h2, h3⟩, hu, h => by
    have hin : ∀ {v : Option Str} {a' : List Str} {k' : Fo}, loc (mk r v) c = some (a', k') → c ∈ r.map Prod.fst := fun {v a' k'} g => by
      have := loc_mem g
      rw [← flat_names _ v] at this
      obtain ⟨p, hp, rfl⟩ := List.mem_map.mp this
      exact List.mem_map.mpr ⟨p, mk_sub hp, rfl⟩
    have out : c ∈ r.map Prod.fst → o ≠ some c := fun hc e => valid_notin h3 (List.mem_append_left _ (h2 c e)) hc
    have skip : o ≠ some c → mk ((d, o) :: r) (some c) = mk r (some c) := fun e => if_neg e
    by_cases ho : o = u
    · have e0 : mk ((d, o) :: r) u = .cons d (mk r (some d)) (mk r u) := if_pos ho
      rw [e0] at h
      rcases loc_cases h with ⟨rfl, rfl, rfl⟩ | ⟨_, b, rfl, g⟩ | ⟨_, _, g⟩
      · exact skip fun e => h1 (h2 d e)
      · rw [skip (out (hin g))]
        exact mk_loc h3 (fun x e => by cases e; simp) g
      · rw [skip (out (hin g))]
        exact mk_loc h3 (fun x e => List.mem_append_left _ (hu x e)) g
    · have e0 : mk ((d, o) :: r) u = mk r u := if_neg ho
      rw [e0] at h
      rw [skip (out (hin h))]
      exact mk_loc h3 (fun x e => List.mem_append_left _ (hu x e)) h
theorem ord_loc {ps : List Pr} {c : Str} {a : List Str} {k : Fo} (va : Valid [] ps) (h : loc (mk ps none) c = some (a, k)) : ord ps (some c) = names k := by
  unfold ord
  rw [mk_loc (u := none) va (fun _ e => by cases e) h]
end TM

set_option maxHeartbeats 2000000
namespace T88
open PySem L2 PyProof.Rows TX TY TQ TT
section
variable {P : Program} {w : World} {K : PySem.W.Frag} {mg : Str → Option Value} {base : Heap}
variable {fN fC fP fT fO : Addr} {dN dC dP dT dO : FuncData}
variable {C fc fk fW : Addr} {dc dk dW : FuncData}
/-- children, by themselves and told; the texts -/
structure Wd (K : PySem.W.Frag) (mg : Str → Option Value) (C fc fk fW : Addr) (dc dk dW : FuncData) : Prop where
  chk : Mt K C "check_column" "Tree.check_column" s_tcheck ["self", "column"] fc dc
  chF : FunD K "children" "Tree.children" (defArgs s_tchildren) (defBody s_tchildren) (defScope s_tchildren) [.non] [] fk dk
  chM : Meth K C "children" fk
  ch1 : ∃ ds, Vals [.non] ds ∧ Binds K dk ["self", "column"] ds
  ch2 : Binds K dk ["self", "column"] []
  wr : Fn K mg "_written" s_written ["tree", "column"] fW dW
theorem nochl (l d : Addr) : (tflds l d).lookup ("children" : Str) = none := tflds_no l d (by decide +kernel) (by decide +kernel)
abbrev N_wr : List Str := ["tree", "column", "children", "inner", "child"]
theorem sc_wr : FnScope N_wr ["tree", "column"] (defScope s_written) := ⟨rfl, rfl, rfl, by decide +kernel, rfl, by decide +kernel, by decide +kernel⟩
def sp_wr (C : Addr) (n : Nat) : Sp := fun vs H Q _ => ∃ (t : Addr) (f : TM.Fo) (x : Str) (a : List Str) (k : TM.Fo), vs = [.ref t, .str x] ∧ TreeAt C H t f ∧ FoOk f ∧ TM.loc f x = some (a, k) ∧ (TM.names k).length < n ∧ ∀ H', Same H H' → Q (.str (word x (txts k))) H'
theorem len_wr {n : Nat} {vs : List V} {H : Hp} {Q : VK} {E : XK} (h : sp_wr C n vs H Q E) : vs.length = 2 := by
  obtain ⟨t, f, x, a, k, rfl, _⟩ := h
  rfl
theorem sub_ok {f : TM.Fo} {x : Str} {a : List Str} {k : TM.Fo} (ok : FoOk f) (h : TM.loc f x = some (a, k)) : (TM.names k).Nodup ∧ (∀ y ∈ TM.names k, TM.NameOk y) ∧ (TM.names k).length ≤ 7 := by
  have h1 := TM.seg_sub h
  have h2 := h1.length_le
  have h3 := ok.le
  rw [List.length_cons] at h2
  exact ⟨(List.nodup_cons.mp (TM.sub_nodup ok.nd h)).2, fun y hy => ok.ok y (h1.subset (List.mem_cons_of_mem _ hy)), by omega⟩
theorem ok_wr (T : Kd K mg fN fC fP fT fO dN dC dP dT dO) (c : Tc K mg C) (M : Wd K mg C fc fk fW dc dk dW) : ∀ n : Nat, FnOk P w K mg base CX0 (4 + n) fW dW ["tree", "column"] (sp_wr C n)
  | 0 => ⟨fun vs H Q E h => len_wr h, fun A outer s H args us vs Q E hr e b r h => by
      obtain ⟨t, f, x, a, k, rfl, _, _, _, hlt, _⟩ := h
      exact absurd hlt (Nat.not_lt_zero _)⟩
  | n + 1 => by
    have B := T.B
    have G := ok_wr T c M n
    have GC : FnOk P w K mg base CX0 4 fk dk ["self", "column"] (sp_tchildren C) := ok_tchildren M.chF M.chk T c
    refine M.wr.F.ok sc_wr (fun vs H Q E h => len_wr h) (fun cdv A outer s H vs Q E hr h => ?_)
    obtain ⟨t, f, x, a, k, rfl, tr, ok, hl, hlt, q⟩ := h
    have r4 : Room 4 _ := hr.mono (show 4 ≤ 4 + n by omega)
    have nd := sc_wr.nd
    refine ⟨_, pss_cons (ps_set (i := 2) nd rfl (Or.inl rfl) (pe_meth (pv 0) c.cl M.chM GC r4 M.ch2 .nil pass0 (pa_cons (pv 1) pa_nil)))
      (pss_cons (ps_if (pt_cmpR op_eq (pe_callB call_len_seq (by rfl) B.len PySem.boot_len (pa_cons (pv 2) pa_nil)) pe_int (nomark _)) (pss_one (ps_ret (pv 1))) pss_nil)
      (pss_cons (ps_set (i := 3) nd rfl (Or.inl rfl) (pe_join pe_str (pe_lc (own := [("child", 4)]) (g := gName 4) (tt := tYes) (te := tCall (sp_wr C n) [] E0 (tCons (tVar 0) (tCons (tVar 4) tNil))) rfl nd (pi_list (pv 2)) (blkOk_by (N := N_wr) (sc := defScope s_written) (by decide +kernel))
          (fun _ _ _ _ _ => pg_name (i := 4) nd rfl (Or.inl rfl)) (fun _ _ _ _ _ => pts_nil) (fun _ _ _ _ _ => pe_call G hr rfl M.wr.g M.wr.F.kp M.wr.b .nil pass0 (pa_cons (pv 0) (pa_cons (pv 4) pa_nil))))))
      (pss_one (ps_ret (pe_joined (.cons (pe_fmt (pv 1)) (.cons pe_str (.cons (pe_fmt (pv 3)) (.cons pe_str .nil))))))))), ?_⟩
    obtain ⟨dx, l, d, h1, h2, h3⟩ := id tr
    obtain ⟨nk, okk, lek⟩ := sub_ok ok hl
    have tk := txts_tops nk
    have hle := (TM.tops_sub k).length_le
    refine ⟨_, rfl, t, dx, _, rfl, h1, nochl _ _, _, rfl, t, f, some x, TM.tops k, rfl, tr, ok, .inr ⟨x, a, k, rfl, hl, rfl⟩, fun H1 L s1 nL eL => ?_⟩
    refine ⟨_, rfl, L, _, rfl, .inl (.of eL), rfl, _, rfl, ?_⟩
    rw [List.length_map]
    by_cases hz : (TM.tops k).length = 0
    · rw [decide_eq_true (show V.int ((TM.tops k).length : Int) = V.int 0 by rw [hz]; rfl)]
      have : txts k = [] := by rw [tk, List.eq_nil_of_length_eq_zero hz]; rfl
      have e : word x (txts k) = x := by rw [this]; exact if_pos rfl
      rw [e] at q
      exact ⟨_, rfl, q H1 s1⟩
    rw [decide_eq_false (fun z : V.int ((TM.tops k).length : Int) = V.int 0 => hz (by injection z with z; omega))]
    have hne : txts k ≠ [] := by
      rw [tk]
      intro z
      exact hz (by rw [List.map_eq_nil_iff] at z; rw [z]; rfl)
    have tl := txts_len k fun y hy => (okk y hy).2.1
    have cm1 : (Str.ofString ",").length = 1 := by decide +kernel
    refine ⟨⟨_, rfl⟩, _, rfl, L, rfl, ⟨_, .of eL⟩, fun D nD => ?_⟩
    refine lc_it (walk_list (xs := (TM.tops k).map V.str)) (fun i h => h D = some (.lst (((TM.tops k).take i).map fun y => V.str (word y (txts (kid k y))))) ∧ Same H1 h)
      ⟨upd_same, Same.new nD⟩ (fun i h _ ⟨_, s⟩ => .of (s _ _ eL)) ?_ ?_
    · rintro i v h h' hi ⟨e4, s4⟩ ⟨rfl, hv⟩
      rw [List.length_map] at hi
      obtain ⟨y, hy, rfl⟩ : ∃ n, (TM.tops k)[i]? = some n ∧ v = V.str n := by
        rw [List.getElem?_map, List.getElem?_eq_getElem hi] at hv
        exact ⟨_, List.getElem?_eq_getElem hi, (Option.some.inj hv).symm⟩
      have hym : y ∈ TM.tops k := List.mem_of_getElem? hy
      obtain ⟨ky, hky⟩ := (TM.loc_top nk).mp hym
      have ekid : kid k y = ky := by unfold kid; rw [hky]
      have hdown := TM.loc_down ok.nd hl hky
      have hlen : (TM.names ky).length < n := by
        have := (TM.seg_sub hky).length_le
        rw [List.length_cons] at this
        omega
      refine ⟨rfl, ?_⟩
      refine ⟨_, rfl, _, rfl, t, f, y, _, ky, rfl, (tr.same s1).same s4, ok, hdown, hlen, fun h5 s5 => ?_⟩
      refine ⟨_, s5 _ _ e4, ?_, ?_, Same.mut (s4.trans s5) nD⟩
      · rw [List.length_map, List.length_take]
        exact line100' (by omega)
      · rw [upd_same, List.take_add_one, hy, List.map_append, ← ekid]
        rfl
    · rintro h ⟨e4, s4⟩
      rw [List.length_map, List.take_length] at e4
      have e5 : h D = some (.lst ((txts k).map V.str)) := by rw [e4, tk, List.map_map]; rfl
      refine ⟨_, D, txts k, rfl, rfl, .inl (.of e5), ?_, ?_⟩
      · rw [cm1]
        omega
      have jl := join_len (txts k)
      have cx := (ok.ok x (TM.loc_mem hl)).2.1
      have c1 : (Str.ofString "(").length = 1 := by decide +kernel
      have c2 : (Str.ofString ")").length = 1 := by decide +kernel
      have ce : Str.empty.length = 0 := rfl
      have jl2 : (Txt.join cm (txts k)).length ≤ 100 := by omega
      refine ⟨_, rfl, .inl ⟨_, rfl, line100 (by omega), _, rfl, ?_, _, rfl, ?_, _, rfl, .inl ⟨_, rfl, ?_, _, rfl, ?_, _, rfl, ?_, ?_⟩⟩⟩
      · rw [sapp_len]; exact line100 (by omega)
      · rw [sapp_len, sapp_len]; exact line100 (by omega)
      · exact line100 (by show (Txt.join cm (txts k)).length ≤ 1000; omega)
      · rw [sapp_len, sapp_len, sapp_len]; exact line100 (by show _ + (Txt.join cm (txts k)).length ≤ 1000; omega)
      · rw [sapp_len, sapp_len, sapp_len, sapp_len]; exact line100 (by show _ + (Txt.join cm (txts k)).length + _ ≤ 1000; omega)
      · rw [word_some hne] at q
        exact q h (s1.trans s4)
theorem sc_tstr : FnScope ["self", "column"] ["self"] (defScope s_tstr) := ⟨rfl, rfl, rfl, by decide +kernel, rfl, by decide +kernel, by decide +kernel⟩
def sp_tstr (C : Addr) : Sp := fun vs H Q _ => ∃ (t : Addr) (f : TM.Fo), vs = [.ref t] ∧ TreeAt C H t f ∧ FoOk f ∧ ∀ H', Same H H' → Q (.str (Txt.join cm (txts f))) H'
theorem ok_tstr {f : Addr} {fd : FuncData} (F : Fun K "__str__" "Tree.__str__" s_tstr f fd) (T : Kd K mg fN fC fP fT fO dN dC dP dT dO) (c : Tc K mg C) (M : Wd K mg C fc fk fW dc dk dW) : FnOk P w K mg base CX0 14 f fd ["self"] (sp_tstr C) := by
  have B := T.B
  have G : FnOk P w K mg base CX0 13 fW dW ["tree", "column"] (sp_wr C 9) := ok_wr T c M 9
  have GC : FnOk P w K mg base CX0 4 fk dk ["self", "column"] (sp_tchildren C) := ok_tchildren M.chF M.chk T c
  obtain ⟨dsk, vdk, bdk⟩ := M.ch1
  refine F.ok sc_tstr (fun vs H Q E h => ?_) (fun cdv A outer s H vs Q E hr h => ?_)
  · obtain ⟨t, f, rfl, _⟩ := h
    rfl
  · obtain ⟨t, f, rfl, tr, ok, q⟩ := h
    have r4 : Room 4 _ := hr.mono (by decide)
    have nd := sc_tstr.nd
    refine ⟨_, pss_one (ps_ret (pe_join pe_str (pe_lc (own := [("column", 1)]) (g := gName 1) (tt := tYes) (te := tCall (sp_wr C 9) [] E0 (tCons (tVar 0) (tCons (tVar 1) tNil))) rfl nd (pi_list (pe_meth0 (pv 0) c.cl M.chM GC r4 bdk vdk pass0)) (blkOk_by (N := ["self", "column"]) (sc := defScope s_tstr) (by decide +kernel))
          (fun _ _ _ _ _ => pg_name (i := 1) nd rfl (Or.inl rfl)) (fun _ _ _ _ _ => pts_nil) (fun _ _ _ _ _ => pe_call G hr rfl M.wr.g M.wr.F.kp M.wr.b .nil pass0 (pa_cons (pv 0) (pa_cons (pv 1) pa_nil)))))), ?_⟩
    obtain ⟨dx, l, d, h1, h2, h3⟩ := id tr
    have tk := txts_tops ok.nd
    have hle := (TM.tops_sub f).length_le
    have le8 := ok.le
    have tl := txts_len f fun y hy => (ok.ok y hy).2.1
    have cm1 : (Str.ofString ",").length = 1 := by decide +kernel
    refine ⟨⟨_, rfl⟩, _, rfl, t, dx, _, rfl, h1, nochl _ _, t, f, none, TM.tops f, rfl, tr, ok, .inl ⟨rfl, rfl⟩, fun H1 L s1 nL eL => ?_⟩
    refine ⟨L, rfl, ⟨_, .of eL⟩, fun D nD => ?_⟩
    refine lc_it (walk_list (xs := (TM.tops f).map V.str)) (fun i h => h D = some (.lst (((TM.tops f).take i).map fun y => V.str (word y (txts (kid f y))))) ∧ Same H1 h)
      ⟨upd_same, Same.new nD⟩ (fun i h _ ⟨_, s⟩ => .of (s _ _ eL)) ?_ ?_
    · rintro i v h h' hi ⟨e4, s4⟩ ⟨rfl, hv⟩
      rw [List.length_map] at hi
      obtain ⟨y, hy, rfl⟩ : ∃ n, (TM.tops f)[i]? = some n ∧ v = V.str n := by
        rw [List.getElem?_map, List.getElem?_eq_getElem hi] at hv
        exact ⟨_, List.getElem?_eq_getElem hi, (Option.some.inj hv).symm⟩
      obtain ⟨ky, hky⟩ := (TM.loc_top ok.nd).mp (List.mem_of_getElem? hy)
      have ekid : kid f y = ky := by unfold kid; rw [hky]
      have hlen : (TM.names ky).length < 9 := by
        have := (TM.seg_sub hky).length_le
        rw [List.length_cons] at this
        omega
      refine ⟨rfl, ?_⟩
      refine ⟨_, rfl, _, rfl, t, f, y, _, ky, rfl, (tr.same s1).same s4, ok, hky, hlen, fun h5 s5 => ?_⟩
      refine ⟨_, s5 _ _ e4, ?_, ?_, Same.mut (s4.trans s5) nD⟩
      · rw [List.length_map, List.length_take]
        exact line100' (by omega)
      · rw [upd_same, List.take_add_one, hy, List.map_append, ← ekid]
        rfl
    · rintro h ⟨e4, s4⟩
      rw [List.length_map, List.take_length] at e4
      have e5 : h D = some (.lst ((txts f).map V.str)) := by rw [e4, tk, List.map_map]; rfl
      refine ⟨_, D, txts f, rfl, rfl, .inl (.of e5), ?_, ?_⟩
      · rw [cm1]
        omega
      exact q h (s1.trans s4)
end
end T88

/-! A tree's text read sign by sign: the mathematics of it. -/
namespace TPA
open PySem L2 PyProof.Rows TX TM TT
/-- what a reader knows: the pairs told, the brackets open, the name begun, whether a bracket was just closed -/
structure RS where
  ov : List Pr
  br : List (Option Str)
  nm : List Nat
  cl : Bool
def keys (s : RS) : List Str := s.ov.map Prod.fst
def top (br : List (Option Str)) : Option Str := br.getLast?.getD none
/-- a name, or all beneath it, may end here -/
def endN (s : RS) : Option RS := if s.cl = true then some s else if s.nm = [] ∨ S s.nm ∈ keys s then none else some { s with ov := s.ov ++ [(S s.nm, top s.br)] }
def letter (s : RS) (c : Nat) : Option RS := if s.cl = true ∨ 8 < s.nm.length + 1 then none else if s.nm.length + 1 = 8 ∧ S (s.nm ++ [c]) ∈ keys s then none else some { s with nm := s.nm ++ [c] }
/-- one sign -/
def tk (s : RS) (c : Nat) : Option RS :=
  if 97 ≤ c ∧ c ≤ 122 then letter s c
  else if c = 44 ∨ (c = 40 ∧ s.cl = false) then (endN s).bind fun t => if t.ov.length = 8 then none else some { ov := t.ov, br := if c = 40 then t.br ++ [some (S t.nm)] else t.br, nm := [], cl := false }
  else if c = 41 ∧ 1 < s.br.length then (endN s).bind fun t => some { ov := t.ov, br := t.br.dropLast, nm := [], cl := true }
  else none
def run : List Nat → RS → Option RS
  | [], s => some s
  | c :: r, s => (tk s c).bind (run r)
theorem run_app : ∀ (l m : List Nat) (s : RS), run (l ++ m) s = (run l s).bind (run m)
  | [], _, _ => rfl
  | c :: r, m, s => by
    show (tk s c).bind (run (r ++ m)) = ((tk s c).bind (run r)).bind (run m)
    cases tk s c with
    | none => rfl
    | some t => exact run_app r m t
/-- the pairs, where all was taken; nothing where it isn't the whole text -/
def fin (s : RS) : Option (List Pr) := if s.nm = [] ∧ s.cl = false then (if s.ov = [] then some [] else none) else if s.br.length = 1 then (endN s).map (·.ov) else none
def start : RS := ⟨[], [none], [], false⟩
/-- a text's signs -/
abbrev cp (x : Str) : List Nat := x.cps.toList
theorem cp_app (a b : Str) : cp (a ++ b) = cp a ++ cp b := by
  have h : a ++ b = S (cp a ++ cp b) := by rw [← S_app, ← S_eta a, ← S_eta b]
  rw [h]
  exact S_cps _
def tx (f : Fo) : List Nat := cp (Txt.join cm (txts f))
theorem cm_cp : cp cm = [44] := by decide +kernel
theorem lp_cp : cp ("(" : Str) = [40] := by decide +kernel
theorem rp_cp : cp (")" : Str) = [41] := by decide +kernel
theorem tx_one (c : Str) (k : Fo) : tx (.cons c k .nil) = cp (word c (txts k)) := by
  unfold tx
  rw [jn]
  rfl
theorem tx_more (c d : Str) (k k' r : Fo) : tx (.cons c k (.cons d k' r)) = cp (word c (txts k)) ++ 44 :: tx (.cons d k' r) := by
  unfold tx
  rw [jn, jn]
  show cp (word c (txts k) ++ cm ++ Str.join cm (txts (.cons d k' r))) = _
  rw [cp_app, cp_app, cm_cp, List.append_assoc]
  rfl
theorem wd_nil (c : Str) : cp (word c (txts .nil)) = cp c := by
  show cp (if ([] : List Str) = [] then c else _) = _
  rw [if_pos rfl]
theorem wd_cons (c d : Str) (k r : Fo) : cp (word c (txts (.cons d k r))) = cp c ++ 40 :: (tx (.cons d k r) ++ [41]) := by
  have : txts (.cons d k r) ≠ [] := fun z => nomatch z
  unfold word
  rw [if_neg this, cp_app, cp_app, cp_app, lp_cp, rp_cp]
  rfl
/-- the signs of a name, from where none is begun -/
theorem run_letters {ov : List Pr} {br : List (Option Str)} : ∀ (l p : List Nat), (∀ c ∈ l, 97 ≤ c ∧ c ≤ 122) → p.length + l.length ≤ 8 → S (p ++ l) ∉ ov.map Prod.fst → run l ⟨ov, br, p, false⟩ = some ⟨ov, br, p ++ l, false⟩
  | [], p, _, _, _ => by rw [List.append_nil]; rfl
  | c :: r, p, h, hl, hn => by
    have hc := h c List.mem_cons_self
    rw [List.length_cons] at hl
    have e : tk ⟨ov, br, p, false⟩ c = some ⟨ov, br, p ++ [c], false⟩ := by
      unfold tk letter
      rw [if_pos hc, if_neg (by show ¬ (false = true ∨ 8 < p.length + 1); intro z; rcases z with z | z; cases z; omega), if_neg]
      rintro ⟨h8, hm⟩
      have h8 : p.length + 1 = 8 := h8
      have : r = [] := List.eq_nil_of_length_eq_zero (by omega)
      subst this
      exact hn hm
    show (tk _ c).bind (run r) = _
    rw [e]
    have := run_letters (br := br) r (p ++ [c]) (fun x hx => h x (List.mem_cons_of_mem _ hx)) (by rw [List.length_append, List.length_singleton]; omega) (by rw [List.append_assoc]; exact hn)
    rw [List.append_assoc] at this
    exact this
/-- what stands where a forest's text was taken -/
def Took (s : RS) (ov : List Pr) (br : List (Option Str)) : Prop := ∃ t, endN s = some t ∧ t.ov = ov ∧ t.br = br ∧ (s.nm ≠ [] ∨ s.cl = true) ∧ t.nm = s.nm ∧ s.br = br
theorem s_cp (x : Str) : S (cp x) = x := (S_eta x).symm
theorem top_snoc (br : List (Option Str)) (o : Option Str) : top (br ++ [o]) = o := by unfold top; rw [List.getLast?_concat]; rfl
theorem took_name {ov : List Pr} {br : List (Option Str)} {c : Str} (h1 : 1 ≤ c.length) (hn : c ∉ ov.map Prod.fst) : Took ⟨ov, br, cp c, false⟩ (ov ++ [(c, top br)]) br := by
  have hne : cp c ≠ [] := fun z => by
    have : (cp c).length = c.length := by show c.cps.toList.length = c.cps.size; exact Array.length_toList
    rw [z] at this
    simp at this
    omega
  refine ⟨⟨ov ++ [(c, top br)], br, cp c, false⟩, ?_, rfl, rfl, .inl hne, rfl, rfl⟩
  unfold endN
  rw [if_neg (fun z => by cases z), if_neg]
  · show some (RS.mk (ov ++ [(S (cp c), top br)]) br (cp c) false) = _
    rw [s_cp]
  · rintro (z | z)
    · exact hne z
    · refine hn ?_
      have z : S (cp c) ∈ ov.map Prod.fst := z
      rwa [s_cp] at z
theorem took_open {s : RS} {ov : List Pr} {br : List (Option Str)} (h : Took s ov br) (hc : s.cl = false) (hl : ov.length ≠ 8) : tk s 40 = some ⟨ov, br ++ [some (S s.nm)], [], false⟩ := by
  obtain ⟨t, e, rfl, rfl, _, en, _⟩ := h
  unfold tk
  rw [if_neg (by decide), if_pos (.inr ⟨rfl, hc⟩), e]
  show (if t.ov.length = 8 then none else _) = _
  rw [if_neg hl, if_pos rfl, en]
theorem took_comma {s : RS} {ov : List Pr} {br : List (Option Str)} (h : Took s ov br) (hl : ov.length ≠ 8) : tk s 44 = some ⟨ov, br, [], false⟩ := by
  obtain ⟨t, e, rfl, rfl, _, _, _⟩ := h
  unfold tk
  rw [if_neg (by decide), if_pos (.inl rfl), e]
  show (if t.ov.length = 8 then none else _) = _
  rw [if_neg hl, if_neg (by decide)]
theorem took_close {s : RS} {ov : List Pr} {br : List (Option Str)} {o : Option Str} (h : Took s ov (br ++ [o])) (hb : br ≠ []) : ∃ t, tk s 41 = some t ∧ Took t ov br := by
  obtain ⟨t, e, rfl, eb, _, _, esb⟩ := h
  have h1 : 1 < s.br.length := by
    rw [esb, List.length_append, List.length_singleton]
    have := List.length_pos_iff.mpr hb
    omega
  refine ⟨⟨t.ov, br, [], true⟩, ?_, ⟨⟨t.ov, br, [], true⟩, ?_, rfl, rfl, .inr rfl, rfl, rfl⟩⟩
  · unfold tk
    rw [if_neg (by decide), if_neg, if_pos ⟨rfl, h1⟩, e]
    · show some (RS.mk t.ov t.br.dropLast [] true) = _
      rw [eb, List.dropLast_concat]
    · rintro (z | ⟨z, _⟩) <;> cases z
  · unfold endN
    rw [if_pos rfl]
theorem run_word_and : ∀ (f : Fo), f ≠ .nil → ∀ (ov : List Pr) (br : List (Option Str)), br ≠ [] → (ov.map Prod.fst ++ names f).Nodup → (∀ x ∈ names f, NameOk x) → ov.length + (names f).length ≤ 8 →
    ∃ s, run (tx f) ⟨ov, br, [], false⟩ = some s ∧ Took s (ov ++ flat f (top br)) br
  | .nil, h, _, _, _, _, _, _ => absurd rfl h
  | .cons c k r, _, ov, br, hb, hn, ho, hl => by
    have en : names (.cons c k r) = c :: (names k ++ names r) := rfl
    rw [en] at hn ho hl
    rw [List.length_cons, List.length_append] at hl
    obtain ⟨c1, c2, c3⟩ := ho c List.mem_cons_self
    have hc : c ∉ ov.map Prod.fst := fun z => by
      rw [List.nodup_append] at hn
      exact hn.2.2 c z c List.mem_cons_self rfl
    have hcl : (cp c).length = c.length := by show c.cps.toList.length = c.cps.size; exact Array.length_toList
    have r1 : run (cp c) ⟨ov, br, [], false⟩ = some ⟨ov, br, cp c, false⟩ := by
      have := run_letters (ov := ov) (br := br) (cp c) [] c3 (by rw [hcl, List.length_nil]; omega) (by rw [List.nil_append, s_cp]; exact hc)
      rwa [List.nil_append] at this
    -- the word
    have word1 : ∃ s, run (cp (word c (txts k))) ⟨ov, br, [], false⟩ = some s ∧ Took s (ov ++ (c, top br) :: flat k (some c)) br := by
      cases hk : k with
      | nil =>
        rw [wd_nil]
        exact ⟨_, r1, took_name c1 hc⟩
      | cons d k' r' =>
        have nk : 1 ≤ (names k).length := by rw [hk]; show 1 ≤ (d :: _).length; rw [List.length_cons]; omega
        rw [wd_cons, ← hk, run_app, r1]
        have e1 := took_open (took_name (br := br) c1 hc) rfl (by rw [List.length_append, List.length_singleton]; omega)
        rw [s_cp] at e1
        have nd2 : ((ov ++ [(c, top br)]).map Prod.fst ++ names k).Nodup := by
          rw [List.map_append]
          show (ov.map Prod.fst ++ [c] ++ names k).Nodup
          rw [List.append_assoc]
          have : (ov.map Prod.fst ++ ([c] ++ names k)).Sublist (ov.map Prod.fst ++ (c :: (names k ++ names r))) := by
            refine List.Sublist.append_left ?_ _
            show (c :: names k).Sublist _
            exact (List.sublist_append_left _ _).cons₂ c
          exact this.nodup hn
        obtain ⟨s, e2, tk2⟩ := run_word_and k (by rw [hk]; exact fun z => nomatch z) (ov ++ [(c, top br)]) (br ++ [some c]) (by simp) nd2 (fun x hx => ho x (List.mem_cons_of_mem _ (List.mem_append_left _ hx))) (by rw [List.length_append, List.length_singleton]; omega)
        rw [top_snoc, List.append_assoc] at tk2
        obtain ⟨t, e3, tk3⟩ := took_close tk2 hb
        refine ⟨t, ?_, tk3⟩
        show (tk _ 40).bind (run (tx k ++ [41])) = _
        rw [e1]
        show run (tx k ++ [41]) _ = _
        rw [run_app, e2]
        show (tk s 41).bind (run []) = _
        rw [e3]
        rfl
    cases hr : r with
    | nil =>
      rw [tx_one]
      obtain ⟨s, e, t⟩ := word1
      refine ⟨s, e, ?_⟩
      have : flat (.cons c k .nil) (top br) = (c, top br) :: flat k (some c) := by show (c, top br) :: (flat k (some c) ++ []) = _; rw [List.append_nil]
      rw [this]
      exact t
    | cons d k' r' =>
      have nr : 1 ≤ (names r).length := by rw [hr]; show 1 ≤ (d :: _).length; rw [List.length_cons]; omega
      rw [tx_more, ← hr]
      obtain ⟨s, e, t⟩ := word1
      have lk : (flat k (some c)).length = (names k).length := by rw [← flat_names k (some c), List.length_map]
      have e2 := took_comma t (by rw [List.length_append, List.length_cons, lk]; omega)
      have mf : ((ov ++ (c, top br) :: flat k (some c)).map Prod.fst) = ov.map Prod.fst ++ (c :: names k) := by
        rw [List.map_append, List.map_cons, flat_names]
      obtain ⟨s3, e3, t3⟩ := run_word_and r (by rw [hr]; exact fun z => nomatch z) (ov ++ (c, top br) :: flat k (some c)) br hb (by rw [mf, List.append_assoc]; exact hn) (fun x hx => ho x (List.mem_cons_of_mem _ (List.mem_append_right _ hx))) (by rw [List.length_append, List.length_cons, lk]; omega)
      refine ⟨s3, ?_, ?_⟩
      · rw [run_app, e]
        show (tk s 44).bind (run (tx r)) = _
        rw [e2]
        exact e3
      · have : ov ++ flat (.cons c k r) (top br) = ov ++ (c, top br) :: flat k (some c) ++ flat r (top br) := by
          show ov ++ (c, top br) :: (flat k (some c) ++ flat r (top br)) = _
          rw [List.append_assoc]
          rfl
        rw [this]
        exact t3
/-- a tree's text, read whole -/
theorem run_tree (f : Fo) (hn : (names f).Nodup) (ho : ∀ x ∈ names f, NameOk x) (hl : (names f).length ≤ 8) : ∃ s, run (tx f) start = some s ∧ fin s = some (flat f none) := by
  cases hf : f with
  | nil => exact ⟨start, rfl, rfl⟩
  | cons c k r =>
    rw [← hf]
    obtain ⟨s, e, t, en, eo, eb, h, _, _⟩ := run_word_and f (by rw [hf]; exact fun z => nomatch z) [] [none] (by simp) (by simpa using hn) ho (by simpa using hl)
    refine ⟨s, e, ?_⟩
    unfold fin
    have hb : s.br.length = 1 := by simp_all
    rw [if_neg (by rintro ⟨z1, z2⟩; rcases h with h | h; exact h z1; rw [z2] at h; cases h), if_pos hb, en]
    show some t.ov = _
    rw [eo]
    rfl
end TPA

/-! What a reader took is the text of what it tells. -/
namespace TPA
open PySem L2 PyProof.Rows TX TM TT
/-- a forest's text, and a comma behind it where there is any -/
def pre : Fo → List Nat
  | .nil => []
  | f => tx f ++ [44]
theorem pre_cons (c : Str) (k r : Fo) : pre (.cons c k r) = tx (.cons c k r) ++ [44] := rfl
theorem tx_nil : tx .nil = [] := by decide +kernel
theorem tx_app : ∀ (f : Fo) (d : Str) (k' r' : Fo), tx (app f (.cons d k' r')) = pre f ++ tx (.cons d k' r')
  | .nil, d, k', r' => rfl
  | .cons c k .nil, d, k', r' => by
    show tx (.cons c k (.cons d k' r')) = _
    rw [tx_more, pre_cons, tx_one, List.append_assoc]
    rfl
  | .cons c k (.cons c2 k2 r2), d, k', r' => by
    have ih := tx_app (.cons c2 k2 r2) d k' r'
    have e : app (.cons c k (.cons c2 k2 r2)) (.cons d k' r') = .cons c k (.cons c2 k2 (app r2 (.cons d k' r'))) := rfl
    rw [e, tx_more]
    have e2 : Fo.cons c2 k2 (app r2 (.cons d k' r')) = app (.cons c2 k2 r2) (.cons d k' r') := rfl
    rw [e2, ih, pre_cons, pre_cons, tx_more]
    simp
/-- the open brackets: what stands ahead of each, and its column -/
def zt : List (Fo × Str) → List Nat
  | [] => []
  | (f, c) :: r => pre f ++ cp c ++ 40 :: zt r
def zf : List (Fo × Str) → Fo → Option Str → List Pr
  | [], cur, u => flat cur u
  | (f, c) :: r, cur, u => flat f u ++ (c, u) :: zf r cur (some c)
def ztop : List (Fo × Str) → Option Str → Option Str
  | [], u => u
  | (_, c) :: r, _ => ztop r (some c)
theorem zf_app : ∀ (fr : List (Fo × Str)) (cur g : Fo) (u : Option Str), zf fr (app cur g) u = zf fr cur u ++ flat g (ztop fr u)
  | [], cur, g, u => flat_app cur g u
  | (f, c) :: r, cur, g, u => by
    show flat f u ++ (c, u) :: zf r (app cur g) (some c) = (flat f u ++ (c, u) :: zf r cur (some c)) ++ flat g (ztop r (some c))
    rw [zf_app r cur g (some c)]
    simp
theorem zf_snoc : ∀ (fr : List (Fo × Str)) (f cur : Fo) (c : Str) (u : Option Str), zf (fr ++ [(f, c)]) cur u = zf fr f u ++ (c, ztop fr u) :: flat cur (some c)
  | [], f, cur, c, u => rfl
  | (f0, c0) :: r, f, cur, c, u => by
    show flat f0 u ++ (c0, u) :: zf (r ++ [(f, c)]) cur (some c0) = (flat f0 u ++ (c0, u) :: zf r f (some c0)) ++ (c, ztop r (some c0)) :: flat cur (some c)
    rw [zf_snoc r f cur c (some c0)]
    simp
theorem zt_snoc : ∀ (fr : List (Fo × Str)) (f : Fo) (c : Str), zt (fr ++ [(f, c)]) = zt fr ++ pre f ++ cp c ++ [40]
  | [], f, c => by simp [zt]
  | (f0, c0) :: r, f, c => by
    show pre f0 ++ cp c0 ++ 40 :: zt (r ++ [(f, c)]) = (pre f0 ++ cp c0 ++ 40 :: zt r) ++ pre f ++ cp c ++ [40]
    rw [zt_snoc r f c]
    simp
def zbr (fr : List (Fo × Str)) : List (Option Str) := none :: fr.map fun p => some p.2
theorem ztop_snoc : ∀ (fr : List (Fo × Str)) (f : Fo) (c : Str) (u : Option Str), ztop (fr ++ [(f, c)]) u = some c
  | [], _, _, _ => rfl
  | (_, c0) :: r, f, c, _ => ztop_snoc r f c (some c0)
theorem top_zbr (fr : List (Fo × Str)) : top (zbr fr) = ztop fr none := by
  rcases List.eq_nil_or_concat fr with rfl | ⟨r, ⟨f, c⟩, rfl⟩
  · rfl
  · rw [List.concat_eq_append, ztop_snoc]
    unfold zbr
    rw [List.map_append, ← List.cons_append]
    exact top_snoc _ _
theorem zbr_snoc (fr : List (Fo × Str)) (f : Fo) (c : Str) : zbr (fr ++ [(f, c)]) = zbr fr ++ [some c] := by
  unfold zbr
  rw [List.map_append]
  rfl
/-- what was taken, and what is known -/
structure Zi (s : RS) (l : List Nat) : Prop where
  z : ∃ (fr : List (Fo × Str)) (cur : Fo), s.br = zbr fr ∧ s.ov = zf fr cur none ∧ (s.cl = false → l = zt fr ++ pre cur ++ s.nm) ∧ (s.cl = true → l = zt fr ++ tx cur ∧ cur ≠ .nil)
  ok : ∀ x ∈ s.ov.map Prod.fst, NameOk x
  le : ∀ c ∈ s.nm, 97 ≤ c ∧ c ≤ 122
  n8 : s.nm.length ≤ 8
theorem zi_start : Zi start [] := ⟨⟨[], .nil, rfl, rfl, fun _ => rfl, fun h => nomatch h⟩, (fun x h => nomatch h), (fun c h => nomatch h), by decide⟩
theorem app_ne (f : Fo) (d : Str) (k r : Fo) : app f (.cons d k r) ≠ .nil := by
  cases f with
  | nil => exact fun z => nomatch z
  | cons c k' r' => exact fun z => nomatch z
/-- where a name, or all beneath it, ends -/
theorem zi_end {s t : RS} {l : List Nat} (Z : Zi s l) (h : endN s = some t) : (∃ (fr : List (Fo × Str)) (cur : Fo), t.br = zbr fr ∧ t.ov = zf fr cur none ∧ l = zt fr ++ tx cur ∧ cur ≠ .nil ∧
    (s.cl = false → ∃ c0, cur = app c0 (.cons (S s.nm) .nil .nil) ∧ l = zt fr ++ pre c0 ++ s.nm ∧ zf fr c0 none ++ [(S s.nm, ztop fr none)] = t.ov)) ∧ (∀ x ∈ t.ov.map Prod.fst, NameOk x) ∧ t.nm = s.nm := by
  obtain ⟨⟨fr, cur, e1, e2, e3, e4⟩, ok, le, n8⟩ := Z
  unfold endN at h
  split at h
  · rename_i hc
    cases h
    obtain ⟨a, b⟩ := e4 hc
    exact ⟨⟨fr, cur, e1, e2, a, b, fun z => by rw [hc] at z; cases z⟩, ok, rfl⟩
  · rename_i hc
    have hc : s.cl = false := by cases e : s.cl with | true => exact absurd e hc | false => rfl
    split at h
    · cases h
    · rename_i hn
      cases h
      have a := e3 hc
      have e5 : zf fr (app cur (.cons (S s.nm) .nil .nil)) none = s.ov ++ [(S s.nm, top s.br)] := by
        rw [zf_app, e1, top_zbr, e2]
        rfl
      have e6 : tx (.cons (S s.nm) .nil .nil) = s.nm := by
        rw [tx_one, wd_nil]
        exact S_cps _
      refine ⟨⟨fr, app cur (.cons (S s.nm) .nil .nil), e1, e5.symm, ?_, app_ne _ _ _ _, fun _ => ⟨cur, rfl, a, ?_⟩⟩, fun x hx => ?_, rfl⟩
      · rw [tx_app, e6, ← List.append_assoc]
        exact a
      · show _ = s.ov ++ [(S s.nm, top s.br)]
        rw [e1, top_zbr, e2]
      · have hx : x ∈ (s.ov ++ [(S s.nm, top s.br)]).map Prod.fst := hx
        rw [List.map_append] at hx
        rcases List.mem_append.mp hx with hx | hx
        · exact ok x hx
        · have : x = S s.nm := by simpa using hx
          subst this
          refine ⟨?_, by rw [S_len]; exact n8, fun c hcm => le c hcm⟩
          rw [S_len]
          have : s.nm ≠ [] := fun z => hn (.inl z)
          exact List.length_pos_iff.mpr this
theorem zi_tk {s t : RS} {c : Nat} {l : List Nat} (Z : Zi s l) (h : tk s c = some t) : Zi t (l ++ [c]) := by
  unfold tk at h
  split at h
  · rename_i hc
    obtain ⟨⟨fr, cur, e1, e2, e3, e4⟩, ok, le, n8⟩ := Z
    unfold letter at h
    split at h
    · cases h
    · rename_i h1
      split at h
      · cases h
      · cases h
        have hcl : s.cl = false := by cases e : s.cl with | true => exact absurd (.inl e) h1 | false => rfl
        refine ⟨⟨fr, cur, e1, e2, fun _ => ?_, fun z => ?_⟩, ok, fun d hd => ?_, ?_⟩
        · show l ++ [c] = zt fr ++ pre cur ++ (s.nm ++ [c])
          rw [e3 hcl, List.append_assoc]
        · have z : s.cl = true := z
          rw [hcl] at z
          cases z
        · rcases List.mem_append.mp hd with hd | hd
          · exact le d hd
          · rw [List.mem_singleton.mp hd]
            exact hc
        · show (s.nm ++ [c]).length ≤ 8
          rw [List.length_append, List.length_singleton]
          omega
  · split at h
    · rename_i hs
      cases e : endN s with
      | none => rw [e] at h; cases h
      | some u =>
        rw [e] at h
        obtain ⟨⟨fr, cur, a1, a2, a3, a4, a5⟩, ok, en⟩ := zi_end Z e
        have h : (if u.ov.length = 8 then none else some _) = some t := h
        split at h
        · cases h
        · cases h
          refine ⟨?_, ok, (fun c h => nomatch h), by show (0 : Nat) ≤ 8; decide⟩
          by_cases h40 : c = 40
          · have hcl : s.cl = false := by
              rcases hs with z | z
              · rw [h40] at z; cases z
              · exact z.2
            obtain ⟨c0, b1, b2, b3⟩ := a5 hcl
            refine ⟨fr ++ [(c0, S s.nm)], .nil, ?_, ?_, fun _ => ?_, fun z => nomatch z⟩
            · show (if c = 40 then u.br ++ [some (S u.nm)] else u.br) = _
              rw [if_pos h40, zbr_snoc, a1, en]
            · show u.ov = _
              rw [zf_snoc, ← b3]
              rfl
            · show l ++ [c] = zt (fr ++ [(c0, S s.nm)]) ++ [] ++ []
              rw [zt_snoc, b2, h40, List.append_nil, List.append_nil]
              have : cp (S s.nm) = s.nm := S_cps _
              rw [this]
          · refine ⟨fr, cur, ?_, a2, fun _ => ?_, fun z => nomatch z⟩
            · show (if c = 40 then u.br ++ [some (S u.nm)] else u.br) = _
              rw [if_neg h40, a1]
            · have h44 : c = 44 := by
                rcases hs with z | z
                · exact z
                · exact absurd z.1 h40
              show l ++ [c] = zt fr ++ pre cur ++ []
              rw [List.append_nil, a3, h44]
              cases cur with
              | nil => exact absurd rfl a4
              | cons d k r => rw [pre_cons, List.append_assoc]
    · split at h
      · rename_i hb
        cases e : endN s with
        | none => rw [e] at h; cases h
        | some u =>
          rw [e] at h
          obtain ⟨⟨fr, cur, a1, a2, a3, a4, _⟩, ok, en⟩ := zi_end Z e
          have hbu : u.br = s.br := by
            unfold endN at e
            split at e
            · cases e; rfl
            · split at e
              · cases e
              · cases e; rfl
          cases h
          have h2 := hb.2
          rw [← hbu, a1] at h2
          rcases List.eq_nil_or_concat fr with rfl | ⟨r, ⟨f, d⟩, rfl⟩
          · exact absurd h2 (by decide)
          rw [List.concat_eq_append] at a1 a2 a3
          refine ⟨⟨r, app f (.cons d cur .nil), ?_, ?_, (fun z => nomatch z), fun _ => ⟨?_, app_ne _ _ _ _⟩⟩, ok, (fun c h => nomatch h), by show (0 : Nat) ≤ 8; decide⟩
          · show u.br.dropLast = _
            rw [a1, zbr_snoc, List.dropLast_concat]
          · show u.ov = _
            rw [a2, zf_snoc, zf_app]
            show _ = _ ++ ((d, ztop r none) :: (flat cur (some d) ++ []))
            rw [List.append_nil]
          · rw [tx_app, tx_one, a3, zt_snoc]
            cases cur with
            | nil => exact absurd rfl a4
            | cons d2 k2 r2 =>
              rw [wd_cons, hb.1]
              simp
      · cases h
theorem zi_run : ∀ (m l : List Nat) {s t : RS}, Zi s l → run m s = some t → Zi t (l ++ m)
  | [], l, s, t, Z, h => by
    cases h
    rw [List.append_nil]
    exact Z
  | c :: r, l, s, t, Z, h => by
    have h : (tk s c).bind (run r) = some t := h
    cases e : tk s c with
    | none => rw [e] at h; cases h
    | some u =>
      rw [e] at h
      have := zi_run r (l ++ [c]) (zi_tk Z e) h
      rwa [List.append_assoc] at this
/-- a text that is taken whole is the text of what it tells -/
theorem whole_text {l : List Nat} {s : RS} {ps : List Pr} (h : run l start = some s) (e : fin s = some ps) : ∃ f : Fo, l = tx f ∧ ps = flat f none ∧ ∀ x ∈ names f, NameOk x := by
  have Z := zi_run l [] zi_start h
  rw [List.nil_append] at Z
  unfold fin at e
  split at e
  · rename_i hz
    split at e
    · rename_i ho
      cases e
      obtain ⟨⟨fr, cur, e1, e2, e3, e4⟩, ok, _⟩ := Z
      have := e3 hz.2
      rw [ho] at e2
      cases fr with
      | cons p r =>
        obtain ⟨f, c⟩ := p
        have e2 : ([] : List Pr) = flat f none ++ (c, none) :: zf r cur (some c) := e2
        exact absurd e2.symm (by simp)
      | nil =>
        have e2 : ([] : List Pr) = flat cur none := e2
        cases cur with
        | nil => exact ⟨.nil, by rw [this, hz.1]; exact tx_nil.symm, rfl, fun x h => nomatch h⟩
        | cons d k r => exact absurd e2.symm (by simp [flat])
    · cases e
  · split at e
    · rename_i hb
      cases en : endN s with
      | none => rw [en] at e; cases e
      | some u =>
        rw [en] at e
        cases e
        obtain ⟨⟨fr, cur, a1, a2, a3, a4, _⟩, ok, _⟩ := zi_end Z en
        have hbu : u.br = s.br := by
          unfold endN at en
          split at en
          · cases en; rfl
          · split at en
            · cases en
            · cases en; rfl
        have : fr = [] := by
          rw [← hbu, a1] at hb
          unfold zbr at hb
          simpa using hb
        subst this
        refine ⟨cur, a3, a2, fun x hx => ok x ?_⟩
        rw [a2]
        show x ∈ (flat cur none).map Prod.fst
        rw [flat_names]
        exact hx
    · cases e
/-- where reading stops: at a sign, or at the end; nothing where it doesn't -/
def stopR : List Nat → RS → Nat → Option Nat
  | [], s, i => if (fin s).isSome then none else some i
  | c :: r, s, i => match tk s c with
    | none => some i
    | some t => stopR r t (i + 1)
theorem stop_at : ∀ (l : List Nat) (s : RS) (n i : Nat) (t : RS) (c : Nat), l[i]? = some c → run (l.take i) s = some t → tk t c = none → stopR l s n = some (n + i)
  | [], _, _, _, _, _, h, _, _ => by simp at h
  | d :: r, s, n, 0, t, c, h, e, k => by
    cases h
    cases e
    show (match tk s d with | none => some n | some t => stopR r t (n + 1)) = _
    rw [k]
    rfl
  | d :: r, s, n, i + 1, t, c, h, e, k => by
    rw [List.take_succ_cons] at e
    have e : (tk s d).bind (run (r.take i)) = some t := e
    cases h2 : tk s d with
    | none => rw [h2] at e; cases e
    | some u =>
      rw [h2] at e
      show (match tk s d with | none => some n | some t => stopR r t (n + 1)) = _
      rw [h2]
      show stopR r u (n + 1) = _
      rw [stop_at r u (n + 1) i t c (by simpa using h) e k]
      congr 1
      omega
theorem stop_end : ∀ (l : List Nat) (s : RS) (n : Nat) (t : RS), run l s = some t → stopR l s n = if (fin t).isSome then none else some (n + l.length)
  | [], s, n, t, e => by
    cases e
    rfl
  | d :: r, s, n, t, e => by
    have e : (tk s d).bind (run r) = some t := e
    cases h2 : tk s d with
    | none => rw [h2] at e; cases e
    | some u =>
      rw [h2] at e
      show (match tk s d with | none => some n | some t => stopR r t (n + 1)) = _
      rw [h2]
      show stopR r u (n + 1) = _
      rw [stop_end r u (n + 1) t e, List.length_cons]
      have : n + 1 + r.length = n + (r.length + 1) := by omega
      rw [this]
def stopX (x : Str) : Option Nat := stopR (cp x) start 0
end TPA

set_option maxHeartbeats 1000000
/-! Rules of our own: enumerate(text); an attribute among several targets. -/
namespace TEN
open PySem L2 PyProof.Rows
/-- the signs of a text, each with its number in a new pair -/
def Itn (x : Str) : It := ⟨fun i _ => i < x.cps.size, fun i H v H' => ∃ (T : Addr) (c : Nat), v = .ref T ∧ H T = none ∧ x.cps[i]? = some c ∧ H' = upd H T (.tup [.int (i : Nat), .str ⟨#[c]⟩]), fun i _ => x.cps.size ≤ i⟩
theorem turn_of {P : Program} {w : World} {K : PySem.W.Frag} {elts : List Expr} {kk : Nat} {tpos : Pos} (x : Str) (e it : Addr) (St : Nat → Heap → Prop) (D : ∀ A : Around, A.handled = none → Draws P w A it [it] x.cps.size (fun i v => ∃ c u, x.cps[i]? = some c ∧ v = .str ⟨#[c]⟩ u) St)
    (so : ∀ i h, St i h → ∃ o, h.get? it = some o ∧ ∀ v, o.data ≠ .cell v) (fr : ∀ i h h', St i h → (∀ o, h.get? it = some o → h'.get? it = some o) → St i h') :
    Turn P w K (.Tuple elts kk tpos) (Itn x) [e, it] e (fun i h => (∃ old, IsEnum h e it ((i : Nat) : Int) old) ∧ St i h ∧ e ≠ it ∧ i ≤ x.cps.size) where
  mem := List.mem_cons_self
  obj := fun i h st b hb => by
    obtain ⟨⟨old, he⟩, hs, _, _⟩ := st
    rcases List.mem_cons.mp hb with rfl | hb
    · exact ⟨_, he, fun v q => nomatch q⟩
    · rw [List.mem_singleton.mp hb]
      exact so i h hs
  keep := fun i h h' st k => by
    obtain ⟨⟨old, he⟩, hs, hne, hle⟩ := st
    exact ⟨⟨old, k e List.mem_cons_self _ he⟩, fr i h h' hs fun o q => k it (by simp) o q, hne, hle⟩
  item := by
    intro X hP hw hK hc i pins s σ H E I hf st hg
    subst hP hw hK
    obtain ⟨⟨old, he⟩, hs, hne, hle⟩ := st
    have le : e < s.heap.objs.size := Heap.lt_size he
    obtain ⟨oi, hoi, _⟩ := so i _ hs
    have li : it < s.heap.objs.size := Heap.lt_size hoi
    refine wpAny_pyNext_enum_itemD (D X.A.in1 (I.ok.hd hc)) he hs hg hne (fun z => hne (List.mem_singleton.mp z)) fun u h' tk hu ho hs' hT hz hk => ?_
    obtain ⟨c, t, hc', rfl⟩ := hu
    refine ⟨_, rfl, wpAny_letOwnedTupleGo_enum (s := { s with heap := h', toks := tk + 1 }) ho fun h2 he2 sb => ?_⟩
    have hT2 : h2.get? s.heap.objs.size = some { cls := .type "tuple", data := .seq #[.int i tk, .str ⟨#[c]⟩ t] } := (sb.2 _ (Nat.ne_of_gt le)).trans hT
    have new : ObjOk X.prog X.w (upd H s.heap.objs.size (.tup [.int (i : Nat), .str ⟨#[c]⟩])) h2 s.heap.objs.size (.tup [.int (i : Nat), .str ⟨#[c]⟩]) :=
      ⟨by show 2 ≤ sizeLine; decide, [.int i tk, .str ⟨#[c]⟩ t], .cons ⟨_, rfl⟩ (.cons ⟨_, rfl⟩ .nil), ⟨_, hT2, rfl, _, rfl⟩⟩
    have I2 : Inv X pins σ (upd H s.heap.objs.size (.tup [.int (i : Nat), .str ⟨#[c]⟩])) { s with heap := h2, toks := tk + 1 } :=
      I.turnedNew (ch := [e, it]) (fun b ob hb q => (sb.2 b fun z => hb (by simp [z])).trans (hk b ob (fun z => hb (by simp [z])) (fun z => hb (by simp [z])) q)) hf (Nat.le_refl _) new
    refine ⟨.ref s.heap.objs.size, _, I2, rfl, ⟨_, c, rfl, I.hok.fresh (Nat.le_refl _), hc', rfl⟩, ⟨⟨.str ⟨#[c]⟩ t, ?_⟩, fr _ _ _ hs' fun o q => (sb.2 it (Ne.symm hne)).trans q, hne, hg⟩, fun b hb => ?_⟩
    · have e1 : ((i + 1 : Nat) : Int) = (i : Int) + 1 := by omega
      rw [e1]
      exact he2
    · have hb' : b < s.heap.objs.size := by
        rcases List.mem_cons.mp hb with rfl | hb
        · exact le
        · rw [List.mem_singleton.mp hb]
          exact li
      rw [upd_ne (Nat.ne_of_lt hb')]
      exact (hf b hb).1
  done := by
    intro X hP hw hK hc i pins s σ H E I hf st hg
    subst hP hw hK
    obtain ⟨⟨old, he⟩, hs, hne, hle⟩ := st
    obtain rfl : i = x.cps.size := Nat.le_antisymm hle hg
    obtain ⟨f0, f1, f2, f3, f4, f5⟩ := hf it (by simp)
    exact wpAny_pyNext_enum_endD (D X.A.in1 (I.ok.hd hc)) he hs fun h' eb => ⟨rfl, I.turned (t' := s.toks) (fun b o hb q => eb b o hb q) f0 f1 f3 f4 f5⟩
  self := fun A i s Q E st h => by
    obtain ⟨⟨old, he⟩, _, _, _⟩ := st
    exact wpAny_pyIter_enum he h
def iEnumS (ta : TA) : TI := fun σ H R => ta σ H fun vs H1 => ∃ x, vs = [.str x] ∧ R (Itn x) H1
theorem pi_enumS {X : Cx} {e : Expr} {ta : TA} {p pos tpos : Pos} {elts : List Expr} {kk : Nat} (hg : Gl X "enumerate") (hm : X.mg "enumerate" = none) (ha : PA X [e] ta) (hs : starEach [e] X.env = [(false, eval e X.env)] := by rfl) :
    PI X (.Tuple elts kk tpos) (.Call (.Name "enumerate" p) [e] [] pos) (iEnumS ta) := by
  refine ⟨fun pins s σ H R I h => ?_⟩
  refine Call_ (ld_blt I hg hm boot_enumerate (PyProof.Rows.callWith_type1 (thn (ha.run pos pins s σ H _ I h) fun us s1 ⟨vs, H1, I1, r1, q1⟩ => ?_) hs rfl))
  obtain ⟨x, rfl, q⟩ := q1
  cases r1 with
  | cons r rr =>
    cases rr
    obtain ⟨t, rfl⟩ := r
    refine call_enumerate_str fun h' he hit hsz hk => wpAny_pyIter_enum he ?_
    have I2 : Inv X pins σ H1 { s1 with heap := h' } := I1.kept (t' := s1.toks) hk
    have fin : ∀ ty, h'.IsStrIter s1.heap.objs.size ty x t 0 → (∀ A : Around, A.handled = none → Draws X.prog X.w A s1.heap.objs.size [s1.heap.objs.size] x.cps.size (fun i v => ∃ c u, x.cps[i]? = some c ∧ v = .str ⟨#[c]⟩ u) (fun i h => h.IsStrIter s1.heap.objs.size ty x t i)) →
        PIE X pins σ (.Tuple elts kk tpos) R (.ref (s1.heap.objs.size + 1)) { s1 with heap := h' } := fun ty hit D => by
      refine ⟨s1.heap.objs.size + 1, [s1.heap.objs.size + 1, s1.heap.objs.size], _, _, H1, rfl, I2, turn_of x (s1.heap.objs.size + 1) s1.heap.objs.size _ D (fun i h st => ?_) (fun i h h2 st k => ?_), ⟨⟨.none, he⟩, hit, Nat.succ_ne_self _, Nat.zero_le _⟩, fun b hb => ?_, q⟩
      · obtain ⟨o, ho, hc, hd⟩ := st
        exact ⟨o, ho, fun v z => by rw [hd] at z; cases z⟩
      · obtain ⟨o, ho, r⟩ := st
        exact ⟨o, k o ho, r⟩
      have hle : s1.heap.objs.size ≤ b := by
        rcases List.mem_cons.mp hb with rfl | hb
        · exact Nat.le_add_right _ _
        · rw [List.mem_singleton.mp hb]
          exact Nat.le_refl _
      exact I1.fpOk hle (I1.hok.fresh hle)
    cases hw : x.cps.all (· < 128) with
    | true => exact fin "str_ascii_iterator" (by simpa only [strIterType, hw, if_true] using hit) fun A hh => Draws.strAscii hh _ x t
    | false => exact fin "str_iterator" (by simpa only [strIterType, hw, Bool.false_eq_true, if_false] using hit) fun A hh => Draws.strWide hh _ x t
theorem walk_enumS {x : Str} : Walk (Itn x) x.cps.size (fun _ => True) (fun i H v H' => ∃ (T : Addr) (c : Nat), v = .ref T ∧ H T = none ∧ x.cps[i]? = some c ∧ H' = upd H T (.tup [.int (i : Nat), .str ⟨#[c]⟩])) :=
  ⟨fun _ _ hi _ => hi, fun _ _ => Nat.le_refl _, fun _ _ _ _ _ _ y => y⟩
/-- o.f = .., as one target of several -/
def gFld (K : PySem.W.Frag) (to : TE) (f : Str) : TG := fun v σ H Q => to σ H fun x H1 => ∃ (a C dx : Addr) (fs : List (Str × V)), x = .ref a ∧ H1 a = some (.ins C dx fs) ∧ Cls K C ∧ NoAttr K C f ∧ fs.length < 1000 ∧ Q σ (upd H1 a (.ins C dx (putF f v fs)))
theorem pg_fld {X : Cx} {o : Expr} {f : Str} {pos : Pos} {to : TE} (ho : PE X o to) : PG X (.Attribute o f pos) (gFld X.K to f) := by
  refine ⟨fun pins s σ H v u Q I r h => ?_⟩
  rw [assign_Attribute]
  refine wpAny_bind (wpAny_holding (thn (ho.run pins s σ H _ I h) fun ov s1 ⟨x, H1, I1, r1, a, C, dx, fs, ex, ea, c, n, l, q⟩ => ?_))
  subst ex
  obtain rfl : ov = Value.ref a := r1
  refine wpAny_bind (wpAny_standAt (wpAny_bind (wpAny_holding (setattr_ok I1 ea c n l r fun s2 I2 => ?_))))
  exact wpAny_release ⟨σ, _, I2, q⟩
end TEN

set_option maxHeartbeats 2000000
namespace T88
open PySem L2 PyProof.Rows TX TY TEN TPA
section
variable {P : Program} {w : World} {K : PySem.W.Frag} {mg : Str → Option Value} {base : Heap}
variable {fN fC fP fT fO : Addr} {dN dC dP dT dO : FuncData}
/-- the attributes of a reader -/
def rf4 (d b : Addr) (nm : List Nat) (cl : Bool) : List (Str × V) := [("_overs", .ref d), ("_brackets", .ref b), ("_name", .str (S nm)), ("_closed", .bl cl)]
theorem rf_ov (d b : Addr) (nm : List Nat) (cl : Bool) : (rf4 d b nm cl).lookup ("_overs" : Str) = some (.ref d) := rfl
theorem rf_br (d b : Addr) (nm : List Nat) (cl : Bool) : (rf4 d b nm cl).lookup ("_brackets" : Str) = some (.ref b) := rfl
theorem rf_nm (d b : Addr) (nm : List Nat) (cl : Bool) : (rf4 d b nm cl).lookup ("_name" : Str) = some (.str (S nm)) := rfl
theorem rf_cl (d b : Addr) (nm : List Nat) (cl : Bool) : (rf4 d b nm cl).lookup ("_closed" : Str) = some (.bl cl) := rfl
theorem rf_pn (d b : Addr) (nm nm' : List Nat) (cl : Bool) : putF "_name" (.str (S nm')) (rf4 d b nm cl) = rf4 d b nm' cl := rfl
theorem rf_pc (d b : Addr) (nm : List Nat) (cl cl' : Bool) : putF "_closed" (.bl cl') (rf4 d b nm cl) = rf4 d b nm cl' := rfl
theorem rf_len (d b : Addr) (nm : List Nat) (cl : Bool) : (rf4 d b nm cl).length < 1000 := by show 4 < 1000; decide
/-- a reader that was made since H0, which stands as it was -/
def RIn (C : Addr) (H0 H : Hp) (p : Addr) (s : RS) : Prop := ∃ dx d b, H p = some (.ins C dx (rf4 d b s.nm s.cl)) ∧ H d = some (.dK (kvsOf s.ov)) ∧ H b = some (.lst (s.br.map optV)) ∧ H0 p = none ∧ H0 d = none ∧ H0 b = none ∧ Same H0 H
/-- what holds of all that a reader knows -/
structure Good (s : RS) : Prop where
  nd : (s.ov.map Prod.fst).Nodup
  lo : s.ov.length ≤ 8
  lc : s.cl = false → s.ov.length ≤ 7
  bn : s.br ≠ []
  bl : s.br.length ≤ s.ov.length + 1
  nl : s.nm.length ≤ 8
/-- what the top says of the class -/
structure Rc (K : PySem.W.Frag) (mg : Str → Option Value) (C : Addr) : Prop where
  cl : Cls K C
  nO : NoAttr K C "_overs"
  nB : NoAttr K C "_brackets"
  nN : NoAttr K C "_name"
  nC : NoAttr K C "_closed"
variable {C : Addr}
theorem rf_no (d b : Addr) (nm : List Nat) (cl : Bool) {m : Str} (h1 : (m == "_overs") = false) (h2 : (m == "_brackets") = false) (h3 : (m == "_name") = false) (h4 : (m == "_closed") = false) : (rf4 d b nm cl).lookup m = none := by
  unfold rf4
  simp only [List.lookup, h1, h2, h3, h4]
theorem sc_rendn : FnScope ["self"] ["self"] (defScope s_rendn) := ⟨rfl, rfl, rfl, by decide +kernel, rfl, by decide +kernel, by decide +kernel⟩
def sp_rendn (C : Addr) : Sp := fun vs H Q _ => ∃ (H0 : Hp) (p : Addr) (s : RS), vs = [.ref p] ∧ RIn C H0 H p s ∧ Good s ∧ (endN s = none → ∀ H', RIn C H0 H' p s → Q (.bl false) H') ∧ (∀ t, endN s = some t → ∀ H', RIn C H0 H' p t → Q (.bl true) H')
theorem s_empty : (Str.ofString "") = S [] := rfl
theorem dec_empty (l : List Nat) : decide (V.str (S l) = V.str (Str.ofString "")) = decide (l = []) := by
  by_cases h : l = []
  · rw [decide_eq_true h, decide_eq_true (by rw [h]; rfl)]
  · rw [decide_eq_false h, decide_eq_false]
    intro z
    exact h (S_inj (V.str.inj z))
theorem ok_rendn {f : Addr} {fd : FuncData} (F : Fun K "_ends_name" "TreeReader._ends_name" s_rendn f fd) (c : Rc K mg C) : FnOk P w K mg base CX0 1 f fd ["self"] (sp_rendn C) := by
  refine F.ok sc_rendn (fun vs H Q E h => ?_) (fun cdv A outer s H vs Q E hr h => ?_)
  · obtain ⟨H0, p, s, rfl, _⟩ := h
    rfl
  · obtain ⟨H0, p, s, rfl, hR, g, q0, q1⟩ := h
    obtain ⟨dx, d, b, h1, h2, h3, z1, z2, z3, s0⟩ := id hR
    have hu := hu_of hr
    refine ⟨_, pss_cons (ps_if (pt_val (pe_fld (pv 0) rfl)) (pss_one (ps_ret pe_bl)) pss_nil)
      (pss_cons (ps_if (PW.pt (pw_or (pt_cmpR op_eq (pe_fld (pv 0) rfl) pe_str (nomark _)) (pw_or1 (pt_cmp (pc_din hu (pe_fld (pv 0) rfl) (pe_fld (pv 0) rfl)))))) (pss_one (ps_ret pe_bl)) pss_nil)
      (pss_cons (ps_dput hu (pe_fld (pv 0) rfl) (pe_fld (pv 0) rfl) (pe_ix ix_list (pe_fld (pv 0) rfl) (pe_un un_neg pe_int) (fun _ _ => rfl)) rfl)
      (pss_one (ps_ret pe_bl)))), ?_⟩
    refine ⟨_, rfl, p, C, dx, _, _, rfl, h1, c.cl, c.nC, rf_cl _ _ _ _, _, rfl, ?_⟩
    cases hc : s.cl with
    | true => exact q1 s (by unfold endN; rw [if_pos hc]) H hR
    | false =>
      refine ⟨_, rfl, p, C, dx, _, _, rfl, h1, c.cl, c.nN, rf_nm _ _ _ _, rfl, _, rfl, ?_⟩
      rw [dec_empty]
      by_cases hn : s.nm = []
      · rw [decide_eq_true hn]
        exact q0 (by unfold endN; rw [if_neg (by rw [hc]; exact Bool.false_ne_true), if_pos (.inl hn)]) H hR
      rw [decide_eq_false hn]
      refine ⟨_, rfl, p, C, dx, _, _, rfl, h1, c.cl, c.nN, rf_nm _ _ _ _, _, rfl, p, C, dx, _, _, rfl, h1, c.cl, c.nO, rf_ov _ _ _ _, d, _, rfl, DGet.k (k := Sum.inr (S s.nm)) h2, _, rfl, ?_⟩
      rw [kvs_isSome g.nd]
      by_cases hm : S s.nm ∈ keys s
      · rw [decide_eq_true (show S s.nm ∈ s.ov.map Prod.fst from hm)]
        exact q0 (by unfold endN; rw [if_neg (by rw [hc]; exact Bool.false_ne_true), if_pos (.inr hm)]) H hR
      rw [decide_eq_false (show S s.nm ∉ s.ov.map Prod.fst from hm)]
      have hb : s.br ≠ [] := g.bn
      have hbl : 0 < s.br.length := List.length_pos_iff.mpr hb
      have hix : atI (s.br.map optV) (-1) = some (optV (TPA.top s.br)) := by
        have e1 : ixN (s.br.map optV).length (-1) = some (s.br.length - 1) := by
          unfold ixN
          rw [List.length_map, if_neg (by decide), if_pos (by omega)]
          congr 1
          omega
        unfold atI TPA.top
        rw [e1, List.getLast?_eq_getElem?, List.getElem?_eq_getElem (by omega)]
        show (s.br.map optV)[s.br.length - 1]? = _
        rw [List.getElem?_map, List.getElem?_eq_getElem (by omega)]
        rfl
      refine ⟨_, rfl, p, C, dx, _, _, rfl, h1, c.cl, c.nB, rf_br _ _ _ _, _, rfl, b, _, _, _, rfl, rfl, .of h3, hix, ?_⟩
      refine ⟨_, rfl, p, C, dx, _, _, rfl, h1, c.cl, c.nO, rf_ov _ _ _ _, _, rfl, p, C, dx, _, _, rfl, h1, c.cl, c.nN, rf_nm _ _ _ _, d, _, rfl, DPut.k (k := Sum.inr (S s.nm)) h2 ?_, ?_⟩
      · rw [kvs_len]
        exact line100' (by have := g.lo; omega)
      rw [kvs_put hm]
      have npd : p ≠ d := ne_of h1 h2 (by intro z; cases z)
      have nbd : b ≠ d := ne_of h3 h2 (by intro z; cases z)
      refine q1 ⟨s.ov ++ [(S s.nm, TPA.top s.br)], s.br, s.nm, s.cl⟩ (by unfold endN; rw [if_neg (by rw [hc]; exact Bool.false_ne_true), if_neg (by rintro (z | z); exact hn z; exact hm z)]) _ ⟨dx, d, b, ?_, upd_same, ?_, z1, z2, z3, Same.mut s0 z2⟩
      · rw [upd_ne npd]
        exact h1
      · rw [upd_ne nbd]
        exact h3
/-- a letter -/
theorem sc_rletter : FnScope ["self", "sign", "longer"] ["self", "sign"] (defScope s_rletter) := ⟨rfl, rfl, rfl, by decide +kernel, rfl, by decide +kernel, by decide +kernel⟩
def sp_rletter (C : Addr) : Sp := fun vs H Q _ => ∃ (H0 : Hp) (p : Addr) (s : RS) (c : Nat), vs = [.ref p, .str (S [c])] ∧ RIn C H0 H p s ∧ Good s ∧ (letter s c = none → ∀ H', Same H0 H' → Q (.bl false) H') ∧ (∀ t, letter s c = some t → ∀ H', RIn C H0 H' p t → Q (.bl true) H')
theorem ok_rletter {f : Addr} {fd : FuncData} (F : Fun K "_takes_letter" "TreeReader._takes_letter" s_rletter f fd) (c : Rc K mg C) (B : Bn mg) (Cn' : Cn mg) : FnOk P w K mg base CX0 1 f fd ["self", "sign"] (sp_rletter C) := by
  refine F.ok sc_rletter (fun vs H Q E h => ?_) (fun cdv A outer s H vs Q E hr h => ?_)
  · obtain ⟨H0, p, s, x, rfl, _⟩ := h
    rfl
  · obtain ⟨H0, p, s, x, rfl, hR, g, q0, q1⟩ := h
    obtain ⟨dx, d, b, h1, h2, h3, z1, z2, z3, s0⟩ := id hR
    have hu := hu_of hr
    obtain ⟨tl, hlg⟩ := Cn'.longest
    have nd := sc_rletter.nd
    refine ⟨_, pss_cons (ps_set (i := 2) nd rfl (Or.inl rfl) (pe_op op_add_str (pe_fld (pv 0) rfl) (pv 1)))
      (pss_cons (ps_if (PW.pt (pw_or (pt_val (pe_fld (pv 0) rfl)) (pw_or1 (pt_cmpR op_gt (pe_callB call_len_str (by rfl) B.len PySem.boot_len (pa_cons (pv 2) pa_nil)) (pe_glob (v := .int 8) (by rfl) hlg ⟨_, rfl⟩) (nomark _))))) (pss_one (ps_ret pe_bl)) pss_nil)
      (pss_cons (ps_if (PW.pt (pw_and (pt_cmpR op_eq (pe_callB call_len_str (by rfl) B.len PySem.boot_len (pa_cons (pv 2) pa_nil)) (pe_glob (v := .int 8) (by rfl) hlg ⟨_, rfl⟩) (nomark _)) (pw_and1 (pt_cmp (pc_din hu (pv 2) (pe_fld (pv 0) rfl)))))) (pss_one (ps_ret pe_bl)) pss_nil)
      (pss_cons (ps_fld (pv 0) (pv 2) rfl)
      (pss_one (ps_ret pe_bl))))), ?_⟩
    have nl := g.nl
    have el : (S s.nm ++ S [x]) = S (s.nm ++ [x]) := S_app _ _
    have ell : (S (s.nm ++ [x])).length = s.nm.length + 1 := by rw [S_len, List.length_append]; rfl
    refine ⟨_, rfl, p, C, dx, _, _, rfl, h1, c.cl, c.nN, rf_nm _ _ _ _, _, rfl, _, _, rfl, rfl, ?_⟩
    refine ⟨by rw [S_len, S_len]; exact line100 (by show s.nm.length + 1 ≤ 1000; omega), ?_⟩
    rw [el]
    have cl1 : s.nm.length + 1 ≤ sizeLine := line100 (by omega)
    refine ⟨_, rfl, p, C, dx, _, _, rfl, h1, c.cl, c.nC, rf_cl _ _ _ _, _, rfl, ?_⟩
    cases hc : s.cl with
    | true => exact q0 (by unfold letter; rw [if_pos (.inl hc)]) H s0
    | false =>
      refine ⟨_, rfl, _, rfl, by rw [ell]; exact cl1, _, _, rfl, rfl, _, rfl, ?_⟩
      rw [ell]
      refine ite2 (fun h8 => ?_) (fun h8 => ?_)
      · have h8 := of_decide_eq_true h8
        exact q0 (by unfold letter; rw [if_pos (.inr (by omega))]) H s0
      have n8 : ¬ 8 < s.nm.length + 1 := fun z => h8 (decide_eq_true (by omega))
      have hn1 : ¬ (s.cl = true ∨ 8 < s.nm.length + 1) := by
        rintro (z | z)
        · rw [hc] at z
          cases z
        · exact n8 z
      have done : (¬ (s.nm.length + 1 = 8 ∧ S (s.nm ++ [x]) ∈ keys s)) → ∀ H' : Hp, H' = H → ∃ v : V, (some (some (V.str (S (s.nm ++ [x])))) : Option (Option V)) = some (some v) ∧ ∃ v2 : V, (some (some (V.ref p)) : Option (Option V)) = some (some v2) ∧ ∃ (a C' dx' : Addr) (fs : List (Str × V)), v2 = .ref a ∧ H' a = some (.ins C' dx' fs) ∧ Cls K C' ∧ NoAttr K C' "_name" ∧ fs.length < 1000 ∧ Q (.bl true) (upd H' a (.ins C' dx' (putF "_name" v fs))) := by
        rintro hh H' rfl
        refine ⟨_, rfl, _, rfl, p, C, dx, _, rfl, h1, c.cl, c.nN, rf_len _ _ _ _, ?_⟩
        rw [rf_pn]
        refine q1 ⟨s.ov, s.br, s.nm ++ [x], s.cl⟩ (by unfold letter; rw [if_neg hn1, if_neg hh]) _ ⟨dx, d, b, ?_, ?_, ?_, z1, z2, z3, Same.mut s0 z1⟩
        · rw [upd_same]
        · rw [upd_ne (ne_of h2 h1 (by intro z; cases z))]
          exact h2
        · rw [upd_ne (ne_of h3 h1 (by intro z; cases z))]
          exact h3
      refine ⟨_, rfl, _, rfl, by rw [ell]; exact cl1, rfl, _, rfl, ?_⟩
      rw [ell]
      by_cases e8 : s.nm.length + 1 = 8
      · rw [decide_eq_true (show V.int ((s.nm.length + 1 : Nat) : Int) = V.int 8 by rw [e8]; rfl)]
        refine ⟨_, rfl, _, rfl, p, C, dx, _, _, rfl, h1, c.cl, c.nO, rf_ov _ _ _ _, d, _, rfl, DGet.k (k := Sum.inr (S (s.nm ++ [x]))) h2, _, rfl, ?_⟩
        rw [kvs_isSome g.nd]
        by_cases hm : S (s.nm ++ [x]) ∈ keys s
        · rw [decide_eq_true (show S (s.nm ++ [x]) ∈ s.ov.map Prod.fst from hm)]
          exact q0 (by unfold letter; rw [if_neg hn1, if_pos ⟨e8, hm⟩]) H s0
        · rw [decide_eq_false (show S (s.nm ++ [x]) ∉ s.ov.map Prod.fst from hm)]
          exact done (fun z => hm z.2) H rfl
      · rw [decide_eq_false (fun z : V.int ((s.nm.length + 1 : Nat) : Int) = V.int 8 => e8 (by injection z with z; omega))]
        exact done (fun z => e8 z.1) H rfl
/-- the start -/
theorem sc_rinit : FnScope ["self"] ["self"] (defScope s_rinit) := ⟨rfl, rfl, rfl, by decide +kernel, rfl, by decide +kernel, by decide +kernel⟩
def sp_rinit (C : Addr) : Sp := fun vs H Q _ => ∃ (H0 : Hp) (p dx : Addr), vs = [.ref p] ∧ H p = some (.ins C dx []) ∧ H0 p = none ∧ Same H0 H ∧ ∀ H', RIn C H0 H' p TPA.start → Q .non H'
theorem rf_mk (d b : Addr) : putF "_closed" (.bl false) (putF "_name" (.str (Str.ofString "")) (putF "_brackets" (.ref b) (putF "_overs" (.ref d) []))) = rf4 d b [] false := rfl
theorem ok_rinit {f : Addr} {fd : FuncData} (F : Fun K "__init__" "TreeReader.__init__" s_rinit f fd) (c : Rc K mg C) : FnOk P w K mg base CX0 1 f fd ["self"] (sp_rinit C) := by
  refine F.ok sc_rinit (fun vs H Q E h => ?_) (fun cdv A outer s H vs Q E hr h => ?_)
  · obtain ⟨H0, p, dx, rfl, _⟩ := h
    rfl
  · obtain ⟨H0, p, dx, rfl, hp, z1, s0, q⟩ := h
    refine ⟨_, pss_cons (ps_fld (pv 0) pe_dnewK rfl) (pss_cons (ps_fld (pv 0) (pe_lst (pa_cons pe_non pa_nil)) rfl) (pss_cons (ps_fld (pv 0) pe_str rfl) (pss_one (ps_fld (pv 0) pe_bl rfl)))), ?_⟩
    intro d nd
    have npd : p ≠ d := ne_of_none hp nd
    refine ⟨_, rfl, p, C, dx, _, rfl, by rw [upd_ne npd]; exact hp, c.cl, c.nO, by show 0 < 1000; decide, ?_⟩
    refine ⟨by show 1 ≤ sizeLine; decide, fun b nb => ?_⟩
    have eb : ∀ o, upd (upd (upd H d (.dK [])) p (.ins C dx (putF "_overs" (.ref d) []))) b o p = some (.ins C dx (putF "_overs" (.ref d) [])) := fun o => by rw [upd_ne (ne_of_none upd_same nb), upd_same]
    refine ⟨_, rfl, p, C, dx, _, rfl, eb _, c.cl, c.nB, by show 1 < 1000; decide, ?_⟩
    refine ⟨_, rfl, p, C, dx, _, rfl, upd_same, c.cl, c.nN, by show 2 < 1000; decide, ?_⟩
    refine ⟨_, rfl, p, C, dx, _, rfl, upd_same, c.cl, c.nC, by show 3 < 1000; decide, ?_⟩
    have nbp : b ≠ p := fun z => by rw [z, upd_same] at nb; cases nb
    have nbd : b ≠ d := fun z => by rw [z, upd_ne npd.symm, upd_same] at nb; cases nb
    have z2 : H0 d = none := by
      cases e : H0 d with
      | none => rfl
      | some o => rw [s0 _ _ e] at nd; cases nd
    have z3 : H0 b = none := by
      cases e : H0 b with
      | none => rfl
      | some o => rw [upd_ne nbp, upd_ne nbd, s0 _ _ e] at nb; cases nb
    rw [rf_mk]
    refine q _ ⟨dx, d, b, upd_same, ?_, ?_, z1, z2, z3, ?_⟩
    · rw [upd_ne npd.symm, upd_ne npd.symm, upd_ne npd.symm, upd_ne nbd.symm, upd_ne npd.symm, upd_same]
      rfl
    · rw [upd_ne nbp, upd_ne nbp, upd_ne nbp, upd_same]
      rfl
    · intro a o e
      rw [upd_ne (ne_of_none e z1), upd_ne (ne_of_none e z1), upd_ne (ne_of_none e z1), upd_ne (ne_of_none e z3), upd_ne (ne_of_none e z1), upd_ne (ne_of_none e z2)]
      exact s0 _ _ e
theorem tups_of {H : Hp} : ∀ {ts : List Addr} {ps : List TM.Pr}, Paired (fun (t : Addr) (q : Key × V) => H t = some (.tup [kV q.1, q.2])) ts (kvsOf ps) → TupsAt H ts ps
  | [], [], _ => .nil
  | [], _ :: _, h => nomatch h
  | _ :: _, [], h => nomatch h
  | t :: ts, q :: ps, h => by
    cases h with
    | cons a b => exact .cons a (tups_of b)
/-- the pairs told -/
theorem sc_rpairs : FnScope ["self"] ["self"] (defScope s_rpairs) := ⟨rfl, rfl, rfl, by decide +kernel, rfl, by decide +kernel, by decide +kernel⟩
def sp_rpairs (C : Addr) : Sp := fun vs H Q _ => ∃ (H0 : Hp) (p : Addr) (s : RS), vs = [.ref p] ∧ RIn C H0 H p s ∧ ∀ H' L, Same H H' → H L = none → PairsAt H' L s.ov → Q (.ref L) H'
theorem ok_rpairs {f : Addr} {fd : FuncData} (F : Fun K "pairs" "TreeReader.pairs" s_rpairs f fd) (c : Rc K mg C) (B : Bn mg) : FnOk P w K mg base CX0 1 f fd ["self"] (sp_rpairs C) := by
  refine F.ok sc_rpairs (fun vs H Q E h => ?_) (fun cdv A outer s H vs Q E hr h => ?_)
  · obtain ⟨H0, p, s, rfl, _⟩ := h
    rfl
  · obtain ⟨H0, p, s, rfl, hR, q⟩ := h
    obtain ⟨dx, d, b, h1, h2, h3, z1, z2, z3, s0⟩ := id hR
    refine ⟨_, pss_one (ps_ret (LiI.pe_listItems rfl (pe_fld (pv 0) rfl) (by rfl) B.list boot_list)), ?_⟩
    refine ⟨_, rfl, p, C, dx, _, _, rfl, h1, c.cl, c.nO, rf_ov _ _ _ _, d, _, rfl, h2, fun H' L ts k nL nts hLt eL pt => ?_⟩
    refine q H' L k nL ⟨ts, eL, ?_⟩
    exact tups_of pt
theorem le_a (x : Nat) : (!decide ((S [x]).cps.toList < (Str.ofString "a").cps.toList)) = decide (97 ≤ x) := by
  rw [str_a, S_cps, S_cps]
  by_cases h : 97 ≤ x
  · rw [decide_eq_true h, decide_eq_false (by rw [lt_sign]; omega)]
    rfl
  · rw [decide_eq_false h, decide_eq_true (by rw [lt_sign]; omega)]
    rfl
theorem le_z (x : Nat) : (!decide ((Str.ofString "z").cps.toList < (S [x]).cps.toList)) = decide (x ≤ 122) := by
  rw [str_z, S_cps, S_cps]
  by_cases h : x ≤ 122
  · rw [decide_eq_true h, decide_eq_false (by rw [lt_sign]; omega)]
    rfl
  · rw [decide_eq_false h, decide_eq_true (by rw [lt_sign]; omega)]
    rfl
theorem dec_sign {y : Str} {n : Nat} (h : y = S [n]) (x : Nat) : decide (V.str (S [x]) = V.str y) = decide (x = n) := by
  by_cases e : x = n
  · rw [decide_eq_true e, decide_eq_true (by rw [h, e])]
  · rw [decide_eq_false e, decide_eq_false]
    intro z
    rw [h] at z
    have := S_inj (V.str.inj z)
    exact e (by simpa using this)
theorem s_cm : Str.ofString "," = S [44] := by decide +kernel
theorem s_lp : Str.ofString "(" = S [40] := by decide +kernel
theorem s_rp : Str.ofString ")" = S [41] := by decide +kernel
/-- a tuple made, then both attributes stored -/
theorem RIn.reset {H0 H : Hp} {p T : Addr} {t : RS} {xs : List V} (v : Bool) (R : RIn C H0 H p t) (nT : H T = none) : ∃ dx d b, upd H T (.tup xs) p = some (.ins C dx (rf4 d b t.nm t.cl)) ∧
    RIn C H0 (upd (upd (upd H T (.tup xs)) p (.ins C dx (rf4 d b [] t.cl))) p (.ins C dx (rf4 d b [] v))) p ⟨t.ov, t.br, [], v⟩ := by
  obtain ⟨dx, d, b, h1, h2, h3, z1, z2, z3, s0⟩ := R
  have nTp := ne_of_none h1 nT
  have nTd := ne_of_none h2 nT
  have nTb := ne_of_none h3 nT
  have ndp : d ≠ p := ne_of h2 h1 (by intro z; cases z)
  have nbp : b ≠ p := ne_of h3 h1 (by intro z; cases z)
  refine ⟨dx, d, b, by rw [upd_ne nTp]; exact h1, dx, d, b, upd_same, ?_, ?_, z1, z2, z3, ?_⟩
  · rw [upd_ne ndp, upd_ne ndp, upd_ne nTd]
    exact h2
  · rw [upd_ne nbp, upd_ne nbp, upd_ne nTb]
    exact h3
  · exact Same.mut (Same.mut (s0.trans (Same.new nT)) z1) z1
theorem RIn.push {H0 H : Hp} {p : Addr} {t : RS} (o : Option Str) (R : RIn C H0 H p t) : ∃ dx d b, H p = some (.ins C dx (rf4 d b t.nm t.cl)) ∧ H b = some (.lst (t.br.map optV)) ∧
    RIn C H0 (upd H b (.lst (t.br.map optV ++ [optV o]))) p ⟨t.ov, t.br ++ [o], t.nm, t.cl⟩ := by
  obtain ⟨dx, d, b, h1, h2, h3, z1, z2, z3, s0⟩ := R
  refine ⟨dx, d, b, h1, h3, dx, d, b, ?_, ?_, ?_, z1, z2, z3, Same.mut s0 z3⟩
  · rw [upd_ne (ne_of h1 h3 (by intro z; cases z))]
    exact h1
  · rw [upd_ne (ne_of h2 h3 (by intro z; cases z))]
    exact h2
  · rw [upd_same, List.map_append]
    rfl
theorem RIn.pop {H0 H : Hp} {p : Addr} {t : RS} (R : RIn C H0 H p t) : ∃ dx d b, H p = some (.ins C dx (rf4 d b t.nm t.cl)) ∧ H b = some (.lst (t.br.map optV)) ∧
    RIn C H0 (upd H b (.lst (t.br.map optV).dropLast)) p ⟨t.ov, t.br.dropLast, t.nm, t.cl⟩ := by
  obtain ⟨dx, d, b, h1, h2, h3, z1, z2, z3, s0⟩ := R
  refine ⟨dx, d, b, h1, h3, dx, d, b, ?_, ?_, ?_, z1, z2, z3, Same.mut s0 z3⟩
  · rw [upd_ne (ne_of h1 h3 (by intro z; cases z))]
    exact h1
  · rw [upd_ne (ne_of h2 h3 (by intro z; cases z))]
    exact h2
  · rw [upd_same, List.map_dropLast]
theorem RIn.old {H0 H : Hp} {p : Addr} {t : RS} (R : RIn C H0 H p t) : Same H0 H := by
  obtain ⟨dx, d, b, h1, h2, h3, z1, z2, z3, s0⟩ := R
  exact s0
theorem RIn.same {H0 H H' : Hp} {p : Addr} {t : RS} (R : RIn C H0 H p t) (s : Same H H') : RIn C H0 H' p t := by
  obtain ⟨dx, d, b, h1, h2, h3, z1, z2, z3, s0⟩ := R
  exact ⟨dx, d, b, s _ _ h1, s _ _ h2, s _ _ h3, z1, z2, z3, s0.trans s⟩
theorem sq_yes {tc : TT} {t u B : TS} {D : Ends} {s : L2.St} {H : Hp} (h : Et tc s H true) (k : ∀ h', Same H h' → t { D with nx := B D } s h') : tSeq (tIfS tc t u) B D s H := h H (fun _ _ e => e) _ k
/-- what is known of what a name's end leaves -/
theorem endN_br {s t : RS} (h : endN s = some t) : t.br = s.br ∧ t.nm = s.nm ∧ t.cl = s.cl := by
  unfold endN at h
  split at h
  · cases h
    exact ⟨rfl, rfl, rfl⟩
  · split at h
    · cases h
    · cases h
      exact ⟨rfl, rfl, rfl⟩
/-- one sign -/
theorem sc_rtakes : FnScope ["self", "sign"] ["self", "sign"] (defScope s_rtakes) := ⟨rfl, rfl, rfl, by decide +kernel, rfl, by decide +kernel, by decide +kernel⟩
def sp_rtakes (C : Addr) : Sp := fun vs H Q _ => ∃ (H0 : Hp) (p : Addr) (s : RS) (c : Nat), vs = [.ref p, .str (S [c])] ∧ RIn C H0 H p s ∧ Good s ∧ (tk s c = none → ∀ H', Same H0 H' → Q (.bl false) H') ∧ (∀ t, tk s c = some t → ∀ H', RIn C H0 H' p t → Q (.bl true) H')
theorem ok_rtakes {f hL hN : Addr} {fd gL gN : FuncData} (F : Fun K "takes" "TreeReader.takes" s_rtakes f fd) (ML : Mt K C "_takes_letter" "TreeReader._takes_letter" s_rletter ["self", "sign"] hL gL) (MN : Mt K C "_ends_name" "TreeReader._ends_name" s_rendn ["self"] hN gN) (c : Rc K mg C) (B : Bn mg) (Cn' : Cn mg) :
    FnOk P w K mg base CX0 2 f fd ["self", "sign"] (sp_rtakes C) := by
  have GL : FnOk P w K mg base CX0 1 hL gL ["self", "sign"] (sp_rletter C) := ok_rletter ML.F c B Cn'
  have GN : FnOk P w K mg base CX0 1 hN gN ["self"] (sp_rendn C) := ok_rendn MN.F c
  refine F.ok sc_rtakes (fun vs H Q E h => ?_) (fun cdv A outer s H vs Q E hr h => ?_)
  · obtain ⟨H0, p, s, x, rfl, _⟩ := h
    rfl
  · obtain ⟨H0, p, s, x, rfl, hR, g, q0, q1⟩ := h
    obtain ⟨dx, d, b, h1, h2, h3, z1, z2, z3, s0⟩ := id hR
    have hu := hu_of hr
    obtain ⟨tm, hmo⟩ := Cn'.most
    have nd := sc_rtakes.nd
    refine ⟨_, pss_cons (ps_if (pt_chain op_le_str op_le_str pe_str (pv 1) pe_str) (pss_one (ps_ret (pe_meth (pv 0) c.cl ML.me GL hr ML.b .nil pass0 (pa_cons (pv 1) pa_nil)))) pss_nil)
      (pss_cons (ps_if (PW.pt (pw_or (pt_cmpR op_eq (pv 1) pe_str (nomark _)) (pw_or1 (PW.pt (pw_and (pt_cmpR op_eq (pv 1) pe_str (nomark _)) (pw_and1 (pt_not (pt_val (pe_fld (pv 0) rfl)))))))))
        (pss_cons (ps_if (PW.pt (pw_or (pt_not (pt_val (pe_meth0 (pv 0) c.cl MN.me GN hr MN.b .nil pass0))) (pw_or1 (pt_cmpR op_eq (pe_callB call_lenD (by rfl) B.len PySem.boot_len (pa_cons (pe_fld (pv 0) rfl) pa_nil)) (pe_glob (v := .int 8) (by rfl) hmo ⟨_, rfl⟩) (nomark _))))) (pss_one (ps_ret pe_bl)) pss_nil)
        (pss_cons (ps_if (pt_cmpR op_eq (pv 1) pe_str (nomark _)) (pss_one (ps_expr (pe_bm PySem.F.plainAttrs_list PySem.F.slot_list_append PySem.F.type_list_append mt_append (pe_fld (pv 0) rfl) (pa_cons (pe_fld (pv 0) rfl) pa_nil)))) pss_nil)
        (pss_cons (ps_asg (pe_tup (pa_cons pe_str (pa_cons pe_bl pa_nil))) (pg_tup rfl (pgs_cons (pg_fld (pv 0)) (pgs_cons (pg_fld (pv 0)) pgs_nil))))
        (pss_one (ps_ret pe_bl))))) pss_nil)
      (pss_cons (ps_if (PW.pt (pw_and (pt_cmpR op_eq (pv 1) pe_str (nomark _)) (pw_and (pt_cmpR op_gt (pe_callB call_len_seq (by rfl) B.len PySem.boot_len (pa_cons (pe_fld (pv 0) rfl) pa_nil)) pe_int (nomark _)) (pw_and1 (pt_val (pe_meth0 (pv 0) c.cl MN.me GN hr MN.b .nil pass0))))))
        (pss_cons (ps_expr (pe_bm0 PySem.F.plainAttrs_list PySem.F.slot_list_pop PySem.F.type_list_pop mt_pop (pe_fld (pv 0) rfl)))
        (pss_cons (ps_asg (pe_tup (pa_cons pe_str (pa_cons pe_bl pa_nil))) (pg_tup rfl (pgs_cons (pg_fld (pv 0)) (pgs_cons (pg_fld (pv 0)) pgs_nil))))
        (pss_one (ps_ret pe_bl)))) pss_nil)
      (pss_one (ps_ret pe_bl)))), ?_⟩
    have nos : ∀ m : Str, (m == "_overs") = false → (m == "_brackets") = false → (m == "_name") = false → (m == "_closed") = false → ∀ d b nm cl, (rf4 d b nm cl).lookup m = none := fun m a1 a2 a3 a4 d b nm cl => rf_no d b nm cl a1 a2 a3 a4
    have ML' := nos "_takes_letter" (by decide +kernel) (by decide +kernel) (by decide +kernel) (by decide +kernel)
    have MN' := nos "_ends_name" (by decide +kernel) (by decide +kernel) (by decide +kernel) (by decide +kernel)
    by_cases hl : 97 ≤ x ∧ x ≤ 122
    · have et : tk s x = letter s x := by unfold tk; rw [if_pos hl]
      rw [et] at q0 q1
      refine ⟨_, rfl, _, _, rfl, rfl, _, rfl, ?_⟩
      rw [le_a, if_pos (decide_eq_true hl.1)]
      refine ⟨_, _, rfl, rfl, _, rfl, ?_⟩
      rw [le_z, decide_eq_true hl.2]
      exact ⟨_, rfl, p, dx, _, rfl, h1, ML' _ _ _ _, _, rfl, H0, p, s, x, rfl, hR, g, q0, q1⟩
    refine sq_no (fun h _ Q' q' => ?_) fun h s1 => ?_
    · refine ⟨_, rfl, _, _, rfl, rfl, _, rfl, ?_⟩
      rw [le_a]
      by_cases ha : 97 ≤ x
      · rw [if_pos (decide_eq_true ha)]
        refine ⟨_, _, rfl, rfl, _, rfl, ?_⟩
        rw [le_z, decide_eq_false fun z => hl ⟨ha, z⟩]
        exact q' h same_rfl
      · rw [if_neg (by rw [decide_eq_false ha]; exact Bool.false_ne_true)]
        exact ⟨_, rfl, q' h same_rfl⟩
    replace hR := hR.same s1
    replace h1 := s1 _ _ h1
    by_cases hs : x = 44 ∨ (x = 40 ∧ s.cl = false)
    · have e44 : tk s x = (endN s).bind fun t => if t.ov.length = 8 then none else some { ov := t.ov, br := if x = 40 then t.br ++ [some (S t.nm)] else t.br, nm := [], cl := false } := by unfold tk; rw [if_neg hl, if_pos hs]
      refine sq_yes (fun h' s2 Q' q' => ?_) fun h' s2 => ?_
      · refine ⟨_, rfl, rfl, _, rfl, ?_⟩
        rw [dec_sign s_cm]
        by_cases h44 : x = 44
        · rw [decide_eq_true h44]
          exact q' h' same_rfl
        · rw [decide_eq_false h44]
          obtain ⟨h40, hcl⟩ := hs.resolve_left h44
          refine ⟨_, rfl, rfl, _, rfl, ?_⟩
          rw [dec_sign s_lp, decide_eq_true h40]
          refine ⟨_, rfl, p, C, dx, _, _, rfl, s2 _ _ h1, c.cl, c.nC, rf_cl _ _ _ _, _, rfl, ?_⟩
          rw [hcl]
          exact q' h' same_rfl
      have hR2 := hR.same s2
      have h12 := s2 _ _ h1
      refine ⟨_, rfl, p, dx, _, rfl, h12, MN' _ _ _ _, H0, p, s, rfl, hR2, g, fun en H1 R1 => ?_, fun t en H1 R1 => ?_⟩
      · refine ⟨_, rfl, ?_⟩
        exact q0 (by rw [e44, en]; rfl) H1 R1.old
      obtain ⟨eb, enm, ecl⟩ := endN_br en
      refine ⟨_, rfl, ?_⟩
      obtain ⟨dx1, d1, b1, k1, k2, k3, _⟩ := id R1
      refine ⟨_, rfl, p, C, dx1, _, _, rfl, k1, c.cl, c.nO, rf_ov _ _ _ _, d1, _, rfl, k2, rfl, _, rfl, ?_⟩
      rw [kvs_len]
      by_cases h8 : t.ov.length = 8
      · rw [decide_eq_true (show V.int ((t.ov.length : Nat) : Int) = V.int 8 by rw [h8]; rfl)]
        exact q0 (by rw [e44, en]; exact if_pos h8) H1 R1.old
      rw [decide_eq_false (fun z : V.int ((t.ov.length : Nat) : Int) = V.int 8 => h8 (by injection z with z; omega))]
      have q1 := q1 _ (by rw [e44, en]; exact if_neg h8)
      -- the two stores
      have stores : ∀ (t2 : RS) (h2 : Hp), RIn C H0 h2 p t2 → t2.ov = t.ov → t2.br = (if x = 40 then t.br ++ [some (S t.nm)] else t.br) →
          ∀ T, h2 T = none → ∃ (dx d b : Addr), upd h2 T (.tup [.str (Str.ofString ""), .bl false]) p = some (.ins C dx (rf4 d b t2.nm t2.cl)) ∧ Q (.bl true) (upd (upd (upd h2 T (.tup [.str (Str.ofString ""), .bl false])) p (.ins C dx (rf4 d b [] t2.cl))) p (.ins C dx (rf4 d b [] false))) := by
        intro t2 h2 R2 e1 e2 T nT
        obtain ⟨dx, d, b, m1, m2⟩ := R2.reset false nT
        refine ⟨dx, d, b, m1, q1 _ ?_⟩
        rw [← e1, ← e2]
        exact m2
      refine ⟨_, rfl, rfl, _, rfl, ?_⟩
      rw [dec_sign s_lp]
      by_cases h40 : x = 40
      · rw [decide_eq_true h40]
        obtain ⟨dx2, d2, b2, m1, m2, m3⟩ := R1.push (some (S t.nm))
        have hbl : t.br.length ≤ 9 := by
          have := g.bl
          have := g.lo
          rw [eb]
          omega
        refine ⟨_, rfl, p, C, dx2, _, _, rfl, m1, c.cl, c.nB, rf_br _ _ _ _, .inl ⟨rfl, _, .inl (.inl m2)⟩, _, rfl, p, C, dx2, _, _, rfl, m1, c.cl, c.nN, rf_nm _ _ _ _, b2, _, _, rfl, rfl, m2, ?_, ?_⟩
        · rw [List.length_map]
          exact line100' (by omega)
        refine ⟨two_le, fun T nT => ?_⟩
        obtain ⟨dx3, d3, b3, m4, m5⟩ := stores _ _ m3 rfl (if_pos h40).symm T nT
        refine ⟨T, _, rfl, .of upd_same, rfl, _, _, rfl, _, rfl, p, C, dx3, _, rfl, m4, c.cl, c.nN, rf_len _ _ _ _, _, _, rfl, _, rfl, p, C, dx3, _, rfl, upd_same, c.cl, c.nC, rf_len d3 b3 [] _, rfl, ?_⟩
        exact m5
      · rw [decide_eq_false h40]
        refine ⟨two_le, fun T nT => ?_⟩
        obtain ⟨dx3, d3, b3, m4, m5⟩ := stores t H1 R1 rfl (if_neg h40).symm T nT
        refine ⟨T, _, rfl, .of upd_same, rfl, _, _, rfl, _, rfl, p, C, dx3, _, rfl, m4, c.cl, c.nN, rf_len _ _ _ _, _, _, rfl, _, rfl, p, C, dx3, _, rfl, upd_same, c.cl, c.nC, rf_len d3 b3 [] _, rfl, ?_⟩
        exact m5
    -- no comma, no opening bracket
    refine sq_no (fun h' s2 Q' q' => ?_) fun h' s2 => ?_
    · refine ⟨_, rfl, rfl, _, rfl, ?_⟩
      rw [dec_sign s_cm, decide_eq_false fun z => hs (.inl z)]
      refine ⟨_, rfl, rfl, _, rfl, ?_⟩
      rw [dec_sign s_lp]
      by_cases h40 : x = 40
      · rw [decide_eq_true h40]
        have hcl : s.cl = true := by
          cases e : s.cl with
          | true => rfl
          | false => exact absurd (.inr ⟨h40, e⟩) hs
        refine ⟨_, rfl, p, C, dx, _, _, rfl, s2 _ _ h1, c.cl, c.nC, rf_cl _ _ _ _, _, rfl, ?_⟩
        rw [hcl]
        exact q' h' same_rfl
      · rw [decide_eq_false h40]
        exact q' h' same_rfl
    have hR2 := hR.same s2
    have h12 := s2 _ _ h1
    have h32 := s2 _ _ (s1 _ _ h3)
    have e0 : tk s x = if x = 41 ∧ 1 < s.br.length then (endN s).bind fun t => some { ov := t.ov, br := t.br.dropLast, nm := [], cl := true } else none := by unfold tk; rw [if_neg hl, if_neg hs]
    refine ⟨_, rfl, rfl, _, rfl, ?_⟩
    rw [dec_sign s_rp]
    by_cases h41 : x = 41
    · rw [decide_eq_true h41]
      refine ⟨_, rfl, p, C, dx, _, _, rfl, h12, c.cl, c.nB, rf_br _ _ _ _, b, _, rfl, .inl (.of h32), _, _, rfl, rfl, _, rfl, ?_⟩
      rw [List.length_map]
      by_cases h1b : 1 < s.br.length
      · rw [decide_eq_true (show (1 : Int) < (s.br.length : Int) by omega)]
        have e1 : tk s x = (endN s).bind fun t => some { ov := t.ov, br := t.br.dropLast, nm := [], cl := true } := by rw [e0, if_pos ⟨h41, h1b⟩]
        refine ⟨_, rfl, p, dx, _, rfl, h12, MN' _ _ _ _, H0, p, s, rfl, hR2, g, fun en H1 R1 => ?_, fun t en H1 R1 => ?_⟩
        · exact ⟨_, rfl, q0 (by rw [e1, en]; rfl) H1 R1.old⟩
        obtain ⟨eb, enm, ecl⟩ := endN_br en
        refine ⟨_, rfl, ?_⟩
        obtain ⟨dx2, d2, b2, m1, m2, m3⟩ := R1.pop
        have hne : t.br ≠ [] := by rw [eb]; exact g.bn
        obtain ⟨y, hy⟩ : ∃ y, (t.br.map optV)[(t.br.map optV).length - 1]? = some y := by
          rw [List.length_map]
          have := List.length_pos_iff.mpr hne
          exact ⟨_, List.getElem?_eq_getElem (by rw [List.length_map]; omega)⟩
        refine ⟨_, rfl, p, C, dx2, _, _, rfl, m1, c.cl, c.nB, rf_br _ _ _ _, .inl ⟨rfl, _, .inl (.inl m2)⟩, b2, _, y, rfl, rfl, m2, hy, ?_⟩
        refine ⟨two_le, fun T nT => ?_⟩
        have q1 := q1 _ (by rw [e1, en]; rfl)
        obtain ⟨dx3, d3, b3, m4, m5⟩ := m3.reset true nT
        refine ⟨T, _, rfl, .of upd_same, rfl, _, _, rfl, _, rfl, p, C, dx3, _, rfl, m4, c.cl, c.nN, rf_len _ _ _ _, _, _, rfl, _, rfl, p, C, dx3, _, rfl, upd_same, c.cl, c.nC, rf_len d3 b3 [] _, rfl, ?_⟩
        exact q1 _ m5
      · rw [decide_eq_false (show ¬ (1 : Int) < (s.br.length : Int) by omega)]
        exact q0 (by rw [e0, if_neg fun z => h1b z.2]) h' hR2.old
    · rw [decide_eq_false h41]
      exact q0 (by rw [e0, if_neg fun z => h41 z.1]) h' hR2.old
end
end T88

set_option maxHeartbeats 1000000
/-! Refusals with a field of their own: made, raised, caught. -/
namespace TE
open PySem L2 PyProof.Rows TX TY
/-- an own class over ValueError, read off the written part -/
def oexB (K : PySem.W.Frag) (C : Addr) : Bool := match K.lookup C with
  | some ⟨.type "type", _, .cls cd, sl⟩ => (match cd.mro, sl.toList with
    | .ref D :: bm, [_, _, _, _, some (.builtin n), _] => D == C && (n == "ValueError.__new__" && (!cd.hasDel && (cd.hasDict && PySem.HandSPX.refsVE bm)))
    | _, _ => false)
  | _ => false
theorem oexB_ok {K : PySem.W.Frag} {C : Addr} (q : oexB K C = true) : ∃ nm q N bs bm sn sub ab col dd k0 k1 k2 k3 k5, K.lookup C = some (excClassObj nm q C N bs bm true sn sub ab col dd k0 k1 k2 k3 k5 "ValueError.__new__") ∧ PySem.HandSPX.refsVE bm = true := by
  unfold oexB at q
  split at q
  · rename_i dd cd sl ho
    split at q
    · rename_i D bm k0 k1 k2 k3 n k5 hm hs
      simp only [Bool.and_eq_true, beq_iff_eq, Bool.not_eq_true'] at q
      obtain ⟨rfl, rfl, hdel, hdict, ht⟩ := q
      obtain ⟨nm, bs, mro, ns, qn, hd, sn, sub, ab, col, del⟩ := cd
      dsimp only at hm hdel hdict
      subst hm hdel hdict
      have hsl : sl = #[k0, k1, k2, k3, some (.builtin "ValueError.__new__"), k5] := by
        obtain ⟨l⟩ := sl
        simp only at hs
        rw [hs]
      subst hsl
      exact ⟨nm, qn, ns, bs, bm, sn, sub, ab, col, dd, k0, k1, k2, k3, k5, ho, ht⟩
    · cases q
  · cases q
section
variable {K : PySem.W.Frag} {mg : Str → Option Value}
/-- a class that is raised, with its own field -/
structure Nt (K : PySem.W.Frag) (mg : Str → Option Value) (x fld qual : Str) (st : Stmt) (Ct fi : Addr) (di : FuncData) : Prop where
  T : OexC K Ct
  i : PySem.W.findIn K (.ref Ct) "__init__" = some (some (.ref fi))
  t : PySem.W.typeIn K (.ref fi) = some (.type "function")
  F : Fun K "__init__" qual st fi di
  b : Binds K di ["self", fld] []
  g : mg x = some (.ref Ct)
  no : PySem.W.findIn K (.ref Ct) fld = some none
def sp_efld (C : Addr) (fld : Str) : Sp := fun vs H Q _ => ∃ (a : Addr) (v : V), vs = [.ref a, v] ∧ H a = some (exo a C none) ∧ ∀ dx, H dx = none → dx ≠ a → Q .non (upd (upd H dx (exd dx [(fld, v)])) a (exo a C (some dx)))
/-- raise C(v) -/
theorem rd_efld {C : Addr} {fld : Str} {H : Hp} {v : V} {Q : XK} (q : ∀ H' d, Same H H' → H' d = some (.xd [(fld, v)]) → Q (.ref C) (some d) H') : ∀ a, H a = none → sp_efld C fld [.ref a, v] (upd H a (exo a C none))
    (fun u H2 => u = .non ∧ ∃ (d : Addr) (fs : List (Str × V)), H2 a = some (exo a C (some d)) ∧ H2 d = some (exd d fs) ∧ H d = none ∧ Q (.ref C) (some d) (upd (del H2 a) d (.xd fs))) (fun _ _ _ => False) := by
  intro a na
  refine ⟨a, v, rfl, upd_same, fun dx nx hne => ⟨rfl, dx, [(fld, v)], upd_same, by rw [upd_ne hne, upd_same], ?_, ?_⟩⟩
  · rw [upd_ne hne] at nx
    exact nx
  · rw [upd_ne hne] at nx
    refine q _ dx (fun b o e => ?_) upd_same
    have hb1 : b ≠ dx := ne_of_none e nx
    have hb2 : b ≠ a := ne_of_none e na
    rw [upd_ne hb1, del_ne hb2, upd_ne hb2, upd_ne hb1, upd_ne hb2]
    exact e
end
end TE

set_option maxHeartbeats 1000000
/-! A rule of our own: f(k = v, ..), no argument by place. -/
namespace TK
open PySem L2 PyProof.Rows
theorem pe_callK0 {X : Cx} {CX : CXT} {k : Nat} {f : Addr} {fd : FuncData} {ps ks : List Str} {sp : Sp} {E : XK} {x : Str} {p pos : Pos} {kws : List Keyword} {tk : TA} {g : List Value → List Value → List Value} {gV : List V → List V → List V}
    (F : FnOk X.prog X.w X.K X.mg X.base CX k f fd ps sp) (hr : Room k X.A) (hg : Gl X x) (hm : X.mg x = some (.ref f)) (hk : PySem.W.keepIn X.K (.ref f) = true) (hb : KBn X.K fd ps 0 ks g gV) (hx : Passes CX X E) (hkw : PK X kws tk)
    (hall : ((backToKw pos (keywordEach kws X.env)).all (·.1.isSome)) = true := by rfl) (hks : (backToKw pos (keywordEach kws X.env)).filterMap (·.1) = ks := by rfl) (hdb : (x == Str.ofString "__debug__") = false := by decide +kernel)
    (hpl : (((backTo pos (starEach [] X.env)).any (·.1)) || (backToKw pos (keywordEach kws X.env)).any (·.1.isNone)) = false := by rfl) : PE X (.Call (.Name x p) [] kws pos) (tCallN 0 ks.length sp gV E tNil tk) :=
  ⟨fun pins s σ H Q I h => wpAny_Call_Name_kw (ld_glob I hg hm (by
    refine PySem.W.callWith_KW0 I.ok.mod.kin hk hall ?_ hpl
    refine thn (hkw.run pos pins s σ H _ I h) fun ws s2 x => ?_
    obtain ⟨zs, H2, I2, rz, l1, l2, q2⟩ := x
    refine ⟨I2.kIn, ?_⟩
    rw [hks]
    exact run_fnN F hr hb hx I2 .nil rz rfl l2 q2) hdb)⟩
theorem kbn0 {K : PySem.W.Frag} {x qual : Str} {st : Stmt} {f : Addr} {fd : FuncData} {ps ks : List Str} (F : Fun K x qual st f fd) (g : {α : Type} → List α → List α) (hrel : ∀ {zs : List V} {ws : List Value}, Vals zs ws → Vals (g zs) (g ws))
    (h : ∀ (kV doc pm : Value) (an : Option Addr) (cdv ct : Value) (ws : List Value), ws.length = ks.length → bindArgs (PySem.W.fnOf x qual (defArgs st) (defBody st) (defScope st) .none kV doc pm an cdv ct) { pos := [], kw := ks.zip ws } = pure (ps.zip (g ws))) :
    KBn K fd ps 0 ks (fun _ ws => g ws) (fun _ zs => g zs) := by
  obtain ⟨oc, od, kV, doc, pm, an, cdv, ct, osl, rfl, lk, hcd⟩ := F.ex
  refine ⟨fun s us ws hK hu hw => ?_, fun _ r => hrel r⟩
  have : us = [] := List.length_eq_zero_iff.mp hu
  subst this
  exact .of_eq (h kV doc pm an cdv ct ws hw)
theorem vals_rev {zs : List V} {ws : List Value} (h : Vals zs ws) : Vals zs.reverse ws.reverse := by
  have app : ∀ {a b : List V} {c d : List Value}, Vals a c → Vals b d → Vals (a ++ b) (c ++ d) := by
    intro a b c d h k
    induction h with
    | nil => exact k
    | cons r _ ih => exact .cons r ih
  induction h with
  | nil => exact .nil
  | cons r _ ih =>
    rw [List.reverse_cons, List.reverse_cons]
    exact app ih (.cons r .nil)
end TK

set_option maxHeartbeats 1000000
/-! Rules of our own: a method that may raise what the caller's slots say; a method called by names alone. -/
namespace TK
open PySem L2 PyProof.Rows
section
variable {X : Cx} {CX : CXT} {k : Nat} {f C : Addr} {fd : FuncData} {ps : List Str} {sp : Sp} {m : Str} {pos apos : Pos} {o : Expr} {ta : TE} {pl : Sem Bool}
def tMethE (C : Addr) (m : Str) (sp : Sp) (E : L2.St → XK) (ta : TE) (t : TA) : TE := fun σ H Q => ta σ H fun x H1 => ∃ (a dx : Addr) (fs : List (Str × V)), x = .ref a ∧ H1 a = some (.ins C dx fs) ∧ fs.lookup m = none ∧ t σ H1 fun vs H2 => sp (x :: vs) H2 Q (E σ)
theorem pe_methE {E : L2.St → XK} {e : Expr} {es : List Expr} {t : TA} (he : PE X o ta) (c : Cls X.K C) (hm : Meth X.K C m f) (F : FnOk X.prog X.w X.K X.mg X.base CX k f fd ps sp) (hr : Room k X.A) (hb : Binds X.K fd ps []) (hx : ∀ σ, PassesAt CX X σ (E σ)) (ha : PA X (e :: es) t)
    (hst : starEach (e :: es) X.env = (false, eval e X.env) :: starEach es X.env := by rfl) (hpl : (backTo pos (starEach es X.env)).any (·.1) = false := by rfl)
    (ht : eval (.Call (.Attribute o m apos) (e :: es) [] pos) X.env = (do
      let ov ← eval o X.env
      standAt apos.atName
      let (f, first) ← holding [ov] (getMethod ov m pl)
      callWith pos f first (backTo pos (starEach (e :: es) X.env)) (backToKw pos (keywordEach [] X.env))) := by rfl) : PE X (.Call (.Attribute o m apos) (e :: es) [] pos) (tMethE C m sp E ta t) := by
  refine ⟨fun pins s σ H Q I h => PySem.W.methodCall_KW (thn (he.run pins s σ H _ I h) fun u s1 x => ?_) ht⟩
  obtain ⟨x, H1, I1, rx, a, dx, fs, rfl, ea, l, q⟩ := x
  cases (show u = Value.ref a from rx)
  refine getmeth_ok I1 ea c hm l (PySem.W.callWith_K (h₀ := X.base) I.ok.mod.kin hm.kp (thn (ha.run pos pins s1 σ H1 _ I1 q) fun us s2 x => ?_) hst hpl)
  obtain ⟨vs, H2, I2, r, q2⟩ := x
  exact ⟨I2.kIn, run_fnS F hr hb (hx σ) I2 (.cons (show RelV (V.ref a) (Value.ref a) from rfl) r) q2⟩
def tMethK0 (C : Addr) (m : Str) (n : Nat) (sp : Sp) (gV : List V → List V → List V) (E : XK) (ta : TE) (tk : TA) : TE := fun σ H Q => ta σ H fun x H1 => ∃ (a dx : Addr) (fs : List (Str × V)), x = .ref a ∧ H1 a = some (.ins C dx fs) ∧ fs.lookup m = none ∧ tk σ H1 fun zs H2 => zs.length = n ∧ sp (gV [x] zs) H2 Q E
theorem pe_methK0 {E : XK} {kws : List Keyword} {ks : List Str} {tk : TA} {g : List Value → List Value → List Value} {gV : List V → List V → List V} (he : PE X o ta) (c : Cls X.K C) (hm : Meth X.K C m f) (F : FnOk X.prog X.w X.K X.mg X.base CX k f fd ps sp) (hr : Room k X.A) (hb : KBn X.K fd ps 1 ks g gV) (hx : Passes CX X E) (hkw : PK X kws tk)
    (hall : ((backToKw pos (keywordEach kws X.env)).all (·.1.isSome)) = true := by rfl) (hks : (backToKw pos (keywordEach kws X.env)).filterMap (·.1) = ks := by rfl)
    (hpl : (((backTo pos (starEach [] X.env)).any (·.1)) || (backToKw pos (keywordEach kws X.env)).any (·.1.isNone)) = false := by rfl)
    (ht : eval (.Call (.Attribute o m apos) [] kws pos) X.env = (do
      let ov ← eval o X.env
      standAt apos.atName
      let (f, first) ← holding [ov] (getMethod ov m pl)
      callWith pos f first (backTo pos (starEach [] X.env)) (backToKw pos (keywordEach kws X.env))) := by rfl) : PE X (.Call (.Attribute o m apos) [] kws pos) (tMethK0 C m ks.length sp gV E ta tk) := by
  refine ⟨fun pins s σ H Q I h => PySem.W.methodCall_KW (thn (he.run pins s σ H _ I h) fun u s1 x => ?_) ht⟩
  obtain ⟨x, H1, I1, rx, a, dx, fs, rfl, ea, l, q⟩ := x
  cases (show u = Value.ref a from rx)
  refine getmeth_ok I1 ea c hm l (PySem.W.callWith_KW0 I.ok.mod.kin hm.kp hall ?_ hpl)
  refine thn (hkw.run pos pins s1 σ H1 _ I1 q) fun ws s2 x => ?_
  obtain ⟨zs, H2, I2, rz, l2, q2⟩ := x
  refine ⟨I2.kIn, ?_⟩
  rw [hks]
  exact run_fnN F hr hb hx I2 (.cons (show RelV (V.ref a) (Value.ref a) from rfl) .nil) rz rfl l2 q2
theorem kbn1 {K : PySem.W.Frag} {x qual : Str} {st : Stmt} {f : Addr} {fd : FuncData} {ps ks : List Str} (F : Fun K x qual st f fd) (g : {α : Type} → List α → List α → List α) (hrel : ∀ {vs : List V} {us : List Value} {zs : List V} {ws : List Value}, Vals vs us → Vals zs ws → Vals (g vs zs) (g us ws)) (n : Nat)
    (h : ∀ (kV doc pm : Value) (an : Option Addr) (cdv ct : Value) (us ws : List Value), us.length = n → ws.length = ks.length → bindArgs (PySem.W.fnOf x qual (defArgs st) (defBody st) (defScope st) .none kV doc pm an cdv ct) { pos := us, kw := ks.zip ws } = pure (ps.zip (g us ws))) :
    KBn K fd ps n ks (fun us ws => g us ws) (fun vs zs => g vs zs) := by
  obtain ⟨oc, od, kV, doc, pm, an, cdv, ct, osl, rfl, lk, hcd⟩ := F.ex
  exact ⟨fun s us ws hK hu hw => .of_eq (h kV doc pm an cdv ct us ws hu hw), fun r1 r2 => hrel r1 r2⟩
end
end TK

set_option maxHeartbeats 2000000
namespace T88
open PySem L2 PyProof.Rows TX TY TEN TPA TE TK
section
variable {P : Program} {w : World} {K : PySem.W.Frag} {mg : Str → Option Value} {base : Heap}
variable {fN fC fP fT fO : Addr} {dN dC dP dT dO : FuncData}
variable {C : Addr}
theorem good_start : Good TPA.start := ⟨List.nodup_nil, by decide, fun _ => by decide, by decide, by decide, by decide⟩
theorem good_end {s t : RS} (g : Good s) (h : endN s = some t) : (t.ov.map Prod.fst).Nodup ∧ t.ov.length ≤ 8 ∧ t.br.length ≤ t.ov.length + 1 ∧ (s.cl = false → s.br.length ≤ t.ov.length) := by
  unfold endN at h
  split at h
  · rename_i hc
    cases h
    exact ⟨g.nd, g.lo, g.bl, fun z => by rw [z] at hc; cases hc⟩
  · rename_i hc
    have hc : s.cl = false := by cases e : s.cl with | true => exact absurd e hc | false => rfl
    split at h
    · cases h
    · rename_i hn
      cases h
      have h7 := g.lc hc
      have hb := g.bl
      refine ⟨?_, ?_, ?_, fun _ => ?_⟩
      · rw [List.map_append]
        refine List.nodup_append.mpr ⟨g.nd, by simp, fun a ha b hb e => ?_⟩
        have : b = S s.nm := by simpa using hb
        exact hn (.inr (by rw [← this, ← e]; exact ha))
      · rw [List.length_append, List.length_singleton]
        omega
      · rw [List.length_append, List.length_singleton]
        show s.br.length ≤ _
        omega
      · rw [List.length_append, List.length_singleton]
        omega
theorem good_tk {s t : RS} {c : Nat} (g : Good s) (h : tk s c = some t) : Good t := by
  unfold tk at h
  split at h
  · unfold letter at h
    split at h
    · cases h
    · rename_i h1
      split at h
      · cases h
      · cases h
        exact ⟨g.nd, g.lo, g.lc, g.bn, g.bl, by rw [List.length_append, List.length_singleton]; omega⟩
  · split at h
    · rename_i hs
      cases e : endN s with
      | none => rw [e] at h; cases h
      | some u =>
        rw [e] at h
        obtain ⟨g1, g2, g3, g4⟩ := good_end g e
        obtain ⟨eb, _, ecl⟩ := endN_br e
        have h : (if u.ov.length = 8 then none else some _) = some t := h
        split at h
        · cases h
        · rename_i h8
          cases h
          refine ⟨g1, g2, fun _ => by show u.ov.length ≤ 7; omega, ?_, ?_, by show (0 : Nat) ≤ 8; decide⟩
          · show (if c = 40 then _ else _) ≠ []
            split
            · simp
            · rw [eb]
              exact g.bn
          · show (if c = 40 then _ else _ : List (Option Str)).length ≤ _
            split
            · rename_i h40
              have hcl : s.cl = false := by
                rcases hs with z | z
                · rw [h40] at z; cases z
                · exact z.2
              have := g4 hcl
              rw [List.length_append, List.length_singleton, eb]
              show _ ≤ u.ov.length + 1
              omega
            · exact g3
    · split at h
      · rename_i hb
        cases e : endN s with
        | none => rw [e] at h; cases h
        | some u =>
          rw [e] at h
          obtain ⟨g1, g2, g3, g4⟩ := good_end g e
          obtain ⟨eb, _, ecl⟩ := endN_br e
          cases h
          refine ⟨g1, g2, (fun z => nomatch z), ?_, ?_, by show (0 : Nat) ≤ 8; decide⟩
          · show u.br.dropLast ≠ []
            intro z
            have := congrArg List.length z
            rw [List.length_dropLast, eb] at this
            have h2 := hb.2
            simp at this
            omega
          · show u.br.dropLast.length ≤ _
            rw [List.length_dropLast]
            show _ ≤ u.ov.length + 1
            omega
      · cases h
theorem run_take {l : List Nat} {s t : RS} {i : Nat} {c : Nat} (h : l[i]? = some c) (e : run (l.take i) s = some t) : run (l.take (i + 1)) s = tk t c := by
  rw [List.take_add_one, h, run_app, e]
  show (tk t c).bind (run []) = _
  cases tk t c <;> rfl
/-- the end -/
theorem sc_rends : FnScope ["self"] ["self"] (defScope s_rends) := ⟨rfl, rfl, rfl, by decide +kernel, rfl, by decide +kernel, by decide +kernel⟩
def sp_rends (C : Addr) : Sp := fun vs H Q _ => ∃ (H0 : Hp) (p : Addr) (s : RS), vs = [.ref p] ∧ RIn C H0 H p s ∧ Good s ∧ (fin s = none → ∀ H', Same H0 H' → Q (.bl false) H') ∧ (∀ ps, fin s = some ps → ∀ H' t, RIn C H0 H' p t → t.ov = ps → Q (.bl true) H')
theorem ok_rends {f hN : Addr} {fd gN : FuncData} (F : Fun K "ends" "TreeReader.ends" s_rends f fd) (MN : Mt K C "_ends_name" "TreeReader._ends_name" s_rendn ["self"] hN gN) (c : Rc K mg C) (B : Bn mg) : FnOk P w K mg base CX0 2 f fd ["self"] (sp_rends C) := by
  have GN : FnOk P w K mg base CX0 1 hN gN ["self"] (sp_rendn C) := ok_rendn MN.F c
  refine F.ok sc_rends (fun vs H Q E h => ?_) (fun cdv A outer s H vs Q E hr h => ?_)
  · obtain ⟨H0, p, s, rfl, _⟩ := h
    rfl
  · obtain ⟨H0, p, s, rfl, hR, g, q0, q1⟩ := h
    obtain ⟨dx, d, b, h1, h2, h3, z1, z2, z3, s0⟩ := id hR
    refine ⟨_, pss_cons (ps_if (PW.pt (pw_and (pt_cmpR op_eq (pe_fld (pv 0) rfl) pe_str (nomark _)) (pw_and1 (pt_not (pt_val (pe_fld (pv 0) rfl)))))) (pss_one (ps_ret (pe_cmpR op_eq (pe_callB call_lenD (by rfl) B.len PySem.boot_len (pa_cons (pe_fld (pv 0) rfl) pa_nil)) pe_int (nomark _)))) pss_nil)
      (pss_one (ps_ret (pe_and (pe_cmpR op_eq (pe_callB call_len_seq (by rfl) B.len PySem.boot_len (pa_cons (pe_fld (pv 0) rfl) pa_nil)) pe_int (nomark _)) (pe_one (pe_meth0 (pv 0) c.cl MN.me GN hr MN.b .nil pass0))))), ?_⟩
    have MN' := rf_no (m := "_ends_name") d b s.nm s.cl (by decide +kernel) (by decide +kernel) (by decide +kernel) (by decide +kernel)
    by_cases hz : s.nm = [] ∧ s.cl = false
    · have ef : fin s = if s.ov = [] then some [] else none := by unfold fin; rw [if_pos hz]
      refine ⟨_, rfl, p, C, dx, _, _, rfl, h1, c.cl, c.nN, rf_nm _ _ _ _, rfl, _, rfl, ?_⟩
      rw [dec_empty, decide_eq_true hz.1]
      refine ⟨_, rfl, p, C, dx, _, _, rfl, h1, c.cl, c.nC, rf_cl _ _ _ _, _, rfl, ?_⟩
      rw [hz.2]
      refine ⟨_, rfl, p, C, dx, _, _, rfl, h1, c.cl, c.nO, rf_ov _ _ _ _, d, _, rfl, h2, rfl, ?_⟩
      rw [kvs_len]
      by_cases ho : s.ov = []
      · rw [decide_eq_true (show V.int ((s.ov.length : Nat) : Int) = V.int 0 by rw [ho]; rfl)]
        exact q1 [] (by rw [ef, if_pos ho]) H s hR ho
      · rw [decide_eq_false (fun z : V.int ((s.ov.length : Nat) : Int) = V.int 0 => ho (List.eq_nil_of_length_eq_zero (by injection z with z; omega)))]
        exact q0 (by rw [ef, if_neg ho]) H s0
    have ef : fin s = if s.br.length = 1 then (endN s).map (·.ov) else none := by unfold fin; rw [if_neg hz]
    refine sq_no (fun h s1 Q' q' => ?_) fun h s1 => ?_
    · refine ⟨_, rfl, p, C, dx, _, _, rfl, s1 _ _ h1, c.cl, c.nN, rf_nm _ _ _ _, rfl, _, rfl, ?_⟩
      rw [dec_empty]
      by_cases hn : s.nm = []
      · rw [decide_eq_true hn]
        have hc : s.cl = true := by
          cases e : s.cl with
          | true => rfl
          | false => exact absurd ⟨hn, e⟩ hz
        refine ⟨_, rfl, p, C, dx, _, _, rfl, s1 _ _ h1, c.cl, c.nC, rf_cl _ _ _ _, _, rfl, ?_⟩
        rw [hc]
        exact q' h same_rfl
      · rw [decide_eq_false hn]
        exact q' h same_rfl
    have hR2 := hR.same s1
    refine ⟨_, rfl, p, C, dx, _, _, rfl, s1 _ _ h1, c.cl, c.nB, rf_br _ _ _ _, b, _, rfl, .inl (.of (s1 _ _ h3)), rfl, _, rfl, ?_⟩
    rw [List.length_map]
    by_cases hb : s.br.length = 1
    · rw [decide_eq_true (show V.int ((s.br.length : Nat) : Int) = V.int 1 by rw [hb]; rfl)]
      rw [if_pos hb] at ef
      refine ⟨_, rfl, p, dx, _, rfl, s1 _ _ h1, MN', H0, p, s, rfl, hR2, g, fun en H1 R1 => ?_, fun t en H1 R1 => ?_⟩
      · obtain ⟨_, _, _, _, _, _, _, _, _, sz⟩ := R1
        exact q0 (by rw [ef, en]; rfl) H1 sz
      · exact q1 t.ov (by rw [ef, en]; rfl) H1 t R1 rfl
    · rw [decide_eq_false (fun z : V.int ((s.br.length : Nat) : Int) = V.int 1 => hb (by injection z with z; omega))]
      rw [if_neg hb] at ef
      exact q0 ef h (s0.trans s1)
/-- the reader, all together -/
structure Rk (K : PySem.W.Frag) (mg : Str → Option Value) (C hI hT hE hP hL hN : Addr) (gI gT gE gP gL gN : FuncData) : Prop where
  c : Rc K mg C
  g : mg "TreeReader" = some (.ref C)
  iF : Fun K "__init__" "TreeReader.__init__" s_rinit hI gI
  iM : Mk K C hI
  iB : Binds K gI ["self"] []
  tak : Mt K C "takes" "TreeReader.takes" s_rtakes ["self", "sign"] hT gT
  end_ : Mt K C "ends" "TreeReader.ends" s_rends ["self"] hE gE
  prs : Mt K C "pairs" "TreeReader.pairs" s_rpairs ["self"] hP gP
  let_ : Mt K C "_takes_letter" "TreeReader._takes_letter" s_rletter ["self", "sign"] hL gL
  enn : Mt K C "_ends_name" "TreeReader._ends_name" s_rendn ["self"] hN gN
variable {hI hT hE hP hL hN : Addr} {gI gT gE gP gL gN : FuncData}
theorem sc_show : FnScope ["tree"] ["tree"] (defScope s_show) := ⟨rfl, rfl, rfl, by decide +kernel, rfl, by decide +kernel, by decide +kernel⟩
variable {Ct : Addr}
theorem ok_show {f hs fc fk fW : Addr} {fd gs dc dk dW : FuncData} (F : Fn K mg "show_tree" s_show ["tree"] f fd) (MS : Mt K Ct "__str__" "Tree.__str__" s_tstr ["self"] hs gs) (T : Kd K mg fN fC fP fT fO dN dC dP dT dO) (c : Tc K mg Ct) (M : Wd K mg Ct fc fk fW dc dk dW) :
    FnOk P w K mg base CX0 17 f fd ["tree"] (sp_tstr Ct) := by
  have GS : FnOk P w K mg base CX0 14 hs gs ["self"] (sp_tstr Ct) := ok_tstr MS.F T c M
  refine F.F.ok sc_show (fun vs H Q E h => ?_) (fun cdv A outer s H vs Q E hr h => ?_)
  · obtain ⟨t, f, rfl, _⟩ := h
    rfl
  · obtain ⟨t, f, rfl, tr, ok, q⟩ := h
    have r15 : Room 15 _ := hr.mono (by decide)
    refine ⟨_, pss_one (ps_ret (pe_callTy (TQ.call_strO GS MS.me.at_ MS.me.fn MS.b pass0 hr) (by rfl) T.B.str boot_str (pa_cons (pv 0) pa_nil))), ?_⟩
    obtain ⟨dx, l, d, h1, h2, h3⟩ := id tr
    exact ⟨_, rfl, t, dx, _, rfl, h1, t, f, rfl, tr, ok, fun H' s' => ⟨_, rfl, q H' s'⟩⟩
abbrev NtX (K : PySem.W.Frag) (mg : Str → Option Value) (C fi : Addr) (di : FuncData) := Nt K mg "NoText" "at" "NoText.__init__" s_notext C fi di
theorem sc_notext : FnScope ["self", "at"] ["self", "at"] (defScope s_notext) := ⟨rfl, rfl, rfl, by decide +kernel, rfl, by decide +kernel, by decide +kernel⟩
theorem ok_notext {Cx fi : Addr} {di : FuncData} (N : NtX K mg Cx fi di) : FnOk P w K mg base CX0 1 fi di ["self", "at"] (sp_efld Cx "at") := by
  refine N.F.ok sc_notext (fun vs H Q E h => ?_) (fun cdv A outer s H vs Q E hr h => ?_)
  · obtain ⟨a, v, rfl, _⟩ := h
    rfl
  · obtain ⟨a, v, rfl, ha, q⟩ := h
    refine ⟨_, pss_one (ps_ost (pv 0) (pv 1)), ?_⟩
    refine ⟨_, rfl, _, rfl, a, Cx, rfl, N.T, N.no, .inl ⟨ha, fun dx h1 h2 => q dx h1 h2⟩⟩
theorem sc_checkt : FnScope ["text"] ["text"] (defScope s_checkt) := ⟨rfl, rfl, rfl, by decide +kernel, rfl, by decide +kernel, by decide +kernel⟩
def sp_checkt (K : PySem.W.Frag) (Cx : Addr) : Sp := fun vs H Q E => ∃ (v : V) (t : String) (b : Bool), vs = [v] ∧ TyOf K H v (.type t) ∧ kitB t "str" = some b ∧ (b = true → Q .non H) ∧ (b = false → ∀ H' d, Same H H' → H' d = some (.xd [("at", .int (-1))]) → E (.ref Cx) (some d) H')
theorem ok_checkt {f Cx fx : Addr} {fd dx : FuncData} (F : Fn K mg "_check_text" s_checkt ["text"] f fd) (B : Bn mg) (Nx : NtX K mg Cx fx dx) : FnOk P w K mg base (L2.CX P w) 3 f fd ["text"] (sp_checkt K Cx) := by
  have Gx : FnOk P w K mg base CX0 1 fx dx ["self", "at"] (sp_efld Cx "at") := ok_notext Nx
  refine F.F.okX sc_checkt (fun vs H Q E h => ?_) (fun cdv A outer s H vs Q E hr h => ?_)
  · obtain ⟨v, t, b, rfl, _⟩ := h
    rfl
  · obtain ⟨v, t, b, rfl, ht, hb, q1, q0⟩ := h
    refine ⟨_, pss_one (ps_if (pt_not (pt_val (pe_callB call_isi (by rfl) B.isi boot_isinstance (pa_cons (pv 0) (pa_cons (pe_bltn (v := .ty "str") (by rfl) B.str boot_str rfl) pa_nil)))))
      (pss_one (ps_raise rfl (takes_of rfl rfl rfl rfl) (pmk_oex Nx.T Nx.i Nx.t Gx hr Nx.b .nil pass0 rfl Nx.g (pa_cons (pe_un un_neg pe_int) pa_nil)))) pss_nil), ?_⟩
    refine ⟨_, rfl, _, _, _, _, b, rfl, .ty _, .base ht, kit_ty hb, _, rfl, ?_⟩
    cases b with
    | true => exact q1 rfl
    | false =>
      refine ⟨_, rfl, by show 1 ≤ 1000; decide, ?_⟩
      exact rd_efld fun H' d s' e => q0 rfl H' d s' e
theorem fin_good {s : RS} {ps : List TM.Pr} (g : Good s) (h : fin s = some ps) : (ps.map Prod.fst).Nodup ∧ ps.length ≤ 8 := by
  unfold fin at h
  split at h
  · split at h
    · cases h
      exact ⟨List.nodup_nil, by decide⟩
    · cases h
  · split at h
    · cases e : endN s with
      | none => rw [e] at h; cases h
      | some t =>
        rw [e] at h
        cases h
        obtain ⟨a, b, _⟩ := good_end g e
        exact ⟨a, b⟩
    · cases h
abbrev N_read : List Str := ["text", "reader", "at", "sign"]
theorem sc_read : FnScope N_read ["text"] (defScope s_read) := ⟨rfl, rfl, rfl, by decide +kernel, rfl, by decide +kernel, by decide +kernel⟩
/-- any thing -/
def sp_read (K : PySem.W.Frag) (Ct Cx : Addr) : Sp := fun vs H Q E => ∃ (v : V) (t : String) (b : Bool), vs = [v] ∧ TyOf K H v (.type t) ∧ kitB t "str" = some b ∧ (b = false → ∀ H' d, Same H H' → H' d = some (.xd [("at", .int (-1))]) → E (.ref Cx) (some d) H') ∧
  (b = true → ∃ x : Str, v = .str x ∧ x.length ≤ 100000 ∧ (stopX x = none → ∀ f, cp x = tx f → FoOk f → ∀ H' p, Same H H' → H p = none → TreeAt Ct H' p f → Q (.ref p) H') ∧
    (∀ i : Nat, stopX x = some i → ∀ H' d, Same H H' → H' d = some (.xd [("at", .int (i : Int))]) → E (.ref Cx) (some d) H'))
theorem ok_read {f fI fK Cx fx : Addr} {fd dI dK dx : FuncData} (F : Fn K mg "read_tree" s_read ["text"] f fd) (FK : Fn K mg "_check_text" s_checkt ["text"] fK dK) (T : Kd K mg fN fC fP fT fO dN dC dP dT dO) (c : Tc K mg Ct) (iF : Fun K "__init__" "Tree.__init__" s_tinit fI dI) (iM : Mk K Ct fI) (iB : Binds K dI ["self", "pairs"] [])
    (R : Rk K mg C hI hT hE hP hL hN gI gT gE gP gL gN) (Nx : NtX K mg Cx fx dx) : FnOk P w K mg base (L2.CX P w) 12 f fd ["text"] (sp_read K Ct Cx) := by
  have B := T.B
  have GK : FnOk P w K mg base (L2.CX P w) 3 fK dK ["text"] (sp_checkt K Cx) := ok_checkt FK B Nx
  have Gx : FnOk P w K mg base CX0 1 fx dx ["self", "at"] (sp_efld Cx "at") := ok_notext Nx
  have GI : FnOk P w K mg base CX0 1 hI gI ["self"] (sp_rinit C) := ok_rinit R.iF R.c
  have GT : FnOk P w K mg base CX0 2 hT gT ["self", "sign"] (sp_rtakes C) := ok_rtakes R.tak.F R.let_ R.enn R.c B T.C
  have GE : FnOk P w K mg base CX0 2 hE gE ["self"] (sp_rends C) := ok_rends R.end_.F R.enn R.c B
  have GP : FnOk P w K mg base CX0 1 hP gP ["self"] (sp_rpairs C) := ok_rpairs R.prs.F R.c B
  have GTr : FnOk P w K mg base CX0 10 fI dI ["self", "pairs"] (sp_tinit Ct) := ok_tinit iF T c
  refine F.F.okX sc_read (fun vs H Q E h => ?_) (fun cdv A outer s H vs Q E hr h => ?_)
  · obtain ⟨v, t, b, rfl, _⟩ := h
    rfl
  · obtain ⟨v, t, b, rfl, ht, hb, q0, q1⟩ := h
    have r1 : Room 1 _ := hr.mono (by decide)
    have r2 : Room 2 _ := hr.mono (by decide)
    have r3 : Room 3 _ := hr.mono (by decide)
    have nd := sc_read.nd
    refine ⟨_, pss_cons (ps_expr (pe_callS GK r3 rfl FK.g FK.F.kp FK.b (fun σ => passAt (takes_of rfl rfl rfl rfl) σ) (pa_cons (pv 0) pa_nil)))
      (pss_cons (ps_set (i := 1) nd rfl (Or.inl rfl) (pe_make0 R.iM GI r2 rfl R.g R.iB .nil pass0))
      (pss_cons (ps_for (passes_of rfl) rfl (pi_enumS rfl B.enum (pa_cons (pv 0) pa_nil)) (pg_tup rfl (pgs_cons (pg_name (i := 2) nd rfl (Or.inl rfl)) (pgs_cons (pg_name (i := 3) nd rfl (Or.inl rfl)) pgs_nil)))
        (pss_one (ps_if (pt_not (pt_val (pe_meth (pv 1) R.c.cl R.tak.me GT r2 R.tak.b .nil pass0 (pa_cons (pv 3) pa_nil)))) (pss_one (ps_raise rfl (takes_of rfl rfl rfl rfl) (pmk_oex Nx.T Nx.i Nx.t Gx r2 Nx.b .nil pass0 rfl Nx.g (pa_cons (pv 2) pa_nil)))) pss_nil)))
      (pss_cons (ps_if (pt_not (pt_val (pe_meth0 (pv 1) R.c.cl R.end_.me GE r2 R.end_.b .nil pass0))) (pss_one (ps_raise rfl (takes_of rfl rfl rfl rfl) (pmk_oex Nx.T Nx.i Nx.t Gx r2 Nx.b .nil pass0 rfl Nx.g (pa_cons (pe_callB call_len_str (by rfl) B.len PySem.boot_len (pa_cons (pv 0) pa_nil)) pa_nil)))) pss_nil)
      (pss_one (ps_ret (pe_make iM GTr hr rfl c.g iB .nil pass0 (pa_cons (pe_meth0 (pv 1) R.c.cl R.prs.me GP r1 R.prs.b .nil pass0) pa_nil))))))), ?_⟩
    refine ⟨_, rfl, v, t, b, rfl, ht, hb, fun e => ?_, fun e => ?_⟩
    · subst e
      obtain ⟨x, rfl, hl, qn, qs⟩ := q1 rfl
      refine fun p dx np ndx hne => ?_
      have sx : Same H (upd (upd H dx (.own p)) p (.ins C dx [])) := fun b o e => by rw [upd_ne (ne_of_none e np), upd_ne (ne_of_none e ndx)]; exact e
      refine ⟨H, p, dx, rfl, upd_same, np, sx, fun H1 R1 => ⟨rfl, ?_⟩⟩
      refine ⟨_, rfl, x, rfl, ?_⟩
      refine for_it (walk_enumS (x := x)) (fun i σ h => ∃ v2 v3 : Option V, σ = [some (.str x), some (.ref p), v2, v3] ∧ ∃ t, run ((cp x).take i) TPA.start = some t ∧ RIn C H h p t ∧ Good t)
        ⟨none, none, rfl, TPA.start, rfl, R1, good_start⟩ (fun i σ h _ _ => trivial) ?_ ?_
      · rintro i v σ h h' hi ⟨v2, v3, rfl, t, er, Rt, gt⟩ ⟨T', ch, rfl, nT, hch, rfl⟩
        have hch' : (cp x)[i]? = some ch := by
          rw [← hch]
          exact Array.getElem?_toList
        have et := run_take hch' er
        have R2 := Rt.same (Same.new (o := .tup [.int (i : Nat), .str ⟨#[ch]⟩]) nT)
        obtain ⟨dx2, d2, b2, m1, _, _, _, _, _, sm⟩ := id R2
        refine ⟨T', _, rfl, .of upd_same, rfl, _, _, rfl, _, _, rfl, rfl, ?_⟩
        refine ⟨_, rfl, p, dx2, _, rfl, m1, rf_no _ _ _ _ (by decide +kernel) (by decide +kernel) (by decide +kernel) (by decide +kernel), _, rfl, H, p, t, ch, rfl, R2, gt, fun e0 h4 s4 => ⟨false, rfl, ?_⟩, fun t3 e3 h4 R3 => ⟨true, rfl, ?_⟩⟩
        · have es := stop_at (cp x) TPA.start 0 i t ch hch' er e0
          rw [Nat.zero_add] at es
          refine ⟨_, rfl, by show 1 ≤ 1000; decide, ?_⟩
          exact rd_efld fun H' d s' e => qs i es H' d (s4.trans s') e
        · exact ⟨_, _, rfl, t3, by rw [et]; exact e3, R3, good_tk gt e3⟩
      · rintro σ h ⟨v2, v3, rfl, t, er, Rt, gt⟩
        have hall : (cp x).take x.cps.size = cp x := List.take_of_length_le (by show x.cps.toList.length ≤ _; rw [Array.length_toList]; exact Nat.le_refl _)
        rw [hall] at er
        have es := stop_end (cp x) TPA.start 0 t er
        obtain ⟨dx2, d2, b2, m1, _⟩ := id Rt
        refine ⟨_, rfl, p, dx2, _, rfl, m1, rf_no _ _ _ _ (by decide +kernel) (by decide +kernel) (by decide +kernel) (by decide +kernel), H, p, t, rfl, Rt, gt, fun e0 h2 s2 => ⟨false, rfl, ?_⟩, fun ps e' h2 t2 R2 ho => ⟨true, rfl, ?_⟩⟩
        · rw [e0] at es
          refine ⟨_, rfl, x, rfl, Nat.le_trans hl (by decide), ?_, ?_⟩
          · show 1 ≤ 1000
            decide
          · refine rd_efld fun H' d s' e => qs x.length ?_ H' d (s2.trans s') e
            unfold stopX
            rw [es]
            show some (0 + x.cps.toList.length) = some x.cps.size
            rw [Array.length_toList, Nat.zero_add]
        rw [e'] at es
        obtain ⟨f, ef, eps, okn⟩ := whole_text er e'
        obtain ⟨nd2, l8⟩ := fin_good gt e'
        have en : ps.map Prod.fst = TM.names f := by rw [eps, TM.flat_names]
        have fo : FoOk f := ⟨by rw [← en]; exact nd2, by rw [← en, List.length_map]; exact l8, okn⟩
        have va : TM.Valid [] ps := by rw [eps]; exact TM.valid_flat f [] none (fun x h => nomatch h) (by simpa using fo.nd)
        have emk : TM.mk ps none = f := by rw [eps]; exact TM.mk_own fo.nd
        obtain ⟨dx3, d3, b3, m3, _, _, _, _, _, s3⟩ := id R2
        refine ⟨_, rfl, p, dx3, _, rfl, m3, rf_no _ _ _ _ (by decide +kernel) (by decide +kernel) (by decide +kernel) (by decide +kernel), H, p, t2, rfl, R2, fun h4 L s4 nL hP => ?_⟩
        rw [ho] at hP
        refine fun y dy ny ndy hny => ?_
        have sy : Same h4 (upd (upd h4 dy (.own y)) y (.ins Ct dy [])) := fun b o e => by rw [upd_ne (ne_of_none e ny), upd_ne (ne_of_none e ndy)]; exact e
        have s5 := s3.trans s4
        refine ⟨y, L, dy, ps, rfl, upd_same, hP.same sy, va, l8, by rw [en]; exact okn, fun h5 ty ky _ => ⟨rfl, ?_⟩⟩
        rw [emk] at ty
        refine qn es f ef fo h5 y (fun b o e => ?_) (s5.free ny) ty
        exact ky b o (ne_of_none (s5 _ _ e) ny) (sy _ _ (s5 _ _ e))
    · subst e
      exact q0 rfl
end
end T88

set_option maxHeartbeats 1000000
/-! A rule of our own: a try with several clauses, the first of which names the error and takes all that the body raises. -/
namespace TAM
open PySem PySem.Spec L2 PyProof.Rows
/-- behind the suite the name is gone -/
def endsAs (i : Nat) (D : Ends) : Ends where
  nx := fun s H => D.nx (s.set i none) H
  rt := D.rt
  bk := fun s H => D.bk (s.set i none) H
  ct := fun s H => D.ct (s.set i none) H
def wFst (K : PySem.W.Frag) (c : Value) (i : Nat) (ts : Addr → Value → Option Addr → TS) (D : Ends) : WX := fun k d s H =>
  PySem.W.exmOne K k c = some true ∧ ∀ a, H a = none → ts a k d (endsAs i D) (s.set i (some (.ref a))) H
section
variable {X : Cx} {x n : Str} {c : Value} {i : Nat} {body suite : List Stmt} {fst : Stmt} {q1 q2 q3 : Pos} {tb : WX → TS} {ts : Addr → Value → Option Addr → TS} {more : List ExceptHandler}
theorem ps_try_asM (hst : X.stack = X.env :: X.outer) (fr : X.env.frame = some X.env.locals) (nN : X.N.Nodup) (at_ : X.N[i]? = some n) (loc : X.env.kindOf n = some .local) (nm : Names X x c)
    (bod : ∀ (W : WX) (pn : List (Addr × Obj)) (xe : Value → Shared → Prop), Takes (X.tr pn xe) W →
      PassesOwn (model X.prog X.w) X.A X.env xe → PSs (X.tr pn xe) body (tb W))
    (sui : ∀ (a : Addr) (oe : Obj) (k : Value) (d : Option Addr) (pn : List (Addr × Obj)), Zc k d oe → (∃ vs, oe.data = .fields vs) →
      PSs (X.suite a ((a, oe) :: pn)) (fst :: suite) (ts a k d)) :
    PS X (.Try body (.ExceptHandler (some (.Name x q1)) (some n) (fst :: suite) q2 :: more) [] [] q3) (fun D s H => tb (wFst X.K c i ts D) D s H) := by
  refine ⟨fun pins s0 t0 H D I hh => ?_⟩
  have okX := I.ok
  have frs2 : X.A.frames = some (X.env :: X.outer) := okX.frames.trans (congrArg some hst)
  refine wpAny_Try_except (wpAny_mono ((bod (wFst X.K c i ts D) (X.pn ++ pins)
    (fun e s2 => wpAny (model X.prog X.w) X.A (noteFrame e X.env)
      (fun _ s3 => wpAny (model X.prog X.w) X.A (setFlight e none)
        (fun _ s4 => wpAny (model X.prog X.w) X.A
          (handleBy e X.env (.ExceptHandler (some (.Name x q1)) (some n) (fst :: suite) q2 :: more)) (SP X pins D) X.xe s4) X.xe s3) X.xe s2)
    (fun u s' met => ?_) PassesOwn.looking).run [] s0 t0 H D (I.toTry _) hh) (fun f s' sp => ?_) (fun e s' he => he))
  · obtain ⟨ea, B, sI, pi', t, G, k, d, rfl, J1, nb, up, sky, na, os, ag, yes, go⟩ := met
    have J : Inv X pins t G sI := J1.ofTry okX
    have sk2 : Sky B (X.env :: X.outer) ea (Zc k d) X.env.locals s'.heap := hst ▸ sky
    refine Sky.land Zc.steady frs2 fr sk2 fun g3 fl up3 => ?_
    have K3 : Inv X pins t G { s' with heap := g3 } := J.landed nb fl.1 (up.trans up3) os ag
    obtain ⟨o3, v3, he3, hz3, hd3⟩ := fl.there
    have ff := fl.2.2.1
    have apart : ea ∉ frs (X.env :: X.outer) := fun hm => by
      obtain ⟨_, o', e', hnf⟩ := ff.mem hm
      have : some o3 = some o' := he3.symm.trans e'
      cases this
      exact hnf _ hd3
    have nLoc : ea ≠ X.env.locals := fun z => apart (List.mem_filterMap.mpr ⟨X.env, by simp, fr.trans (congrArg some z.symm)⟩)
    have nFs : ea ∉ X.fs := fun hm => by
      have ⟨e2, he2, qe⟩ := List.mem_filterMap.mp hm
      exact apart (List.mem_filterMap.mpr ⟨e2, List.mem_cons_of_mem _ he2, qe⟩)
    have S3 := K3.suite he3 hd3 na nLoc nFs
    refine wpAny_handleBy_cons (codeAny_handlers_test ?_) (fun q => by cases q)
    have lk : PySem.W.Looks (model X.prog X.w) g3 (typeOf (.ref ea)) k := fun A Q E s2 keep q =>
      wpAny_typeOf_ref (keep _ _ he3) (hz3.1 ▸ q)
    have lm := PySem.W.exm_one (M := model X.prog X.w) K3.kIn lk yes
    have test : ∀ {Q E : Value → Shared → Prop}, Q c { s' with heap := g3 } →
        wpAny (model X.prog X.w) (X.A.mark (some (.ref ea))) (eval (.Name x q1) X.env) Q E { s' with heap := g3 } := fun {Q E} q => by
      obtain ⟨a1, a2, hm | ⟨hm, hv, hnn⟩⟩ := nm
      · exact ld_glob (X := X.suite ea ((ea, o3) :: (X.pn ++ pins))) S3 a1 hm q a2
      · exact ld_blt (X := X.suite ea ((ea, o3) :: (X.pn ++ pins))) S3 a1 hm hv q hnn a2
    refine test (lm.here (codeAny_handlers_suite_as (HandSPX.lands_againZ fl fun g4 fl4 up4 => ?_)))
    have K4 : Inv X pins t G { s' with heap := g4 } := J.landed nb fl4.1 ((up.trans up3).trans up4) os ag
    obtain ⟨o4, v4, he4, hz4, hd4⟩ := fl4.there
    have S4 := K4.suite he4 hd4 na nLoc nFs
    refine store_ok (X := X.suite ea ((ea, o4) :: (X.pn ++ pins))) (v := .ref ea) S4 nN at_ (.inl loc) rfl (fun s5 S5 => ?_) (.inr loc)
    refine wpAny_mono ((sui ea o4 k d (X.pn ++ pins) hz4 ⟨_, hd4⟩).run [] s5 _ G _ S5 (go ea na)) (fun f s6 sp => ?_) fun _ _ z => False.elim z
    have gone : ∀ {t6 : L2.St} {G6 : Hp} {Q : Shared → Prop}, Inv (X.suite ea ((ea, o4) :: (X.pn ++ pins))) [] t6 G6 s6 →
        (∀ s7, Inv X pins (t6.set i none) G6 s7 → Q s7) → wpAny (model X.prog X.w) X.A
          (do bindName X.env n .none; unbindBehindTheSuite X.env n q2) (fun _ s7 => Q s7) X.xe s6 :=
      fun {t6 G6 Q} S6 hq => gone_ok (S6.unsuite okX) nN at_ loc hq
    cases f with
    | next => obtain ⟨t6, G6, S6, q6⟩ := sp; exact gone S6 fun s7 J7 => ⟨_, _, J7, q6⟩
    | brk => obtain ⟨t6, G6, S6, q6⟩ := sp; exact gone S6 fun s7 J7 => ⟨_, _, J7, q6⟩
    | cont => obtain ⟨t6, G6, S6, q6⟩ := sp; exact gone S6 fun s7 J7 => ⟨_, _, J7, q6⟩
    | ret u => obtain ⟨v6, t6, G6, S6, r6, q6⟩ := sp; exact gone S6 fun s7 J7 => ⟨_, _, _, J7, r6, q6⟩
  · cases f with
    | next => obtain ⟨t, G, J1, q⟩ := sp; exact wpAny_execs_nil ⟨t, G, J1.ofTry okX, q⟩
    | brk => obtain ⟨t, G, J1, q⟩ := sp; exact ⟨t, G, J1.ofTry okX, q⟩
    | cont => obtain ⟨t, G, J1, q⟩ := sp; exact ⟨t, G, J1.ofTry okX, q⟩
    | ret u => obtain ⟨v, t, G, J1, r, q⟩ := sp; exact ⟨v, t, G, J1.ofTry okX, r, q⟩
end
end TAM

set_option maxHeartbeats 2000000
namespace T88
open PySem L2 PyProof.Rows TX TY TT TPA TE TAM
section
variable {P : Program} {w : World} {K : PySem.W.Frag} {mg : Str → Option Value} {base : Heap}
variable {fN fC fP fT fO : Addr} {dN dC dP dT dO : FuncData}
variable {Ct C hI hT hE hP hL hN : Addr} {gI gT gE gP gL gN : FuncData}
/-- the refusals of the statement's own try -/
structure Er (K : PySem.W.Frag) (mg : Str → Option Value) (Cx Cn : Addr) : Prop where
  gN : mg "NoTree" = some (.ref Cn)
  te : PySem.W.exmOne K (.ref Cx) (.ref Cx) = some true
  xc : ExcC K Cx
  no : PySem.W.kitOne K (.ref Cx) (.ref Cn) = some false
theorem sc_answer : FnScope ["_law_text_here", "e"] ["_law_text_here"] (defScope s_answer) := ⟨rfl, rfl, rfl, by decide +kernel, rfl, by decide +kernel, by decide +kernel⟩
def sp_answer (K : PySem.W.Frag) : Sp := fun vs H Q _ => ∃ (v : V) (t : String) (b : Bool), vs = [v] ∧ TyOf K H v (.type t) ∧ kitB t "str" = some b ∧ (b = false → ∀ H' T, Same H H' → H' T = some (.tup [.str "refused", .int (-1), .bl false]) → Q (.ref T) H') ∧
  (b = true → ∃ x : Str, v = .str x ∧ x.length ≤ 100000 ∧ (stopX x = none → ∀ H' T, Same H H' → H' T = some (.tup [.str "read", .str x]) → Q (.ref T) H') ∧
    (∀ i : Nat, stopX x = some i → ∀ H' T, Same H H' → H' T = some (.tup [.str "refused", .int (i : Int), .bl false]) → Q (.ref T) H'))
def t_answer (K : PySem.W.Frag) (Cx Cn : Addr) : Addr → Value → Option Addr → TS := fun a cls d => tRet (tTup (tCons (tC (.str "refused")) (tCons (tXf a cls d Cx "at" (tVar 1)) (tCons (tCB (rIsXd K a cls d) (tCons (tVar 1) (tCons (tC (.ref Cn)) tNil))) tNil))))
theorem ok_answer {f fR fS fI fK Cx fx Cn : Addr} {fd dR dS dI dK dx : FuncData} (F : Fn K mg "_law_answer" s_answer ["_law_text_here"] f fd) (FR : Fn K mg "read_tree" s_read ["text"] fR dR) (FS : Fn K mg "show_tree" s_show ["tree"] fS dS) (FK : Fn K mg "_check_text" s_checkt ["text"] fK dK)
    (T : Kd K mg fN fC fP fT fO dN dC dP dT dO) (c : Tc K mg Ct) (iF : Fun K "__init__" "Tree.__init__" s_tinit fI dI) (iM : Mk K Ct fI) (iB : Binds K dI ["self", "pairs"] []) (R : Rk K mg C hI hT hE hP hL hN gI gT gE gP gL gN) (Nx : NtX K mg Cx fx dx) (E0' : Er K mg Cx Cn)
    {hs hm hk hw : Addr} {gs gm gk gw : FuncData} (MS : Mt K Ct "__str__" "Tree.__str__" s_tstr ["self"] hs gs) (M : Wd K mg Ct hm hk hw gm gk gw) : FnOk P w K mg base CX0 18 f fd ["_law_text_here"] (sp_answer K) := by
  have B := T.B
  have GR : FnOk P w K mg base (L2.CX P w) 12 fR dR ["text"] (sp_read K Ct Cx) := ok_read FR FK T c iF iM iB R Nx
  have GS : FnOk P w K mg base CX0 17 fS dS ["tree"] (sp_tstr Ct) := ok_show FS MS T c M
  have Xx : XfC K Cx := ⟨E0'.xc.hg, E0'.xc.hk, E0'.xc.hs, E0'.xc.hd⟩
  refine F.F.ok sc_answer (fun vs H Q E h => ?_) (fun cdv A outer s H vs Q E hr h => ?_)
  · obtain ⟨v, t, b, rfl, _⟩ := h
    rfl
  · obtain ⟨v, t, b, rfl, ht, hb, q0, q1⟩ := h
    have nd := sc_answer.nd
    have r12 : Room 12 _ := hr.mono (by decide)
    refine ⟨_, pss_one (ps_try_asM (i := 1) (tb := fun W => tRet (tTup (tCons (tC (.str "read")) (tCons (tCall (sp_tstr Ct) [] E0 (tCons (tCallS (sp_read K Ct Cx) (WE W) (tCons (tVar 0) tNil)) tNil)) tNil)))) (ts := t_answer K Cx Cn) rfl rfl nd rfl rfl ⟨rfl, by decide, Or.inl Nx.g⟩
        (fun W pn xe tk _ => pss_one (ps_ret (by exact (pe_tup (pa_cons pe_str (pa_cons (by exact (pe_call GS hr rfl FS.g FS.F.kp FS.b .nil pass0 (pa_cons (by exact (pe_callS GR r12 rfl FR.g FR.F.kp FR.b (fun σ => passAt tk σ) (by exact (pa_cons (pv 0) pa_nil)))) pa_nil))) pa_nil))))))
        (fun a oe cls d pn hz hf => pss_one (ps_ret (pe_tup (pa_cons pe_str (pa_cons (pe_xf Xx Nx.no hz hf (pv 1)) (pa_cons (pe_callB (call_isXd hz hf) (by rfl) B.isi boot_isinstance (pa_cons (pv 1) (pa_cons (pe_glob (v := .ref Cn) (by rfl) E0'.gN rfl) pa_nil))) pa_nil)))))))
      , ?_⟩
    refine ⟨_, rfl, v, t, b, rfl, ht, hb, fun e H1 d s1 ed => ?_, fun e => ?_⟩
    · refine ⟨E0'.te, fun a na => ?_⟩
      refine ⟨_, rfl, rfl, rfl, d, _, _, rfl, ed, rfl, _, rfl, Cx, _, false, rfl, E0'.xc, ⟨d, _, rfl, ed⟩, rfl, .inl ⟨_, .own Cn, E0'.no⟩, by show 3 ≤ sizeLine; decide, fun T nT => ?_⟩
      exact q0 e _ T (s1.trans (Same.new nT)) upd_same
    · obtain ⟨x, rfl, hl, qn, qs⟩ := q1 e
      refine ⟨x, rfl, hl, fun es f ef fo H1 p s1 np tr => ?_, fun i es H1 d s1 ed => ?_⟩
      · have ex : Txt.join cm (txts f) = x := by
          have : cp (Txt.join cm (txts f)) = cp x := ef.symm
          rw [S_eta (Txt.join cm (txts f)), S_eta x]
          exact congrArg S this
        refine ⟨p, f, rfl, tr, fo, fun H2 s2 => ?_⟩
        rw [ex]
        exact ⟨two_le, fun T nT => qn es _ T ((s1.trans s2).trans (Same.new nT)) upd_same⟩
      · refine ⟨E0'.te, fun a na => ?_⟩
        refine ⟨_, rfl, rfl, rfl, d, _, _, rfl, ed, rfl, _, rfl, Cx, _, false, rfl, E0'.xc, ⟨d, _, rfl, ed⟩, rfl, .inl ⟨_, .own Cn, E0'.no⟩, by show 3 ≤ sizeLine; decide, fun T nT => ?_⟩
        exact qs i es _ T (s1.trans (Same.new nT)) upd_same
end
end T88

set_option maxHeartbeats 4000000
/-! tuple * int, from 1 on. -/
namespace TR
open PySem PySem.Spec PyProof.Rows L2 TX
theorem tuple_mul1 (l : Addr) (items : Array Value) (n : Nat) (dd : Option Addr) (sl : Array (Option Value)) (u : Tok) :
    Meets (Builtin.«tuple.__mul__» ⟨[.ref l, .int 1 u], []⟩) (fun _ R s => s.heap.get? l = some { cls := .type "tuple", dict := dd, data := .seq items n, slots := sl } ∧
      R (.ok (.ret (Value.ref l))) s) :=
  .of_wp fun prog w A R s h => by
    obtain ⟨hp, g, d, tk, os⟩ := s
    obtain ⟨hl, h⟩ := h
    have f1 := AutoSeq1.idx_int
    have c0 : (decide ((1 : Int) < -(2 ^ 63)) || decide ((1 : Int) ≥ 2 ^ 63)) = false := by decide
    have c1 : (items.isEmpty || (1 : Int) == 1) = true := by simp
    wp_walk using wpAny_loadPart' hl
    repeat (first
      | (refine wpAny_ite_false (decide_eq_false (by rw [c0]; exact Bool.false_ne_true)) ?_; wp_walk using wpAny_loadPart' hl)
      | (refine wpAny_ite_true (decide_eq_true (by rw [c1])) ?_; wp_walk using wpAny_loadPart' hl))
    all_goals exact ⟨_, rfl, h⟩
/-- t * k -/
def rRepA (K : PySem.W.Frag) : R2 := fun x y H Q => ∃ l k xs, x = .ref l ∧ y = .int k ∧ H l = some (.tup xs) ∧ xs ≠ [] ∧ 1 ≤ k ∧ k ≤ 1000 ∧ xs.length ≤ 1000 ∧ ∀ p H', Same H H' → H' p = some (.tup (List.replicate k.toNat xs).flatten) → Q (.ref p) H'
section
variable {X : Cx}
theorem op_repA : OpR X (binaryOp .Mult) (rRepA X.K) := by
  intro pins s σ H x y v u Q I rx ry h
  obtain ⟨l, k, xs, rfl, rfl, hl, hne, h1, h2, hz, q⟩ := h
  by_cases hk : k = 1
  · subst hk
    cases rx
    obtain ⟨t, rfl⟩ := ry
    obtain ⟨its, r, ⟨⟨cls, dd, data, sl⟩, ho, hc, n, hd⟩, hs⟩ := I.tuple (.of hl)
    simp only at hc hd
    subst hc hd
    refine wpAny_binaryOp_repeat_ref (T := "tuple") (U := "int") (by decide) ⟨_, ho, rfl⟩ (fun s' => typeIs_int s' 1 t) noFill_tuple_mul F.fills_int_mul F.slot_int_rmul repeat_tuple F.slot_int_index.lookup
      (call_meets F.slot_int_rmul (typeIs_int s 1 t) F.entry_int_rmul (F.args_int_rmul_2 _ _) (int_rmul_tuple 1 t l its.toArray n dd sl)
        ⟨ho, rfl, ⟨_, ho, rfl⟩, call_meets F.slot_tuple_mul ⟨_, ho, rfl⟩ F.entry_tuple_mul (F.args_tuple_mul_2 _ _) (tuple_mul1 l its.toArray n dd sl t) ⟨ho, ?_⟩⟩)
    refine ⟨.ref l, H, I, rfl, q l H same_rfl ?_⟩
    rw [hl]
    simp
  · exact op_repT pins s σ H _ _ v u Q I rx ry ⟨l, k, xs, rfl, rfl, .of hl, hne, by omega, h2, hz, fun p np => q p _ (Same.new np) upd_same⟩
end
end TR

set_option maxHeartbeats 4000000
namespace T88
open PySem L2 PyProof.Rows TX TY TEN TPA
section
variable {P : Program} {w : World} {K : PySem.W.Frag} {mg : Str → Option Value} {base : Heap}
abbrev N_stop : List Str := ["_law_text_here", "_law_names", "_law_depth", "_law_name", "_law_ended", "_law_at", "_law_sign", "_law_good"]
theorem sc_stop : FnScope N_stop ["_law_text_here"] (defScope s_stop) := ⟨rfl, rfl, rfl, by decide +kernel, rfl, by decide +kernel, by decide +kernel⟩
theorem two01 (v : V) : ∀ b : Bool, (-(2 ^ 63) : Int) ≤ (if b = true then (1 : Int) else 0) ∧ (if b = true then (1 : Int) else 0) < 2 ^ 63 ∧ [v].length * (if b = true then (1 : Int) else 0).toNat ≤ 1
  | true => ⟨by decide, by decide, Nat.le_refl _⟩
  | false => ⟨by decide, by decide, Nat.zero_le _⟩
def rI1' : List V → Hp → VK → Prop := fun xs H Q => (∃ i, xs = [.int i] ∧ Q (.int i) H) ∨ ∃ k, xs = [.bl k] ∧ Q (.int (if k then 1 else 0)) H
def optN : Option Nat → V
  | none => .non
  | some i => .int (i : Int)
theorem abc_dec (c : Nat) : decide (c ∈ (Str.ofString "abcdefghijklmnopqrstuvwxyz").cps.toList) = decide (97 ≤ c ∧ c ≤ 122) := by
  rw [show Str.ofString "abcdefghijklmnopqrstuvwxyz" = abc from rfl, Bool.eq_iff_iff, decide_eq_true_iff, decide_eq_true_iff, abc_eq, S_cps]
  constructor
  · intro h
    simp only [List.mem_cons, List.not_mem_nil, or_false] at h
    omega
  · rintro ⟨h1, h2⟩
    simp only [List.mem_cons, List.not_mem_nil, or_false]
    omega
theorem mark_dec (c : Nat) : decide (c ∈ (Str.ofString ",()").cps.toList) = decide (c = 44 ∨ c = 40 ∨ c = 41) := by
  rw [show Str.ofString ",()" = S [44, 40, 41] by decide +kernel, Bool.eq_iff_iff, decide_eq_true_iff, decide_eq_true_iff, S_cps]
  simp only [List.mem_cons, List.not_mem_nil, or_false]
theorem str_empty {x : Str} : decide (V.str x = V.str (Str.ofString "")) = decide (x = S []) := by
  by_cases h : x = S []
  · rw [decide_eq_true h, decide_eq_true (by rw [h]; rfl)]
  · rw [decide_eq_false h, decide_eq_false]
    intro z
    exact h (V.str.inj z)
theorem dec_sign' {y : Str} {n : Nat} (h : y = S [n]) (x : Nat) : decide (V.str ⟨#[x]⟩ = V.str y) = decide (x = n) := dec_sign h x
theorem endN_none {s : RS} (hc : s.cl = false) (h : s.nm = [] ∨ S s.nm ∈ keys s) : endN s = none := by
  unfold endN
  rw [if_neg (by rw [hc]; exact Bool.false_ne_true), if_pos h]
theorem endN_some {s : RS} (hc : s.cl = false) (h1 : s.nm ≠ []) (h2 : S s.nm ∉ keys s) : endN s = some { s with ov := s.ov ++ [(S s.nm, TPA.top s.br)] } := by
  unfold endN
  rw [if_neg (by rw [hc]; exact Bool.false_ne_true), if_neg (by rintro (z | z); exact h1 z; exact h2 z)]
theorem endN_cl {s : RS} (hc : s.cl = true) : endN s = some s := by
  unfold endN
  rw [if_pos hc]
theorem keys_end {s t : RS} {nv : Str} (h : endN s = some t) (hn : s.cl = false → nv = S s.nm) : (keys t).map V.str = (keys s).map V.str ++ (List.replicate (if (!s.cl) = true then (1 : Int) else 0).toNat [V.str nv]).flatten := by
  cases hc : s.cl with
  | true =>
    rw [endN_cl hc] at h
    obtain rfl := Option.some.inj h
    simp
  | false =>
    by_cases h1 : s.nm = []
    · rw [endN_none hc (.inl h1)] at h
      cases h
    by_cases h2 : S s.nm ∈ keys s
    · rw [endN_none hc (.inr h2)] at h
      cases h
    rw [endN_some hc h1 h2] at h
    obtain rfl := Option.some.inj h
    rw [hn hc]
    unfold keys
    simp
theorem tk_noend {s : RS} {c : Nat} (h : ¬ (97 ≤ c ∧ c ≤ 122)) (e : endN s = none) : tk s c = none := by
  unfold tk
  rw [if_neg h, e]
  split
  · rfl
  · split <;> rfl
theorem tk_nomark {s : RS} {c : Nat} (h : ¬ (97 ≤ c ∧ c ≤ 122)) (e : ¬ (c = 44 ∨ c = 40 ∨ c = 41)) : tk s c = none := by
  unfold tk
  rw [if_neg h, if_neg (fun z => e (z.elim .inl fun y => .inr (.inl y.1))), if_neg (fun z => e (.inr (.inr z.1)))]
theorem tk_close {s t : RS} (e : endN s = some t) : tk s 41 = if 1 < s.br.length then some { ov := t.ov, br := t.br.dropLast, nm := [], cl := true } else none := by
  unfold tk
  rw [if_neg (by decide), if_neg (by rintro (z | ⟨z, _⟩) <;> cases z), e]
  by_cases h : 1 < s.br.length
  · rw [if_pos ⟨rfl, h⟩, if_pos h]
    rfl
  · rw [if_neg (fun z => h z.2), if_neg h]
theorem tk_sep {s t : RS} {c : Nat} (e : endN s = some t) (h : c = 44 ∨ c = 40) : tk s c = if t.ov.length = 8 ∨ (c = 40 ∧ s.cl = true) then none else some { ov := t.ov, br := if c = 40 then t.br ++ [some (S t.nm)] else t.br, nm := [], cl := false } := by
  unfold tk
  rw [if_neg (by omega), e]
  by_cases h1 : c = 44 ∨ (c = 40 ∧ s.cl = false)
  · rw [if_pos h1]
    have h2 : ¬ (c = 40 ∧ s.cl = true) := by
      rintro ⟨a, b⟩
      rcases h1 with z | ⟨_, z⟩
      · omega
      · rw [b] at z
        cases z
    show (if t.ov.length = 8 then none else _) = _
    by_cases h3 : t.ov.length = 8
    · rw [if_pos h3, if_pos (.inl h3)]
    · rw [if_neg h3, if_neg (show ¬ (t.ov.length = 8 ∨ (c = 40 ∧ s.cl = true)) from fun z => z.elim h3 h2)]
  · have h2 : c = 40 ∧ s.cl = true := by
      refine ⟨h.resolve_left fun z => h1 (.inl z), ?_⟩
      cases hc : s.cl with
      | true => rfl
      | false => exact absurd (.inr ⟨h.resolve_left fun z => h1 (.inl z), hc⟩) h1
    rw [if_neg h1, if_neg (by rintro ⟨z, _⟩; omega), if_pos (.inr h2)]
theorem flat_nil {f : TM.Fo} {u : Option Str} (h : TM.flat f u = []) : f = .nil := by
  cases f with
  | nil => rfl
  | cons c k r => cases h
theorem fin_some {x : Str} {s : RS} (er : run (cp x) TPA.start = some s) (hx : x ≠ S []) : (fin s).isSome = (decide (s.br.length = 1) && (endN s).isSome) := by
  unfold fin
  by_cases hz : s.nm = [] ∧ s.cl = false
  · have ho : s.ov ≠ [] := by
      intro ho
      have ef : fin s = some [] := by unfold fin; rw [if_pos hz, if_pos ho]
      obtain ⟨f, hf, hp, _⟩ := whole_text er ef
      have := flat_nil hp.symm
      subst this
      rw [tx_nil] at hf
      refine hx ?_
      rw [← s_cp x, hf]
    rw [if_pos hz, if_neg ho, endN_none hz.2 (.inl hz.1)]
    exact (Bool.and_false _).symm
  · rw [if_neg hz]
    by_cases hb : s.br.length = 1
    · rw [if_pos hb, decide_eq_true hb, Bool.true_and, Option.isSome_map]
    · rw [if_neg hb, decide_eq_false hb, Bool.false_and]
      rfl
theorem fin_empty {x : Str} {s : RS} (er : run (cp x) TPA.start = some s) (hx : x = S []) : (fin s).isSome = true := by
  subst hx
  obtain rfl : TPA.start = s := Option.some.inj er
  rfl
def sp_stop : Sp := fun vs H Q _ => ∃ x : Str, vs = [.str x] ∧ x.length ≤ 100000 ∧ ∀ H', Same H H' → Q (optN (stopX x)) H'
theorem ok_stop {f : Addr} {fd : FuncData} (F : Fn K mg "_law_stop" s_stop ["_law_text_here"] f fd) (B : Bn mg) : FnOk P w K mg base CX0 1 f fd ["_law_text_here"] sp_stop := by
  refine F.F.ok sc_stop (fun vs H Q E h => ?_) (fun cdv A outer s H vs Q E hr h => ?_)
  · obtain ⟨x, rfl, _⟩ := h
    rfl
  · obtain ⟨x, rfl, hl, q⟩ := h
    have nd := sc_stop.nd
    refine ⟨_, pss_cons (ps_set (i := 1) nd rfl (Or.inl rfl) (pe_lst pa_nil))
      (pss_cons (ps_set (i := 2) nd rfl (Or.inl rfl) pe_int)
      (pss_cons (ps_set (i := 3) nd rfl (Or.inl rfl) pe_str)
      (pss_cons (ps_set (i := 4) nd rfl (Or.inl rfl) pe_bl)
      (pss_cons (ps_for PassesOwn.never rfl (pi_enumS rfl B.enum (pa_cons (pv 0) pa_nil)) (pg_tup rfl (pgs_cons (pg_name (i := 5) nd rfl (Or.inl rfl)) (pgs_cons (pg_name (i := 6) nd rfl (Or.inl rfl)) pgs_nil)))
        (pss_cons (ps_set (i := 7) nd rfl (Or.inl rfl) (pe_or (pe_and (pe_cmpR op_ne (pv 3) pe_str (nomark _)) (pe_one (pe_cmpR op_notIn_seq (pv 3) (pv 1) rfl))) (pe_one (pv 4))))
        (pss_one (ps_if (pt_cmpR op_in_str (pv 6) pe_str rfl)
          (pss_cons (ps_set (i := 3) nd rfl (Or.inl rfl) (pe_op op_add_str (pv 3) (pv 6)))
          (pss_one (ps_if (PW.pt (pw_or (pt_val (pv 4)) (pw_or (pt_cmpR op_gt (pe_callB call_len_str (by rfl) B.len PySem.boot_len (pa_cons (pv 3) pa_nil)) pe_int (nomark _))
              (pw_or1 (PW.pt (pw_and (pt_cmpR op_eq (pe_callB call_len_str (by rfl) B.len PySem.boot_len (pa_cons (pv 3) pa_nil)) pe_int (nomark _)) (pw_and1 (pt_cmpR op_in_seq (pv 3) (pv 1) rfl)))))))) (pss_one (ps_ret (pv 5))) pss_nil)))
          (pss_one (ps_if (PW.pt (pw_or (pt_not (pt_val (pv 7))) (pw_or1 (pt_cmpR op_notin_str (pv 6) pe_str rfl)))) (pss_one (ps_ret (pv 5)))
            (pss_one (ps_if (pt_cmpR op_eq (pv 6) pe_str (nomark _))
              (pss_cons (ps_if (pt_cmpR op_eq (pv 2) pe_int (nomark _)) (pss_one (ps_ret (pv 5))) pss_nil)
              (pss_cons (ps_set (i := 2) nd rfl (Or.inl rfl) (pe_op op_sub (pv 2) pe_int))
              (pss_cons (ps_set (i := 1) nd rfl (Or.inl rfl) (pe_op op_cat (pv 1) (pe_op op_rep (pe_lst (pa_cons (pv 3) pa_nil)) (pe_callTy call_int1 (by rfl) B.int boot_int (pa_cons (pe_not (pv 4)) pa_nil)))))
              (pss_one (ps_set (i := 4) nd rfl (Or.inl rfl) pe_bl)))))
              (pss_cons (ps_set (i := 1) nd rfl (Or.inl rfl) (pe_op op_cat (pv 1) (pe_op op_rep (pe_lst (pa_cons (pv 3) pa_nil)) (pe_callTy call_int1 (by rfl) B.int boot_int (pa_cons (pe_not (pv 4)) pa_nil)))))
              (pss_cons (ps_if (PW.pt (pw_or (pt_cmpR op_gt (pe_callB call_len_seq (by rfl) B.len PySem.boot_len (pa_cons (pv 1) pa_nil)) pe_int (nomark _)) (pw_or1 (PW.pt (pw_and (pt_cmpR op_eq (pv 6) pe_str (nomark _)) (pw_and1 (pt_val (pv 4)))))))) (pss_one (ps_ret (pv 5))) pss_nil)
              (pss_cons (ps_set (i := 2) nd rfl (Or.inl rfl) (pe_op op_add (pv 2) (pe_callTy call_int1 (by rfl) B.int boot_int (pa_cons (pe_cmpR op_eq (pv 6) pe_str (nomark _)) pa_nil))))
              (pss_cons (ps_set (i := 3) nd rfl (Or.inl rfl) pe_str)
              (pss_one (ps_set (i := 4) nd rfl (Or.inl rfl) pe_bl))))))))))))))
      (pss_cons (ps_if (PW.pt (pw_or (pt_cmpR op_eq (pv 0) pe_str (nomark _)) (pw_or1 (PW.pt (pw_and (pt_cmpR op_eq (pv 2) pe_int (nomark _)) (pw_and1 (PW.pt (pw_or (pt_val (pv 4)) (pw_or1 (PW.pt (pw_and (pt_cmpR op_ne (pv 3) pe_str (nomark _)) (pw_and1 (pt_cmpR op_notIn_seq (pv 3) (pv 1) rfl)))))))))))))
        (pss_one (ps_ret pe_non)) pss_nil)
      (pss_one (ps_ret (pe_callB call_len_str (by rfl) B.len PySem.boot_len (pa_cons (pv 0) pa_nil))))))))), ?_⟩
    refine ⟨by decide, fun NL0 nNL0 => ?_⟩
    refine ⟨_, rfl, x, rfl, ?_⟩
    refine for_it (walk_enumS (x := x)) (fun i σ h => ∃ (s : RS) (NL : Addr) (nv : Str) (v5 v6 v7 : Option V), run ((cp x).take i) TPA.start = some s ∧ Good s ∧ σ = [some (.str x), some (.ref NL), some (.int ((s.br.length - 1 : Nat) : Int)), some (.str nv), some (.bl s.cl), v5, v6, v7] ∧
        h NL = some (.lst ((keys s).map V.str)) ∧ (s.cl = false → nv = S s.nm) ∧ (s.cl = true → s.nm = []) ∧ nv.length ≤ 8 ∧ Same H h)
      ⟨TPA.start, NL0, _, none, none, none, rfl, good_start, rfl, upd_same, fun _ => rfl, (fun h => nomatch h), by decide, Same.new nNL0⟩ (fun i σ h _ _ => trivial) ?_ ?_
    · rintro i v σ h h' hi ⟨s, NL, nv, v5, v6, v7, er, g, rfl, eN, hn0, hn1, nvl, s1⟩ ⟨T', c, rfl, nT, hch, rfl⟩
      have hch' : (cp x)[i]? = some c := by
        rw [← hch]
        exact Array.getElem?_toList
      have et := run_take hch' er
      have s2 : Same H (upd h T' (.tup [.int (i : Nat), .str ⟨#[c]⟩])) := s1.trans (Same.new nT)
      have eN2 : upd h T' (.tup [.int (i : Nat), .str ⟨#[c]⟩]) NL = some (.lst ((keys s).map V.str)) := by rw [upd_ne (ne_of_none eN nT)]; exact eN
      refine ⟨T', _, rfl, .of upd_same, rfl, _, _, rfl, _, _, rfl, rfl, ?_⟩
      generalize upd h T' (.tup [.int (i : Nat), .str ⟨#[c]⟩]) = h2 at s2 eN2 ⊢
      have bad : tk s c = none → ∀ H', Same H H' → Q (.int (i : Int)) H' := fun e H' s' => by
        have es := stop_at (cp x) TPA.start 0 i s c hch' er e
        rw [Nat.zero_add] at es
        have : stopX x = some i := es
        have q := q H' s'
        rw [this] at q
        exact q
      have good : ∀ (w7 : Option V) (R : VK), R (.bl (endN s).isSome) h2 → tOrV (tAndV (tOp rNe (tVar 3) (tC (.str (Str.ofString "")))) (tOp (rIn K true) (tVar 3) (tVar 1))) (tVar 4)
          [some (.str x), some (.ref NL), some (.int ((s.br.length - 1 : Nat) : Int)), some (.str nv), some (.bl s.cl), some (.int (i : Int)), some (.str ⟨#[c]⟩), w7] h2 R := by
        intro w7 R r
        have last : ((s.nm = [] ∨ S s.nm ∈ keys s) ∨ s.cl = true) → tVar 4 [some (.str x), some (.ref NL), some (.int ((s.br.length - 1 : Nat) : Int)), some (.str nv), some (.bl s.cl), some (.int (i : Int)), some (.str ⟨#[c]⟩), w7] h2 R := by
          intro hh
          refine ⟨_, rfl, ?_⟩
          cases hc : s.cl with
          | true => rw [endN_cl hc] at r; exact r
          | false =>
            rw [endN_none hc (hh.resolve_right (by rw [hc]; exact Bool.false_ne_true))] at r
            exact r
        refine ⟨_, rfl, rfl, _, rfl, ?_⟩
        rw [str_empty]
        by_cases hv : nv = S []
        · rw [decide_eq_true hv]
          refine ⟨_, rfl, last ?_⟩
          cases hc : s.cl with
          | true => exact .inr rfl
          | false => exact .inl (.inl (S_inj ((hn0 hc).symm.trans hv)))
        rw [decide_eq_false hv]
        refine ⟨_, rfl, _, rfl, NL, _, rfl, .inl (.of eN2), rfl, flat_strs _, _, rfl, ?_⟩
        rw [if_pos rfl, inV_str]
        by_cases hk : nv ∈ keys s
        · rw [decide_eq_true hk]
          refine last ?_
          cases hc : s.cl with
          | true => exact .inr rfl
          | false => exact .inl (.inr (hn0 hc ▸ hk))
        rw [decide_eq_false hk]
        have : (endN s).isSome = true := by
          cases hc : s.cl with
          | true => rw [endN_cl hc]; rfl
          | false =>
            have e := hn0 hc
            rw [endN_some hc (fun z => hv (by rw [e, z])) (e ▸ hk)]
            rfl
        rw [this] at r
        exact r
      refine good _ _ ?_
      refine ⟨_, rfl, _, _, rfl, rfl, _, rfl, ?_⟩
      rw [found_sign, abc_dec]
      by_cases hlt : 97 ≤ c ∧ c ≤ 122
      · have el : tk s c = letter s c := by unfold tk; rw [if_pos hlt]
        rw [el] at bad
        rw [decide_eq_true hlt]
        refine ⟨_, rfl, _, rfl, _, _, rfl, rfl, line100 (by show nv.length + 1 ≤ 1000; omega), ?_⟩
        refine ⟨_, rfl, ?_⟩
        cases hc : s.cl with
        | true => exact ⟨_, rfl, _, rfl, bad (by unfold letter; rw [if_pos (.inl hc)]) h2 s2⟩
        | false =>
          have en := hn0 hc
          have e0 : nv ++ ⟨#[c]⟩ = S (s.nm ++ [c]) := by rw [en, ← S_app]; rfl
          have ell : (S (s.nm ++ [c])).length = s.nm.length + 1 := by rw [S_len, List.length_append]; rfl
          rw [e0]
          have nl := g.nl
          refine ⟨_, rfl, _, rfl, _, rfl, line100 (by rw [ell]; omega), _, _, rfl, rfl, _, rfl, ?_⟩
          rw [ell]
          by_cases h8 : 8 < s.nm.length + 1
          · rw [decide_eq_true (show (8 : Int) < ((s.nm.length + 1 : Nat) : Int) by omega)]
            exact ⟨_, rfl, bad (by unfold letter; rw [if_pos (.inr h8)]) h2 s2⟩
          rw [decide_eq_false (show ¬ (8 : Int) < ((s.nm.length + 1 : Nat) : Int) by omega)]
          have yes : ∀ t, letter s c = some t → t = { s with nm := s.nm ++ [c] } → ∀ w5 w6 w7 : Option V, ∃ (s' : RS) (NL' : Addr) (nv' : Str) (v5 v6 v7 : Option V), run ((cp x).take (i + 1)) TPA.start = some s' ∧ Good s' ∧
              [some (.str x), some (.ref NL), some (.int ((s.br.length - 1 : Nat) : Int)), some (.str (S (s.nm ++ [c]))), some (.bl false), w5, w6, w7] = [some (.str x), some (.ref NL'), some (.int ((s'.br.length - 1 : Nat) : Int)), some (.str nv'), some (.bl s'.cl), v5, v6, v7] ∧
              h2 NL' = some (.lst ((keys s').map V.str)) ∧ (s'.cl = false → nv' = S s'.nm) ∧ (s'.cl = true → s'.nm = []) ∧ nv'.length ≤ 8 ∧ Same H h2 := by
            rintro t ht rfl w5 w6 w7
            refine ⟨_, NL, _, w5, w6, w7, et.trans (el.trans ht), good_tk g (el.trans ht), ?_, eN2, fun _ => rfl, ?_, by rw [ell]; omega, s2⟩
            · show _ = [_, _, _, _, some (V.bl s.cl), _, _, _]
              rw [hc]
            · show s.cl = true → _
              rw [hc]
              exact fun z => nomatch z
          refine ⟨_, rfl, _, rfl, line100 (by rw [ell]; omega), rfl, _, rfl, ?_⟩
          rw [ell]
          by_cases h7 : s.nm.length + 1 = 8
          · rw [decide_eq_true (show V.int ((s.nm.length + 1 : Nat) : Int) = V.int 8 by rw [h7]; rfl)]
            refine ⟨_, rfl, _, rfl, NL, _, rfl, .inl (.of eN2), rfl, flat_strs _, _, rfl, ?_⟩
            rw [if_neg (by decide), inV_str]
            by_cases hk : S (s.nm ++ [c]) ∈ keys s
            · rw [decide_eq_true hk]
              exact ⟨_, rfl, bad (by unfold letter; rw [if_neg (by rw [hc]; rintro (z | z); cases z; exact h8 z), if_pos ⟨h7, hk⟩]) h2 s2⟩
            · rw [decide_eq_false hk]
              exact yes _ (by unfold letter; rw [if_neg (by rw [hc]; rintro (z | z); cases z; exact h8 z), if_neg (fun z => hk z.2)]) rfl _ _ _
          · rw [decide_eq_false (fun z : V.int ((s.nm.length + 1 : Nat) : Int) = V.int 8 => h7 (by injection z with z; omega))]
            exact yes _ (by unfold letter; rw [if_neg (by rw [hc]; rintro (z | z); cases z; exact h8 z), if_neg (fun z => h7 z.1)]) rfl _ _ _
      rw [decide_eq_false hlt]
      refine ⟨_, rfl, ?_⟩
      cases he : endN s with
      | none => exact ⟨_, rfl, _, rfl, bad (tk_noend hlt he) h2 s2⟩
      | some t =>
        refine ⟨_, rfl, _, rfl, _, _, rfl, rfl, _, rfl, ?_⟩
        rw [found_sign, mark_dec]
        by_cases hm : c = 44 ∨ c = 40 ∨ c = 41
        · rw [decide_eq_true hm]
          obtain ⟨eb, enm, ecl⟩ := endN_br he
          have kl : (keys s).length ≤ 8 := by unfold keys; rw [List.length_map]; exact g.lo
          have nam : ∀ (D : Ends) (w2 w5 w6 w7 : Option V), (∀ NL' h', h' NL' = some (.lst ((keys t).map V.str)) → Same h2 h' → D.nx [some (.str x), some (.ref NL'), w2, some (.str nv), some (.bl s.cl), w5, w6, w7] h') →
              tAsg (tOp rCat (tVar 1) (tOp rRep (tLst (tCons (tVar 3) tNil)) (tCB rI1' (tCons (tNotV (tVar 4)) tNil)))) (gName 1) D [some (.str x), some (.ref NL), w2, some (.str nv), some (.bl s.cl), w5, w6, w7] h2 := by
            intro D w2 w5 w6 w7 k
            refine ⟨_, rfl, _, rfl, (by show 1 ≤ sizeLine; decide), fun p np => ?_⟩
            refine ⟨_, rfl, _, rfl, .inr ⟨_, rfl, ?_⟩⟩
            refine ⟨p, _, _, rfl, rfl, upd_same, (two01 (V.str nv) _).1, (two01 (V.str nv) _).2.1, line100 (Nat.le_trans (two01 (V.str nv) _).2.2 (by decide)), fun p2 n2 => ?_⟩
            have nn : NL ≠ p := ne_of_none eN2 np
            have nn2 : NL ≠ p2 := ne_of_none (by rw [upd_ne nn]; exact eN2) n2
            refine ⟨NL, p2, _, _, rfl, rfl, by rw [upd_ne nn2, upd_ne nn]; exact eN2, upd_same, ?_, fun p3 n3 => ?_⟩
            · rw [← List.length_append, ← keys_end he hn0, List.length_map]
              unfold keys
              rw [List.length_map]
              exact line100 (Nat.le_trans (good_end g he).2.1 (by decide))
            rw [← keys_end he hn0]
            exact k p3 _ upd_same (((Same.new np).trans (Same.new n2)).trans (Same.new n3))
          refine ⟨_, rfl, rfl, _, rfl, ?_⟩
          rw [dec_sign' s_rp]
          by_cases h41 : c = 41
          · subst h41
            rw [decide_eq_true rfl]
            have ec := tk_close he
            refine ⟨_, rfl, rfl, _, rfl, ?_⟩
            by_cases hb : 1 < s.br.length
            · rw [if_pos hb] at ec
              rw [decide_eq_false (fun z : V.int ((s.br.length - 1 : Nat) : Int) = V.int 0 => by injection z with z; omega)]
              refine ⟨_, rfl, _, _, rfl, rfl, ?_⟩
              refine nam _ _ _ _ _ fun NL' h' e' s3 => ?_
              refine ⟨_, NL', nv, some (.int (i : Int)), some (.str ⟨#[41]⟩), some (.bl true), et.trans ec, good_tk g ec, ?_, e', (fun z => nomatch z), fun _ => rfl, nvl, s2.trans s3⟩
              have e5 : ((s.br.length - 1 : Nat) : Int) - 1 = ((t.br.dropLast.length - 1 : Nat) : Int) := by rw [List.length_dropLast, eb]; omega
              show [_, _, some (V.int (((s.br.length - 1 : Nat) : Int) - 1)), _, _, _, _, _] = _
              rw [e5]
              rfl
            · rw [if_neg hb] at ec
              have := List.length_pos_iff.mpr g.bn
              rw [decide_eq_true (show V.int ((s.br.length - 1 : Nat) : Int) = V.int 0 by rw [show s.br.length - 1 = 0 by omega]; rfl)]
              exact ⟨_, rfl, bad ec h2 s2⟩
          rw [decide_eq_false h41]
          refine nam _ _ _ _ _ fun NL' h3 e3 s3 => ?_
          have es := tk_sep he (show c = 44 ∨ c = 40 by omega)
          have ekt : (keys t).length = t.ov.length := by unfold keys; rw [List.length_map]
          have gt : t.ov.length ≤ 8 := (good_end g he).2.1
          dsimp only
          by_cases hq : t.ov.length = 8 ∨ (c = 40 ∧ s.cl = true)
          · rw [if_pos hq] at es
            refine sq_yes (fun h4 s4 Q' q' => ?_) fun h4 s4 => ?_
            · refine ⟨_, rfl, NL', _, rfl, .inl (.of (s4 _ _ e3)), _, _, rfl, rfl, _, rfl, ?_⟩
              rw [List.length_map, ekt]
              by_cases h8 : t.ov.length = 8
              · rw [decide_eq_true (show (7 : Int) < ((t.ov.length : Nat) : Int) by omega)]
                exact q' h4 same_rfl
              rw [decide_eq_false (show ¬ (7 : Int) < ((t.ov.length : Nat) : Int) by omega)]
              refine ⟨_, rfl, rfl, _, rfl, ?_⟩
              obtain ⟨k1, k2⟩ := hq.resolve_left h8
              rw [dec_sign' s_lp, decide_eq_true k1]
              refine ⟨_, rfl, _, rfl, ?_⟩
              rw [k2]
              exact q' h4 same_rfl
            · exact ⟨_, rfl, bad es h4 ((s2.trans s3).trans s4)⟩
          rw [if_neg hq] at es
          refine sq_no (fun h4 s4 Q' q' => ?_) fun h4 s4 => ?_
          · refine ⟨_, rfl, NL', _, rfl, .inl (.of (s4 _ _ e3)), _, _, rfl, rfl, _, rfl, ?_⟩
            rw [List.length_map, ekt]
            have h8 : ¬ t.ov.length = 8 := fun z => hq (.inl z)
            rw [decide_eq_false (show ¬ (7 : Int) < ((t.ov.length : Nat) : Int) by omega)]
            refine ⟨_, rfl, rfl, _, rfl, ?_⟩
            rw [dec_sign' s_lp]
            by_cases h40 : c = 40
            · rw [decide_eq_true h40]
              refine ⟨_, rfl, _, rfl, ?_⟩
              cases hc : s.cl with
              | true => exact absurd (.inr ⟨h40, hc⟩) hq
              | false => exact q' h4 same_rfl
            · rw [decide_eq_false h40]
              exact q' h4 same_rfl
          refine ⟨_, rfl, _, rfl, rfl, .inr ⟨_, rfl, _, _, rfl, rfl, ?_⟩⟩
          refine ⟨_, NL', Str.ofString "", some (.int (i : Int)), some (.str ⟨#[c]⟩), some (.bl true), et.trans es, good_tk g es, ?_, s4 _ _ e3, fun _ => rfl, (fun z => nomatch z), by decide, (s2.trans s3).trans s4⟩
          rw [dec_sign' s_lp]
          have e5 : ((s.br.length - 1 : Nat) : Int) + (if decide (c = 40) = true then 1 else 0) = (((if c = 40 then t.br ++ [some (S t.nm)] else t.br).length - 1 : Nat) : Int) := by
            have := List.length_pos_iff.mpr g.bn
            by_cases h40 : c = 40
            · rw [if_pos (decide_eq_true h40), if_pos h40, List.length_append, eb]
              show _ = (((s.br.length + 1) - 1 : Nat) : Int)
              omega
            · rw [if_neg (by rw [decide_eq_false h40]; decide), if_neg h40, eb]
              omega
          show [_, _, some (V.int (((s.br.length - 1 : Nat) : Int) + (if decide (c = 40) = true then 1 else 0))), _, _, _, _, _] = _
          rw [e5]
          rfl
        · rw [decide_eq_false hm]
          exact ⟨_, rfl, bad (tk_nomark hlt hm) h2 s2⟩
    · rintro σ h ⟨s, NL, nv, v5, v6, v7, er, g, rfl, eN, hn0, hn1, nvl, s1⟩
      have hall : (cp x).take x.cps.size = cp x := List.take_of_length_le (by show x.cps.toList.length ≤ _; rw [Array.length_toList]; exact Nat.le_refl _)
      rw [hall] at er
      have es := stop_end (cp x) TPA.start 0 s er
      have es : stopX x = if (fin s).isSome then none else some (0 + x.length) := by
        unfold stopX
        rw [es]
        show (if (fin s).isSome = true then none else some (0 + x.cps.toList.length)) = _
        rw [Array.length_toList]
        rfl
      dsimp only
      by_cases hx : x = S []
      · refine sq_yes (fun h' s3 Q' q' => ?_) fun h' s3 => ?_
        · refine ⟨_, rfl, rfl, _, rfl, ?_⟩
          rw [str_empty, decide_eq_true hx]
          exact q' h' same_rfl
        rw [fin_empty er hx, if_pos rfl] at es
        have q := q h' (s1.trans s3)
        rw [es] at q
        exact q
      have ef := fin_some er hx
      have no : (fin s).isSome = false → ∀ H', Same h H' → tRet (tCB (fun xs H Q => ∃ z, xs = [V.str z] ∧ z.length ≤ sizeLine ∧ Q (V.int (z.length : Int)) H) (tCons (tVar 0) tNil)) { nx := fun x H' => Q V.non H', rt := Q } [some (.str x), some (.ref NL), some (.int ((s.br.length - 1 : Nat) : Int)), some (.str nv), some (.bl s.cl), v5, v6, v7] H' := by
        intro e H' s3
        rw [e, if_neg (by decide), Nat.zero_add] at es
        have q := q H' (s1.trans s3)
        rw [es] at q
        exact ⟨_, rfl, x, rfl, Nat.le_trans hl (by decide), q⟩
      by_cases hb : s.br.length = 1
      · rw [decide_eq_true hb, Bool.true_and] at ef
        cases he : endN s with
        | none =>
          rw [he] at ef
          refine sq_no (fun h' s3 Q' q' => ?_) fun h' s3 => ?_
          · refine ⟨_, rfl, rfl, _, rfl, ?_⟩
            rw [str_empty, decide_eq_false hx]
            refine ⟨_, rfl, rfl, _, rfl, ?_⟩
            rw [decide_eq_true (show V.int ((s.br.length - 1 : Nat) : Int) = V.int 0 by rw [hb]; rfl)]
            refine ⟨_, rfl, _, rfl, ?_⟩
            cases hc : s.cl with
            | true => rw [endN_cl hc] at he; cases he
            | false =>
              refine ⟨_, rfl, rfl, _, rfl, ?_⟩
              rw [str_empty]
              by_cases hv : nv = S []
              · rw [decide_eq_true hv]
                exact q' h' same_rfl
              rw [decide_eq_false hv]
              refine ⟨_, rfl, _, rfl, NL, _, rfl, .inl (.of (s3 _ _ eN)), rfl, flat_strs _, _, rfl, ?_⟩
              rw [if_pos rfl, inV_str]
              by_cases hk : nv ∈ keys s
              · rw [decide_eq_true hk]
                exact q' h' same_rfl
              · have e := hn0 hc
                rw [endN_some hc (fun z => hv (by rw [e, z])) (e ▸ hk)] at he
                cases he
          exact no ef h' s3
        | some t =>
          rw [he] at ef
          refine sq_yes (fun h' s3 Q' q' => ?_) fun h' s3 => ?_
          · refine ⟨_, rfl, rfl, _, rfl, ?_⟩
            rw [str_empty, decide_eq_false hx]
            refine ⟨_, rfl, rfl, _, rfl, ?_⟩
            rw [decide_eq_true (show V.int ((s.br.length - 1 : Nat) : Int) = V.int 0 by rw [hb]; rfl)]
            refine ⟨_, rfl, _, rfl, ?_⟩
            cases hc : s.cl with
            | true => exact q' h' same_rfl
            | false =>
              have e := hn0 hc
              have h1 : s.nm ≠ [] := fun z => by rw [endN_none hc (.inl z)] at he; cases he
              have h2 : S s.nm ∉ keys s := fun z => by rw [endN_none hc (.inr z)] at he; cases he
              refine ⟨_, rfl, rfl, _, rfl, ?_⟩
              rw [str_empty, decide_eq_false (show ¬ nv = S [] from fun z => h1 (S_inj (e.symm.trans z)))]
              refine ⟨_, rfl, _, rfl, NL, _, rfl, .inl (.of (s3 _ _ eN)), rfl, flat_strs _, _, rfl, ?_⟩
              rw [if_pos rfl, inV_str, decide_eq_false (e ▸ h2)]
              exact q' h' same_rfl
          rw [ef] at es
          have q := q h' (s1.trans s3)
          rw [es] at q
          exact q
      · rw [decide_eq_false hb, Bool.false_and] at ef
        refine sq_no (fun h' s3 Q' q' => ?_) fun h' s3 => ?_
        · refine ⟨_, rfl, rfl, _, rfl, ?_⟩
          rw [str_empty, decide_eq_false hx]
          refine ⟨_, rfl, rfl, _, rfl, ?_⟩
          have := List.length_pos_iff.mpr g.bn
          rw [decide_eq_false (fun z : V.int ((s.br.length - 1 : Nat) : Int) = V.int 0 => by injection z with z; omega)]
          exact q' h' same_rfl
        exact no ef h' s3
end
end T88

set_option maxHeartbeats 1000000
local macro_rules | `(tactic| walk_at "z") => `(tactic| ((try dsimp only); first | assumption | omega | decide | (simp only [List.length_cons, List.length_nil]; first | decide | omega)))
namespace T88
open PySem L2 PyProof.Rows TX
section
variable {P : Program} {w : World} {K : PySem.W.Frag} {mg : Str → Option Value} {base : Heap}
theorem sc_well : FnScope ["_law_cell"] ["_law_cell"] (defScope s_well) := ⟨rfl, rfl, rfl, by decide +kernel, rfl, by decide +kernel, by decide +kernel⟩
def sp_well : Sp := fun vs H Q _ => ∃ (cell : Int), vs = [.int cell] ∧ ∀ H' p, Same H H' → H p = none → WellAt 100000 H' p → Q (.ref p) H'
theorem ok_well {f : Addr} {fd : FuncData} (F : Fn K mg "_law_well" s_well ["_law_cell"] f fd) : FnOk P w K mg base CX0 1 f fd ["_law_cell"] sp_well := by
  refine F.F.ok sc_well (fun vs H Q E h => ?_) (fun cdv A outer s H vs Q E hr h => ?_)
  · obtain ⟨cell, rfl, _⟩ := h
    rfl
  · obtain ⟨cell, rfl, q⟩ := h
    refine ⟨_, pss_one (ps_ret (pe_lst (pa_cons (pv 0) (pa_cons (pe_op op_mod (pv 0) pe_int) (pa_cons pe_int pa_nil))))), ?_⟩
    refine ⟨_, rfl, _, rfl, _, _, rfl, rfl, by walk_at "z", by walk_at "z", fun p hp => ?_⟩
    refine q _ p (Same.new hp) hp ⟨_, _, _, upd_same, ?_, ?_, by decide, by decide⟩
    · exact Int.emod_nonneg _ (by decide)
    · have := Int.emod_lt_of_pos cell (show (0 : Int) < 2147483629 by decide)
      omega
theorem sc_draw : FnScope ["_law_well_here", "_law_many", "_law_found", "_law_number"] ["_law_well_here", "_law_many"] (defScope s_draw) := ⟨rfl, rfl, rfl, by decide +kernel, rfl, by decide +kernel, by decide +kernel⟩
/-- a draw: one below top; the well may be drawn from once less -/
def sp_draw : Sp := fun vs H Q _ => ∃ (W : Addr) (t n : Nat), vs = [.ref W, .int t] ∧ 0 < t ∧ t < 1073741824 ∧ WellAt (n + 1) H W ∧ ∀ (H' : Hp) (r : Nat), r < t → Sm W H H' → WellAt n H' W → Q (.int r) H'
theorem ok_draw {f : Addr} {fd : FuncData} (F : Fn K mg "_law_draw" s_draw ["_law_well_here", "_law_many"] f fd) : FnOk P w K mg base CX0 1 f fd ["_law_well_here", "_law_many"] sp_draw := by
  refine F.F.ok sc_draw (fun vs H Q E h => ?_) (fun cdv A outer s H vs Q E hr h => ?_)
  · obtain ⟨W, t, n, rfl, _⟩ := h
    rfl
  · obtain ⟨W, t, n, rfl, h0, h1, ⟨a, b, c, hW, b0, b1, c0, c1⟩, q⟩ := h
    have hu := hu_of hr
    have t0 : (0 : Int) < (t : Int) := by omega
    have aI0 : ∀ x y z : V, atI [x, y, z] (0 : Int) = some x := fun _ _ _ => rfl
    have aI1 : ∀ x y z : V, atI [x, y, z] (1 : Int) = some y := fun _ _ _ => rfl
    have aI2 : ∀ x y z : V, atI [x, y, z] (2 : Int) = some z := fun _ _ _ => rfl
    have nd := sc_draw.nd
    refine ⟨_, pss_cons (ps_if (pt_cmpR op_ge (pe_ix ix_list (pv 0) pe_int (fun _ _ => rfl)) (pe_op op_pow pe_int pe_int) (nomark _))
        (pss_cons (ps_set (i := 2) nd rfl (Or.inl rfl) (pe_op op_mod (pe_ix ix_list (pv 0) pe_int (fun _ _ => rfl)) (pv 1)))
        (pss_cons (ps_asg (pe_op op_fdiv (pe_ix ix_list (pv 0) pe_int (fun _ _ => rfl)) (pv 1)) (pg_sub (pv 0) pe_int set_list))
        (pss_one (ps_ret (pv 2))))) pss_nil)
      (pss_cons (ps_asg (pe_op op_add (pe_ix ix_list (pv 0) pe_int (fun _ _ => rfl)) pe_int) (pg_sub (pv 0) pe_int set_list))
      (pss_cons (ps_set (i := 3) nd rfl (Or.inl rfl) (pe_op op_mod (pe_op op_mul (pe_op op_add (pe_op op_add (pe_ix ix_list (pv 0) pe_int (fun _ _ => rfl)) (pe_op op_mul pe_int (pe_ix ix_list (pv 0) pe_int (fun _ _ => rfl)))) pe_int) pe_int) pe_int))
      (pss_cons (ps_set (i := 3) nd rfl (Or.inl rfl) (pe_op op_mod (pe_op op_mul (pv 3) (pe_op op_add (pe_op op_add (pe_op op_fdiv (pv 3) pe_int) pe_int) (pe_ix ix_list (pv 0) pe_int (fun _ _ => rfl)))) pe_int))
      (pss_one (ps_ret (pe_op op_mod (pe_op op_fdiv (pe_op op_mod (pe_op op_mul (pv 3) (pe_op op_add (pe_op op_fdiv (pv 3) pe_int) pe_int)) pe_int) pe_int) (pv 1))))))), ?_⟩
    refine ⟨_, rfl, W, _, _, _, rfl, rfl, .of hW, aI0 _ _ _, _, _, rfl, rfl, ⟨by decide, by decide, by decide⟩, _, _, rfl, rfl, _, rfl, ite2 (fun ha => ?_) (fun ha => ?_)⟩
    · refine ⟨_, rfl, W, _, _, _, rfl, rfl, .of hW, aI0 _ _ _, _, rfl, _, _, rfl, rfl, by walk_at "z", ?_⟩
      refine ⟨_, rfl, W, _, _, _, rfl, rfl, .of hW, aI0 _ _ _, _, rfl, _, _, rfl, rfl, by constructor <;> omega, ?_⟩
      refine ⟨_, rfl, W, _, _, 0, rfl, rfl, hW, rfl, _, rfl, ?_⟩
      have hm := Int.emod_nonneg a (show (t : Int) ≠ 0 by omega)
      have hl := Int.emod_lt_of_pos a t0
      have e : a % (t : Int) = ((a % (t : Int)).toNat : Int) := by omega
      show Q (.int (a % (t : Int))) _
      rw [e]
      exact q _ _ (by omega) (Sm.put .rfl') ⟨_, _, _, upd_same, b0, b1, c0, by omega⟩
    · refine ⟨_, rfl, W, _, _, _, rfl, rfl, .of hW, aI2 _ _ _, _, _, rfl, rfl, ?_⟩
      refine ⟨_, rfl, W, _, _, 2, rfl, rfl, hW, rfl, ?_⟩
      have hW1 : upd H W (.lst [.int a, .int b, .int (c + 1)]) W = some (.lst [.int a, .int b, .int (c + 1)]) := upd_same
      refine ⟨_, rfl, W, _, _, _, rfl, rfl, .of hW1, aI1 _ _ _, _, rfl, W, _, _, _, rfl, rfl, .of hW1, aI2 _ _ _, _, _, rfl, rfl, .inl (by decide), _, _, rfl, rfl, _, _, rfl, rfl, _, _, rfl, rfl, .inr (by decide), _, _, rfl, rfl, by walk_at "z", ?_⟩
      dsimp only
      generalize hx : (b + 104729 * (c + 1) + 1) * 48271 % 2147483647 = x
      have x0 : 0 ≤ x := by rw [← hx]; exact Int.emod_nonneg _ (by decide)
      have x1 : x < 2147483647 := by rw [← hx]; exact Int.emod_lt_of_pos _ (by decide)
      refine ⟨_, rfl, _, rfl, _, _, rfl, rfl, ⟨by decide, by decide⟩, _, _, rfl, rfl, _, rfl, W, _, _, _, rfl, rfl, .of hW1, aI2 _ _ _, _, _, rfl, rfl, _, _, rfl, rfl, .inl (by constructor <;> omega), _, _, rfl, rfl, by walk_at "z", ?_⟩
      dsimp only
      generalize hy : x * (x / 1009 + 69621 + (c + 1)) % 2147483587 = y
      have y0 : 0 ≤ y := by rw [← hy]; exact Int.emod_nonneg _ (by decide)
      have y1 : y < 2147483587 := by rw [← hy]; exact Int.emod_lt_of_pos _ (by decide)
      refine ⟨_, rfl, _, rfl, _, _, rfl, rfl, ⟨by decide, by decide⟩, _, _, rfl, rfl, _, _, rfl, rfl, .inl (by constructor <;> omega), _, _, rfl, rfl, by walk_at "z", _, _, rfl, rfl, ⟨by decide, by decide⟩, _, rfl, _, _, rfl, rfl, by walk_at "z", ?_⟩
      dsimp only
      generalize hz : y * (y / 2003 + 40692) % 2147483563 / 3 = z
      have hm := Int.emod_nonneg z (show (t : Int) ≠ 0 by omega)
      have hl := Int.emod_lt_of_pos z t0
      have e : z % (t : Int) = ((z % (t : Int)).toNat : Int) := by omega
      rw [e]
      exact q _ _ (by omega) (Sm.put .rfl') ⟨_, _, _, hW1, b0, b1, by omega, by omega⟩
end
end T88

set_option maxHeartbeats 1000000
/-! A rule of our own: a text turned about; only how long it is, is told. -/
namespace TRV
open PySem L2 PyProof.Rows
def tRevS (te : TE) : TE := fun σ H Q => te σ H fun x H1 => ∃ z, x = .str z ∧ z.length ≤ sizeLine ∧ ∀ y : Str, y.length ≤ z.length → Q (.str y) H1
theorem back_le (n : Nat) : (Builtin.Str.strSliceIndices none none (-1) n).length ≤ n := by
  show (sliceRange ((n : Int) - 1) (-1) (-1)).length ≤ n
  unfold sliceRange
  rw [List.length_map, List.length_range]
  show (if (-1 : Int) > 0 then _ else (if (n : Int) - 1 > -1 then ((n : Int) - 1 - (-1) - (-1) - 1) / (-(-1)) else 0)).toNat ≤ n
  rw [if_neg (by decide), show (-(-1) : Int) = 1 from rfl, Int.ediv_one]
  split <;> omega
theorem pe_revS {X : Cx} {e : Expr} {te : TE} {k : Nat} {p1 p2 p3 pos : Pos} (he : PE X e te) : PE X (.Subscript e (.Slice none none (some (.UnaryOp .USub (.Constant (.int 1) k p1) p2)) p3) pos) (tRevS te) := by
  refine ⟨fun pins s σ H Q I h => ?_⟩
  refine Subscript_ (thn (he.run pins s σ H _ I h) fun v s1 ⟨x, H1, I1, r1, z, ex, hz, q⟩ => ?_)
  subst ex
  obtain ⟨t, rfl⟩ := r1
  have hst : PO X (some (.UnaryOp .USub (.Constant (.int 1) k p1) p2)) (tPart (tUn (rU fun i => .int (-i)) (tC (.int 1)))) := po_some (pe_un un_neg pe_int)
  refine wpAny_Slice (thn (po_none.run pins s1 σ H1 (fun o H2 => o = none ∧ H2 = H1) I1 ⟨rfl, rfl⟩) fun vl s2 ⟨l, H2, I2, pl, el, e2⟩ => ?_)
  subst el e2
  refine thn (po_none.run pins s2 σ H2 (fun o H3 => o = none ∧ H3 = H2) I2 ⟨rfl, rfl⟩) fun vu s3 ⟨u, H3, I3, pu, eu, e3⟩ => ?_
  subst eu e3
  refine thn (hst.run pins s3 σ H3 (fun o H4 => o = some (-1) ∧ H4 = H3) I3 ⟨1, rfl, -1, rfl, rfl, rfl⟩) fun vs s4 ⟨o, H4, I4, ps, eo, e4⟩ => ?_
  subst eo e4
  have I5 : Inv X pins σ H4 { s4 with heap := s4.heap.push { cls := .type "slice", data := .fields #[vl, vu, vs] } } := I4.kept (t' := s4.toks) fun b ob q => Heap.get?_push_of_some _ q
  show wpAny (model X.prog X.w) X.A (subscriptTail e (.Slice none none (some (.UnaryOp .USub (.Constant (.int 1) k p1) p2)) p3) (.str z t) (.ref s4.heap.objs.size)) (EP X pins σ Q) X.xe { s4 with heap := s4.heap.push { cls := .type "slice", data := .fields #[vl, vu, vs] } }
  obtain ⟨l, rfl, el⟩ := IsPart.raw pl
  obtain ⟨u, rfl, eu⟩ := IsPart.raw pu
  obtain ⟨st, rfl, est⟩ := IsPart.raw ps
  refine tail_any (ops := [.str z t, .ref s4.heap.objs.size]) (typeIs_str _ _ _) (F.slot_str_getitem.lookup) ?_ (by with_unfolding_all rfl)
  refine wpAny_getItem_str_slice (l := l) (u := u) (st := st) ⟨_, Heap.get?_push_size _ rfl, rfl, rfl⟩ (by rw [est]; rfl) ?_
  unfold sliceMade slicePicked
  rw [el, eu, est]
  show Made.post (if ((-1 : Int) == 1 && _) = true then Made.val (.str z t) else Made.str _) (EP X pins σ Q) _
  rw [if_neg (by intro h; rw [Bool.and_eq_true] at h; exact absurd h.1 (by decide))]
  have hl : (⟨((Builtin.Str.strSliceIndices none none (-1) z.length).filterMap (z.cps[·]?)).toArray⟩ : Str).length ≤ z.length := by
    show (List.toArray _).size ≤ _
    rw [List.size_toArray]
    exact Nat.le_trans (List.length_filterMap_le _ _) (back_le z.length)
  exact ⟨Nat.le_trans hl hz, .str _, H4, I5.tok _, ⟨_, rfl⟩, q _ hl⟩
end TRV

set_option maxHeartbeats 2000000
namespace T88
open PySem L2 PyProof.Rows TX
section
variable {P : Program} {w : World} {K : PySem.W.Frag} {mg : Str → Option Value} {base : Heap}
abbrev N_ltext : List Str := ["_law_well_here", "_law_many", "_law_deep", "_law_words", "_law_k", "_law_name", "_law_inner"]
theorem sc_ltext : FnScope N_ltext ["_law_well_here", "_law_many", "_law_deep"] (defScope s_ltext) := ⟨rfl, rfl, rfl, by decide +kernel, rfl, by decide +kernel, by decide +kernel⟩
/-- how long a word with all beneath it may be; how often it draws -/
def wl : Nat → Nat
  | 0 => 12
  | d + 1 => 14 + 3 * wl d
def wc : Nat → Nat
  | 0 => 6
  | d + 1 => 6 + 3 * wc d
def sp_ltext (n : Nat) : Sp := fun vs H Q _ => ∃ (W : Addr) (m d k : Nat), vs = [.ref W, .int m, .int d] ∧ d + 1 = n ∧ m ≤ 9 ∧ d ≤ 2 ∧ WellAt (k + m * wc d) H W ∧ ∀ (H' : Hp) (x : Str), Sm W H H' → WellAt k H' W → x.length ≤ m * wl d → Q (.str x) H'
theorem len3t {n : Nat} {vs : List V} {H : Hp} {Q : VK} {E : XK} (h : sp_ltext n vs H Q E) : vs.length = 3 := by
  obtain ⟨W, m, d, k, rfl, _⟩ := h
  rfl
theorem sum_le {ws : List Str} {b : Nat} (h : ∀ x ∈ ws, x.length + 1 ≤ b) : (ws.map (·.length)).sum + ws.length ≤ ws.length * b := by
  induction ws with
  | nil => exact Nat.zero_le _
  | cons x r ih =>
    rw [List.map_cons, List.sum_cons, List.length_cons, Nat.succ_mul]
    have := ih fun y hy => h y (List.mem_cons_of_mem _ hy)
    have := h x List.mem_cons_self
    omega
def words8 : List Str := ["a", "b", "ab", "abcdefgh", "abcdefgi", "abcdefghi", "key", "zz"]
theorem words8_le : ∀ x ∈ words8, x.length ≤ 9 := by decide +kernel
theorem ok_ltext {f fD : Addr} {fd dD : FuncData} (F : Fn K mg "_law_text" s_ltext ["_law_well_here", "_law_many", "_law_deep"] f fd) (B : Bn mg) (D : Fn K mg "_law_draw" s_draw ["_law_well_here", "_law_many"] fD dD) : ∀ n : Nat,
    FnOk P w K mg base CX0 (n + 1) f fd ["_law_well_here", "_law_many", "_law_deep"] (sp_ltext n)
  | 0 => ⟨fun vs H Q E h => len3t h, fun A outer s H args us vs Q E hr e b r h => by
      obtain ⟨W, m, d, k, rfl, z, _⟩ := h
      cases z⟩
  | n + 1 => by
    have GD : FnOk P w K mg base CX0 1 fD dD ["_law_well_here", "_law_many"] sp_draw := ok_draw D
    have G := ok_ltext F B D n
    refine F.F.ok sc_ltext (fun vs H Q E h => len3t h) (fun cdv A outer s H vs Q E hr h => ?_)
    obtain ⟨W, m, d, kk, rfl, hd, hm, hd2, hW, q⟩ := h
    obtain rfl : d = n := by omega
    have r1 : Room 1 _ := hr.mono (by omega)
    have nd := sc_ltext.nd
    refine ⟨_, pss_cons (ps_set (i := 3) nd rfl (Or.inl rfl) (pe_lst pa_nil))
      (pss_cons (ps_for PassesOwn.never rfl (pi_range1 rfl B.range (pa_cons (pv 1) pa_nil)) (pg_name (i := 4) nd rfl (Or.inl rfl))
        (pss_cons (ps_set (i := 5) nd rfl (Or.inl rfl) (pe_ix ix_list (pe_lst (pa_cons pe_str (pa_cons pe_str (pa_cons pe_str (pa_cons pe_str (pa_cons pe_str (pa_cons pe_str (pa_cons pe_str (pa_cons pe_str pa_nil))))))))) (pe_call GD r1 rfl D.g D.F.kp D.b .nil pass0 (pa_cons (pv 0) (pa_cons pe_int pa_nil))) (fun _ _ => rfl)))
        (C8.pss_cut (ps_if (pt_cmpR op_eq (pe_call GD r1 rfl D.g D.F.kp D.b .nil pass0 (pa_cons (pv 0) (pa_cons pe_int pa_nil))) pe_int (nomark _))
            (pss_one (ps_set (i := 5) nd rfl (Or.inl rfl) (pe_op op_add_str (pe_ix ix_str pe_str (pe_call GD r1 rfl D.g D.F.kp D.b .nil pass0 (pa_cons (pv 0) (pa_cons pe_int pa_nil))) (fun _ _ => rfl)) (pe_slice sl_str (pv 5) po_none (po_some pe_int))))) pss_nil)
        (pss_cons (ps_set (i := 6) nd rfl (Or.inl rfl) pe_str)
        (C8.pss_cut (ps_if (PW.pt (pw_and (pt_cmpR op_gt (pv 2) pe_int (nomark _)) (pw_and1 (pt_cmpR op_eq (pe_call GD r1 rfl D.g D.F.kp D.b .nil pass0 (pa_cons (pv 0) (pa_cons pe_int pa_nil))) pe_int (nomark _)))))
            (pss_one (ps_set (i := 6) nd rfl (Or.inl rfl) (pe_op op_add_str (pe_op op_add_str pe_str (pe_call G hr rfl F.g F.F.kp F.b .nil pass0 (pa_cons (pv 0) (pa_cons (pe_op op_add pe_int (pe_call GD r1 rfl D.g D.F.kp D.b .nil pass0 (pa_cons (pv 0) (pa_cons pe_int pa_nil)))) (pa_cons (pe_op op_sub (pv 2) pe_int) pa_nil))))) pe_str))) pss_nil)
        (pss_one (ps_expr (pe_bm PySem.F.plainAttrs_list PySem.F.slot_list_append PySem.F.type_list_append mt_append (pv 3) (pa_cons (pe_op op_add_str (pv 5) (pv 6)) pa_nil)))))))))
      (pss_one (ps_ret (pe_join pe_str (pv 3))))), ?_⟩
    refine ⟨by decide, fun p np => ?_⟩
    have pW : p ≠ W := (hW.ne np).symm
    refine ⟨_, rfl, (m : Int), rfl, by omega, by omega, ?_⟩
    rw [show ((m : Int)).toNat = m by omega]
    have b9 : wl d ≤ 164 := by
      have : d = 0 ∨ d = 1 ∨ d = 2 := by omega
      rcases this with e | e | e <;> subst e <;> decide
    have b12 : 12 ≤ wl d := by
      have : d = 0 ∨ d = 1 ∨ d = 2 := by omega
      rcases this with e | e | e <;> subst e <;> decide
    refine for_range (lo := 0) (n := m) (fun i σ h => ∃ (v4 v5 v6 : Option V) (ws : List Str), σ = [some (.ref W), some (.int m), some (.int d), some (.ref p), v4, v5, v6] ∧ h p = some (.lst (ws.map V.str)) ∧ ws.length = i ∧ (∀ x ∈ ws, x.length + 1 ≤ wl d) ∧ Sm W H h ∧ WellAt (kk + (m - i) * wc d) h W)
      ⟨none, none, none, [], rfl, upd_same, rfl, (fun x h => nomatch h), Sm.new .rfl' np, hW.new np⟩ ?_ ?_
    · rintro i σ H1 hi ⟨v4, v5, v6, ws, rfl, e1, hl, hws, s1, w1⟩
      obtain ⟨N, hN, hN2⟩ : ∃ N, N = kk + (m - (i + 1)) * wc d ∧ kk + (m - i) * wc d = N + wc d := by
        refine ⟨_, rfl, ?_⟩
        have : m - i = (m - (i + 1)) + 1 := by omega
        rw [this, Nat.add_mul, Nat.one_mul, Nat.add_assoc]
      rw [hN2] at w1
      have c6 : 6 ≤ wc d := by cases d <;> (unfold wc; omega)
      refine ⟨by show 8 ≤ sizeLine; decide, fun p8 n8 => ?_⟩
      have e8 : ∀ o, upd H1 p8 o p = some (.lst (ws.map V.str)) := fun o => by rw [upd_ne (ne_of_none e1 n8)]; exact e1
      have p8W : p8 ≠ W := (w1.ne n8).symm
      refine ⟨_, rfl, W, 8, N + wc d - 1, rfl, by decide, by decide, (w1.new n8).mono (by omega), fun H2 r8 hr8 s2 w2 => ?_⟩
      obtain ⟨nm, hnm, hnl⟩ : ∃ nm, words8[r8]? = some nm ∧ nm.length ≤ 9 := by
        have h8 : r8 < words8.length := hr8
        exact ⟨_, List.getElem?_eq_getElem h8, words8_le _ (List.getElem_mem h8)⟩
      refine ⟨p8, words8.map V.str, (r8 : Int), .str nm, rfl, rfl, .of (s2 _ _ p8W upd_same), atI_nat (by rw [List.getElem?_map, hnm]; rfl), ?_⟩
      have e2 := s2 _ _ pW (e8 _)
      have s02 : Sm W H H2 := (s1.new n8).trans s2
      refine ⟨fun σ h => ∃ x : Str, σ = [some (.ref W), some (.int m), some (.int d), some (.ref p), some (.int (0 + (i : Int))), some (.str x), v6] ∧ x.length ≤ 9 ∧ h p = some (.lst (ws.map V.str)) ∧ Sm W H h ∧ WellAt (N + wc d - 3) h W, ?_, ?_⟩
      · refine ⟨_, rfl, W, 2, N + wc d - 2, rfl, by decide, by decide, w2.mono (by omega), fun H3 r hr s3 w3 => ?_⟩
        refine ⟨rfl, _, rfl, ite2 (fun h => ?_) (fun h => ?_)⟩
        · refine ⟨_, rfl, W, 26, N + wc d - 3, rfl, by decide, by decide, w3.mono (by omega), fun H4 c hc s4 w4 => ?_⟩
          refine ⟨_, _, _, rfl, rfl, abc_len, abc_at hc, _, rfl, _, rfl, _, rfl, line100 (by omega), ?_⟩
          have hcut := cutS_length nm none (some (7 : Int))
          have hcut7 : (cutS nm none (some (7 : Int))).length ≤ 7 := by
            rw [S_eta nm, cutS_S, S_len, HT.sIx_none, show (some (7 : Int)) = some ((7 : Nat) : Int) from rfl, HT.sIx_nat, List.length_take]
            omega
          refine ⟨_, _, rfl, rfl, ?_, _, rfl, ?_, s4 _ _ pW (s3 _ _ pW e2), (s02.trans s3).trans s4, w4⟩
          · show 1 + _ ≤ sizeLine
            exact line100 (by omega)
          · rw [sapp_len]
            show 1 + _ ≤ 9
            omega
        · exact ⟨nm, rfl, hnl, s3 _ _ pW e2, s02.trans s3, w3.mono (by omega)⟩
      · rintro σ h ⟨x, rfl, hx, e3, s3, w3⟩
        refine ⟨fun σ h => ∃ y : Str, σ = [some (.ref W), some (.int m), some (.int d), some (.ref p), some (.int (0 + (i : Int))), some (.str x), some (.str y)] ∧ y.length + 12 ≤ wl d ∧ h p = some (.lst (ws.map V.str)) ∧ Sm W H h ∧ WellAt N h W, ?_, ?_⟩
        · refine ⟨_, rfl, _, _, rfl, rfl, _, rfl, ?_⟩
          cases d with
          | zero =>
            exact ⟨Str.ofString "", rfl, by rw [len_empty]; decide, e3, s3, w3.mono (by omega)⟩
          | succ d' =>
            rw [decide_eq_true (show (0 : Int) < ((d' + 1 : Nat) : Int) by omega)]
            refine ⟨_, rfl, W, 3, N + wc (d' + 1) - 4, rfl, by decide, by decide, w3.mono (by omega), fun H3 r hr s4 w4 => ?_⟩
            refine ⟨rfl, _, rfl, ite2 (fun h => ?_) (fun h => ?_)⟩
            · refine ⟨_, rfl, _, rfl, W, 3, N + wc (d' + 1) - 5, rfl, by decide, by decide, w4.mono (by omega), fun H4 r3 hr3 s5 w5 => ?_⟩
              have ec : wc (d' + 1) = 6 + 3 * wc d' := rfl
              have el : wl (d' + 1) = 14 + 3 * wl d' := rfl
              have hmul : (1 + r3) * wc d' ≤ 3 * wc d' := Nat.mul_le_mul_right _ (by omega)
              have hmul2 : (1 + r3) * wl d' ≤ 3 * wl d' := Nat.mul_le_mul_right _ (by omega)
              refine ⟨_, _, rfl, rfl, _, rfl, _, _, rfl, rfl, W, 1 + r3, d', N, ?_, rfl, by omega, by omega, w5.mono (by omega), fun H5 y s6 w6 hy => ?_⟩
              · show [V.ref W, V.int (1 + (r3 : Int)), V.int (((d' + 1 : Nat) : Int) - 1)] = _
                rw [show (1 + (r3 : Int)) = ((1 + r3 : Nat) : Int) by omega, show (((d' + 1 : Nat) : Int) - 1) = ((d' : Nat) : Int) by omega]
              have hbl := TT.brak_len y
              refine ⟨_, _, rfl, rfl, ?_, _, _, rfl, rfl, ?_, _, rfl, ?_, s6 _ _ pW (s5 _ _ pW (s4 _ _ pW e3)), ((s3.trans s4).trans s5).trans s6, w6⟩
              · have : (Str.ofString "(").length = 1 := by decide +kernel
                exact line100 (by omega)
              · have h1 : (Str.ofString "(").length = 1 := by decide +kernel
                have h2 : (Str.ofString ")").length = 1 := by decide +kernel
                rw [sapp_len]
                exact line100 (by omega)
              · have e2 : (Str.ofString "(" ++ y ++ Str.ofString ")").length = y.length + 2 := hbl
                rw [e2, el]
                have : y.length ≤ 3 * wl d' := Nat.le_trans hy hmul2
                omega
            · exact ⟨Str.ofString "", rfl, by rw [len_empty]; exact b12, s4 _ _ pW e3, s3.trans s4, w4.mono (by omega)⟩
        · rintro σ h ⟨y, rfl, hy, e4, s4, w4⟩
          refine ⟨_, rfl, .inl ⟨rfl, _, .inl (.inl e4)⟩, _, rfl, _, rfl, _, _, rfl, rfl, line100 (by omega), p, _, _, rfl, rfl, e4, ?_, _, _, _, ws ++ [x ++ y], rfl, ?_, ?_, fun z hz => ?_, ?_, ?_⟩
          · rw [List.length_map]
            exact line100' (by omega)
          · rw [upd_same, List.map_append]
            rfl
          · rw [List.length_append, hl]
            rfl
          · rcases List.mem_append.mp hz with hz | hz
            · exact hws z hz
            · rw [List.mem_singleton.mp hz, sapp_len]
              omega
          · exact s4.mut np
          · rw [hN] at w4
            exact w4.upd pW.symm
    · rintro σ H1 ⟨v4, v5, v6, ws, rfl, e1, hl, hws, s1, w1⟩
      have hs := sum_le hws
      have jl := TT.join_len ws
      have cm1 : (Str.ofString ",").length = 1 := by decide +kernel
      have hb : ws.length * wl d ≤ 9 * 164 := Nat.mul_le_mul (by omega) b9
      refine ⟨⟨_, rfl⟩, _, rfl, _, p, ws, rfl, rfl, .inl (.of e1), ?_, ?_⟩
      · rw [cm1]
        exact Nat.le_trans (show _ ≤ 9 * 164 + 9 * 164 by omega) (by decide)
      · refine q H1 _ s1 (w1.mono (by omega)) ?_
        show (Txt.join TT.cm ws).length ≤ _
        rw [← hl]
        omega
end
end T88

set_option maxHeartbeats 4000000
namespace T88
open PySem L2 PyProof.Rows TX TRV
section
variable {P : Program} {w : World} {K : PySem.W.Frag} {mg : Str → Option Value} {base : Heap}
abbrev N_spoilt : List Str := ["_law_well_here", "_law_text_here", "_law_way", "_law_at", "_law_signs", "_law_sign", "_law_two"]
theorem sc_spoilt : FnScope N_spoilt ["_law_well_here", "_law_text_here"] (defScope s_spoilt) := ⟨rfl, rfl, rfl, by decide +kernel, rfl, by decide +kernel, by decide +kernel⟩
def sp_spoilt : Sp := fun vs H Q _ => ∃ (W : Addr) (x : Str) (k : Nat), vs = [.ref W, .str x] ∧ x.length ≤ 10000 ∧ WellAt (k + 4) H W ∧ ∀ (H' : Hp) (y : Str), Sm W H H' → WellAt k H' W → y.length ≤ 3 * x.length + 1 → Q (.str y) H'
theorem ok_spoilt {f fD : Addr} {fd dD : FuncData} (F : Fn K mg "_law_spoilt" s_spoilt ["_law_well_here", "_law_text_here"] f fd) (B : Bn mg) (D : Fn K mg "_law_draw" s_draw ["_law_well_here", "_law_many"] fD dD) :
    FnOk P w K mg base CX0 2 f fd ["_law_well_here", "_law_text_here"] sp_spoilt := by
  have GD : FnOk P w K mg base CX0 1 fD dD ["_law_well_here", "_law_many"] sp_draw := ok_draw D
  refine F.F.ok sc_spoilt (fun vs H Q E h => ?_) (fun cdv A outer s H vs Q E hr h => ?_)
  · obtain ⟨W, x, k, rfl, _⟩ := h
    rfl
  · obtain ⟨W, x, k, rfl, hx, hW, q⟩ := h
    have nd := sc_spoilt.nd
    refine ⟨_, pss_cons (ps_set (i := 2) nd rfl (Or.inl rfl) (pe_call GD hr rfl D.g D.F.kp D.b .nil pass0 (pa_cons (pv 0) (pa_cons pe_int pa_nil))))
      (pss_cons (ps_set (i := 3) nd rfl (Or.inl rfl) (pe_call GD hr rfl D.g D.F.kp D.b .nil pass0 (pa_cons (pv 0) (pa_cons (pe_op op_add (pe_callB call_len_str (by rfl) B.len PySem.boot_len (pa_cons (pv 1) pa_nil)) pe_int) pa_nil))))
      (pss_cons (ps_set (i := 4) nd rfl (Or.inl rfl) (pe_ix ix_list (pe_lst (pa_cons pe_str (pa_cons pe_str (pa_cons (pe_op op_add_str pe_str pe_str) pa_nil)))) (pe_call GD hr rfl D.g D.F.kp D.b .nil pass0 (pa_cons (pv 0) (pa_cons pe_int pa_nil))) (fun _ _ => rfl)))
      (pss_cons (ps_set (i := 5) nd rfl (Or.inl rfl) (pe_ix ix_str (pv 4) (pe_call GD hr rfl D.g D.F.kp D.b .nil pass0 (pa_cons (pv 0) (pa_cons (pe_callB call_len_str (by rfl) B.len PySem.boot_len (pa_cons (pv 4) pa_nil)) pa_nil))) (fun _ _ => rfl)))
      (pss_cons (ps_if (pt_cmpR op_eq (pv 2) pe_int (nomark _)) (pss_one (ps_ret (pe_op op_add_str (pe_op op_add_str (pe_slice sl_str (pv 1) po_none (po_some (pv 3))) (pv 5)) (pe_slice sl_str (pv 1) (po_some (pv 3)) po_none)))) pss_nil)
      (pss_cons (ps_if (pt_cmpR op_eq (pv 2) pe_int (nomark _)) (pss_one (ps_ret (pe_op op_add_str (pe_slice sl_str (pv 1) po_none (po_some (pv 3))) (pe_slice sl_str (pv 1) (po_some (pe_op op_add (pv 3) pe_int)) po_none)))) pss_nil)
      (pss_cons (ps_if (pt_cmpR op_eq (pv 2) pe_int (nomark _)) (pss_one (ps_ret (pe_op op_add_str (pe_op op_add_str (pe_slice sl_str (pv 1) po_none (po_some (pv 3))) (pv 5)) (pe_slice sl_str (pv 1) (po_some (pe_op op_add (pv 3) pe_int)) po_none)))) pss_nil)
      (pss_cons (ps_if (pt_cmpR op_eq (pv 2) pe_int (nomark _)) (pss_cons (ps_set (i := 6) nd rfl (Or.inl rfl) (pe_slice sl_str (pv 1) (po_some (pv 3)) (po_some (pe_op op_add (pv 3) pe_int))))
          (pss_one (ps_ret (pe_op op_add_str (pe_op op_add_str (pe_slice sl_str (pv 1) po_none (po_some (pv 3))) (pe_revS (pv 6))) (pe_slice sl_str (pv 1) (po_some (pe_op op_add (pv 3) pe_int)) po_none))))) pss_nil)
      (pss_cons (ps_if (pt_cmpR op_eq (pv 2) pe_int (nomark _)) (pss_one (ps_ret (pe_slice sl_str (pv 1) po_none (po_some (pv 3))))) pss_nil)
      (pss_one (ps_ret (pv 1))))))))))), ?_⟩
    have hxl : x.length ≤ sizeLine := Nat.le_trans hx (by decide)
    refine ⟨_, rfl, W, 7, k + 3, rfl, by decide, by decide, hW, fun H1 way hway s1 w1 => ?_⟩
    refine ⟨_, rfl, _, rfl, x, rfl, hxl, _, _, rfl, rfl, W, x.length + 1, k + 2, ?_, by omega, by omega, w1, fun H2 at_ hat s2 w2 => ?_⟩
    · show [V.ref W, V.int ((x.length : Int) + 1)] = _
      rw [show ((x.length : Int) + 1) = ((x.length + 1 : Nat) : Int) by omega]
    refine ⟨_, _, rfl, rfl, by decide +kernel, by show 3 ≤ sizeLine; decide, fun p np => ?_⟩
    have ep : upd H2 p (.lst [.str (Str.ofString ",()"), .str (Str.ofString "abcdefghk"), .str (Str.ofString " -0AZ_|~" ++ Str.ofString "\n")]) p = some (.lst [.str (Str.ofString ",()"), .str (Str.ofString "abcdefghk"), .str (Str.ofString " -0AZ_|~" ++ Str.ofString "\n")]) := upd_same
    have w2p := w2.new (o := .lst [.str (Str.ofString ",()"), .str (Str.ofString "abcdefghk"), .str (Str.ofString " -0AZ_|~" ++ Str.ofString "\n")]) np
    have s2p := (s1.trans s2).new (o := .lst [.str (Str.ofString ",()"), .str (Str.ofString "abcdefghk"), .str (Str.ofString " -0AZ_|~" ++ Str.ofString "\n")]) np
    have pW : p ≠ W := (w2.ne np).symm
    generalize upd H2 p (.lst [.str (Str.ofString ",()"), .str (Str.ofString "abcdefghk"), .str (Str.ofString " -0AZ_|~" ++ Str.ofString "\n")]) = H3 at ep w2p s2p ⊢
    refine ⟨_, rfl, W, 3, k + 1, rfl, by decide, by decide, w2p, fun H4 r3 hr3 s4 w4 => ?_⟩
    obtain ⟨sg, hsg, g1, g2⟩ : ∃ sg : Str, atI [V.str (Str.ofString ",()"), .str (Str.ofString "abcdefghk"), .str (Str.ofString " -0AZ_|~" ++ Str.ofString "\n")] (r3 : Int) = some (.str sg) ∧ 0 < sg.length ∧ sg.length ≤ 100 := by
      have : r3 = 0 ∨ r3 = 1 ∨ r3 = 2 := by omega
      rcases this with e | e | e <;> subst e
      · exact ⟨_, rfl, by decide +kernel, by decide +kernel⟩
      · exact ⟨_, rfl, by decide +kernel, by decide +kernel⟩
      · exact ⟨_, rfl, by decide +kernel, by decide +kernel⟩
    refine ⟨p, _, (r3 : Int), .str sg, rfl, rfl, .of (s4 _ _ pW ep), hsg, ?_⟩
    refine ⟨_, rfl, _, rfl, _, rfl, sg, rfl, line100 (by omega), W, sg.length, k, rfl, g1, by omega, w4, fun H5 rs hrs s5 w5 => ?_⟩
    obtain ⟨c, hc⟩ : ∃ c, sg.cps.toList[rs]? = some c := ⟨_, List.getElem?_eq_getElem (by rw [Array.length_toList]; exact hrs)⟩
    refine ⟨_, _, c, rfl, rfl, line100 (by omega), atI_nat hc, ?_⟩
    have fin : ∀ y : Str, y.length ≤ 3 * x.length + 1 → Q (.str y) H5 := fun y hy => q H5 y ((s2p.trans s4).trans s5) w5 hy
    have cl := cutS_length x
    have sz : ∀ n, n ≤ 30001 → n ≤ sizeLine := fun n h => Nat.le_trans h (by decide)
    have c1 : (⟨#[c]⟩ : Str).length = 1 := rfl
    refine ⟨_, rfl, rfl, _, rfl, ite2 (fun h => ?_) (fun h => ?_)⟩
    · have a := cl none (some (at_ : Int))
      have b := cl (some (at_ : Int)) none
      refine ⟨_, rfl, _, rfl, _, rfl, _, rfl, hxl, _, rfl, _, _, rfl, rfl, ?_, _, rfl, _, rfl, _, rfl, _, rfl, hxl, _, _, rfl, rfl, ?_, ?_⟩
      · exact sz _ (by omega)
      · rw [sapp_len]
        exact sz _ (by omega)
      · refine fin _ ?_
        rw [sapp_len, sapp_len]
        omega
    have a := cl none (some (at_ : Int))
    have a1 : ∀ lo hi, (cutS x lo hi).length ≤ x.length := fun lo hi => cutS_length x lo hi
    refine ⟨_, rfl, rfl, _, rfl, ite2 (fun h => ?_) (fun h => ?_)⟩
    · have b := a1 (some ((at_ : Int) + 1)) none
      refine ⟨_, rfl, _, rfl, _, rfl, _, rfl, hxl, _, rfl, _, rfl, _, _, rfl, rfl, _, rfl, _, rfl, hxl, _, _, rfl, rfl, ?_, ?_⟩
      · exact sz _ (by omega)
      · refine fin _ ?_
        rw [sapp_len]
        omega
    refine ⟨_, rfl, rfl, _, rfl, ite2 (fun h => ?_) (fun h => ?_)⟩
    · have b := a1 (some ((at_ : Int) + 1)) none
      refine ⟨_, rfl, _, rfl, _, rfl, _, rfl, hxl, _, rfl, _, _, rfl, rfl, ?_, _, rfl, _, rfl, _, _, rfl, rfl, _, rfl, _, rfl, hxl, _, _, rfl, rfl, ?_, ?_⟩
      · exact sz _ (by omega)
      · rw [sapp_len]
        exact sz _ (by omega)
      · refine fin _ ?_
        rw [sapp_len, sapp_len]
        omega
    refine ⟨_, rfl, rfl, _, rfl, ite2 (fun h => ?_) (fun h => ?_)⟩
    · have b := a1 (some (at_ : Int)) (some ((at_ : Int) + 2))
      have e := a1 (some ((at_ : Int) + 2)) none
      refine ⟨_, rfl, _, rfl, _, rfl, _, rfl, _, _, rfl, rfl, _, rfl, _, rfl, hxl, ?_⟩
      refine ⟨_, rfl, _, rfl, _, rfl, _, rfl, hxl, _, rfl, _, rfl, Nat.le_trans b hxl, fun y hy => ?_⟩
      refine ⟨_, _, rfl, rfl, sz _ (by omega), _, rfl, _, rfl, _, _, rfl, rfl, _, rfl, _, rfl, hxl, _, _, rfl, rfl, ?_, ?_⟩
      · rw [sapp_len]
        exact sz _ (by omega)
      · refine fin _ ?_
        rw [sapp_len, sapp_len]
        omega
    refine ⟨_, rfl, rfl, _, rfl, ite2 (fun h => ?_) (fun h => ?_)⟩
    · exact ⟨_, rfl, _, rfl, _, rfl, _, rfl, hxl, fin _ (by omega)⟩
    exact ⟨_, rfl, fin _ (by omega)⟩
end
end T88

set_option maxHeartbeats 1000000
/-! Things as data: equal to themselves. -/
namespace TD
open PySem L2 PyProof.Rows TX TW
/-- a plain value as data -/
def dV : V → PyData
  | .int i => .int i
  | .bl b => .bool b
  | .str s => .str s
  | _ => .none
theorem Dp_plain {K : PySem.W.Frag} {H : Hp} {v : V} (h : plainV v = true) : Dp K H v (dV v) := by
  cases v with
  | int i => exact .int i
  | bl b => exact .bl b
  | str s => exact .str s
  | non => exact .non
  | _ => cases h
theorem DpAll_plain {K : PySem.W.Frag} {H : Hp} : ∀ {xs : List V}, xs.all plainV = true → DpAll K H xs (xs.map dV)
  | [], _ => .nil
  | x :: r, h => by
    rw [List.all_cons, Bool.and_eq_true] at h
    exact .cons (Dp_plain h.1) (DpAll_plain h.2)
theorem Dp_tup {K : PySem.W.Frag} {H : Hp} {a : Addr} {xs : List V} (h : H a = some (.tup xs)) (p : xs.all plainV = true) : Dp K H (.ref a) (.tuple (xs.map dV)) := .tup (.of h) (DpAll_plain p)
theorem whole_plain {xs : List V} (h : xs.all wholeV = true) : xs.all plainV = true := by
  rw [List.all_eq_true] at h ⊢
  intro x hx
  have := h x hx
  cases x <;> first | rfl | cases this
/-- whole numbers alone -/
theorem can_whole {xs : List V} (h : xs.all wholeV = true) : PyData.canLayAll0 (xs.map dV) = true := by
  induction xs with
  | nil => rfl
  | cons x r ih =>
    rw [List.all_cons, Bool.and_eq_true] at h
    rw [List.map_cons]
    unfold PyData.canLayAll0
    rw [ih h.2]
    cases x <;> first | rfl | cases h.1
theorem dep_plain (xs : List V) : PyData.depthAll (xs.map dV) = 0 := by
  induction xs with
  | nil => rfl
  | cons x r ih =>
    rw [List.map_cons]
    unfold PyData.depthAll
    rw [ih]
    cases x <;> rfl
theorem can_tup {xs : List V} (h : xs.all wholeV = true) : PyData.canLay0 (.tuple (xs.map dV)) = true := by unfold PyData.canLay0; exact can_whole h
theorem dep_tup (xs : List V) : PyData.depth (.tuple (xs.map dV)) = 1 := by unfold PyData.depth; rw [dep_plain]
theorem shaped_of {d : PyData} (h : PyData.canLay0 d = true) (k : PyData.depth d ≤ 64) : SeqAt.shaped d = true := by
  unfold SeqAt.shaped
  rw [h, decide_eq_true k]
  rfl
theorem can2 {a b : PyData} (h : PyData.canLay0 a = true) (k : PyData.canLay0 b = true) : PyData.canLay0 (.tuple [a, b]) = true := by
  unfold PyData.canLay0 PyData.canLayAll0 PyData.canLayAll0 PyData.canLayAll0
  rw [h, k]
  rfl
theorem dep2 (a b : PyData) : PyData.depth (.tuple [a, b]) = 1 + max (PyData.depth a) (PyData.depth b) := by
  show PyData.depthAll [a, b] + 1 = _
  show max (PyData.depth a) (max (PyData.depth b) 0) + 1 = _
  omega
theorem canL {xs : List PyData} (h : ∀ x ∈ xs, PyData.canLay0 x = true) : PyData.canLay0 (.list xs) = true := by
  unfold PyData.canLay0
  induction xs with
  | nil => rfl
  | cons x r ih =>
    unfold PyData.canLayAll0
    rw [h x List.mem_cons_self, ih fun y hy => h y (List.mem_cons_of_mem _ hy)]
    rfl
theorem depL {xs : List PyData} {n : Nat} (h : ∀ x ∈ xs, PyData.depth x ≤ n) : PyData.depth (.list xs) ≤ n + 1 := by
  have : PyData.depthAll xs ≤ n := by
    induction xs with
    | nil => exact Nat.zero_le _
    | cons x r ih =>
      unfold PyData.depthAll
      have h1 := h x List.mem_cons_self
      have h2 := ih fun y hy => h y (List.mem_cons_of_mem _ hy)
      omega
  unfold PyData.depth
  omega
theorem eqv_same {d e : PyData} (h : PyData.canLay0 d = true) (k : d = e) : PyData.eqv d e = true := by
  subst k
  exact SeqAt.eqv_refl d h
end TD

set_option maxHeartbeats 4000000
namespace T88
open PySem L2 PyProof.Rows TX TY TT TPA TE TW TD
section
variable {P : Program} {w : World} {K : PySem.W.Frag} {mg : Str → Option Value} {base : Heap}
variable {fN fC fP fT fO : Addr} {dN dC dP dT dO : FuncData}
theorem tk_sign {s t : RS} {c : Nat} (h : tk s c = some t) : c < 0x110000 := by
  unfold tk at h
  by_cases h1 : 97 ≤ c ∧ c ≤ 122
  · omega
  rw [if_neg h1] at h
  by_cases h2 : c = 44 ∨ (c = 40 ∧ s.cl = false)
  · omega
  rw [if_neg h2] at h
  by_cases h3 : c = 41 ∧ 1 < s.br.length
  · omega
  rw [if_neg h3] at h
  cases h
theorem stop_signs : ∀ (l : List Nat) (s : RS) (n : Nat), stopR l s n = none → ∀ c ∈ l, c < 0x110000
  | [], _, _, _ => fun _ h => nomatch h
  | c :: r, s, n, h => by
    unfold stopR at h
    cases e : tk s c with
    | none => rw [e] at h; cases h
    | some t =>
      rw [e] at h
      intro x hx
      rcases List.mem_cons.mp hx with rfl | hx
      · exact tk_sign e
      · exact stop_signs r t _ h x hx
theorem stop_ok {x : Str} (h : stopX x = none) : PyData.strOk x = true := by
  unfold PyData.strOk
  rw [← Array.all_toList, List.all_eq_true]
  intro c hc
  exact decide_eq_true (stop_signs _ _ _ h c hc)
theorem can3 {a b c : PyData} (h : PyData.canLay0 a = true) (k : PyData.canLay0 b = true) (l : PyData.canLay0 c = true) : PyData.canLay0 (.tuple [a, b, c]) = true := by
  unfold PyData.canLay0 PyData.canLayAll0 PyData.canLayAll0 PyData.canLayAll0 PyData.canLayAll0
  rw [h, k, l]
  rfl
theorem can_int (i : Int) : PyData.canLay0 (.int i) = true := by unfold PyData.canLay0; rfl
theorem can_bl (i : Bool) : PyData.canLay0 (.bool i) = true := by unfold PyData.canLay0; rfl
/-- the statement's defs -/
structure Ld (K : PySem.W.Frag) (mg : Str → Option Value) (gW gD gT gS gP gA gR gH gC : Addr) (eW eD eT eS eP eA eR eH eC : FuncData) : Prop where
  well : Fn K mg "_law_well" s_well ["_law_cell"] gW eW
  draw : Fn K mg "_law_draw" s_draw ["_law_well_here", "_law_many"] gD eD
  txt : Fn K mg "_law_text" s_ltext ["_law_well_here", "_law_many", "_law_deep"] gT eT
  spo : Fn K mg "_law_spoilt" s_spoilt ["_law_well_here", "_law_text_here"] gS eS
  sto : Fn K mg "_law_stop" s_stop ["_law_text_here"] gP eP
  ans : Fn K mg "_law_answer" s_answer ["_law_text_here"] gA eA
  rea : Fn K mg "read_tree" s_read ["text"] gR eR
  sho : Fn K mg "show_tree" s_show ["tree"] gH eH
  chk : Fn K mg "_check_text" s_checkt ["text"] gC eC
variable {Ct C hI hT hE hP hL hN : Addr} {gI gT' gE gP' gL gN : FuncData}
variable {gW gD gT gS gP gA gR gH gC : Addr} {eW eD eT eS eP eA eR eH eC : FuncData}
abbrev N_law : List Str := ["_law_script", "_law_cell", "_law_well_here", "_law_text_here", "_law_one", "_law_at", "_law_due", "_law_odd"]
theorem sc_law : FnScope N_law ["_law_script"] (defScope s_law) := ⟨rfl, rfl, rfl, by decide +kernel, rfl, by decide +kernel, by decide +kernel⟩
def sp_law (K : PySem.W.Frag) : Sp := fun vs H Q _ => ∃ (a : Addr) (ns : List Int), vs = [.ref a] ∧ SqL K H a (ns.map V.int) ∧ ns.length ≤ 63 ∧ ∀ H', Q (.bl true) H'
theorem ok_law {f fI Cx fx Cn : Addr} {fd dI dx : FuncData} (F : Fn K mg "law" s_law ["_law_script"] f fd) (T : Kd K mg fN fC fP fT fO dN dC dP dT dO) (c : Tc K mg Ct) (iF : Fun K "__init__" "Tree.__init__" s_tinit fI dI) (iM : Mk K Ct fI) (iB : Binds K dI ["self", "pairs"] [])
    (R : Rk K mg C hI hT hE hP hL hN gI gT' gE gP' gL gN) (Nx : NtX K mg Cx fx dx) (Ex : Er K mg Cx Cn) {hs hm hk hw : Addr} {gs gm gk gw : FuncData} (MS : Mt K Ct "__str__" "Tree.__str__" s_tstr ["self"] hs gs) (M : Wd K mg Ct hm hk hw gm gk gw)
    (L : Ld K mg gW gD gT gS gP gA gR gH gC eW eD eT eS eP eA eR eH eC) : FnOk P w K mg base CX0 19 f fd ["_law_script"] (sp_law K) := by
  have B := T.B
  have GW : FnOk P w K mg base CX0 1 gW eW ["_law_cell"] sp_well := ok_well L.well
  have GD : FnOk P w K mg base CX0 1 gD eD ["_law_well_here", "_law_many"] sp_draw := ok_draw L.draw
  have GT : FnOk P w K mg base CX0 4 gT eT ["_law_well_here", "_law_many", "_law_deep"] (sp_ltext 3) := ok_ltext L.txt B L.draw 3
  have GS : FnOk P w K mg base CX0 2 gS eS ["_law_well_here", "_law_text_here"] sp_spoilt := ok_spoilt L.spo B L.draw
  have GP : FnOk P w K mg base CX0 1 gP eP ["_law_text_here"] sp_stop := ok_stop L.sto B
  have GA : FnOk P w K mg base CX0 18 gA eA ["_law_text_here"] (sp_answer K) := ok_answer L.ans L.rea L.sho L.chk T c iF iM iB R Nx Ex MS M
  refine F.F.ok sc_law (fun vs H Q E h => ?_) (fun cdv A outer s H vs Q E hr h => ?_)
  · obtain ⟨a, ns, rfl, _⟩ := h
    rfl
  · obtain ⟨a, ns, rfl, hS, hl, q⟩ := h
    have hu := hu_of hr
    have hu64 := hr.units
    have r1 : Room 1 _ := hr.mono (by decide)
    have r2 : Room 2 _ := hr.mono (by decide)
    have r4 : Room 4 _ := hr.mono (by decide)
    have nd := sc_law.nd
    refine ⟨_, pss_cons (ps_for PassesOwn.never rfl (pi_list (pe_op op_cat (pe_lst (pa_cons pe_int pa_nil)) (pe_slice sl_list (pv 0) po_none (po_some pe_int)))) (pg_name (i := 1) nd rfl (Or.inl rfl))
        (pss_cons (ps_set (i := 2) nd rfl (Or.inl rfl) (pe_call GW r1 rfl L.well.g L.well.F.kp L.well.b .nil pass0 (pa_cons (pv 1) pa_nil)))
        (pss_cons (ps_set (i := 3) nd rfl (Or.inl rfl) (pe_call GT r4 rfl L.txt.g L.txt.F.kp L.txt.b .nil pass0 (pa_cons (pv 2) (pa_cons (pe_ix ix_list (pe_lst (pa_cons (pe_call GD r1 rfl L.draw.g L.draw.F.kp L.draw.b .nil pass0 (pa_cons (pv 2) (pa_cons pe_int pa_nil))) (pa_cons pe_int pa_nil)))
            (pe_op op_fdiv (pe_call GD r1 rfl L.draw.g L.draw.F.kp L.draw.b .nil pass0 (pa_cons (pv 2) (pa_cons pe_int pa_nil))) pe_int) (fun _ _ => rfl)) (pa_cons pe_int pa_nil)))))
        (pss_cons (ps_for PassesOwn.never rfl (pi_list (pe_lst (pa_cons (pv 3) (pa_cons (pe_call GS r2 rfl L.spo.g L.spo.F.kp L.spo.b .nil pass0 (pa_cons (pv 2) (pa_cons (pv 3) pa_nil)))
            (pa_cons (pe_call GS r2 rfl L.spo.g L.spo.F.kp L.spo.b .nil pass0 (pa_cons (pv 2) (pa_cons (pv 3) pa_nil)))
            (pa_cons (pe_op op_add_str (pv 3) pe_str) (pa_cons (pe_op op_add_str (pv 3) pe_str) (pa_cons (pe_op op_add_str (pv 3) pe_str) pa_nil)))))))) (pg_name (i := 4) nd rfl (Or.inl rfl))
          (pss_cons (ps_set (i := 5) nd rfl (Or.inl rfl) (pe_call GP r1 rfl L.sto.g L.sto.F.kp L.sto.b .nil pass0 (pa_cons (pv 4) pa_nil)))
          (pss_cons (ps_set (i := 6) nd rfl (Or.inl rfl) (pe_tup (pa_cons pe_str (pa_cons (pv 5) (pa_cons pe_bl pa_nil)))))
          (pss_cons (ps_if (pt_cmpR op_isN (pv 5) pe_non rfl) (pss_one (ps_set (i := 6) nd rfl (Or.inl rfl) (pe_tup (pa_cons pe_str (pa_cons (pv 4) pa_nil))))) pss_nil)
          (pss_one (ps_if (pt_cmpR (op_neD hu64) (pe_call GA hr rfl L.ans.g L.ans.F.kp L.ans.b .nil pass0 (pa_cons (pv 4) pa_nil)) (pv 6) (nomark _)) (pss_one (ps_ret pe_bl)) pss_nil))))))
        (pss_cons (ps_set (i := 7) nd rfl (Or.inl rfl) (pe_ix ix_list (pe_lst (pa_cons pe_non (pa_cons pe_int (pa_cons (pe_lst (pa_cons pe_str pa_nil)) (pa_cons (pe_tup (pa_cons pe_str pa_nil)) (pa_cons pe_bl (pa_cons pe_dnewK pa_nil)))))))
            (pe_call GD r1 rfl L.draw.g L.draw.F.kp L.draw.b .nil pass0 (pa_cons (pv 2) (pa_cons pe_int pa_nil))) (fun _ _ => rfl)))
        (pss_one (ps_if (pt_cmpR (op_neD hu64) (pe_call GA hr rfl L.ans.g L.ans.F.kp L.ans.b .nil pass0 (pa_cons (pv 7) pa_nil)) (pe_tup (pa_cons pe_str (pa_cons (pe_un un_neg pe_int) (pa_cons pe_bl pa_nil)))) (nomark _)) (pss_one (ps_ret pe_bl)) pss_nil)))))))
      (pss_one (ps_ret pe_bl)), ?_⟩
    refine ⟨by decide, fun p1 n1 => ?_⟩
    have hS1 : SqL K (upd H p1 (.lst [.int 0])) a (ns.map V.int) := (Same.new n1).seq hS
    refine ⟨_, rfl, _, rfl, a, _, rfl, hS1, fun p2 n2 => ?_⟩
    obtain ⟨ms, ems, lms⟩ : ∃ ms : List Int, cutV (ns.map V.int) none (some 16) = ms.map V.int ∧ ms.length ≤ 16 := by
      refine ⟨(ns.drop (HT.sIx ns.length 0 none)).take (HT.sIx ns.length ns.length (some 16) - HT.sIx ns.length 0 none), ?_, ?_⟩
      · unfold cutV
        rw [List.length_map, List.map_take, List.map_drop]
      · rw [List.length_take, HT.sIx_none, show (some (16 : Int)) = some ((16 : Nat) : Int) from rfl, HT.sIx_nat]
        omega
    have e1 : upd (upd H p1 (.lst [.int 0])) p2 (.lst (cutV (ns.map V.int) none (some 16))) p1 = some (.lst [.int 0]) := by rw [upd_ne (ne_of_none upd_same n2)]; exact upd_same
    refine ⟨p1, p2, _, _, rfl, rfl, e1, upd_same, ?_, fun p3 n3 => ?_⟩
    · rw [ems, List.length_map]
      show 1 + _ ≤ sizeLine
      exact line100 (by omega)
    rw [ems] at n3 ⊢
    have e3 : upd (upd (upd H p1 (.lst [.int 0])) p2 (.lst (ms.map V.int))) p3 (.lst ([V.int 0] ++ ms.map V.int)) p3 = some (.lst ((0 :: ms).map V.int)) := upd_same
    generalize upd (upd (upd H p1 (.lst [.int 0])) p2 (.lst (ms.map V.int))) p3 (.lst ([V.int 0] ++ ms.map V.int)) = H3 at e3 ⊢
    refine ⟨p3, rfl, ⟨_, .of e3⟩, ?_⟩
    refine for_it (walk_list (xs := (0 :: ms).map V.int)) (fun i σ h => ∃ (v1 v2 v3 v4 v5 v6 v7 : Option V), σ = [some (.ref a), v1, v2, v3, v4, v5, v6, v7] ∧ h p3 = some (.lst ((0 :: ms).map V.int)))
      ⟨none, none, none, none, none, none, none, rfl, e3⟩ (fun i σ h _ ⟨_, _, _, _, _, _, _, _, z⟩ => .of z) ?_ ?_
    · rintro i x σ h h' hi ⟨v1, v2, v3, v4, v5, v6, v7, rfl, e4⟩ ⟨rfl, hx⟩
      rw [List.length_map] at hi
      obtain ⟨cell, rfl⟩ : ∃ c : Int, x = V.int c := by
        rw [List.getElem?_map, List.getElem?_eq_getElem hi] at hx
        exact ⟨_, (Option.some.inj hx).symm⟩
      -- the text
      refine ⟨_, rfl, cell, rfl, fun H1 W s1 nW wW => ?_⟩
      have sold : ∀ {Hx : Hp}, Sm W H1 Hx → Same h' Hx := fun sm b o eb => sm b o (ne_of_none eb nW) (s1 _ _ eb)
      refine ⟨_, rfl, _, rfl, W, 4, 99999, rfl, by decide, by decide, wW, fun H2 d1 hd1 s2 w2 => ?_⟩
      refine ⟨two_le, fun Z nZ => ?_⟩
      have eZ : upd H2 Z (.lst [.int (d1 : Int), .int 9]) Z = some (.lst [.int (d1 : Int), .int 9]) := upd_same
      have w2' := w2.new (o := .lst [.int (d1 : Int), .int 9]) nZ
      have s2' := s2.new (o := .lst [.int (d1 : Int), .int 9]) nZ
      have ZW : Z ≠ W := (w2.ne nZ).symm
      generalize upd H2 Z (.lst [.int (d1 : Int), .int 9]) = H2' at eZ w2' s2' ⊢
      refine ⟨_, rfl, W, 5, 99998, rfl, by decide, by decide, w2', fun H3 d2 hd2 s3 w3 => ?_⟩
      have eZ3 := s3 _ _ ZW eZ
      obtain ⟨m, hm, em⟩ : ∃ m : Nat, m ≤ 9 ∧ atI [V.int (d1 : Int), V.int 9] ((d2 : Int) / 4) = some (.int (m : Int)) := by
        have : d2 / 4 = 0 ∨ d2 / 4 = 1 := by omega
        rw [show ((d2 : Int) / 4) = ((d2 / 4 : Nat) : Int) by omega]
        rcases this with e | e <;> rw [e]
        · exact ⟨d1, by omega, rfl⟩
        · exact ⟨9, by decide, rfl⟩
      refine ⟨_, _, rfl, rfl, by constructor <;> omega, Z, _, _, _, rfl, rfl, .of eZ3, em, ?_⟩
      refine ⟨W, m, 2, 90000, rfl, rfl, hm, by decide, w3.mono (by show 90000 + m * 78 ≤ 99998; omega), fun H4 x s4 w4 hx => ?_⟩
      have xl : x.length ≤ 1476 := by
        have hx : x.length ≤ m * 164 := hx
        omega
      have big : 100000 ≤ sizeLine := by decide
      -- the texts
      refine ⟨_, rfl, _, rfl, _, rfl, W, x, 80000, rfl, by omega, w4.mono (by decide), fun H5 y1 s5 w5 ly1 => ?_⟩
      refine ⟨_, rfl, _, rfl, W, x, 70000, rfl, by omega, w5.mono (by decide), fun H6 y2 s6 w6 ly2 => ?_⟩
      have l1 : (Str.ofString ",").length = 1 := rfl
      have l2 : (Str.ofString "(a").length = 2 := rfl
      have l3 : (Str.ofString ")").length = 1 := rfl
      refine ⟨_, rfl, _, _, rfl, rfl, by rw [l1]; omega, _, rfl, _, _, rfl, rfl, by rw [l2]; omega, _, rfl, _, _, rfl, rfl, by rw [l3]; omega, ?_⟩
      refine ⟨by show 6 ≤ sizeLine; decide, fun O nO => ?_⟩
      have eO : upd H6 O (.lst [.str x, .str y1, .str y2, .str (x ++ Str.ofString ","), .str (x ++ Str.ofString "(a"), .str (x ++ Str.ofString ")")]) O = some (.lst ([x, y1, y2, x ++ Str.ofString ",", x ++ Str.ofString "(a", x ++ Str.ofString ")"].map V.str)) := upd_same
      have w7 := w6.new (o := .lst [.str x, .str y1, .str y2, .str (x ++ Str.ofString ","), .str (x ++ Str.ofString "(a"), .str (x ++ Str.ofString ")")]) nO
      have s7 := s6.new (o := .lst [.str x, .str y1, .str y2, .str (x ++ Str.ofString ","), .str (x ++ Str.ofString "(a"), .str (x ++ Str.ofString ")")]) nO
      have lo : ∀ z ∈ [x, y1, y2, x ++ Str.ofString ",", x ++ Str.ofString "(a", x ++ Str.ofString ")"], z.length ≤ 100000 := by
        have la : ∀ u v : Str, (u ++ v).length = u.length + v.length := fun u v => Array.size_append
        intro z hz
        simp only [List.mem_cons, List.not_mem_nil, or_false] at hz
        rcases hz with rfl | rfl | rfl | rfl | rfl | rfl
        · omega
        · omega
        · omega
        · rw [la, l1]; omega
        · rw [la, l2]; omega
        · rw [la, l3]; omega
      generalize [x, y1, y2, x ++ Str.ofString ",", x ++ Str.ofString "(a", x ++ Str.ofString ")"] = ones at eO lo
      generalize upd H6 O (.lst [.str x, .str y1, .str y2, .str (x ++ Str.ofString ","), .str (x ++ Str.ofString "(a"), .str (x ++ Str.ofString ")")]) = H7 at eO w7 s7 ⊢
      have e47 : H7 p3 = some (.lst ((0 :: ms).map V.int)) := sold (((s2'.trans s3).trans (s4.trans s5)).trans s7) _ _ e4
      refine ⟨O, rfl, ⟨_, .of eO⟩, ?_⟩
      refine for_it (walk_list (xs := ones.map V.str)) (fun k σ h => ∃ (w4 w5 w6 w7 : Option V), σ = [some (.ref a), some (.int cell), some (.ref W), some (.str x), w4, w5, w6, w7] ∧ Same H7 h)
        ⟨_, _, _, _, rfl, same_rfl⟩ (fun k σ h _ ⟨_, _, _, _, _, sz⟩ => .of (sz _ _ eO)) ?_ ?_
      · rintro k z σ h1 h2 hk ⟨u4, u5, u6, u7, rfl, sk⟩ ⟨rfl, hz⟩
        rw [List.length_map] at hk
        obtain ⟨y, hy, rfl⟩ : ∃ y, y ∈ ones ∧ z = V.str y := by
          rw [List.getElem?_map, List.getElem?_eq_getElem hk] at hz
          exact ⟨_, List.getElem_mem hk, (Option.some.inj hz).symm⟩
        have ly := lo y hy
        refine ⟨_, rfl, y, rfl, ly, fun h3 s3' => ?_⟩
        refine ⟨_, rfl, by show 3 ≤ sizeLine; decide, fun T1 nT1 => ?_⟩
        have s4' : Same h2 (upd h3 T1 (.tup [.str "refused", optN (stopX y), .bl false])) := s3'.trans (Same.new nT1)
        have e4' : upd h3 T1 (.tup [.str "refused", optN (stopX y), .bl false]) T1 = some (.tup [.str "refused", optN (stopX y), .bl false]) := upd_same
        have s4' := sk.trans s4'
        refine ⟨_, rfl, rfl, _, rfl, ?_⟩
        generalize upd h3 T1 (.tup [.str "refused", optN (stopX y), .bl false]) = h4 at s4' e4' ⊢
        cases he : stopX y with
        | none =>
          refine ⟨_, rfl, two_le, fun T2 nT2 => ?_⟩
          refine ⟨_, rfl, .str y, "str", true, rfl, .str y, by decide +kernel, (fun z => nomatch z), fun _ => ⟨y, rfl, ly, fun _ h5 T s5 e5 => ?_, fun i z => by rw [he] at z; cases z⟩⟩
          have e6 : h5 T2 = some (.tup [.str "read", .str y]) := s5 _ _ upd_same
          have cl : PyData.canLay0 (.tuple [.str "read", .str y]) = true := can2 (by decide +kernel) (stop_ok he)
          have sh : SeqAt.shaped (.tuple [.str "read", .str y]) = true := shaped_of cl (by show 1 ≤ 64; decide)
          refine ⟨_, rfl, _, _, Dp_tup e5 rfl, Dp_tup e6 rfl, sh, sh, _, rfl, ?_⟩
          rw [eqv_same (d := .tuple ([V.str "read", V.str y].map dV)) cl rfl]
          exact ⟨_, _, _, _, rfl, s4'.trans ((Same.new nT2).trans s5)⟩
        | some i =>
          refine ⟨_, rfl, .str y, "str", true, rfl, .str y, by decide +kernel, (fun z => nomatch z), fun _ => ⟨y, rfl, ly, (fun z => by rw [he] at z; cases z), fun j z h5 T s5 e5 => ?_⟩⟩
          rw [he] at z e4'
          obtain rfl := Option.some.inj z
          have e6 : h5 T1 = some (.tup [.str "refused", .int (i : Int), .bl false]) := s5 _ _ e4'
          have cl : PyData.canLay0 (.tuple [.str "refused", .int (i : Int), .bool false]) = true := can3 (by decide +kernel) (can_int _) (can_bl _)
          have sh : SeqAt.shaped (.tuple [.str "refused", .int (i : Int), .bool false]) = true := shaped_of cl (by show 1 ≤ 64; decide)
          refine ⟨_, rfl, _, _, Dp_tup e5 rfl, Dp_tup e6 rfl, sh, sh, _, rfl, ?_⟩
          rw [eqv_same (d := .tuple ([V.str "refused", V.int (i : Int), V.bl false].map dV)) cl rfl]
          exact ⟨_, _, _, _, rfl, s4'.trans s5⟩
      · rintro σ h1 ⟨u4, u5, u6, u7, rfl, sk⟩
        have w8 := w7.same sk
        refine ⟨by show 1 ≤ sizeLine; decide, fun o1 n1 => ⟨by show 1 ≤ sizeLine; decide, fun o2 n2 => ?_⟩⟩
        refine fun o3 n3 => ⟨by show 6 ≤ sizeLine; decide, fun O2 nO2 => ?_⟩
        have k1 : upd h1 o1 (.lst [.str "a"]) o1 = some (.lst [.str "a"]) := upd_same
        have m1 : Same h1 (upd h1 o1 (.lst [.str "a"])) := Same.new n1
        generalize upd h1 o1 (.lst [.str "a"]) = g1 at k1 m1 n2 n3 nO2 ⊢
        have k2 : upd g1 o2 (.tup [.str "a"]) o2 = some (.tup [.str "a"]) := upd_same
        have m2 : Same g1 (upd g1 o2 (.tup [.str "a"])) := Same.new n2
        generalize upd g1 o2 (.tup [.str "a"]) = g2 at k2 m2 n3 nO2 ⊢
        have k3 : upd g2 o3 (.dK []) o3 = some (.dK []) := upd_same
        have m3 : Same g2 (upd g2 o3 (.dK [])) := Same.new n3
        generalize upd g2 o3 (.dK []) = g3 at k3 m3 nO2 ⊢
        have k4 : upd g3 O2 (.lst [.non, .int 7, .ref o1, .ref o2, .bl true, .ref o3]) O2 = some (.lst [.non, .int 7, .ref o1, .ref o2, .bl true, .ref o3]) := upd_same
        have m4 : Same g3 (upd g3 O2 (.lst [.non, .int 7, .ref o1, .ref o2, .bl true, .ref o3])) := Same.new nO2
        have nn1 : W ≠ o1 := w8.ne n1
        have nn2 : W ≠ o2 := (w8.same m1).ne n2
        have nn3 : W ≠ o3 := (w8.same (m1.trans m2)).ne n3
        have nn4 : W ≠ O2 := (w8.same ((m1.trans m2).trans m3)).ne nO2
        have w9 := w8.same (((m1.trans m2).trans m3).trans m4)
        have m14 := ((m1.trans m2).trans m3).trans m4
        have k1' := ((m2.trans m3).trans m4) _ _ k1
        have k2' := (m3.trans m4) _ _ k2
        have k3' := m4 _ _ k3
        generalize upd g3 O2 (.lst [.non, .int 7, .ref o1, .ref o2, .bl true, .ref o3]) = g4 at k4 m14 w9 k1' k2' k3' ⊢
        refine ⟨_, rfl, W, 6, 60000, rfl, by decide, by decide, w9.mono (by decide), fun g5 r hr5 s9 w10 => ?_⟩
        have q1 := s9 _ _ nn1.symm k1'
        have q2 := s9 _ _ nn2.symm k2'
        have q3 := s9 _ _ nn3.symm k3'
        have q4 := s9 _ _ nn4.symm k4
        have fin3 : ∀ g, Same g5 g → g p3 = some (.lst ((0 :: ms).map V.int)) := fun g s => s _ _ (((Sm.of (W := W) (sk.trans m14)).trans s9) _ _ (ne_of_none e4 nW) e47)
        obtain ⟨v, t, hat, hty, hk⟩ : ∃ v t, atI [V.non, .int 7, .ref o1, .ref o2, .bl true, .ref o3] (r : Int) = some v ∧ TyOf K g5 v (.type t) ∧ kitB t "str" = some false := by
          match r, hr5 with
          | 0, _ => exact ⟨_, "NoneType", rfl, .non, by decide +kernel⟩
          | 1, _ => exact ⟨_, "int", rfl, .int _, by decide +kernel⟩
          | 2, _ => exact ⟨_, "list", rfl, .lst q1, by decide +kernel⟩
          | 3, _ => exact ⟨_, "tuple", rfl, .tup q2, by decide +kernel⟩
          | 4, _ => exact ⟨_, "bool", rfl, .bl _, by decide +kernel⟩
          | 5, _ => exact ⟨_, "dict", rfl, .dK q3, by decide +kernel⟩
          | n + 6, z => exact absurd z (by omega)
        refine ⟨O2, _, _, _, rfl, rfl, .of q4, hat, ?_⟩
        refine ⟨_, rfl, v, t, false, rfl, hty, hk, fun _ g6 T s10 eT => ?_, fun z => nomatch z⟩
        refine ⟨_, rfl, by show 3 ≤ sizeLine; decide, fun T2 nT2 => ?_⟩
        have cl : PyData.canLay0 (.tuple [.str "refused", .int (-1), .bool false]) = true := can3 (by decide +kernel) (can_int _) (can_bl _)
        have sh : SeqAt.shaped (.tuple [.str "refused", .int (-1), .bool false]) = true := shaped_of cl (by show 1 ≤ 64; decide)
        refine ⟨_, _, Dp_tup ((Same.new nT2) _ _ eT) rfl, Dp_tup upd_same rfl, sh, sh, _, rfl, ?_⟩
        rw [eqv_same (d := .tuple ([V.str "refused", V.int (-1), V.bl false].map dV)) cl rfl]
        exact ⟨_, _, _, _, _, _, _, rfl, fin3 _ (s10.trans (Same.new nT2))⟩
    · rintro σ h ⟨v1, v2, v3, v4, v5, v6, v7, rfl, e4⟩
      exact q h
end
end T88

set_option maxHeartbeats 4000000
namespace T88
open PySem L2 PyProof.Rows TX TY TT TPA TE TW TD
theorem all_mk {l : PySem.W.OpenLaw} {w : World} {K : PySem.W.Frag} {h : Heap} {mg : Str → Option Value} {fa f_is_name f_is_name_in f__told_overs f__is_pair f__in_order f__written f_show_tree f_read_tree f__check_text f__law_well f__law_draw f__law_text f__law_spoilt f__law_stop f__law_answer f_law c_Tree f_Tree___init__ f_Tree_check_column f_Tree___str__ c_TreeReader f_TreeReader___init__ f_TreeReader_takes f_TreeReader_ends f_TreeReader_pairs f_TreeReader__takes_letter f_TreeReader__ends_name f_Tree_children d_Tree_children c_FoldError c_NoText c_NoTree f_NoText___init__ : Addr} (X : K.In h) (G : h.Ns mainGlobals mg) (hfa : mg "law" = some (.ref fa))
    {od1 an1 : Option Addr} {sl1 : Array (Option Value)} {oc1 kV1 dc1 pm1 cd1 ct1 : Value}
    {od2 an2 : Option Addr} {sl2 : Array (Option Value)} {oc2 kV2 dc2 pm2 cd2 ct2 : Value}
    {od3 an3 : Option Addr} {sl3 : Array (Option Value)} {oc3 kV3 dc3 pm3 cd3 ct3 : Value}
    {od4 an4 : Option Addr} {sl4 : Array (Option Value)} {oc4 kV4 dc4 pm4 cd4 ct4 : Value}
    {od5 an5 : Option Addr} {sl5 : Array (Option Value)} {oc5 kV5 dc5 pm5 cd5 ct5 : Value}
    {od6 an6 : Option Addr} {sl6 : Array (Option Value)} {oc6 kV6 dc6 pm6 cd6 ct6 : Value}
    {od7 an7 : Option Addr} {sl7 : Array (Option Value)} {oc7 kV7 dc7 pm7 cd7 ct7 : Value}
    {od8 an8 : Option Addr} {sl8 : Array (Option Value)} {oc8 kV8 dc8 pm8 cd8 ct8 : Value}
    {od9 an9 : Option Addr} {sl9 : Array (Option Value)} {oc9 kV9 dc9 pm9 cd9 ct9 : Value}
    {od10 an10 : Option Addr} {sl10 : Array (Option Value)} {oc10 kV10 dc10 pm10 cd10 ct10 : Value}
    {od11 an11 : Option Addr} {sl11 : Array (Option Value)} {oc11 kV11 dc11 pm11 cd11 ct11 : Value}
    {od12 an12 : Option Addr} {sl12 : Array (Option Value)} {oc12 kV12 dc12 pm12 cd12 ct12 : Value}
    {od13 an13 : Option Addr} {sl13 : Array (Option Value)} {oc13 kV13 dc13 pm13 cd13 ct13 : Value}
    {od14 an14 : Option Addr} {sl14 : Array (Option Value)} {oc14 kV14 dc14 pm14 cd14 ct14 : Value}
    {od15 an15 : Option Addr} {sl15 : Array (Option Value)} {oc15 kV15 dc15 pm15 cd15 ct15 : Value}
    {od16 an16 : Option Addr} {sl16 : Array (Option Value)} {oc16 kV16 dc16 pm16 cd16 ct16 : Value}
    {od17 an17 : Option Addr} {sl17 : Array (Option Value)} {oc17 kV17 dc17 pm17 cd17 ct17 : Value}
    {od18 an18 : Option Addr} {sl18 : Array (Option Value)} {oc18 kV18 dc18 pm18 cd18 ct18 : Value}
    {od19 an19 : Option Addr} {sl19 : Array (Option Value)} {oc19 kV19 dc19 pm19 cd19 ct19 : Value}
    {od20 an20 : Option Addr} {sl20 : Array (Option Value)} {oc20 kV20 dc20 pm20 cd20 ct20 : Value}
    {od21 an21 : Option Addr} {sl21 : Array (Option Value)} {oc21 kV21 dc21 pm21 cd21 ct21 : Value}
    {od22 an22 : Option Addr} {sl22 : Array (Option Value)} {oc22 kV22 dc22 pm22 cd22 ct22 : Value}
    {od23 an23 : Option Addr} {sl23 : Array (Option Value)} {oc23 kV23 dc23 pm23 cd23 ct23 : Value}
    {od24 an24 : Option Addr} {sl24 : Array (Option Value)} {oc24 kV24 dc24 pm24 cd24 ct24 : Value}
    {od25 an25 : Option Addr} {sl25 : Array (Option Value)} {oc25 kV25 dc25 pm25 cd25 ct25 : Value}
    {od26 an26 dd26 : Option Addr} {sl26 ds26 : Array (Option Value)} {oc26 kV26 dc26 pm26 cd26 ct26 do26 : Value} {dn26 : Nat}
    {od27 an27 : Option Addr} {sl27 : Array (Option Value)} {oc27 kV27 dc27 pm27 cd27 ct27 : Value}
    {t_longest : Tok}
    {t_most : Tok}
    (a_is_name : PySem.W.nsIn K mainGlobals "is_name" = some (some (.ref f_is_name)))
    (l_is_name : K.lookup f_is_name = some ⟨oc1, od1, .func (PySem.W.fnOf "is_name" "is_name" (defArgs s_is_name) (defBody s_is_name) (defScope s_is_name) .none kV1 dc1 pm1 an1 cd1 ct1), sl1⟩)
    (o_is_name : PySem.W.codeIn K cd1 "is_name" = true)
    (k_is_name : PySem.W.keepIn K (.ref f_is_name) = true)
    (a_is_name_in : PySem.W.nsIn K mainGlobals "is_name_in" = some (some (.ref f_is_name_in)))
    (l_is_name_in : K.lookup f_is_name_in = some ⟨oc2, od2, .func (PySem.W.fnOf "is_name_in" "is_name_in" (defArgs s_is_name_in) (defBody s_is_name_in) (defScope s_is_name_in) .none kV2 dc2 pm2 an2 cd2 ct2), sl2⟩)
    (o_is_name_in : PySem.W.codeIn K cd2 "is_name_in" = true)
    (k_is_name_in : PySem.W.keepIn K (.ref f_is_name_in) = true)
    (a__told_overs : PySem.W.nsIn K mainGlobals "_told_overs" = some (some (.ref f__told_overs)))
    (l__told_overs : K.lookup f__told_overs = some ⟨oc3, od3, .func (PySem.W.fnOf "_told_overs" "_told_overs" (defArgs s_told) (defBody s_told) (defScope s_told) .none kV3 dc3 pm3 an3 cd3 ct3), sl3⟩)
    (o__told_overs : PySem.W.codeIn K cd3 "_told_overs" = true)
    (k__told_overs : PySem.W.keepIn K (.ref f__told_overs) = true)
    (a__is_pair : PySem.W.nsIn K mainGlobals "_is_pair" = some (some (.ref f__is_pair)))
    (l__is_pair : K.lookup f__is_pair = some ⟨oc4, od4, .func (PySem.W.fnOf "_is_pair" "_is_pair" (defArgs s_is_pair) (defBody s_is_pair) (defScope s_is_pair) .none kV4 dc4 pm4 an4 cd4 ct4), sl4⟩)
    (o__is_pair : PySem.W.codeIn K cd4 "_is_pair" = true)
    (k__is_pair : PySem.W.keepIn K (.ref f__is_pair) = true)
    (a__in_order : PySem.W.nsIn K mainGlobals "_in_order" = some (some (.ref f__in_order)))
    (l__in_order : K.lookup f__in_order = some ⟨oc5, od5, .func (PySem.W.fnOf "_in_order" "_in_order" (defArgs s_in_order) (defBody s_in_order) (defScope s_in_order) .none kV5 dc5 pm5 an5 cd5 ct5), sl5⟩)
    (o__in_order : PySem.W.codeIn K cd5 "_in_order" = true)
    (k__in_order : PySem.W.keepIn K (.ref f__in_order) = true)
    (a__written : PySem.W.nsIn K mainGlobals "_written" = some (some (.ref f__written)))
    (l__written : K.lookup f__written = some ⟨oc6, od6, .func (PySem.W.fnOf "_written" "_written" (defArgs s_written) (defBody s_written) (defScope s_written) .none kV6 dc6 pm6 an6 cd6 ct6), sl6⟩)
    (o__written : PySem.W.codeIn K cd6 "_written" = true)
    (k__written : PySem.W.keepIn K (.ref f__written) = true)
    (a_show_tree : PySem.W.nsIn K mainGlobals "show_tree" = some (some (.ref f_show_tree)))
    (l_show_tree : K.lookup f_show_tree = some ⟨oc7, od7, .func (PySem.W.fnOf "show_tree" "show_tree" (defArgs s_show) (defBody s_show) (defScope s_show) .none kV7 dc7 pm7 an7 cd7 ct7), sl7⟩)
    (o_show_tree : PySem.W.codeIn K cd7 "show_tree" = true)
    (k_show_tree : PySem.W.keepIn K (.ref f_show_tree) = true)
    (a_read_tree : PySem.W.nsIn K mainGlobals "read_tree" = some (some (.ref f_read_tree)))
    (l_read_tree : K.lookup f_read_tree = some ⟨oc8, od8, .func (PySem.W.fnOf "read_tree" "read_tree" (defArgs s_read) (defBody s_read) (defScope s_read) .none kV8 dc8 pm8 an8 cd8 ct8), sl8⟩)
    (o_read_tree : PySem.W.codeIn K cd8 "read_tree" = true)
    (k_read_tree : PySem.W.keepIn K (.ref f_read_tree) = true)
    (a__check_text : PySem.W.nsIn K mainGlobals "_check_text" = some (some (.ref f__check_text)))
    (l__check_text : K.lookup f__check_text = some ⟨oc9, od9, .func (PySem.W.fnOf "_check_text" "_check_text" (defArgs s_checkt) (defBody s_checkt) (defScope s_checkt) .none kV9 dc9 pm9 an9 cd9 ct9), sl9⟩)
    (o__check_text : PySem.W.codeIn K cd9 "_check_text" = true)
    (k__check_text : PySem.W.keepIn K (.ref f__check_text) = true)
    (a__law_well : PySem.W.nsIn K mainGlobals "_law_well" = some (some (.ref f__law_well)))
    (l__law_well : K.lookup f__law_well = some ⟨oc10, od10, .func (PySem.W.fnOf "_law_well" "_law_well" (defArgs s_well) (defBody s_well) (defScope s_well) .none kV10 dc10 pm10 an10 cd10 ct10), sl10⟩)
    (o__law_well : PySem.W.codeIn K cd10 "_law_well" = true)
    (k__law_well : PySem.W.keepIn K (.ref f__law_well) = true)
    (a__law_draw : PySem.W.nsIn K mainGlobals "_law_draw" = some (some (.ref f__law_draw)))
    (l__law_draw : K.lookup f__law_draw = some ⟨oc11, od11, .func (PySem.W.fnOf "_law_draw" "_law_draw" (defArgs s_draw) (defBody s_draw) (defScope s_draw) .none kV11 dc11 pm11 an11 cd11 ct11), sl11⟩)
    (o__law_draw : PySem.W.codeIn K cd11 "_law_draw" = true)
    (k__law_draw : PySem.W.keepIn K (.ref f__law_draw) = true)
    (a__law_text : PySem.W.nsIn K mainGlobals "_law_text" = some (some (.ref f__law_text)))
    (l__law_text : K.lookup f__law_text = some ⟨oc12, od12, .func (PySem.W.fnOf "_law_text" "_law_text" (defArgs s_ltext) (defBody s_ltext) (defScope s_ltext) .none kV12 dc12 pm12 an12 cd12 ct12), sl12⟩)
    (o__law_text : PySem.W.codeIn K cd12 "_law_text" = true)
    (k__law_text : PySem.W.keepIn K (.ref f__law_text) = true)
    (a__law_spoilt : PySem.W.nsIn K mainGlobals "_law_spoilt" = some (some (.ref f__law_spoilt)))
    (l__law_spoilt : K.lookup f__law_spoilt = some ⟨oc13, od13, .func (PySem.W.fnOf "_law_spoilt" "_law_spoilt" (defArgs s_spoilt) (defBody s_spoilt) (defScope s_spoilt) .none kV13 dc13 pm13 an13 cd13 ct13), sl13⟩)
    (o__law_spoilt : PySem.W.codeIn K cd13 "_law_spoilt" = true)
    (k__law_spoilt : PySem.W.keepIn K (.ref f__law_spoilt) = true)
    (a__law_stop : PySem.W.nsIn K mainGlobals "_law_stop" = some (some (.ref f__law_stop)))
    (l__law_stop : K.lookup f__law_stop = some ⟨oc14, od14, .func (PySem.W.fnOf "_law_stop" "_law_stop" (defArgs s_stop) (defBody s_stop) (defScope s_stop) .none kV14 dc14 pm14 an14 cd14 ct14), sl14⟩)
    (o__law_stop : PySem.W.codeIn K cd14 "_law_stop" = true)
    (k__law_stop : PySem.W.keepIn K (.ref f__law_stop) = true)
    (a__law_answer : PySem.W.nsIn K mainGlobals "_law_answer" = some (some (.ref f__law_answer)))
    (l__law_answer : K.lookup f__law_answer = some ⟨oc15, od15, .func (PySem.W.fnOf "_law_answer" "_law_answer" (defArgs s_answer) (defBody s_answer) (defScope s_answer) .none kV15 dc15 pm15 an15 cd15 ct15), sl15⟩)
    (o__law_answer : PySem.W.codeIn K cd15 "_law_answer" = true)
    (k__law_answer : PySem.W.keepIn K (.ref f__law_answer) = true)
    (a_law : PySem.W.nsIn K mainGlobals "law" = some (some (.ref f_law)))
    (l_law : K.lookup f_law = some ⟨oc16, od16, .func (PySem.W.fnOf "law" "law" (defArgs s_law) (defBody s_law) (defScope s_law) .none kV16 dc16 pm16 an16 cd16 ct16), sl16⟩)
    (o_law : PySem.W.codeIn K cd16 "law" = true)
    (k_law : PySem.W.keepIn K (.ref f_law) = true)
    (a_Tree : PySem.W.nsIn K mainGlobals "Tree" = some (some (.ref c_Tree)))
    (a_Tree___init__ : PySem.W.findIn K (.ref c_Tree) "__init__" = some (some (.ref f_Tree___init__)))
    (i_Tree___init__ : PySem.W.isFn K (.ref f_Tree___init__) = true)
    (l_Tree___init__ : K.lookup f_Tree___init__ = some ⟨oc17, od17, .func (PySem.W.fnOf "__init__" "Tree.__init__" (defArgs s_tinit) (defBody s_tinit) (defScope s_tinit) .none kV17 dc17 pm17 an17 cd17 ct17), sl17⟩)
    (o_Tree___init__ : PySem.W.codeIn K cd17 "Tree.__init__" = true)
    (k_Tree___init__ : PySem.W.keepIn K (.ref f_Tree___init__) = true)
    (a_Tree_check_column : PySem.W.findIn K (.ref c_Tree) "check_column" = some (some (.ref f_Tree_check_column)))
    (i_Tree_check_column : PySem.W.isFn K (.ref f_Tree_check_column) = true)
    (l_Tree_check_column : K.lookup f_Tree_check_column = some ⟨oc18, od18, .func (PySem.W.fnOf "check_column" "Tree.check_column" (defArgs s_tcheck) (defBody s_tcheck) (defScope s_tcheck) .none kV18 dc18 pm18 an18 cd18 ct18), sl18⟩)
    (o_Tree_check_column : PySem.W.codeIn K cd18 "Tree.check_column" = true)
    (k_Tree_check_column : PySem.W.keepIn K (.ref f_Tree_check_column) = true)
    (a_Tree___str__ : PySem.W.findIn K (.ref c_Tree) "__str__" = some (some (.ref f_Tree___str__)))
    (i_Tree___str__ : PySem.W.isFn K (.ref f_Tree___str__) = true)
    (l_Tree___str__ : K.lookup f_Tree___str__ = some ⟨oc19, od19, .func (PySem.W.fnOf "__str__" "Tree.__str__" (defArgs s_tstr) (defBody s_tstr) (defScope s_tstr) .none kV19 dc19 pm19 an19 cd19 ct19), sl19⟩)
    (o_Tree___str__ : PySem.W.codeIn K cd19 "Tree.__str__" = true)
    (k_Tree___str__ : PySem.W.keepIn K (.ref f_Tree___str__) = true)
    (pg_Tree : PySem.W.plainGet K c_Tree Str.empty = true)
    (hd_Tree : PySem.W.hasDictIn K c_Tree = true)
    (po_Tree : PySem.W.plainOver K c_Tree = true)
    (sa_Tree : PySem.W.findIn K (.ref c_Tree) "__setattr__" = some (some (.builtin "object.__setattr__")))
    (mk_Tree : PySem.W.makesIn K c_Tree = true)
    (kc_Tree : PySem.W.keepIn K (.ref c_Tree) = true)
    (ha_Tree : PySem.W.findIn K (.ref c_Tree) "__class__" = some (some (.builtin "object.__class__")))
    (hm_Tree : PySem.W.mroIn K c_Tree (.type "object") = some true)
    (me_Tree : PySem.W.kitOne K (.ref c_Tree) (.ref c_Tree) = some true)
    (n_Tree_columns : PySem.W.findIn K (.ref c_Tree) "_columns" = some none)
    (n_Tree_over : PySem.W.findIn K (.ref c_Tree) "_over" = some none)
    (a_TreeReader : PySem.W.nsIn K mainGlobals "TreeReader" = some (some (.ref c_TreeReader)))
    (a_TreeReader___init__ : PySem.W.findIn K (.ref c_TreeReader) "__init__" = some (some (.ref f_TreeReader___init__)))
    (i_TreeReader___init__ : PySem.W.isFn K (.ref f_TreeReader___init__) = true)
    (l_TreeReader___init__ : K.lookup f_TreeReader___init__ = some ⟨oc20, od20, .func (PySem.W.fnOf "__init__" "TreeReader.__init__" (defArgs s_rinit) (defBody s_rinit) (defScope s_rinit) .none kV20 dc20 pm20 an20 cd20 ct20), sl20⟩)
    (o_TreeReader___init__ : PySem.W.codeIn K cd20 "TreeReader.__init__" = true)
    (k_TreeReader___init__ : PySem.W.keepIn K (.ref f_TreeReader___init__) = true)
    (a_TreeReader_takes : PySem.W.findIn K (.ref c_TreeReader) "takes" = some (some (.ref f_TreeReader_takes)))
    (i_TreeReader_takes : PySem.W.isFn K (.ref f_TreeReader_takes) = true)
    (l_TreeReader_takes : K.lookup f_TreeReader_takes = some ⟨oc21, od21, .func (PySem.W.fnOf "takes" "TreeReader.takes" (defArgs s_rtakes) (defBody s_rtakes) (defScope s_rtakes) .none kV21 dc21 pm21 an21 cd21 ct21), sl21⟩)
    (o_TreeReader_takes : PySem.W.codeIn K cd21 "TreeReader.takes" = true)
    (k_TreeReader_takes : PySem.W.keepIn K (.ref f_TreeReader_takes) = true)
    (a_TreeReader_ends : PySem.W.findIn K (.ref c_TreeReader) "ends" = some (some (.ref f_TreeReader_ends)))
    (i_TreeReader_ends : PySem.W.isFn K (.ref f_TreeReader_ends) = true)
    (l_TreeReader_ends : K.lookup f_TreeReader_ends = some ⟨oc22, od22, .func (PySem.W.fnOf "ends" "TreeReader.ends" (defArgs s_rends) (defBody s_rends) (defScope s_rends) .none kV22 dc22 pm22 an22 cd22 ct22), sl22⟩)
    (o_TreeReader_ends : PySem.W.codeIn K cd22 "TreeReader.ends" = true)
    (k_TreeReader_ends : PySem.W.keepIn K (.ref f_TreeReader_ends) = true)
    (a_TreeReader_pairs : PySem.W.findIn K (.ref c_TreeReader) "pairs" = some (some (.ref f_TreeReader_pairs)))
    (i_TreeReader_pairs : PySem.W.isFn K (.ref f_TreeReader_pairs) = true)
    (l_TreeReader_pairs : K.lookup f_TreeReader_pairs = some ⟨oc23, od23, .func (PySem.W.fnOf "pairs" "TreeReader.pairs" (defArgs s_rpairs) (defBody s_rpairs) (defScope s_rpairs) .none kV23 dc23 pm23 an23 cd23 ct23), sl23⟩)
    (o_TreeReader_pairs : PySem.W.codeIn K cd23 "TreeReader.pairs" = true)
    (k_TreeReader_pairs : PySem.W.keepIn K (.ref f_TreeReader_pairs) = true)
    (a_TreeReader__takes_letter : PySem.W.findIn K (.ref c_TreeReader) "_takes_letter" = some (some (.ref f_TreeReader__takes_letter)))
    (i_TreeReader__takes_letter : PySem.W.isFn K (.ref f_TreeReader__takes_letter) = true)
    (l_TreeReader__takes_letter : K.lookup f_TreeReader__takes_letter = some ⟨oc24, od24, .func (PySem.W.fnOf "_takes_letter" "TreeReader._takes_letter" (defArgs s_rletter) (defBody s_rletter) (defScope s_rletter) .none kV24 dc24 pm24 an24 cd24 ct24), sl24⟩)
    (o_TreeReader__takes_letter : PySem.W.codeIn K cd24 "TreeReader._takes_letter" = true)
    (k_TreeReader__takes_letter : PySem.W.keepIn K (.ref f_TreeReader__takes_letter) = true)
    (a_TreeReader__ends_name : PySem.W.findIn K (.ref c_TreeReader) "_ends_name" = some (some (.ref f_TreeReader__ends_name)))
    (i_TreeReader__ends_name : PySem.W.isFn K (.ref f_TreeReader__ends_name) = true)
    (l_TreeReader__ends_name : K.lookup f_TreeReader__ends_name = some ⟨oc25, od25, .func (PySem.W.fnOf "_ends_name" "TreeReader._ends_name" (defArgs s_rendn) (defBody s_rendn) (defScope s_rendn) .none kV25 dc25 pm25 an25 cd25 ct25), sl25⟩)
    (o_TreeReader__ends_name : PySem.W.codeIn K cd25 "TreeReader._ends_name" = true)
    (k_TreeReader__ends_name : PySem.W.keepIn K (.ref f_TreeReader__ends_name) = true)
    (pg_TreeReader : PySem.W.plainGet K c_TreeReader Str.empty = true)
    (hd_TreeReader : PySem.W.hasDictIn K c_TreeReader = true)
    (po_TreeReader : PySem.W.plainOver K c_TreeReader = true)
    (sa_TreeReader : PySem.W.findIn K (.ref c_TreeReader) "__setattr__" = some (some (.builtin "object.__setattr__")))
    (mk_TreeReader : PySem.W.makesIn K c_TreeReader = true)
    (kc_TreeReader : PySem.W.keepIn K (.ref c_TreeReader) = true)
    (ha_TreeReader : PySem.W.findIn K (.ref c_TreeReader) "__class__" = some (some (.builtin "object.__class__")))
    (hm_TreeReader : PySem.W.mroIn K c_TreeReader (.type "object") = some true)
    (me_TreeReader : PySem.W.kitOne K (.ref c_TreeReader) (.ref c_TreeReader) = some true)
    (n_TreeReader_overs : PySem.W.findIn K (.ref c_TreeReader) "_overs" = some none)
    (n_TreeReader_brackets : PySem.W.findIn K (.ref c_TreeReader) "_brackets" = some none)
    (n_TreeReader_name : PySem.W.findIn K (.ref c_TreeReader) "_name" = some none)
    (n_TreeReader_closed : PySem.W.findIn K (.ref c_TreeReader) "_closed" = some none)
    (a_Tree_children : PySem.W.findIn K (.ref c_Tree) "children" = some (some (.ref f_Tree_children)))
    (i_Tree_children : PySem.W.isFn K (.ref f_Tree_children) = true)
    (l_Tree_children : K.lookup f_Tree_children = some ⟨oc26, od26, .func (PySem.W.fnOf "children" "Tree.children" (defArgs s_tchildren) (defBody s_tchildren) (defScope s_tchildren) (.ref d_Tree_children) kV26 dc26 pm26 an26 cd26 ct26), sl26⟩)
    (d1_Tree_children : K.lookup d_Tree_children = some ⟨do26, dd26, .seq #[.none] dn26, ds26⟩)
    (o_Tree_children : PySem.W.codeIn K cd26 "Tree.children" = true)
    (k_Tree_children : PySem.W.keepIn K (.ref f_Tree_children) = true)
    (hn : PySem.W.specialIn K (.builtin "object.__class__") "__get__" = some (some (.builtin "getset_descriptor.__get__")))
    (ht : PySem.W.takesIn K (.builtin "object.__class__") = some true)
    (a_FoldError : PySem.W.nsIn K mainGlobals "FoldError" = some (some (.ref c_FoldError)))
    (a_NoText : PySem.W.nsIn K mainGlobals "NoText" = some (some (.ref c_NoText)))
    (a_NoTree : PySem.W.nsIn K mainGlobals "NoTree" = some (some (.ref c_NoTree)))
    (a_NoText___init__ : PySem.W.findIn K (.ref c_NoText) "__init__" = some (some (.ref f_NoText___init__)))
    (l_NoText___init__ : K.lookup f_NoText___init__ = some ⟨oc27, od27, .func (PySem.W.fnOf "__init__" "NoText.__init__" (defArgs s_notext) (defBody s_notext) (defScope s_notext) .none kV27 dc27 pm27 an27 cd27 ct27), sl27⟩)
    (o_NoText___init__ : PySem.W.codeIn K cd27 "NoText.__init__" = true)
    (k_NoText___init__ : PySem.W.keepIn K (.ref f_NoText___init__) = true)
    (y_NoText___init__ : PySem.W.typeIn K (.ref f_NoText___init__) = some (.type "function"))
    (g_longest : PySem.W.nsIn K mainGlobals "LONGEST_NAME" = some (some (.int 8 t_longest)))
    (g_most : PySem.W.nsIn K mainGlobals "MOST_COLUMNS" = some (some (.int 8 t_most)))
    (z_len : PySem.W.nsIn K mainGlobals "len" = some none)
    (z_isi : PySem.W.nsIn K mainGlobals "isinstance" = some none)
    (z_str : PySem.W.nsIn K mainGlobals "str" = some none)
    (z_list : PySem.W.nsIn K mainGlobals "list" = some none)
    (z_tuple : PySem.W.nsIn K mainGlobals "tuple" = some none)
    (z_dict : PySem.W.nsIn K mainGlobals "dict" = some none)
    (z_int : PySem.W.nsIn K mainGlobals "int" = some none)
    (z_range : PySem.W.nsIn K mainGlobals "range" = some none)
    (z_enum : PySem.W.nsIn K mainGlobals "enumerate" = some none)
    (z_all : PySem.W.nsIn K mainGlobals "all" = some none)
    (z_any : PySem.W.nsIn K mainGlobals "any" = some none)
    (z_max : PySem.W.nsIn K mainGlobals "max" = some none)
    (z_sorted : PySem.W.nsIn K mainGlobals "sorted" = some none)
    (oxNoText : oexB K c_NoText = true)
    (sxNoText : PySem.W.findIn K (.ref c_NoText) "__setattr__" = some (some (.builtin "object.__setattr__")))
    (kxNoText : PySem.W.keepIn K (.ref c_NoText) = true)
    (bxNoText : PySem.W.subIn K (.ref c_NoText) (.type "BaseException") = some true)
    (txNoText : PySem.W.typeIn K (.ref c_NoText) = some (.type "type"))
    (nxNoText : PySem.W.findIn K (.ref c_NoText) "at" = some none)
    (snNoText : PySem.W.subIn K (.ref c_NoText) (.ref c_NoText) = some true)
    (xgNoText : PySem.W.findIn K (.ref c_NoText) "__getattribute__" = some (some (.builtin "BaseException.__getattribute__")))
    (xkNoText : PySem.W.findIn K (.ref c_NoText) "__getattr__" = some none)
    (xdNoText : PySem.W.hasDictIn K c_NoText = true)
    (xaNoText : PySem.W.findIn K (.ref c_NoText) "__class__" = some (some (.builtin "object.__class__")))
    (xmNoText : PySem.W.mroIn K c_NoText (.type "object") = some true)
    (j1 : PySem.W.kitOne K (.ref c_NoText) (.ref c_NoTree) = some false)
    : ∃ fd : FuncData, (∀ (s : Shared) (v : Value), BindsTo s fd ⟨[v], []⟩ [("_law_script", v)]) ∧ ∀ base : Heap, K.In base → base.Ns mainGlobals mg → FnOk l.prog w K mg base CX0 19 fa fd ["_law_script"] (sp_law K) := by
  have e := hfa.symm.trans (PySem.W.mg_of X G a_law)
  cases e
  have F_is_name := fun_mk (st := s_is_name) l_is_name o_is_name k_is_name
  have b_is_name := F_is_name.binds (ps := ["thing"]) fun _ _ _ _ _ _ us hl => match us, hl with | [_], _ => rfl
  have N_is_name : Fn K mg "is_name" s_is_name ["thing"] f_is_name _ := ⟨F_is_name, PySem.W.mg_of X G a_is_name, b_is_name⟩
  have F_is_name_in := fun_mk (st := s_is_name_in) l_is_name_in o_is_name_in k_is_name_in
  have b_is_name_in := F_is_name_in.binds (ps := ["thing", "names"]) fun _ _ _ _ _ _ us hl => match us, hl with | [_, _], _ => rfl
  have N_is_name_in : Fn K mg "is_name_in" s_is_name_in ["thing", "names"] f_is_name_in _ := ⟨F_is_name_in, PySem.W.mg_of X G a_is_name_in, b_is_name_in⟩
  have F__told_overs := fun_mk (st := s_told) l__told_overs o__told_overs k__told_overs
  have b__told_overs := F__told_overs.binds (ps := ["pairs"]) fun _ _ _ _ _ _ us hl => match us, hl with | [_], _ => rfl
  have N__told_overs : Fn K mg "_told_overs" s_told ["pairs"] f__told_overs _ := ⟨F__told_overs, PySem.W.mg_of X G a__told_overs, b__told_overs⟩
  have F__is_pair := fun_mk (st := s_is_pair) l__is_pair o__is_pair k__is_pair
  have b__is_pair := F__is_pair.binds (ps := ["thing", "overs"]) fun _ _ _ _ _ _ us hl => match us, hl with | [_, _], _ => rfl
  have N__is_pair : Fn K mg "_is_pair" s_is_pair ["thing", "overs"] f__is_pair _ := ⟨F__is_pair, PySem.W.mg_of X G a__is_pair, b__is_pair⟩
  have F__in_order := fun_mk (st := s_in_order) l__in_order o__in_order k__in_order
  have b__in_order := F__in_order.binds (ps := ["overs", "upper"]) fun _ _ _ _ _ _ us hl => match us, hl with | [_, _], _ => rfl
  have N__in_order : Fn K mg "_in_order" s_in_order ["overs", "upper"] f__in_order _ := ⟨F__in_order, PySem.W.mg_of X G a__in_order, b__in_order⟩
  have F__written := fun_mk (st := s_written) l__written o__written k__written
  have b__written := F__written.binds (ps := ["tree", "column"]) fun _ _ _ _ _ _ us hl => match us, hl with | [_, _], _ => rfl
  have N__written : Fn K mg "_written" s_written ["tree", "column"] f__written _ := ⟨F__written, PySem.W.mg_of X G a__written, b__written⟩
  have F_show_tree := fun_mk (st := s_show) l_show_tree o_show_tree k_show_tree
  have b_show_tree := F_show_tree.binds (ps := ["tree"]) fun _ _ _ _ _ _ us hl => match us, hl with | [_], _ => rfl
  have N_show_tree : Fn K mg "show_tree" s_show ["tree"] f_show_tree _ := ⟨F_show_tree, PySem.W.mg_of X G a_show_tree, b_show_tree⟩
  have F_read_tree := fun_mk (st := s_read) l_read_tree o_read_tree k_read_tree
  have b_read_tree := F_read_tree.binds (ps := ["text"]) fun _ _ _ _ _ _ us hl => match us, hl with | [_], _ => rfl
  have N_read_tree : Fn K mg "read_tree" s_read ["text"] f_read_tree _ := ⟨F_read_tree, PySem.W.mg_of X G a_read_tree, b_read_tree⟩
  have F__check_text := fun_mk (st := s_checkt) l__check_text o__check_text k__check_text
  have b__check_text := F__check_text.binds (ps := ["text"]) fun _ _ _ _ _ _ us hl => match us, hl with | [_], _ => rfl
  have N__check_text : Fn K mg "_check_text" s_checkt ["text"] f__check_text _ := ⟨F__check_text, PySem.W.mg_of X G a__check_text, b__check_text⟩
  have F__law_well := fun_mk (st := s_well) l__law_well o__law_well k__law_well
  have b__law_well := F__law_well.binds (ps := ["_law_cell"]) fun _ _ _ _ _ _ us hl => match us, hl with | [_], _ => rfl
  have N__law_well : Fn K mg "_law_well" s_well ["_law_cell"] f__law_well _ := ⟨F__law_well, PySem.W.mg_of X G a__law_well, b__law_well⟩
  have F__law_draw := fun_mk (st := s_draw) l__law_draw o__law_draw k__law_draw
  have b__law_draw := F__law_draw.binds (ps := ["_law_well_here", "_law_many"]) fun _ _ _ _ _ _ us hl => match us, hl with | [_, _], _ => rfl
  have N__law_draw : Fn K mg "_law_draw" s_draw ["_law_well_here", "_law_many"] f__law_draw _ := ⟨F__law_draw, PySem.W.mg_of X G a__law_draw, b__law_draw⟩
  have F__law_text := fun_mk (st := s_ltext) l__law_text o__law_text k__law_text
  have b__law_text := F__law_text.binds (ps := ["_law_well_here", "_law_many", "_law_deep"]) fun _ _ _ _ _ _ us hl => match us, hl with | [_, _, _], _ => rfl
  have N__law_text : Fn K mg "_law_text" s_ltext ["_law_well_here", "_law_many", "_law_deep"] f__law_text _ := ⟨F__law_text, PySem.W.mg_of X G a__law_text, b__law_text⟩
  have F__law_spoilt := fun_mk (st := s_spoilt) l__law_spoilt o__law_spoilt k__law_spoilt
  have b__law_spoilt := F__law_spoilt.binds (ps := ["_law_well_here", "_law_text_here"]) fun _ _ _ _ _ _ us hl => match us, hl with | [_, _], _ => rfl
  have N__law_spoilt : Fn K mg "_law_spoilt" s_spoilt ["_law_well_here", "_law_text_here"] f__law_spoilt _ := ⟨F__law_spoilt, PySem.W.mg_of X G a__law_spoilt, b__law_spoilt⟩
  have F__law_stop := fun_mk (st := s_stop) l__law_stop o__law_stop k__law_stop
  have b__law_stop := F__law_stop.binds (ps := ["_law_text_here"]) fun _ _ _ _ _ _ us hl => match us, hl with | [_], _ => rfl
  have N__law_stop : Fn K mg "_law_stop" s_stop ["_law_text_here"] f__law_stop _ := ⟨F__law_stop, PySem.W.mg_of X G a__law_stop, b__law_stop⟩
  have F__law_answer := fun_mk (st := s_answer) l__law_answer o__law_answer k__law_answer
  have b__law_answer := F__law_answer.binds (ps := ["_law_text_here"]) fun _ _ _ _ _ _ us hl => match us, hl with | [_], _ => rfl
  have N__law_answer : Fn K mg "_law_answer" s_answer ["_law_text_here"] f__law_answer _ := ⟨F__law_answer, PySem.W.mg_of X G a__law_answer, b__law_answer⟩
  have F_law := fun_mk (st := s_law) l_law o_law k_law
  have b_law := F_law.binds (ps := ["_law_script"]) fun _ _ _ _ _ _ us hl => match us, hl with | [_], _ => rfl
  have N_law : Fn K mg "law" s_law ["_law_script"] fa _ := ⟨F_law, PySem.W.mg_of X G a_law, b_law⟩
  have F_Tree___init__ := fun_mk (st := s_tinit) l_Tree___init__ o_Tree___init__ k_Tree___init__
  have b_Tree___init__ := F_Tree___init__.binds (ps := ["self", "pairs"]) fun _ _ _ _ _ _ us hl => match us, hl with | [_, _], _ => rfl
  have M_Tree___init__ : Mt K c_Tree "__init__" "Tree.__init__" s_tinit ["self", "pairs"] f_Tree___init__ _ := ⟨F_Tree___init__, ⟨a_Tree___init__, i_Tree___init__, k_Tree___init__⟩, b_Tree___init__⟩
  have F_Tree_check_column := fun_mk (st := s_tcheck) l_Tree_check_column o_Tree_check_column k_Tree_check_column
  have b_Tree_check_column := F_Tree_check_column.binds (ps := ["self", "column"]) fun _ _ _ _ _ _ us hl => match us, hl with | [_, _], _ => rfl
  have M_Tree_check_column : Mt K c_Tree "check_column" "Tree.check_column" s_tcheck ["self", "column"] f_Tree_check_column _ := ⟨F_Tree_check_column, ⟨a_Tree_check_column, i_Tree_check_column, k_Tree_check_column⟩, b_Tree_check_column⟩
  have F_Tree___str__ := fun_mk (st := s_tstr) l_Tree___str__ o_Tree___str__ k_Tree___str__
  have b_Tree___str__ := F_Tree___str__.binds (ps := ["self"]) fun _ _ _ _ _ _ us hl => match us, hl with | [_], _ => rfl
  have M_Tree___str__ : Mt K c_Tree "__str__" "Tree.__str__" s_tstr ["self"] f_Tree___str__ _ := ⟨F_Tree___str__, ⟨a_Tree___str__, i_Tree___str__, k_Tree___str__⟩, b_Tree___str__⟩
  have F_TreeReader___init__ := fun_mk (st := s_rinit) l_TreeReader___init__ o_TreeReader___init__ k_TreeReader___init__
  have b_TreeReader___init__ := F_TreeReader___init__.binds (ps := ["self"]) fun _ _ _ _ _ _ us hl => match us, hl with | [_], _ => rfl
  have M_TreeReader___init__ : Mt K c_TreeReader "__init__" "TreeReader.__init__" s_rinit ["self"] f_TreeReader___init__ _ := ⟨F_TreeReader___init__, ⟨a_TreeReader___init__, i_TreeReader___init__, k_TreeReader___init__⟩, b_TreeReader___init__⟩
  have F_TreeReader_takes := fun_mk (st := s_rtakes) l_TreeReader_takes o_TreeReader_takes k_TreeReader_takes
  have b_TreeReader_takes := F_TreeReader_takes.binds (ps := ["self", "sign"]) fun _ _ _ _ _ _ us hl => match us, hl with | [_, _], _ => rfl
  have M_TreeReader_takes : Mt K c_TreeReader "takes" "TreeReader.takes" s_rtakes ["self", "sign"] f_TreeReader_takes _ := ⟨F_TreeReader_takes, ⟨a_TreeReader_takes, i_TreeReader_takes, k_TreeReader_takes⟩, b_TreeReader_takes⟩
  have F_TreeReader_ends := fun_mk (st := s_rends) l_TreeReader_ends o_TreeReader_ends k_TreeReader_ends
  have b_TreeReader_ends := F_TreeReader_ends.binds (ps := ["self"]) fun _ _ _ _ _ _ us hl => match us, hl with | [_], _ => rfl
  have M_TreeReader_ends : Mt K c_TreeReader "ends" "TreeReader.ends" s_rends ["self"] f_TreeReader_ends _ := ⟨F_TreeReader_ends, ⟨a_TreeReader_ends, i_TreeReader_ends, k_TreeReader_ends⟩, b_TreeReader_ends⟩
  have F_TreeReader_pairs := fun_mk (st := s_rpairs) l_TreeReader_pairs o_TreeReader_pairs k_TreeReader_pairs
  have b_TreeReader_pairs := F_TreeReader_pairs.binds (ps := ["self"]) fun _ _ _ _ _ _ us hl => match us, hl with | [_], _ => rfl
  have M_TreeReader_pairs : Mt K c_TreeReader "pairs" "TreeReader.pairs" s_rpairs ["self"] f_TreeReader_pairs _ := ⟨F_TreeReader_pairs, ⟨a_TreeReader_pairs, i_TreeReader_pairs, k_TreeReader_pairs⟩, b_TreeReader_pairs⟩
  have F_TreeReader__takes_letter := fun_mk (st := s_rletter) l_TreeReader__takes_letter o_TreeReader__takes_letter k_TreeReader__takes_letter
  have b_TreeReader__takes_letter := F_TreeReader__takes_letter.binds (ps := ["self", "sign"]) fun _ _ _ _ _ _ us hl => match us, hl with | [_, _], _ => rfl
  have M_TreeReader__takes_letter : Mt K c_TreeReader "_takes_letter" "TreeReader._takes_letter" s_rletter ["self", "sign"] f_TreeReader__takes_letter _ := ⟨F_TreeReader__takes_letter, ⟨a_TreeReader__takes_letter, i_TreeReader__takes_letter, k_TreeReader__takes_letter⟩, b_TreeReader__takes_letter⟩
  have F_TreeReader__ends_name := fun_mk (st := s_rendn) l_TreeReader__ends_name o_TreeReader__ends_name k_TreeReader__ends_name
  have b_TreeReader__ends_name := F_TreeReader__ends_name.binds (ps := ["self"]) fun _ _ _ _ _ _ us hl => match us, hl with | [_], _ => rfl
  have M_TreeReader__ends_name : Mt K c_TreeReader "_ends_name" "TreeReader._ends_name" s_rendn ["self"] f_TreeReader__ends_name _ := ⟨F_TreeReader__ends_name, ⟨a_TreeReader__ends_name, i_TreeReader__ends_name, k_TreeReader__ends_name⟩, b_TreeReader__ends_name⟩
  have F_NoText___init__ := fun_mk (st := s_notext) l_NoText___init__ o_NoText___init__ k_NoText___init__
  have b_NoText___init__ := F_NoText___init__.binds (ps := ["self", "at"]) fun _ _ _ _ _ _ us hl => match us, hl with | [_, _], _ => rfl
  have F_Tree_children : FunD K "children" "Tree.children" (defArgs s_tchildren) (defBody s_tchildren) (defScope s_tchildren) [.non] [] f_Tree_children _ := ⟨⟨_, _, _, _, _, _, _, _, _, _, rfl, l_Tree_children, o_Tree_children, .inr ⟨(fun z => nomatch z), d_Tree_children, _, [.none], _, rfl, d1_Tree_children, rfl, .cons rfl .nil⟩, .inl rfl⟩, k_Tree_children⟩
  have B : Bn mg := ⟨PySem.W.mg_none_of X G z_len, PySem.W.mg_none_of X G z_isi, PySem.W.mg_none_of X G z_str, PySem.W.mg_none_of X G z_list, PySem.W.mg_none_of X G z_tuple, PySem.W.mg_none_of X G z_dict, PySem.W.mg_none_of X G z_int, PySem.W.mg_none_of X G z_range, PySem.W.mg_none_of X G z_enum, PySem.W.mg_none_of X G z_all, PySem.W.mg_none_of X G z_any, PySem.W.mg_none_of X G z_max, PySem.W.mg_none_of X G z_sorted⟩
  have Tk : Kd K mg f_is_name f_is_name_in f__is_pair f__told_overs f__in_order _ _ _ _ _ := ⟨B, ⟨⟨_, PySem.W.mg_of X G g_longest⟩, ⟨_, PySem.W.mg_of X G g_most⟩⟩, N_is_name, N_is_name_in, N__is_pair, N__told_overs, N__in_order⟩
  have Ck : Tc K mg c_Tree := ⟨⟨pg_Tree, hd_Tree, po_Tree, sa_Tree⟩, n_Tree_columns, n_Tree_over, PySem.W.mg_of X G a_Tree, ⟨ha_Tree, hn, ht, hm_Tree, me_Tree⟩⟩
  have Wk : Wd K mg c_Tree f_Tree_check_column f_Tree_children f__written _ _ _ := ⟨M_Tree_check_column, F_Tree_children, ⟨a_Tree_children, i_Tree_children, k_Tree_children⟩,
    F_Tree_children.binds1 (ps := ["self", "column"]) 1 0 (by simp) rfl (fun _ _ _ _ _ _ _ us its l1 l2 => match us, its, l1, l2 with | [_], [_], _, _ => ⟨_, rfl, rfl⟩),
    by
        obtain ⟨ds, h1, h2⟩ := F_Tree_children.binds1 (ps := ["self", "column"]) 2 1 (by simp) rfl (fun _ _ _ _ _ _ _ us its l1 l2 => match us, its, l1, l2 with | [_, _], [_], _, _ => ⟨_, rfl, rfl⟩)
        cases h1
        exact h2, N__written⟩
  have Rk' : Rk K mg c_TreeReader f_TreeReader___init__ f_TreeReader_takes f_TreeReader_ends f_TreeReader_pairs f_TreeReader__takes_letter f_TreeReader__ends_name _ _ _ _ _ _ := ⟨⟨⟨pg_TreeReader, hd_TreeReader, po_TreeReader, sa_TreeReader⟩, n_TreeReader_overs, n_TreeReader_brackets, n_TreeReader_name, n_TreeReader_closed⟩, PySem.W.mg_of X G a_TreeReader, F_TreeReader___init__, ⟨mk_TreeReader, a_TreeReader___init__, i_TreeReader___init__, kc_TreeReader⟩, b_TreeReader___init__, M_TreeReader_takes, M_TreeReader_ends, M_TreeReader_pairs, M_TreeReader__takes_letter, M_TreeReader__ends_name⟩
  have Nx : NtX K mg c_NoText f_NoText___init__ _ := ⟨⟨oexB_ok oxNoText, sxNoText, bxNoText, txNoText, kxNoText⟩, a_NoText___init__, y_NoText___init__, F_NoText___init__, b_NoText___init__, PySem.W.mg_of X G a_NoText, nxNoText⟩
  have Ek : Er K mg c_NoText c_NoTree := ⟨PySem.W.mg_of X G a_NoTree, PySem.W.exm_ref bxNoText xdNoText txNoText snNoText, ⟨xgNoText, xkNoText, bxNoText, xdNoText, xaNoText, hn, ht, xmNoText⟩, j1⟩
  have Lk : Ld K mg f__law_well f__law_draw f__law_text f__law_spoilt f__law_stop f__law_answer f_read_tree f_show_tree f__check_text _ _ _ _ _ _ _ _ _ := ⟨N__law_well, N__law_draw, N__law_text, N__law_spoilt, N__law_stop, N__law_answer, N_read_tree, N_show_tree, N__check_text⟩
  exact ⟨PySem.W.fnOf "law" "law" (defArgs s_law) (defBody s_law) (defScope s_law) .none kV16 dc16 pm16 an16 cd16 ct16, fun s v => .of_eq rfl, fun base _ _ => ok_law N_law Tk Ck F_Tree___init__ ⟨mk_Tree, a_Tree___init__, i_Tree___init__, kc_Tree⟩ b_Tree___init__ Rk' Nx Ek M_Tree___str__ Wk Lk⟩
end T88
open PySem PySem.W PyProof.Rows
set_option maxRecDepth 100000 in
set_option maxHeartbeats 0 in
theorem PySem.Challenge.cw_foldbough_k88_what_shows_no_tree_holds : PySem.Challenge.rw_foldbough_k88_what_shows_no_tree.Holds := by
  w_on; o_law; k_head; (case hw => w_witness2)
  k_fill
  refine L2.walk_of (l := PySem.Challenge.rw_foldbough_k88_what_shows_no_tree) (n := 63) (k := 19) (x := "_law_script") (CX := fun _ => L2.CX0) (sp := fun w => T88.sp_law (_)) rfl (by decide) rfl ⟨rfl, by decide, by decide⟩ (fun w h Y => PySem.W.kIn_of Y) ?F (fun _ _ a ns hl _ hS => ⟨a, ns, rfl, hS, hl, fun _ => rfl⟩) (fun _ _ _ _ _ z => z)
  case F =>
    intro w mg fa h KX G hmg
    refine' T88.all_mk KX G hmg ?a_is_name ?l_is_name ?o_is_name ?k_is_name ?a_is_name_in ?l_is_name_in ?o_is_name_in ?k_is_name_in ?a__told_overs ?l__told_overs ?o__told_overs ?k__told_overs ?a__is_pair ?l__is_pair ?o__is_pair ?k__is_pair ?a__in_order ?l__in_order ?o__in_order ?k__in_order ?a__written ?l__written ?o__written ?k__written ?a_show_tree ?l_show_tree ?o_show_tree ?k_show_tree ?a_read_tree ?l_read_tree ?o_read_tree ?k_read_tree ?a__check_text ?l__check_text ?o__check_text ?k__check_text ?a__law_well ?l__law_well ?o__law_well ?k__law_well ?a__law_draw ?l__law_draw ?o__law_draw ?k__law_draw ?a__law_text ?l__law_text ?o__law_text ?k__law_text ?a__law_spoilt ?l__law_spoilt ?o__law_spoilt ?k__law_spoilt ?a__law_stop ?l__law_stop ?o__law_stop ?k__law_stop ?a__law_answer ?l__law_answer ?o__law_answer ?k__law_answer ?a_law ?l_law ?o_law ?k_law ?a_Tree ?a_Tree___init__ ?i_Tree___init__ ?l_Tree___init__ ?o_Tree___init__ ?k_Tree___init__ ?a_Tree_check_column ?i_Tree_check_column ?l_Tree_check_column ?o_Tree_check_column ?k_Tree_check_column ?a_Tree___str__ ?i_Tree___str__ ?l_Tree___str__ ?o_Tree___str__ ?k_Tree___str__ ?pg_Tree ?hd_Tree ?po_Tree ?sa_Tree ?mk_Tree ?kc_Tree ?ha_Tree ?hm_Tree ?me_Tree ?n_Tree_columns ?n_Tree_over ?a_TreeReader ?a_TreeReader___init__ ?i_TreeReader___init__ ?l_TreeReader___init__ ?o_TreeReader___init__ ?k_TreeReader___init__ ?a_TreeReader_takes ?i_TreeReader_takes ?l_TreeReader_takes ?o_TreeReader_takes ?k_TreeReader_takes ?a_TreeReader_ends ?i_TreeReader_ends ?l_TreeReader_ends ?o_TreeReader_ends ?k_TreeReader_ends ?a_TreeReader_pairs ?i_TreeReader_pairs ?l_TreeReader_pairs ?o_TreeReader_pairs ?k_TreeReader_pairs ?a_TreeReader__takes_letter ?i_TreeReader__takes_letter ?l_TreeReader__takes_letter ?o_TreeReader__takes_letter ?k_TreeReader__takes_letter ?a_TreeReader__ends_name ?i_TreeReader__ends_name ?l_TreeReader__ends_name ?o_TreeReader__ends_name ?k_TreeReader__ends_name ?pg_TreeReader ?hd_TreeReader ?po_TreeReader ?sa_TreeReader ?mk_TreeReader ?kc_TreeReader ?ha_TreeReader ?hm_TreeReader ?me_TreeReader ?n_TreeReader_overs ?n_TreeReader_brackets ?n_TreeReader_name ?n_TreeReader_closed ?a_Tree_children ?i_Tree_children ?l_Tree_children ?d1_Tree_children ?o_Tree_children ?k_Tree_children ?hn ?ht ?a_FoldError ?a_NoText ?a_NoTree ?a_NoText___init__ ?l_NoText___init__ ?o_NoText___init__ ?k_NoText___init__ ?y_NoText___init__ ?g_longest ?g_most ?z_len ?z_isi ?z_str ?z_list ?z_tuple ?z_dict ?z_int ?z_range ?z_enum ?z_all ?z_any ?z_max ?z_sorted ?oxNoText ?sxNoText ?kxNoText ?bxNoText ?txNoText ?nxNoText ?snNoText ?xgNoText ?xkNoText ?xdNoText ?xaNoText ?xmNoText ?j1
    (case a_is_name => k_is)
    (case l_is_name => k_is)
    (case o_is_name => k_is)
    (case k_is_name => k_is)
    (case a_is_name_in => k_is)
    (case l_is_name_in => k_is)
    (case o_is_name_in => k_is)
    (case k_is_name_in => k_is)
    (case a__told_overs => k_is)
    (case l__told_overs => k_is)
    (case o__told_overs => k_is)
    (case k__told_overs => k_is)
    (case a__is_pair => k_is)
    (case l__is_pair => k_is)
    (case o__is_pair => k_is)
    (case k__is_pair => k_is)
    (case a__in_order => k_is)
    (case l__in_order => k_is)
    (case o__in_order => k_is)
    (case k__in_order => k_is)
    (case a__written => k_is)
    (case l__written => k_is)
    (case o__written => k_is)
    (case k__written => k_is)
    (case a_show_tree => k_is)
    (case l_show_tree => k_is)
    (case o_show_tree => k_is)
    (case k_show_tree => k_is)
    (case a_read_tree => k_is)
    (case l_read_tree => k_is)
    (case o_read_tree => k_is)
    (case k_read_tree => k_is)
    (case a__check_text => k_is)
    (case l__check_text => k_is)
    (case o__check_text => k_is)
    (case k__check_text => k_is)
    (case a__law_well => k_is)
    (case l__law_well => k_is)
    (case o__law_well => k_is)
    (case k__law_well => k_is)
    (case a__law_draw => k_is)
    (case l__law_draw => k_is)
    (case o__law_draw => k_is)
    (case k__law_draw => k_is)
    (case a__law_text => k_is)
    (case l__law_text => k_is)
    (case o__law_text => k_is)
    (case k__law_text => k_is)
    (case a__law_spoilt => k_is)
    (case l__law_spoilt => k_is)
    (case o__law_spoilt => k_is)
    (case k__law_spoilt => k_is)
    (case a__law_stop => k_is)
    (case l__law_stop => k_is)
    (case o__law_stop => k_is)
    (case k__law_stop => k_is)
    (case a__law_answer => k_is)
    (case l__law_answer => k_is)
    (case o__law_answer => k_is)
    (case k__law_answer => k_is)
    (case a_law => k_is)
    (case l_law => k_is)
    (case o_law => k_is)
    (case k_law => k_is)
    (case a_Tree => k_is)
    (case a_Tree___init__ => k_is)
    (case i_Tree___init__ => k_is)
    (case l_Tree___init__ => k_is)
    (case o_Tree___init__ => k_is)
    (case k_Tree___init__ => k_is)
    (case a_Tree_check_column => k_is)
    (case i_Tree_check_column => k_is)
    (case l_Tree_check_column => k_is)
    (case o_Tree_check_column => k_is)
    (case k_Tree_check_column => k_is)
    (case a_Tree___str__ => k_is)
    (case i_Tree___str__ => k_is)
    (case l_Tree___str__ => k_is)
    (case o_Tree___str__ => k_is)
    (case k_Tree___str__ => k_is)
    (case pg_Tree => k_is)
    (case hd_Tree => k_is)
    (case po_Tree => k_is)
    (case sa_Tree => k_is)
    (case mk_Tree => k_is)
    (case kc_Tree => k_is)
    (case ha_Tree => k_is)
    (case hm_Tree => k_is)
    (case me_Tree => kit_is)
    (case n_Tree_columns => k_is)
    (case n_Tree_over => k_is)
    (case a_TreeReader => k_is)
    (case a_TreeReader___init__ => k_is)
    (case i_TreeReader___init__ => k_is)
    (case l_TreeReader___init__ => k_is)
    (case o_TreeReader___init__ => k_is)
    (case k_TreeReader___init__ => k_is)
    (case a_TreeReader_takes => k_is)
    (case i_TreeReader_takes => k_is)
    (case l_TreeReader_takes => k_is)
    (case o_TreeReader_takes => k_is)
    (case k_TreeReader_takes => k_is)
    (case a_TreeReader_ends => k_is)
    (case i_TreeReader_ends => k_is)
    (case l_TreeReader_ends => k_is)
    (case o_TreeReader_ends => k_is)
    (case k_TreeReader_ends => k_is)
    (case a_TreeReader_pairs => k_is)
    (case i_TreeReader_pairs => k_is)
    (case l_TreeReader_pairs => k_is)
    (case o_TreeReader_pairs => k_is)
    (case k_TreeReader_pairs => k_is)
    (case a_TreeReader__takes_letter => k_is)
    (case i_TreeReader__takes_letter => k_is)
    (case l_TreeReader__takes_letter => k_is)
    (case o_TreeReader__takes_letter => k_is)
    (case k_TreeReader__takes_letter => k_is)
    (case a_TreeReader__ends_name => k_is)
    (case i_TreeReader__ends_name => k_is)
    (case l_TreeReader__ends_name => k_is)
    (case o_TreeReader__ends_name => k_is)
    (case k_TreeReader__ends_name => k_is)
    (case pg_TreeReader => k_is)
    (case hd_TreeReader => k_is)
    (case po_TreeReader => k_is)
    (case sa_TreeReader => k_is)
    (case mk_TreeReader => k_is)
    (case kc_TreeReader => k_is)
    (case ha_TreeReader => k_is)
    (case hm_TreeReader => k_is)
    (case me_TreeReader => kit_is)
    (case n_TreeReader_overs => k_is)
    (case n_TreeReader_brackets => k_is)
    (case n_TreeReader_name => k_is)
    (case n_TreeReader_closed => k_is)
    (case a_Tree_children => k_is)
    (case i_Tree_children => k_is)
    (case l_Tree_children => k_is)
    (case d1_Tree_children => k_is)
    (case o_Tree_children => k_is)
    (case k_Tree_children => k_is)
    (case hn => k_is)
    (case ht => k_is)
    (case a_FoldError => k_is)
    (case a_NoText => k_is)
    (case a_NoTree => k_is)
    (case a_NoText___init__ => k_is)
    (case l_NoText___init__ => k_is)
    (case o_NoText___init__ => k_is)
    (case k_NoText___init__ => k_is)
    (case y_NoText___init__ => k_is)
    (case g_longest => k_is)
    (case g_most => k_is)
    (case z_len => k_is)
    (case z_isi => k_is)
    (case z_str => k_is)
    (case z_list => k_is)
    (case z_tuple => k_is)
    (case z_dict => k_is)
    (case z_int => k_is)
    (case z_range => k_is)
    (case z_enum => k_is)
    (case z_all => k_is)
    (case z_any => k_is)
    (case z_max => k_is)
    (case z_sorted => k_is)
    (case oxNoText => first | decide +kernel | rfl)
    (case sxNoText => k_is)
    (case kxNoText => k_is)
    (case bxNoText => k_is)
    (case txNoText => k_is)
    (case nxNoText => k_is)
    (case snNoText => k_is)
    (case xgNoText => k_is)
    (case xkNoText => k_is)
    (case xdNoText => k_is)
    (case xaNoText => k_is)
    (case xmNoText => k_is)
    (case j1 => kit_is)

