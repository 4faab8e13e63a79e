import PyProof.Rows.All
import Wide.All
import OpenK.AllK
import Wide.FinOn
import HandS.ForMost
import HandS.Exc
import HandS.TryOnly
import HandS.ExcOwn
import HandS.WordsExc
import HandS.IsInst
import HandS.ExcIs
import HandS.DictComp
import HandS.Walk
import HandS.Conv
import HandS.Codes
import HandS.OwnEq
import HandS.TupAny
import KE.KExcIs
import HandS.ExcInit
import HandS.ExcField
import HandS.Defaults
import HandS.ForExc
import HandS.ExcValue
import HandS.TupSets
import HandS.SortOrd
import HandS.SetBool
import HandS.ExcBuiltin
import HandS.Ends
import KE.KExcStr
import KE.RegKIsAll
import PySem.Challenge.RW_foldbough_k08_refusals_apart
set_option Elab.async false
set_option linter.all false
set_option maxRecDepth 100000
/-! Mathematics of forests of names told as lists of pairs. -/
namespace TM
open PySem L2
/-- one to eight small letters -/
def NameOk (s : Str) : Prop := 1 ≤ s.length ∧ s.length ≤ 8 ∧ ∀ c ∈ s.cps.toList, 97 ≤ c ∧ c ≤ 122
inductive Fo where
  | nil
  | cons (c : Str) (kids rest : Fo)
abbrev Pr := Str × Option Str
def flat : Fo → Option Str → List Pr
  | .nil, _ => []
  | .cons c k r, u => (c, u) :: (flat k (some c) ++ flat r u)
def names : Fo → List Str
  | .nil => []
  | .cons c k r => c :: (names k ++ names r)
def app : Fo → Fo → Fo
  | .nil, g => g
  | .cons c k r, g => .cons c k (app r g)
/-- the forest beneath u of a list of pairs in which overs stand ahead -/
def mk : List Pr → Option Str → Fo
  | [], _ => .nil
  | (c, o) :: r, u => if o = u then .cons c (mk r (some c)) (mk r u) else mk r u
def ord (ps : List Pr) (u : Option Str) : List Str := names (mk ps u)
theorem ord_nil (u : Option Str) : ord [] u = [] := rfl
theorem ord_cons (c : Str) (o : Option Str) (r : List Pr) (u : Option Str) : ord ((c, o) :: r) u = if o = u then c :: (ord r (some c) ++ ord r u) else ord r u := by
  unfold ord
  show names (if o = u then .cons c (mk r (some c)) (mk r u) else mk r u) = _
  split <;> rfl
theorem flat_names : ∀ (f : Fo) (u : Option Str), (flat f u).map Prod.fst = names f
  | .nil, _ => rfl
  | .cons c k r, u => by
    show c :: ((flat k (some c) ++ flat r u).map Prod.fst) = c :: (names k ++ names r)
    rw [List.map_append, flat_names k, flat_names r]
theorem flat_app : ∀ (f g : Fo) (u : Option Str), flat (app f g) u = flat f u ++ flat g u
  | .nil, _, _ => rfl
  | .cons c k r, g, u => by
    show (c, u) :: (flat k (some c) ++ flat (app r g) u) = (c, u) :: (flat k (some c) ++ flat r u) ++ flat g u
    rw [flat_app r g u, List.cons_append, List.append_assoc]
theorem names_app : ∀ (f g : Fo), names (app f g) = names f ++ names g
  | .nil, _ => rfl
  | .cons c k r, g => by
    show c :: (names k ++ names (app r g)) = c :: (names k ++ names r) ++ names g
    rw [names_app r g, List.cons_append, List.append_assoc]
theorem app_nil : ∀ f : Fo, app f .nil = f
  | .nil => rfl
  | .cons c k r => by show Fo.cons c k (app r .nil) = _; rw [app_nil r]
/-- every over told is none, or a name that is told ahead; names unlike -/
def Valid : List Str → List Pr → Prop
  | _, [] => True
  | seen, (c, o) :: r => c ∉ seen ∧ (∀ x, o = some x → x ∈ seen) ∧ Valid (seen ++ [c]) r
theorem valid_notin : ∀ {ps : List Pr} {seen : List Str} {x : Str}, Valid seen ps → x ∈ seen → x ∉ ps.map Prod.fst
  | [], _, _, _, _ => by simp
  | (c, o) :: r, seen, x, h, hx => by
    obtain ⟨h1, _, h3⟩ := h
    have ih := valid_notin (x := x) h3 (List.mem_append_left _ hx)
    simp only [List.map_cons, List.mem_cons, not_or]
    exact ⟨fun e => h1 (e ▸ hx), ih⟩
theorem valid_nodup : ∀ {ps : List Pr} {seen : List Str}, Valid seen ps → (ps.map Prod.fst).Nodup
  | [], _, _ => by simp
  | (c, o) :: r, seen, h => by
    obtain ⟨_, _, h3⟩ := h
    simp only [List.map_cons, List.nodup_cons]
    exact ⟨valid_notin h3 (by simp), valid_nodup h3⟩
/-- nothing stands beneath a name that is told nowhere as an over -/
theorem mk_none : ∀ {ps : List Pr} {u : Option Str}, (∀ p ∈ ps, p.2 ≠ u) → mk ps u = .nil
  | [], _, _ => rfl
  | (c, o) :: r, u, h => by
    show (if o = u then _ else mk r u) = _
    rw [if_neg (h (c, o) List.mem_cons_self)]
    exact mk_none fun p hp => h p (List.mem_cons_of_mem _ hp)
/-- a forest told in its own order, and what comes behind -/
theorem mk_flat : ∀ (f : Fo) (r : List Pr) (u : Option Str), (names f).Nodup → (∀ x ∈ names f, u ≠ some x) → (∀ p ∈ r, ∀ x ∈ names f, p.2 ≠ some x) →
    mk (flat f u ++ r) u = app f (mk r u) ∧ ∀ v, v ≠ u → (∀ x ∈ names f, v ≠ some x) → mk (flat f u ++ r) v = mk r v
  | .nil, r, u, _, _, _ => ⟨rfl, fun v _ _ => rfl⟩
  | .cons c k s, r, u, hn, hu, hr => by
    have hn' : (c :: (names k ++ names s)).Nodup := hn
    rw [List.nodup_cons, List.nodup_append] at hn'
    obtain ⟨hc, hk, hs, hks⟩ := hn'
    have hck : c ∉ names k := fun z => hc (List.mem_append_left _ z)
    have hcs : c ∉ names s := fun z => hc (List.mem_append_right _ z)
    have mem_k : ∀ x ∈ names k, x ∈ names (Fo.cons c k s) := fun x hx => List.mem_cons_of_mem _ (List.mem_append_left _ hx)
    have mem_s : ∀ x ∈ names s, x ∈ names (Fo.cons c k s) := fun x hx => List.mem_cons_of_mem _ (List.mem_append_right _ hx)
    have mem_c : c ∈ names (Fo.cons c k s) := List.mem_cons_self
    have huc : u ≠ some c := hu c mem_c
    -- the rest behind the kids
    have over_s : ∀ p ∈ flat s u, p.2 = u ∨ ∃ x ∈ names s, p.2 = some x := by
      have gen : ∀ (f : Fo) (u : Option Str), ∀ p ∈ flat f u, p.2 = u ∨ ∃ x ∈ names f, p.2 = some x := by
        intro f
        induction f with
        | nil => intro u p hp; cases hp
        | cons c k r ihk ihr =>
          intro u p hp
          have hp' : p ∈ (c, u) :: (flat k (some c) ++ flat r u) := hp
          rcases List.mem_cons.mp hp' with e | hp'
          · left; rw [e]
          · rcases List.mem_append.mp hp' with hp' | hp'
            · rcases ihk _ p hp' with e | ⟨x, hx, e⟩
              · exact .inr ⟨c, List.mem_cons_self, e⟩
              · exact .inr ⟨x, List.mem_cons_of_mem _ (List.mem_append_left _ hx), e⟩
            · rcases ihr _ p hp' with e | ⟨x, hx, e⟩
              · exact .inl e
              · exact .inr ⟨x, List.mem_cons_of_mem _ (List.mem_append_right _ hx), e⟩
      exact gen s u
    have hR : ∀ p ∈ flat s u ++ r, ∀ x ∈ names k, p.2 ≠ some x := by
      intro p hp x hx e
      rcases List.mem_append.mp hp with hp | hp
      · rcases over_s p hp with e2 | ⟨y, hy, e2⟩
        · exact hu x (mem_k x hx) (e2 ▸ e)
        · rw [e2] at e
          exact hks x hx y hy (Option.some.inj e).symm
      · exact hr p hp x (mem_k x hx) e
    obtain ⟨k1, k2⟩ := mk_flat k (flat s u ++ r) (some c) hk (fun x hx e => hck (Option.some.inj e ▸ hx)) hR
    obtain ⟨s1, s2⟩ := mk_flat s r u hs (fun x hx => hu x (mem_s x hx)) (fun p hp x hx => hr p hp x (mem_s x hx))
    have rc : mk r (some c) = .nil := mk_none fun p hp => hr p hp c mem_c
    have sc : mk (flat s u ++ r) (some c) = .nil := by
      rw [s2 (some c) huc.symm (fun x hx e => hcs (Option.some.inj e ▸ hx)), rc]
    have e0 : flat (Fo.cons c k s) u ++ r = (c, u) :: (flat k (some c) ++ (flat s u ++ r)) := by
      show (c, u) :: (flat k (some c) ++ flat s u) ++ r = _
      rw [List.cons_append, List.append_assoc]
    rw [e0]
    refine ⟨?_, fun v hvu hv => ?_⟩
    · show (if u = u then Fo.cons c (mk (flat k (some c) ++ (flat s u ++ r)) (some c)) (mk (flat k (some c) ++ (flat s u ++ r)) u) else _) = Fo.cons c k (app s (mk r u))
      rw [if_pos rfl, k1, sc, app_nil, k2 u huc (fun x hx => hu x (mem_k x hx)), s1]
    · show (if u = v then _ else mk (flat k (some c) ++ (flat s u ++ r)) v) = _
      rw [if_neg (fun e => hvu e.symm), k2 v (hv c mem_c) (fun x hx => hv x (mem_k x hx)), s2 v hvu (fun x hx => hv x (mem_s x hx))]
theorem mk_own {f : Fo} (hn : (names f).Nodup) : mk (flat f none) none = f := by
  have h := (mk_flat f [] none hn (fun _ _ e => nomatch e) (fun p hp => nomatch hp)).1
  rw [List.append_nil] at h
  rw [h]
  exact app_nil f
theorem mk_two {f g : Fo} (hn : (names (app f g)).Nodup) : mk (flat f none ++ flat g none) none = app f g := by
  rw [← flat_app]
  exact mk_own hn
/-- a forest told in its own order is validly told -/
theorem valid_app : ∀ {ps qs : List Pr} {seen : List Str}, Valid seen ps → Valid (seen ++ ps.map Prod.fst) qs → Valid seen (ps ++ qs)
  | [], qs, seen, _, h => by simpa using h
  | (c, o) :: r, qs, seen, ⟨h1, h2, h3⟩, h => by
    refine ⟨h1, h2, valid_app h3 ?_⟩
    simpa [List.append_assoc] using h
theorem valid_flat : ∀ (f : Fo) (seen : List Str) (u : Option Str), (∀ x, u = some x → x ∈ seen) → (seen ++ names f).Nodup → Valid seen (flat f u)
  | .nil, _, _, _, _ => trivial
  | .cons c k r, seen, u, hu, hn => by
    have hn' : (seen ++ c :: (names k ++ names r)).Nodup := hn
    have e1 : seen ++ c :: (names k ++ names r) = seen ++ [c] ++ names k ++ names r := by simp [List.append_assoc]
    rw [e1] at hn'
    have n1 : (seen ++ [c] ++ names k).Nodup := (List.nodup_append.mp hn').1
    have n2 : (seen ++ [c]).Nodup := (List.nodup_append.mp n1).1
    refine ⟨fun hc => ?_, hu, valid_app (valid_flat k _ (some c) (fun x e => by cases e; simp) n1) ?_⟩
    · have := (List.nodup_append.mp n2).2.2
      exact this c hc c (by simp) rfl
    · rw [flat_names]
      exact valid_flat r _ u (fun x e => List.mem_append_left _ (List.mem_append_left _ (hu x e))) hn'
theorem over_flat : ∀ (f : Fo) (u : Option Str), ∀ p ∈ flat f u, p.2 = u ∨ ∃ x ∈ names f, p.2 = some x := by
  intro f
  induction f with
  | nil => intro u p hp; cases hp
  | cons c k r ihk ihr =>
    intro u p hp
    have hp' : p ∈ (c, u) :: (flat k (some c) ++ flat r u) := hp
    rcases List.mem_cons.mp hp' with e | hp'
    · left; rw [e]
    · rcases List.mem_append.mp hp' with hp' | hp'
      · rcases ihk _ p hp' with e | ⟨x, hx, e⟩
        · exact .inr ⟨c, List.mem_cons_self, e⟩
        · exact .inr ⟨x, List.mem_cons_of_mem _ (List.mem_append_left _ hx), e⟩
      · rcases ihr _ p hp' with e | ⟨x, hx, e⟩
        · exact .inl e
        · exact .inr ⟨x, List.mem_cons_of_mem _ (List.mem_append_right _ hx), e⟩
end TM
namespace TM
open PySem L2
theorem valid_at : ∀ {ps : List Pr} {seen : List Str} {i : Nat} {c : Str} {o : Option Str}, Valid seen ps → ps[i]? = some (c, o) → c ∉ seen ++ (ps.take i).map Prod.fst ∧ ∀ x, o = some x → x ∈ seen ++ (ps.take i).map Prod.fst
  | [], _, _, _, _, _, h => by simp at h
  | (a, b) :: r, seen, 0, c, o, ⟨h1, h2, _⟩, h => by
    simp only [List.getElem?_cons_zero, Option.some.injEq, Prod.mk.injEq] at h
    obtain ⟨rfl, rfl⟩ := h
    simpa using ⟨h1, h2⟩
  | (a, b) :: r, seen, i + 1, c, o, ⟨h1, h2, h3⟩, h => by
    have h' : r[i]? = some (c, o) := by simpa using h
    have ih := valid_at h3 h'
    simpa [List.append_assoc] using ih
theorem valid_take : ∀ {ps : List Pr} {seen : List Str} (i : Nat), Valid seen ps → Valid seen (ps.take i)
  | [], _, i, _ => by simp [Valid]
  | (a, b) :: r, seen, 0, _ => trivial
  | (a, b) :: r, seen, i + 1, ⟨h1, h2, h3⟩ => ⟨h1, h2, valid_take i h3⟩
/-- nothing ahead of a suffix stands right beneath u -/
def Below (ps : List Pr) (u : Option Str) (n : Nat) : Prop := ∃ pre t, ps = pre ++ t ∧ t.length < n ∧ ∀ p ∈ pre, p.2 ≠ u
theorem below_top (ps : List Pr) {n : Nat} (h : ps.length < n) : Below ps none n := ⟨[], ps, rfl, h, fun _ h => nomatch h⟩
/-- the over of a name stands nowhere ahead of it -/
theorem ahead : ∀ {ps : List Pr} {seen : List Str} {x : Str}, Valid seen ps → x ∉ seen → x ∉ ps.map Prod.fst → ∀ p ∈ ps, p.2 ≠ some x
  | [], _, _, _, _, _, p, hp => nomatch hp
  | (a, b) :: r, seen, x, ⟨h1, h2, h3⟩, hs, hx, p, hp => by
    rw [List.map_cons, List.mem_cons, not_or] at hx
    rcases List.mem_cons.mp hp with e | hp
    · rw [e]
      intro e2
      exact hs (h2 x e2)
    · exact ahead h3 (by simp [hs, hx.1]) hx.2 p hp
/-- beneath a column there is only what stands behind it -/
theorem ahead_at {ps : List Pr} {i : Nat} {c : Str} {o : Option Str} (va : Valid [] ps) (h : ps[i]? = some (c, o)) : ∀ p ∈ ps.take (i + 1), p.2 ≠ some c := by
  have hc := (valid_at va h).1
  rw [List.nil_append] at hc
  have e : ps.take (i + 1) = ps.take i ++ [(c, o)] := by rw [List.take_add_one, h]; rfl
  intro p hp
  rw [e] at hp
  rcases List.mem_append.mp hp with hp | hp
  · exact ahead (valid_take i va) (by simp) hc p hp
  · rw [List.mem_singleton.mp hp]
    intro e2
    have h2 := (valid_at va h).2 c e2
    rw [List.nil_append] at h2
    exact hc h2
theorem below_at {ps : List Pr} {i : Nat} {c : Str} {o : Option Str} {n : Nat} (va : Valid [] ps) (h : ps[i]? = some (c, o)) (b : Below ps o (n + 1)) : Below ps (some c) n := by
  obtain ⟨pre, t, e, hl, hp⟩ := b
  have hi : i < ps.length := (List.getElem?_eq_some_iff.mp h).1
  have hpi : pre.length ≤ i := by
    refine Nat.le_of_not_lt fun hlt => ?_
    have : pre[i]? = some (c, o) := by
      rw [e, List.getElem?_append_left hlt] at h
      exact h
    exact hp _ (List.mem_of_getElem? this) rfl
  refine ⟨ps.take (i + 1), ps.drop (i + 1), (List.take_append_drop _ _).symm, ?_, ahead_at va h⟩
  rw [List.length_drop]
  have := congrArg List.length e
  rw [List.length_append] at this
  omega
theorem mk_skip : ∀ {pre t : List Pr} {u : Option Str}, (∀ p ∈ pre, p.2 ≠ u) → mk (pre ++ t) u = mk t u
  | [], _, _, _ => rfl
  | (c, o) :: r, t, u, h => by
    show (if o = u then _ else mk (r ++ t) u) = _
    rw [if_neg (h (c, o) List.mem_cons_self)]
    exact mk_skip fun p hp => h p (List.mem_cons_of_mem _ hp)
/-- the order, told as the program tells it -/
def step (ps : List Pr) (u : Option Str) (p : Pr) : List Str := if p.2 = u then p.1 :: ord ps (some p.1) else []
theorem ord_suffix {ps : List Pr} (va : Valid [] ps) (u : Option Str) : ∀ (t pre : List Pr), ps = pre ++ t → ord t u = t.flatMap (step ps u)
  | [], _, _ => rfl
  | (c, o) :: r, pre, e => by
    have hi : ps[pre.length]? = some (c, o) := by rw [e]; simp
    have h1 : ord ps (some c) = ord r (some c) := by
      have h2 := ahead_at va hi
      have e2 : ps = ps.take (pre.length + 1) ++ r := by
        have e3 : pre ++ (c, o) :: r = (pre ++ [(c, o)]) ++ r := by simp
        have e4 : ps.take (pre.length + 1) = pre ++ [(c, o)] := by
          rw [e, e3, List.take_append_of_le_length (by simp)]
          rw [List.take_of_length_le (by simp)]
        rw [e4, ← e3]
        exact e
      unfold ord
      rw [e2, mk_skip h2]
    have ih := ord_suffix va u r (pre ++ [(c, o)]) (by rw [e]; simp)
    rw [ord_cons, List.flatMap_cons, ← ih]
    unfold step
    rw [h1]
    by_cases ho : o = u
    · simp [ho]
    · simp [ho]
theorem ord_flat {ps : List Pr} (va : Valid [] ps) (u : Option Str) : ord ps u = ps.flatMap (step ps u) := ord_suffix va u ps [] rfl
theorem ord_take {ps : List Pr} {u : Option Str} {i : Nat} {q : Pr} (h : ps[i]? = some q) : (ps.take (i + 1)).flatMap (step ps u) = (ps.take i).flatMap (step ps u) ++ step ps u q := by
  rw [List.take_add_one, h, List.flatMap_append]
  show _ ++ (step ps u q ++ []) = _
  rw [List.append_nil]
/-- the names in the tree's order are the names told -/
theorem pick : ∀ {us : List (Option Str)} {o : Option Str} {A : List Str} {g : Option Str → List Str}, us.Nodup → o ∈ us → (us.flatMap fun u => if o = u then A ++ g u else g u).Perm (A ++ us.flatMap g)
  | [], _, _, _, _, h => nomatch h
  | v :: us, o, A, g, hn, h => by
    rw [List.nodup_cons] at hn
    by_cases e : o = v
    · have hn2 : o ∉ us := e ▸ hn.1
      have e2 : (us.flatMap fun u => if o = u then A ++ g u else g u) = us.flatMap g := by
        clear hn h
        induction us with
        | nil => rfl
        | cons x r ih =>
          rw [List.mem_cons, not_or] at hn2
          rw [List.flatMap_cons, List.flatMap_cons, ih hn2.2, if_neg hn2.1]
      rw [List.flatMap_cons, List.flatMap_cons, e2, if_pos e, List.append_assoc]
    · have h2 : o ∈ us := (List.mem_cons.mp h).resolve_left e
      rw [List.flatMap_cons, List.flatMap_cons, if_neg e]
      have ih := pick (A := A) (g := g) hn.2 h2
      refine ((List.Perm.append_left (g v) ih).trans ?_)
      rw [← List.append_assoc, ← List.append_assoc]
      exact List.Perm.append_right _ List.perm_append_comm
theorem ords_perm : ∀ {ps : List Pr} {seen : List Str}, seen.Nodup → Valid seen ps → ((none :: seen.map some).flatMap (ord ps)).Perm (ps.map Prod.fst)
  | [], seen, _, _ => by
    have : ∀ us : List (Option Str), us.flatMap (ord []) = [] := by
      intro us
      induction us with
      | nil => rfl
      | cons u us ih => rw [List.flatMap_cons, ih]; rfl
    rw [this]
    exact List.Perm.nil
  | (c, o) :: r, seen, hn, ⟨h1, h2, h3⟩ => by
    have hn2 : (seen ++ [c]).Nodup := by
      rw [List.nodup_append]
      refine ⟨hn, by simp, fun a ha b hb => ?_⟩
      rw [List.mem_singleton.mp hb]
      exact fun e => h1 (e ▸ ha)
    have ih := ords_perm hn2 h3
    have hu : (none :: seen.map some : List (Option Str)).Nodup := by
      rw [List.nodup_cons]
      refine ⟨by simp, ?_⟩
      rw [List.nodup_iff_pairwise_ne, List.pairwise_map]
      exact List.Pairwise.imp (fun h e => h (Option.some.inj e)) (List.nodup_iff_pairwise_ne.mp hn)
    have ho : o ∈ (none :: seen.map some : List (Option Str)) := by
      cases o with
      | none => exact List.mem_cons_self
      | some x => exact List.mem_cons_of_mem _ (List.mem_map.mpr ⟨x, h2 x rfl, rfl⟩)
    have e1 : (none :: seen.map some).flatMap (ord ((c, o) :: r)) = (none :: seen.map some).flatMap fun u => if o = u then (c :: ord r (some c)) ++ ord r u else ord r u := by
      congr 1
      funext u
      rw [ord_cons]
      split <;> rfl
    rw [e1]
    refine (pick hu ho).trans ?_
    rw [List.map_cons, List.cons_append]
    refine List.Perm.cons c ?_
    refine List.Perm.trans ?_ ih
    rw [List.map_append, ← List.cons_append, List.flatMap_append]
    have e3 : List.flatMap (ord r) (List.map some [c]) = ord r (some c) := by
      show ord r (some c) ++ [] = _
      rw [List.append_nil]
    rw [e3]
    exact List.perm_append_comm
theorem ord_perm {ps : List Pr} (va : Valid [] ps) : (ord ps none).Perm (ps.map Prod.fst) := by
  have := ords_perm List.nodup_nil va
  simpa using this
theorem ord_nodup {ps : List Pr} (va : Valid [] ps) : (ord ps none).Nodup := (List.Perm.nodup_iff (ord_perm va)).mpr (valid_nodup va)
/-- the pairs in the tree's order are pairs told -/
theorem mk_sub : ∀ {ps : List Pr} {u : Option Str} {p : Pr}, p ∈ flat (mk ps u) u → p ∈ ps
  | [], _, _, h => nomatch h
  | (c, o) :: r, u, p, h => by
    have h' : p ∈ flat (if o = u then .cons c (mk r (some c)) (mk r u) else mk r u) u := h
    by_cases e : o = u
    · rw [if_pos e] at h'
      have h'' : p ∈ (c, u) :: (flat (mk r (some c)) (some c) ++ flat (mk r u) u) := h'
      rcases List.mem_cons.mp h'' with e2 | h2
      · rw [e2, e]
        exact List.mem_cons_self
      · rcases List.mem_append.mp h2 with h2 | h2
        · exact List.mem_cons_of_mem _ (mk_sub h2)
        · exact List.mem_cons_of_mem _ (mk_sub h2)
    · rw [if_neg e] at h'
      exact List.mem_cons_of_mem _ (mk_sub h')
end TM
namespace TM
open PySem L2
theorem flat_le {α β : Type} {f : α → List β} {k : Nat} : ∀ {l : List α}, (∀ a ∈ l, (f a).length ≤ k) → (l.flatMap f).length ≤ k * l.length
  | [], _ => by simp
  | a :: r, h => by
    rw [List.flatMap_cons, List.length_append, List.length_cons, Nat.mul_succ]
    have h1 := h a List.mem_cons_self
    have h2 := flat_le (l := r) fun b hb => h b (List.mem_cons_of_mem _ hb)
    omega
theorem flat_no {ps : List Pr} {c : Str} {o : Option Str} {us : List (Option Str)} (h : o ∉ us) : us.flatMap (ord ((c, o) :: ps)) = us.flatMap (ord ps) := by
  induction us with
  | nil => rfl
  | cons u r ih =>
    rw [List.mem_cons, not_or] at h
    rw [List.flatMap_cons, List.flatMap_cons, ih h.2, ord_cons, if_neg h.1]
theorem ords_le : ∀ {ps : List Pr} {seen : List Str} {us : List (Option Str)}, us.Nodup → Valid seen ps → (∀ x ∈ ps.map Prod.fst, some x ∉ us) → (us.flatMap (ord ps)).length ≤ ps.length
  | [], _, us, _, _, _ => by
    induction us with
    | nil => exact Nat.le_refl _
    | cons u us ih =>
      rw [List.flatMap_cons, List.length_append]
      rename_i h _ _
      have := ih (List.nodup_cons.mp (by assumption)).2 (fun x hx => nomatch hx)
      rw [ord_nil]
      simpa using this
  | (c, o) :: r, seen, us, hu, ⟨h1, h2, h3⟩, hx => by
    by_cases ho : o ∈ us
    · have e1 : us.flatMap (ord ((c, o) :: r)) = us.flatMap fun u => if o = u then (c :: ord r (some c)) ++ ord r u else ord r u := by
        congr 1
        funext u
        rw [ord_cons]
        split <;> rfl
      rw [e1, (pick (A := c :: ord r (some c)) (g := ord r) hu ho).length_eq]
      have hc : some c ∉ us := hx c (by simp)
      have ih := ords_le (us := some c :: us) (List.nodup_cons.mpr ⟨hc, hu⟩) h3 (fun x hx2 h => by
        rcases List.mem_cons.mp h with e | h
        · have := valid_notin h3 (x := c) (by simp)
          exact this (Option.some.inj e ▸ hx2)
        · exact hx x (List.mem_cons_of_mem _ hx2) h)
      rw [List.flatMap_cons, List.length_append] at ih
      simp only [List.length_append, List.length_cons]
      omega
    · rw [flat_no ho]
      have ih := ords_le hu h3 (fun x hx2 => hx x (List.mem_cons_of_mem _ hx2))
      rw [List.length_cons]
      omega
theorem valid_drop : ∀ {ps : List Pr} {seen : List Str} (i : Nat), Valid seen ps → ∃ s, Valid s (ps.drop i)
  | [], seen, i, _ => ⟨seen, by simp [Valid]⟩
  | (a, b) :: r, seen, 0, h => ⟨seen, h⟩
  | (a, b) :: r, seen, i + 1, ⟨_, _, h3⟩ => valid_drop i h3
theorem ord_le {ps : List Pr} (va : Valid [] ps) (u : Option Str) : (ord ps u).length ≤ ps.length := by
  have one : ∀ (qs : List Pr) (s : List Str), Valid s qs → (∀ x ∈ qs.map Prod.fst, u ≠ some x) → (ord qs u).length ≤ qs.length := fun qs s v h => by
    have := ords_le (us := [u]) (by simp) v (fun x hx e => h x hx (List.mem_singleton.mp e).symm)
    simpa using this
  by_cases h : ∃ c, u = some c ∧ c ∈ ps.map Prod.fst
  · obtain ⟨c, rfl, hc⟩ := h
    obtain ⟨⟨c', o⟩, hm, rfl⟩ := List.mem_map.mp hc
    obtain ⟨i, hi, hie⟩ := List.getElem_of_mem hm
    have hq : ps[i]? = some (c', o) := by rw [List.getElem?_eq_getElem hi, hie]
    have e : ord ps (some c') = ord (ps.drop (i + 1)) (some c') := by
      unfold ord
      have := mk_skip (t := ps.drop (i + 1)) (ahead_at va hq)
      rw [List.take_append_drop] at this
      rw [this]
    obtain ⟨s, vs⟩ := valid_drop (i + 1) va
    have hnd := valid_nodup va
    rw [e]
    refine Nat.le_trans (one _ s vs fun x hx e2 => ?_) (by rw [List.length_drop]; omega)
    cases e2
    rw [List.map_drop] at hx
    obtain ⟨j, hj, hje⟩ := List.getElem_of_mem hx
    rw [List.getElem_drop] at hje
    have h1 : (ps.map Prod.fst)[i]'(by simpa using hi) = c' := by rw [List.getElem_map, hie]
    have := (List.getElem_inj hnd).mp (hje.trans h1.symm)
    omega
  · exact one ps [] va fun x hx e => h ⟨x, e, hx⟩
end TM

/-! Where a name stands in a forest: what is above it, what is beneath. -/
namespace TM
open PySem L2
/-- what is above a name, and the forest beneath it -/
def loc : Fo → Str → Option (List Str × Fo)
  | .nil, _ => none
  | .cons d k r, c => if d = c then some ([], k) else match loc k c with
    | some (a, q) => some (d :: a, q)
    | none => loc r c
def tops : Fo → List Str
  | .nil => []
  | .cons c _ r => c :: tops r
theorem loc_names : ∀ {f : Fo} {c : Str}, c ∈ names f → ∃ a q, loc f c = some (a, q)
  | .nil, _, h => nomatch h
  | .cons d k r, c, h => by
    unfold loc
    by_cases e : d = c
    · exact ⟨_, _, if_pos e⟩
    · rw [if_neg e]
      cases hk : loc k c with
      | some p => exact ⟨_, _, rfl⟩
      | none =>
        have h' : c ∈ d :: (names k ++ names r) := h
        rcases List.mem_cons.mp h' with e2 | h2
        · exact absurd e2.symm e
        · rcases List.mem_append.mp h2 with h2 | h2
          · obtain ⟨a, q, e3⟩ := loc_names h2
            rw [hk] at e3
            cases e3
          · exact loc_names h2
theorem loc_mem : ∀ {f : Fo} {c : Str} {a : List Str} {q : Fo}, loc f c = some (a, q) → c ∈ names f
  | .nil, _, _, _, h => by unfold loc at h; cases h
  | .cons d k r, c, a, q, h => by
    unfold loc at h
    show c ∈ d :: (names k ++ names r)
    by_cases e : d = c
    · rw [e]; exact List.mem_cons_self
    · rw [if_neg e] at h
      cases hk : loc k c with
      | some p =>
        obtain ⟨b, p⟩ := p
        exact List.mem_cons_of_mem _ (List.mem_append_left _ (loc_mem hk))
      | none =>
        rw [hk] at h
        exact List.mem_cons_of_mem _ (List.mem_append_right _ (loc_mem h))
theorem loc_none {f : Fo} {c : Str} (h : c ∉ names f) : loc f c = none := by
  cases e : loc f c with
  | none => rfl
  | some p => exact absurd (loc_mem (a := p.1) (q := p.2) e) h
theorem nd_parts {d : Str} {k r : Fo} (h : (names (.cons d k r)).Nodup) : d ∉ names k ∧ d ∉ names r ∧ (names k).Nodup ∧ (names r).Nodup ∧ ∀ x ∈ names k, x ∉ names r := by
  have h' : (d :: (names k ++ names r)).Nodup := h
  rw [List.nodup_cons, List.nodup_append] at h'
  exact ⟨fun z => h'.1 (List.mem_append_left _ z), fun z => h'.1 (List.mem_append_right _ z), h'.2.1, h'.2.2.1, fun x hx hy => h'.2.2.2 x hx x hy rfl⟩
/-- the three ways in which a name stands in a forest -/
theorem loc_cases {d : Str} {k r : Fo} {c : Str} {a : List Str} {q : Fo} (h : loc (.cons d k r) c = some (a, q)) : (d = c ∧ a = [] ∧ q = k) ∨ (d ≠ c ∧ ∃ b, a = d :: b ∧ loc k c = some (b, q)) ∨ (d ≠ c ∧ loc k c = none ∧ loc r c = some (a, q)) := by
  unfold loc at h
  by_cases e : d = c
  · rw [if_pos e] at h
    cases h
    exact .inl ⟨e, rfl, rfl⟩
  · rw [if_neg e] at h
    cases hk : loc k c with
    | some p =>
      obtain ⟨b, p⟩ := p
      rw [hk] at h
      cases h
      exact .inr (.inl ⟨e, b, rfl, rfl⟩)
    | none =>
      rw [hk] at h
      exact .inr (.inr ⟨e, rfl, h⟩)
theorem loc_here {d : Str} {k r : Fo} : loc (.cons d k r) d = some ([], k) := by unfold loc; exact if_pos rfl
theorem loc_in {d c : Str} {k r : Fo} {b : List Str} {q : Fo} (e : d ≠ c) (h : loc k c = some (b, q)) : loc (.cons d k r) c = some (d :: b, q) := by
  unfold loc
  rw [if_neg e, h]
theorem loc_by {d c : Str} {k r : Fo} (e : d ≠ c) (h : loc k c = none) : loc (.cons d k r) c = loc r c := by
  rw [loc.eq_def]
  dsimp only
  rw [if_neg e, h]
theorem loc_sub : ∀ {f : Fo} {c : Str} {a : List Str} {q : Fo}, loc f c = some (a, q) → (a ++ [c]).Sublist (names f)
  | .nil, _, _, _, h => by unfold loc at h; cases h
  | .cons d k r, c, a, q, h => by
    show (a ++ [c]).Sublist (d :: (names k ++ names r))
    rcases loc_cases h with ⟨rfl, rfl, rfl⟩ | ⟨_, b, rfl, g⟩ | ⟨_, _, g⟩
    · exact List.Sublist.cons_cons _ (List.nil_sublist _)
    · exact List.Sublist.cons_cons _ ((loc_sub g).trans (List.sublist_append_left _ _))
    · exact List.Sublist.cons _ ((loc_sub g).trans (List.sublist_append_right _ _))
/-- what is beneath a name stands behind it, in one piece -/
theorem loc_seg : ∀ {f : Fo} {c : Str} {a : List Str} {q : Fo}, loc f c = some (a, q) → ∃ A B, names f = A ++ (c :: names q) ++ B
  | .nil, _, _, _, h => by unfold loc at h; cases h
  | .cons d k r, c, a, q, h => by
    have e0 : names (.cons d k r) = d :: (names k ++ names r) := rfl
    rcases loc_cases h with ⟨rfl, rfl, rfl⟩ | ⟨_, b, rfl, g⟩ | ⟨_, _, g⟩
    · exact ⟨[], names r, rfl⟩
    · obtain ⟨A, B, e⟩ := loc_seg g
      exact ⟨d :: A, B ++ names r, by rw [e0, e]; simp⟩
    · obtain ⟨A, B, e⟩ := loc_seg g
      exact ⟨d :: (names k ++ A), B, by rw [e0, e]; simp⟩
/-- the column right above -/
def lastOr (a : List Str) (u : Option Str) : Option Str := match a.getLast? with
  | some x => some x
  | none => u
theorem lastOr_snoc (a : List Str) (x : Str) (u : Option Str) : lastOr (a ++ [x]) u = some x := by unfold lastOr; rw [List.getLast?_concat]
theorem lastOr_cons (d : Str) (a : List Str) (u : Option Str) : lastOr (d :: a) u = lastOr a (some d) := by
  cases a with
  | nil => rfl
  | cons x r =>
    unfold lastOr
    rw [List.getLast?_cons_cons]
    rw [List.getLast?_eq_some_getLast (by simp)]
theorem loc_flat : ∀ {f : Fo} {c : Str} {a : List Str} {q : Fo} (u : Option Str), loc f c = some (a, q) → (c, lastOr a u) ∈ flat f u
  | .nil, _, _, _, _, h => by unfold loc at h; cases h
  | .cons d k r, c, a, q, u, h => by
    show _ ∈ (d, u) :: (flat k (some d) ++ flat r u)
    rcases loc_cases h with ⟨rfl, rfl, rfl⟩ | ⟨_, b, rfl, g⟩ | ⟨_, _, g⟩
    · exact List.mem_cons_self
    · rw [lastOr_cons]
      exact List.mem_cons_of_mem _ (List.mem_append_left _ (loc_flat (some d) g))
    · exact List.mem_cons_of_mem _ (List.mem_append_right _ (loc_flat u g))
/-- each one above, with what is above it -/
theorem loc_up : ∀ {f : Fo} {c : Str} {a : List Str} {q : Fo}, (names f).Nodup → loc f c = some (a, q) → ∀ (a1 a2 : List Str) (x : Str), a = a1 ++ x :: a2 → ∃ q1, loc f x = some (a1, q1) ∧ c ∈ names q1
  | .nil, _, _, _, _, h => by unfold loc at h; cases h
  | .cons d k r, c, a, q, hn, h => by
    intro a1 a2 x e
    obtain ⟨n1, n2, n3, n4, n5⟩ := nd_parts hn
    rcases loc_cases h with ⟨rfl, rfl, rfl⟩ | ⟨hd, b, rfl, g⟩ | ⟨hd, hk, g⟩
    · simp at e
    · cases a1 with
      | nil =>
        have e' : d :: b = x :: a2 := e
        injection e' with e1 e2
        subst e1
        exact ⟨k, loc_here, loc_mem g⟩
      | cons y a1 =>
        have e' : d :: b = y :: (a1 ++ x :: a2) := e
        injection e' with e1 e2
        subst e1
        obtain ⟨q1, h1, h2⟩ := loc_up n3 g _ _ _ e2
        exact ⟨q1, loc_in (fun z => n1 (z ▸ loc_mem h1)) h1, h2⟩
    · obtain ⟨q1, h1, h2⟩ := loc_up n4 g _ _ _ e
      have hx := loc_mem h1
      exact ⟨q1, (loc_by (fun (z : d = x) => n2 (z ▸ hx)) (loc_none fun z => n5 _ z hx)).trans h1, h2⟩
/-- each one beneath -/
theorem loc_down : ∀ {f : Fo} {c o : Str} {a a2 : List Str} {q q2 : Fo}, (names f).Nodup → loc f c = some (a, q) → loc q o = some (a2, q2) → loc f o = some (a ++ c :: a2, q2)
  | .nil, _, _, _, _, _, _, _, h, _ => by unfold loc at h; cases h
  | .cons d k r, c, o, a, a2, q, q2, hn, h, h2 => by
    obtain ⟨n1, n2, n3, n4, n5⟩ := nd_parts hn
    rcases loc_cases h with ⟨rfl, rfl, rfl⟩ | ⟨hd, b, rfl, g⟩ | ⟨hd, hk, g⟩
    · exact loc_in (fun z => n1 (z ▸ loc_mem h2)) h2
    · have ih := loc_down n3 g h2
      exact loc_in (fun z => n1 (z ▸ loc_mem ih)) ih
    · have ih := loc_down n4 g h2
      have hx := loc_mem ih
      exact (loc_by (fun (z : d = o) => n2 (z ▸ hx)) (loc_none fun z => n5 _ z hx)).trans ih
theorem loc_top : ∀ {f : Fo} {c : Str}, (names f).Nodup → (c ∈ tops f ↔ ∃ q, loc f c = some ([], q))
  | .nil, c, _ => ⟨(fun h => nomatch h), (fun ⟨q, h⟩ => by unfold loc at h; cases h)⟩
  | .cons d k r, c, hn => by
    obtain ⟨n1, n2, n3, n4, n5⟩ := nd_parts hn
    constructor
    · intro h
      have h' : c ∈ d :: tops r := h
      rcases List.mem_cons.mp h' with e | h2
      · subst e
        exact ⟨k, loc_here⟩
      · obtain ⟨q, e⟩ := (loc_top n4).mp h2
        have hx := loc_mem e
        exact ⟨q, (loc_by (fun (z : d = c) => n2 (z ▸ hx)) (loc_none fun z => n5 _ z hx)).trans e⟩
    · rintro ⟨q, h⟩
      show c ∈ d :: tops r
      rcases loc_cases h with ⟨rfl, _, _⟩ | ⟨_, b, e, _⟩ | ⟨_, _, h⟩
      · exact List.mem_cons_self
      · cases e
      · exact List.mem_cons_of_mem _ ((loc_top n4).mpr ⟨q, h⟩)
theorem tops_sub : ∀ f : Fo, (tops f).Sublist (names f)
  | .nil => List.Sublist.slnil
  | .cons d k r => List.Sublist.cons_cons _ ((tops_sub r).trans (List.sublist_append_right _ _))
theorem filter_mem : ∀ {l s : List Str}, l.Nodup → s.Sublist l → (l.filter fun x => decide (x ∈ s)) = s
  | [], s, _, h => by
    cases h
    rfl
  | x :: l, s, hn, h => by
    rw [List.nodup_cons] at hn
    cases h with
    | cons _ h =>
      have hx : x ∉ s := fun z => hn.1 (h.subset z)
      rw [List.filter_cons_of_neg (by simpa using hx)]
      exact filter_mem hn.2 h
    | cons_cons _ h =>
      rename_i s
      rw [List.filter_cons_of_pos (by simp)]
      congr 1
      have e : (l.filter fun y => decide (y ∈ x :: s)) = l.filter fun y => decide (y ∈ s) := by
        refine List.filter_congr fun y hy => ?_
        have : y ≠ x := fun z => hn.1 (z ▸ hy)
        simp [this]
      rw [e]
      exact filter_mem hn.2 h
/-- above and beneath are one thing, told from both ends -/
theorem up_down {f : Fo} {c o : Str} {a a' : List Str} {q q' : Fo} (hn : (names f).Nodup) (hc : loc f c = some (a, q)) (ho : loc f o = some (a', q')) : c ∈ a' ↔ o ∈ names q := by
  constructor
  · intro h
    obtain ⟨a1, a2, e⟩ := List.append_of_mem h
    obtain ⟨q1, h1, h2⟩ := loc_up hn ho _ _ _ e
    rw [hc] at h1
    cases h1
    exact h2
  · intro h
    obtain ⟨a2, q2, h2⟩ := loc_names h
    have := loc_down hn hc h2
    rw [ho] at this
    cases this
    simp
/-- what is right beneath a name -/
theorem kid_iff {f : Fo} {c o : Str} {a a' : List Str} {q q' : Fo} (hn : (names f).Nodup) (hq : (names q).Nodup) (hc : loc f c = some (a, q)) (ho : loc f o = some (a', q')) : a'.getLast? = some c ↔ o ∈ tops q := by
  constructor
  · intro h
    obtain ⟨a1, e⟩ : ∃ a1, a' = a1 ++ [c] := by
      rw [List.getLast?_eq_some_iff] at h
      exact h
    obtain ⟨q1, h1, h2⟩ := loc_up hn ho a1 [] c e
    rw [hc] at h1
    cases h1
    obtain ⟨a2, q2, h3⟩ := loc_names h2
    have h4 := loc_down hn hc h3
    rw [ho] at h4
    obtain ⟨e4, _⟩ := Prod.mk.inj (Option.some.inj h4)
    rw [e] at e4
    have e5 : [c] = c :: a2 := List.append_cancel_left e4
    have e6 : a2 = [] := by
      have := (List.cons.inj e5).2
      exact this.symm
    subst e6
    exact (loc_top hq).mpr ⟨q2, h3⟩
  · intro h
    obtain ⟨q2, h3⟩ := (loc_top hq).mp h
    have h4 := loc_down hn hc h3
    rw [ho] at h4
    obtain ⟨e4, _⟩ := Prod.mk.inj (Option.some.inj h4)
    rw [e4, List.getLast?_concat]
theorem sub_nodup {f : Fo} {c : Str} {a : List Str} {q : Fo} (hn : (names f).Nodup) (h : loc f c = some (a, q)) : (c :: names q).Nodup := by
  obtain ⟨A, B, e⟩ := loc_seg h
  rw [e, List.append_assoc, List.nodup_append] at hn
  exact (List.nodup_append.mp hn.2.1).1
theorem seg_sub {f : Fo} {c : Str} {a : List Str} {q : Fo} (h : loc f c = some (a, q)) : (c :: names q).Sublist (names f) := by
  obtain ⟨A, B, e⟩ := loc_seg h
  rw [e, List.append_assoc]
  exact (List.sublist_append_left _ _).trans (List.sublist_append_right _ _)
/-- the names beneath, child by child -/
def kidsOf (f : Fo) (c : Str) : List Str := match loc f c with
  | some (_, q) => c :: names q
  | none => []
theorem kids_flat : ∀ {q : Fo}, (names q).Nodup → (tops q).flatMap (kidsOf q) = names q
  | .nil, _ => rfl
  | .cons d k r, hn => by
    obtain ⟨n1, n2, n3, n4, n5⟩ := nd_parts hn
    show (d :: tops r).flatMap (kidsOf (.cons d k r)) = d :: (names k ++ names r)
    rw [List.flatMap_cons]
    have e1 : kidsOf (.cons d k r) d = d :: names k := by unfold kidsOf; rw [loc_here]
    have e2 : (tops r).flatMap (kidsOf (.cons d k r)) = (tops r).flatMap (kidsOf r) := by
      have : ∀ l : List Str, (∀ x ∈ l, x ∈ names r) → l.flatMap (kidsOf (.cons d k r)) = l.flatMap (kidsOf r) := by
        intro l
        induction l with
        | nil => intro _; rfl
        | cons x t ih =>
          intro h
          rw [List.flatMap_cons, List.flatMap_cons, ih fun y hy => h y (List.mem_cons_of_mem _ hy)]
          congr 1
          have hx := h x List.mem_cons_self
          unfold kidsOf
          rw [loc_by (fun (z : d = x) => n2 (z ▸ hx)) (loc_none fun z => n5 _ z hx)]
      exact this _ fun x hx => (tops_sub r).subset hx
    rw [e1, e2, kids_flat n4, List.cons_append]
end TM
namespace TM
open PySem L2
theorem perm_eq {α : Type} {R : α → α → Prop} (anti : ∀ a b, R a b → R b a → a = b) : ∀ {l m : List α}, l.Perm m → l.Pairwise R → m.Pairwise R → l = m
  | [], m, h, _, _ => by
    have := h.length_eq
    cases m with
    | nil => rfl
    | cons b m => simp at this
  | a :: l, [], h, _, _ => by
    have := h.length_eq
    simp at this
  | a :: l, b :: m, h, h1, h2 => by
    have hab : a = b := by
      have ha : a ∈ b :: m := h.subset List.mem_cons_self
      have hb : b ∈ a :: l := h.symm.subset List.mem_cons_self
      rcases List.mem_cons.mp ha with e | ha
      · exact e
      · rcases List.mem_cons.mp hb with e | hb
        · exact e.symm
        · exact anti a b ((List.pairwise_cons.mp h1).1 b hb) ((List.pairwise_cons.mp h2).1 a ha)
    subst hab
    rw [perm_eq anti (List.Perm.cons_inv h) (List.pairwise_cons.mp h1).2 (List.pairwise_cons.mp h2).2]
/-- the first i trees of a forest -/
def takeF : Nat → Fo → Fo
  | 0, _ => .nil
  | _ + 1, .nil => .nil
  | i + 1, .cons c k r => .cons c k (takeF i r)
theorem takeF_all : ∀ f : Fo, takeF (tops f).length f = f
  | .nil => rfl
  | .cons c k r => by
    show Fo.cons c k (takeF (tops r).length r) = _
    rw [takeF_all r]
theorem takeF_next : ∀ {f : Fo} {i : Nat} {c : Str}, (names f).Nodup → (tops f)[i]? = some c → ∃ k, loc f c = some ([], k) ∧ takeF (i + 1) f = app (takeF i f) (.cons c k .nil)
  | .nil, i, c, _, h => by simp [tops] at h
  | .cons d k r, 0, c, _, h => by
    have e : d = c := by simpa [tops] using h
    subst e
    exact ⟨k, loc_here, rfl⟩
  | .cons d k r, i + 1, c, hn, h => by
    have h' : (tops r)[i]? = some c := by simpa [tops] using h
    obtain ⟨n1, n2, n3, n4, n5⟩ := nd_parts hn
    obtain ⟨q, h1, h2⟩ := takeF_next n4 h'
    have hx := loc_mem h1
    refine ⟨q, (loc_by (fun (z : d = c) => n2 (z ▸ hx)) (loc_none fun z => n5 _ z hx)).trans h1, ?_⟩
    show Fo.cons d k (takeF (i + 1) r) = Fo.cons d k (app (takeF i r) (.cons c q .nil))
    rw [h2]
theorem takeF_sub : ∀ (f : Fo) (i : Nat), (names (takeF i f)).Sublist (names f)
  | _, 0 => List.nil_sublist _
  | .nil, i + 1 => List.Sublist.slnil
  | .cons c k r, i + 1 => by
    show (c :: (names k ++ names (takeF i r))).Sublist (c :: (names k ++ names r))
    exact List.Sublist.cons_cons _ (List.Sublist.append_left (takeF_sub r i) _)
/-- the pairs of one tree, picked out of a forest's -/
theorem pick_tree : ∀ {f : Fo} {c : Str} {k : Fo}, (names f).Nodup → loc f c = some ([], k) → (flat f none).filter (fun q => decide (q.1 ∈ c :: names k)) = flat (.cons c k .nil) none
  | .nil, _, _, _, h => by unfold loc at h; cases h
  | .cons d k' r, c, k, hn, h => by
    obtain ⟨n1, n2, n3, n4, n5⟩ := nd_parts hn
    have keep : ∀ (l : List Pr), (∀ q ∈ l, q.1 ∈ c :: names k) → l.filter (fun q => decide (q.1 ∈ c :: names k)) = l := fun l hl => List.filter_eq_self.mpr fun q hq => decide_eq_true (hl q hq)
    have drop : ∀ (l : List Pr), (∀ q ∈ l, q.1 ∉ c :: names k) → l.filter (fun q => decide (q.1 ∈ c :: names k)) = [] := fun l hl => List.filter_eq_nil_iff.mpr fun q hq z => hl q hq (of_decide_eq_true z)
    have nm : ∀ {g : Fo} {u : Option Str} {q : Pr}, q ∈ flat g u → q.1 ∈ names g := fun {g u q} hq => by rw [← flat_names g u]; exact List.mem_map.mpr ⟨q, hq, rfl⟩
    show ((d, none) :: (flat k' (some d) ++ flat r none)).filter _ = (c, none) :: (flat k (some c) ++ [])
    rcases loc_cases h with ⟨rfl, _, rfl⟩ | ⟨_, b, e, _⟩ | ⟨hd, hk, g⟩
    · rw [List.filter_cons_of_pos (by simp), List.filter_append, keep (flat k (some d)) fun q hq => List.mem_cons_of_mem _ (nm hq), drop (flat r none) fun q hq z => ?_]
      rcases List.mem_cons.mp z with z | z
      · exact n2 (z ▸ nm hq)
      · exact n5 _ z (nm hq)
    · cases e
    · have hs := seg_sub g
      rw [List.filter_cons_of_neg (by
        intro z
        exact n2 (hs.subset (of_decide_eq_true z))), List.filter_append, drop (flat k' (some d)) fun q hq z => n5 _ (nm hq) (hs.subset z), List.nil_append]
      exact pick_tree n4 g
end TM

set_option maxHeartbeats 2000000
/-! Words of our own, over any row. -/
namespace TX
open PySem L2 PyProof.Rows
/-- the built-in names that the text leaves alone -/
structure Bn (mg : Str → Option Value) : Prop where
  len : mg "len" = none
  isi : mg "isinstance" = none
  str : mg "str" = none
  list : mg "list" = none
  tuple : mg "tuple" = none
  dict : mg "dict" = none
  int : mg "int" = none
  range : mg "range" = none
  enum : mg "enumerate" = none
  all : mg "all" = none
  any : mg "any" = none
  max : mg "max" = none
  sorted : mg "sorted" = none
/-- a def of the module, ready to be called -/
structure Fn (K : PySem.W.Frag) (mg : Str → Option Value) (x : Str) (st : Stmt) (ps : List Str) (f : Addr) (fd : FuncData) : Prop where
  F : Fun K x x st f fd
  g : mg x = some (.ref f)
  b : Binds K fd ps []
/-- all that was tracked but at W is as it was -/
def Sm (W : Addr) (H H' : Hp) : Prop := ∀ b o, b ≠ W → H b = some o → H' b = some o
theorem Sm.rfl' {W : Addr} {H : Hp} : Sm W H H := fun _ _ _ h => h
theorem Sm.trans {W : Addr} {H H1 H2 : Hp} (a : Sm W H H1) (b : Sm W H1 H2) : Sm W H H2 := fun c o n h => b c o n (a c o n h)
theorem Sm.of {W : Addr} {H H' : Hp} (s : Same H H') : Sm W H H' := fun c o _ h => s c o h
theorem Same.new {H : Hp} {p : Addr} {o : HO} (h : H p = none) : Same H (upd H p o) := fun a u e => by rw [upd_ne (ne_of_none e h)]; exact e
theorem Same.new' {H H1 : Hp} {p : Addr} {o : HO} (s : Same H H1) (h : H1 p = none) : Same H (upd H1 p o) := s.trans (Same.new h)
theorem Sm.new {W : Addr} {H H1 : Hp} {p : Addr} {o : HO} (s : Sm W H H1) (h : H1 p = none) : Sm W H (upd H1 p o) := s.trans (.of (Same.new h))
theorem Sm.put {W : Addr} {H H1 : Hp} {o : HO} (s : Sm W H H1) : Sm W H (upd H1 W o) := fun a u n e => by rw [upd_ne n]; exact s a u n e
/-- a well: three ints; n draws may follow -/
def WellAt (n : Nat) (H : Hp) (W : Addr) : Prop := ∃ a b c : Int, H W = some (.lst [.int a, .int b, .int c]) ∧ 0 ≤ b ∧ b < 2147483648 ∧ 0 ≤ c ∧ c + n ≤ 1000000000000
theorem WellAt.mono {n m : Nat} {H : Hp} {W : Addr} (h : WellAt n H W) (hm : m ≤ n) : WellAt m H W := by
  obtain ⟨a, b, c, e, h1, h2, h3, h4⟩ := h
  exact ⟨a, b, c, e, h1, h2, h3, by omega⟩
theorem WellAt.same {n : Nat} {H H' : Hp} {W : Addr} (h : WellAt n H W) (s : Same H H') : WellAt n H' W := by
  obtain ⟨a, b, c, e, r⟩ := h
  exact ⟨a, b, c, s _ _ e, r⟩
theorem WellAt.new {n : Nat} {H : Hp} {W p : Addr} {o : HO} (h : WellAt n H W) (hp : H p = none) : WellAt n (upd H p o) W := h.same (Same.new hp)
theorem WellAt.ne {n : Nat} {H : Hp} {W p : Addr} (h : WellAt n H W) (hp : H p = none) : W ≠ p := by
  obtain ⟨a, b, c, e, r⟩ := h
  exact ne_of_none e hp
/-- a turn's or a test's joint: what is known of the slots and the heap behind -/
theorem two_le : (2 : Nat) ≤ sizeLine := by decide
theorem small100 {n : Nat} (h : n ≤ 1000) : n ≤ sizeLine := Nat.le_trans h (by decide)
end TX
namespace TX
open PySem L2 PyProof.Rows
theorem Same.mut {H H1 : Hp} {p : Addr} {o : HO} (s : Same H H1) (h : H p = none) : Same H (upd H1 p o) := fun a u e => by rw [upd_ne (ne_of_none e h)]; exact s a u e
theorem Sm.mut {W : Addr} {H H1 : Hp} {p : Addr} {o : HO} (s : Sm W H H1) (h : H p = none) : Sm W H (upd H1 p o) := fun a u n e => by rw [upd_ne (ne_of_none e h)]; exact s a u n e
theorem WellAt.upd {n : Nat} {H : Hp} {W p : Addr} {o : HO} (h : WellAt n H W) (hp : W ≠ p) : WellAt n (L2.upd H p o) W := by
  obtain ⟨a, b, c, e, r⟩ := h
  exact ⟨a, b, c, by rw [upd_ne hp]; exact e, r⟩
theorem Sm.free {W : Addr} {H H' : Hp} (e : Sm W H H') {n : Nat} (hW : WellAt n H W) {l : Addr} (h : H' l = Option.none) (hW' : ∃ m, WellAt m H' W) : H l = Option.none := by
  cases q : H l with
  | none => rfl
  | some o =>
    obtain ⟨m, a, b, c, z, _⟩ := hW'
    have : l ≠ W := fun x => by rw [x, z] at h; cases h
    rw [e l o this q] at h
    cases h
/-- signs as texts -/
def S (l : List Nat) : Str := ⟨l.toArray⟩
theorem S_len (l : List Nat) : (S l).length = l.length := by show l.toArray.size = _; rw [List.size_toArray]
theorem S_cps (l : List Nat) : (S l).cps.toList = l := rfl
theorem S_inj {l m : List Nat} (h : S l = S m) : l = m := by
  have := congrArg (fun s : Str => s.cps.toList) h
  exact this
theorem S_eta (s : Str) : s = S s.cps.toList := by
  obtain ⟨⟨l⟩⟩ := s
  rfl
theorem S_app (l m : List Nat) : S l ++ S m = S (l ++ m) := by
  show (⟨l.toArray ++ m.toArray⟩ : Str) = ⟨(l ++ m).toArray⟩
  simp
theorem join_empty : ∀ ys : List (List Nat), Txt.join (S []) (ys.map S) = S ys.flatten := by
  intro ys
  show Builtin.Str.glued (S []) (ys.map S) = _
  rw [StrLaws.glued_eq_join]
  induction ys with
  | nil => rfl
  | cons y r ih =>
    cases r with
    | nil =>
      show S y = S ([y].flatten)
      simp
    | cons z r =>
      show S y ++ S [] ++ Str.join (S []) ((z :: r).map S) = _
      rw [ih, S_app, S_app]
      simp
theorem cutS_S (l : List Nat) (lo hi : Option Int) : cutS (S l) lo hi = S ((l.drop (HT.sIx l.length 0 lo)).take (HT.sIx l.length l.length hi - HT.sIx l.length 0 lo)) := by
  unfold cutS
  rw [S_len]
  rfl
/-- the letters -/
def abc : Str := Str.ofString "abcdefghijklmnopqrstuvwxyz"
theorem abc_eq : abc = S [97, 98, 99, 100, 101, 102, 103, 104, 105, 106, 107, 108, 109, 110, 111, 112, 113, 114, 115, 116, 117, 118, 119, 120, 121, 122] := by decide +kernel
theorem abc_at {j : Nat} (h : j < 26) : atI abc.cps.toList (j : Int) = some (97 + j) := by
  rw [abc_eq]
  refine atI_nat ?_
  rw [S_cps]
  revert j
  decide
theorem abc_len : abc.length ≤ sizeLine := by rw [abc_eq, S_len]; decide
/-- the k-th name of a well's -/
def nmOf (base : List Nat) (spot more bg ap k : Nat) : Str := S (base.take spot ++ (97 + (bg + ap * k) % 26) :: (base.drop spot).take more)
theorem nm_ok {base : List Nat} {spot more bg ap k : Nat} (hb : base.length = 7) (hc : ∀ c ∈ base, 97 ≤ c ∧ c ≤ 122) (hs : spot + more ≤ 7) : TM.NameOk (nmOf base spot more bg ap k) := by
  unfold TM.NameOk nmOf
  rw [S_len, S_cps]
  simp only [List.length_append, List.length_cons, List.length_take, List.length_drop, hb]
  refine ⟨by omega, by omega, fun c h => ?_⟩
  rcases List.mem_append.mp h with h | h
  · exact hc c (List.mem_of_mem_take h)
  · rcases List.mem_cons.mp h with h | h
    · have := Nat.mod_lt (bg + ap * k) (show 26 > 0 by decide)
      omega
    · exact hc c (List.mem_of_mem_drop (List.mem_of_mem_take h))
theorem nm_inj {base : List Nat} {spot more bg ap k k' : Nat} (ha : ap ∈ [1, 3, 5, 7, 9, 11, 15, 17]) (hk : k < 26) (hk' : k' < 26) (h : nmOf base spot more bg ap k = nmOf base spot more bg ap k') : k = k' := by
  have h1 := S_inj h
  have h2 := (List.append_inj h1 rfl).2
  have h3 : 97 + (bg + ap * k) % 26 = 97 + (bg + ap * k') % 26 := (List.cons.inj h2).1
  simp only [List.mem_cons, List.not_mem_nil, or_false] at ha
  rcases ha with e | e | e | e | e | e | e | e <;> subst e <;> omega
theorem nm_nodup {base : List Nat} {spot more bg ap n : Nat} (ha : ap ∈ [1, 3, 5, 7, 9, 11, 15, 17]) (hn : n ≤ 26) : ((List.range n).map (nmOf base spot more bg ap)).Nodup := by
  rw [List.nodup_iff_pairwise_ne, List.pairwise_map]
  refine List.Pairwise.imp_of_mem ?_ (List.nodup_iff_pairwise_ne.mp List.nodup_range)
  intro a b ha' hb' hne e
  exact hne (nm_inj ha (by have := List.mem_range.mp ha'; omega) (by have := List.mem_range.mp hb'; omega) e)
end TX
namespace TX
open PySem L2 PyProof.Rows
theorem sum_signs (cs : List Nat) : (List.map (fun x : Str => x.length) (cs.map fun c => S [c])).sum = cs.length := by
  induction cs with
  | nil => rfl
  | cons c r ih =>
    rw [List.map_cons, List.map_cons, List.sum_cons, ih, S_len, List.length_cons]
    simp
    omega
theorem join_signs (cs : List Nat) : Txt.join (Str.ofString "") (cs.map fun c => S [c]) = S cs := by
  have e1 : Str.ofString "" = S [] := by decide +kernel
  have e2 : cs.map (fun c => S [c]) = (cs.map fun c => [c]).map S := by rw [List.map_map]; rfl
  have e3 : (cs.map fun c => [c]).flatten = cs := by
    clear e2
    induction cs with
    | nil => rfl
    | cons c r ih => rw [List.map_cons, List.flatten_cons, ih]; rfl
  rw [e1, e2, join_empty, e3]
theorem len_empty : (Str.ofString "").length = 0 := by decide +kernel
end TX
namespace TX
open PySem L2 PyProof.Rows
theorem line100 {n : Nat} (h : n ≤ 1000) : n ≤ sizeLine := Nat.le_trans h (by decide)
theorem line100' {n : Nat} (h : n ≤ 1000) : n < sizeLine := Nat.lt_of_le_of_lt h (by decide)
theorem sapp_len (a b : Str) : (a ++ b).length = a.length + b.length := by
  show (a.cps ++ b.cps).size = _
  rw [Array.size_append]
  rfl
end TX
namespace TX
open PySem L2 PyProof.Rows TM
def optV : Option Str → V
  | none => .non
  | some x => .str x
/-- tuples of a name and what stands over it -/
def TupsAt (H : Hp) : List Addr → List Pr → Prop := Paired fun a q => H a = some (.tup [.str q.1, optV q.2])
def PairsAt (H : Hp) (p : Addr) (ps : List Pr) : Prop := ∃ as, H p = some (.lst (as.map V.ref)) ∧ TupsAt H as ps
theorem TupsAt.sm {W : Addr} {H H' : Hp} {as : List Addr} {ps : List Pr} (h : TupsAt H as ps) (s : Sm W H H') (w : ∃ n, WellAt n H W) : TupsAt H' as ps :=
  Paired.mapP h fun a q e => s a _ (by obtain ⟨n, x, y, z, e2, _⟩ := w; exact ne_of e e2 (by intro z; cases z)) e
theorem TupsAt.same {H H' : Hp} {as : List Addr} {ps : List Pr} (h : TupsAt H as ps) (s : Same H H') : TupsAt H' as ps := Paired.mapP h fun a q e => s a _ e
theorem TupsAt.put {H : Hp} {as : List Addr} {ps : List Pr} {p : Addr} {xs : List V} {o : HO} (h : TupsAt H as ps) (hp : H p = some (.lst xs)) : TupsAt (upd H p o) as ps :=
  Paired.mapP h fun a q e => by rw [upd_ne (ne_of e hp (by intro z; cases z))]; exact e
theorem TupsAt.snoc {H : Hp} {as : List Addr} {ps : List Pr} {a : Addr} {q : Pr} (h : TupsAt H as ps) (e : H a = some (.tup [.str q.1, optV q.2])) : TupsAt H (as ++ [a]) (ps ++ [q]) := by
  unfold TupsAt at *
  induction h with
  | nil => exact .cons e .nil
  | cons h _ ih => exact .cons h ih
theorem TupsAt.len {H : Hp} {as : List Addr} {ps : List Pr} (h : TupsAt H as ps) : as.length = ps.length := Paired.length h
theorem PairsAt.same {H H' : Hp} {p : Addr} {ps : List Pr} (h : PairsAt H p ps) (s : Same H H') : PairsAt H' p ps := by
  obtain ⟨as, e, t⟩ := h
  exact ⟨as, s _ _ e, t.same s⟩
theorem PairsAt.sm {W : Addr} {H H' : Hp} {p : Addr} {ps : List Pr} (h : PairsAt H p ps) (s : Sm W H H') (w : ∃ n, WellAt n H W) (hp : p ≠ W) : PairsAt H' p ps := by
  obtain ⟨as, e, t⟩ := h
  exact ⟨as, s _ _ hp e, t.sm s w⟩
end TX
namespace TX
open PySem L2 PyProof.Rows TM
def kvsOf (ps : List Pr) : List (Key × V) := ps.map fun q => ((Sum.inr q.1 : Key), optV q.2)
theorem kvs_none : ∀ {ps : List Pr} {x : Str}, x ∉ ps.map Prod.fst → valV (kvsOf ps) (Sum.inr x : Key) = none
  | [], _, _ => rfl
  | (c, o) :: r, x, h => by
    have hne : ¬ ((Sum.inr c : Key) = Sum.inr x) := fun e => by
      injection e with e
      exact h (by rw [e]; exact List.mem_cons_self)
    show valV (((Sum.inr c : Key), optV o) :: kvsOf r) _ = none
    rw [valV_neg hne]
    exact kvs_none fun hx => h (List.mem_cons_of_mem _ hx)
theorem kvs_some : ∀ {ps : List Pr} {x : Str} {o : Option Str}, (ps.map Prod.fst).Nodup → (x, o) ∈ ps → valV (kvsOf ps) (Sum.inr x : Key) = some (optV o)
  | [], _, _, _, h => nomatch h
  | (c, p) :: r, x, o, hn, h => by
    rw [List.map_cons, List.nodup_cons] at hn
    rcases List.mem_cons.mp h with e | h
    · obtain ⟨rfl, rfl⟩ := Prod.mk.inj e
      exact valV_pos (p := ((Sum.inr x : Key), optV o)) rfl
    · have hne : ¬ ((Sum.inr c : Key) = Sum.inr x) := fun e => by
        injection e with e
        exact hn.1 (by rw [e]; exact List.mem_map.mpr ⟨(x, o), h, rfl⟩)
      show valV (((Sum.inr c : Key), optV p) :: kvsOf r) _ = _
      rw [valV_neg hne]
      exact kvs_some hn.2 h
theorem optV_inj {o o' : Option Str} (h : optV o = optV o') : o = o' := by
  cases o with
  | none =>
    cases o' with
    | none => rfl
    | some y => cases h
  | some x =>
    cases o' with
    | none => cases h
    | some y =>
      have h' : V.str x = V.str y := h
      injection h' with h'
      rw [h']
/-- in a list or in a dict -/
theorem PC.or {X : Cx} {op : CmpOp} {a b : Expr} {t u : TE} (h1 : PC X op a b t) (h2 : PC X op a b u) : PC X op a b (fun σ H Q => t σ H Q ∨ u σ H Q) :=
  ⟨fun pins s σ H Q I h => h.elim (h1.run pins s σ H Q I) (h2.run pins s σ H Q I)⟩
theorem PC.ofR {X : Cx} {op : CmpOp} {a b : Expr} {ta tb : TE} {r : R2} (ho : OpR X (compareOp op) r) (ha : PE X a ta) (hb : PE X b tb) : PC X op a b (tOp r ta tb) :=
  ⟨fun pins s σ H Q I h => thn (ha.run pins s σ H _ I h) fun u s1 ⟨x, H1, I1, rx, h1⟩ => thn (hb.run pins s1 σ H1 _ I1 h1) fun v s2 ⟨y, H2, I2, ry, h2⟩ => ho pins s2 σ H2 x y u v Q I2 rx ry h2⟩
/-- the order of one sign and a letter -/
theorem lt_sign (c d : Nat) : ([c] < [d]) ↔ c < d := by
  constructor
  · intro h
    cases h with
    | rel h => exact h
    | cons h => cases h
  · intro h
    exact List.Lex.rel h
theorem str_a : Str.ofString "a" = S [97] := by decide +kernel
theorem str_z : Str.ofString "z" = S [122] := by decide +kernel
end TX
namespace TX
open PySem L2 PyProof.Rows TM
theorem TupsAt.get {H : Hp} {as : List Addr} {ps : List Pr} (h : TupsAt H as ps) : ∀ {i : Nat} {a : Addr}, as[i]? = some a → ∃ q, ps[i]? = some q ∧ H a = some (.tup [.str q.1, optV q.2]) := by
  unfold TupsAt at h
  induction h with
  | nil => intro i a e; simp at e
  | cons h _ ih =>
    intro i a e
    cases i with
    | zero =>
      simp at e
      subst e
      exact ⟨_, by simp, h⟩
    | succ i =>
      obtain ⟨q, h1, h2⟩ := ih (by simpa using e)
      exact ⟨q, by simpa using h1, h2⟩
theorem kvs_put {ps : List Pr} {c : Str} {o : Option Str} (h : c ∉ ps.map Prod.fst) : putK (kvsOf ps) (Sum.inr c : Key) (optV o) = kvsOf (ps ++ [(c, o)]) := by
  rw [putK_new _ (kvs_none h)]
  unfold kvsOf
  rw [List.map_append]
  rfl
theorem kvs_len (ps : List Pr) : (kvsOf ps).length = ps.length := by unfold kvsOf; rw [List.length_map]
theorem kvs_get {ps : List Pr} {i : Nat} : (kvsOf ps)[i]? = ps[i]?.map fun q => ((Sum.inr q.1 : Key), optV q.2) := by unfold kvsOf; rw [List.getElem?_map]
end TX
namespace TX
open PySem L2 PyProof.Rows TM
/-- a dict comprehension over a walk: Pr by the turn and the heap -/
theorem dc_walk {J : It} {n : Nat} {G : Hp → Prop} {Y : Nat → Hp → V → Hp → Prop} (wk : Walk J n G Y) {tgt : TG} {cond : TT} {key val : TE} {own : List Nat} {slots : L2.St} {Hs : Hp} {Dn : Addr} {Qf : Hp → Prop}
    (Pw : Nat → Hp → Prop) (start : Pw 0 (upd Hs Dn (.dK []))) (good : ∀ i h, i ≤ n → Pw i h → G h)
    (turn : ∀ i v h h', i < n → Pw i h → Y i h v h' → tgt v (wipe slots own) h' fun s2 h2 => wipe s2 own = wipe slots own ∧ cond s2 h2 fun b h3 =>
      (if b = true then (key s2 h3 fun ky h4 => val s2 h4 fun vl h5 => ∃ es kk, ky = kV kk ∧ h5 Dn = some (.dK es) ∧ es.length < sizeLine ∧ Pw (i + 1) (upd h5 Dn (.dK (putK es kk vl)))) else Pw (i + 1) h3))
    (fin : ∀ h, Pw n h → Qf h) :
    ∃ Z : Nat → Nat → Hp → Prop, (∃ m, Z 0 m (upd Hs Dn (.dK []))) ∧ ∀ i m h, Z i m h → (J.stop i h ∧ Qf h) ∨ (J.go i h ∧ ∃ Nx : Hp → Prop, (∀ h', Nx h' → ∃ m', m' < m ∧ Z (i + 1) m' h') ∧
      ∀ v h', J.yld i h v h' → tgt v (wipe slots own) h' fun s2 h2 => wipe s2 own = wipe slots own ∧ cond s2 h2 fun b h3 =>
        (if b = true then (key s2 h3 fun ky h4 => val s2 h4 fun vl h5 => ∃ es kk, ky = kV kk ∧ h5 Dn = some (.dK es) ∧ es.length < sizeLine ∧ Nx (upd h5 Dn (.dK (putK es kk vl)))) else Nx h3)) := by
  refine ⟨fun i m h => i ≤ n ∧ m = n - i ∧ Pw i h, ⟨n, Nat.zero_le _, by simp, start⟩, ?_⟩
  rintro i m h ⟨hi, rfl, pw⟩
  have g := good i h hi pw
  rcases Nat.lt_or_ge i n with hlt | hge
  · exact .inr ⟨wk.goes i h hlt g, Pw (i + 1), fun h' p' => ⟨n - (i + 1), by omega, hlt, rfl, p'⟩, fun v h' y => turn i v h h' hlt pw (wk.yields i h v h' hlt g y)⟩
  · obtain rfl : i = n := by omega
    exact .inl ⟨wk.stops h g, fin h pw⟩
/-- what is asked of a tree's names -/
structure FoOk (f : Fo) : Prop where
  nd : (names f).Nodup
  le : (names f).length ≤ 8
  ok : ∀ x ∈ names f, NameOk x
theorem foOk_mk {ps : List Pr} (va : Valid [] ps) (hl : ps.length ≤ 8) (hn : ∀ x ∈ ps.map Prod.fst, NameOk x) : FoOk (mk ps none) :=
  ⟨ord_nodup va, Nat.le_trans (ord_le va none) hl, fun x hx => hn x ((ord_perm va).mem_iff.mp hx)⟩
theorem kcol : ¬ (("_columns" : Str) = "_over") := by decide +kernel
/-- the attributes of a tree, in the order in which they are stored -/
def tflds (l d : Addr) : List (Str × V) := putF "_over" (.ref d) (putF "_columns" (.ref l) [])
theorem tflds_col (l d : Addr) : (tflds l d).lookup ("_columns" : Str) = some (.ref l) := by
  unfold tflds
  rw [lookup_putF, if_neg kcol, lookup_putF, if_pos rfl]
theorem tflds_over (l d : Addr) : (tflds l d).lookup ("_over" : Str) = some (.ref d) := by
  unfold tflds
  rw [lookup_putF, if_pos rfl]
theorem tflds_no (l d : Addr) {m : Str} (h1 : ¬ m = "_over") (h2 : ¬ m = "_columns") : (tflds l d).lookup m = none := by
  unfold tflds
  rw [lookup_putF, if_neg h1, lookup_putF, if_neg h2]
  rfl
theorem tflds_len (l d : Addr) : (tflds l d).length < 1000 := by
  unfold tflds
  show (if ("_columns" : Str) = "_over" then [(("_columns" : Str), V.ref d)] else (("_columns" : Str), V.ref l) :: putF "_over" (V.ref d) []).length < 1000
  rw [if_neg kcol]
  show 2 < 1000
  decide
/-- a tree stands at p -/
def TreeAt (C : Addr) (H : Hp) (p : Addr) (f : Fo) : Prop := ∃ dx l d, H p = some (.ins C dx (tflds l d)) ∧ H l = some (.lst ((names f).map V.str)) ∧ H d = some (.dK (kvsOf (flat f none)))
theorem TreeAt.same {C : Addr} {H H' : Hp} {p : Addr} {f : Fo} (t : TreeAt C H p f) (s : Same H H') : TreeAt C H' p f := by
  obtain ⟨dx, l, d, h1, h2, h3⟩ := t
  exact ⟨dx, l, d, s _ _ h1, s _ _ h2, s _ _ h3⟩
/-- an own class that isinstance may be asked of -/
structure Ic (K : PySem.W.Frag) (C : Addr) : Prop where
  ha : PySem.W.findIn K (.ref C) "__class__" = some (some (.builtin "object.__class__"))
  hn : PySem.W.specialIn K (.builtin "object.__class__") "__get__" = some (some (.builtin "getset_descriptor.__get__"))
  htk : PySem.W.takesIn K (.builtin "object.__class__") = some true
  hm : PySem.W.mroIn K C (.type "object") = some true
  me : PySem.W.kitOne K (.ref C) (.ref C) = some true
/-- what the top says of the class -/
structure Tc (K : PySem.W.Frag) (mg : Str → Option Value) (C : Addr) : Prop where
  cl : Cls K C
  nC : NoAttr K C "_columns"
  nO : NoAttr K C "_over"
  g : mg "Tree" = some (.ref C)
  ins : Ic K C
end TX
namespace TX
open PySem L2 PyProof.Rows TM
theorem strOk_name {x : Str} (h : NameOk x) : PyData.strOk x = true := by
  unfold PyData.strOk
  rw [Array.all_eq_true']
  intro c hc
  have := h.2.2 c (Array.mem_toList_iff.mpr hc)
  exact decide_eq_true (by omega)
def dS (ns : List Str) : PyData := .list (ns.map .str)
def dO : Option Str → PyData
  | none => .none
  | some x => .str x
def dP (ps : List Pr) : PyData := .list (ps.map fun q => .tuple [.str q.1, dO q.2])
theorem canS : ∀ {ns : List Str}, (∀ x ∈ ns, NameOk x) → PyData.canLayAll0 (ns.map .str) = true
  | [], _ => rfl
  | x :: r, h => by
    rw [List.map_cons]
    unfold PyData.canLayAll0
    rw [show PyData.canLay0 (.str x) = true from strOk_name (h x List.mem_cons_self), canS fun y hy => h y (List.mem_cons_of_mem _ hy)]
    rfl
theorem depS : ∀ (ns : List Str), PyData.depthAll (ns.map .str) = 0
  | [] => rfl
  | x :: r => by
    rw [List.map_cons]
    unfold PyData.depthAll
    rw [depS r]
    rfl
theorem shS {ns : List Str} (h : ∀ x ∈ ns, NameOk x) : SeqAt.shaped (dS ns) = true := by
  unfold SeqAt.shaped dS
  have h1 : PyData.canLay0 (.list (ns.map .str)) = true := by unfold PyData.canLay0; exact canS h
  have h2 : PyData.depth (.list (ns.map .str)) ≤ 64 := by unfold PyData.depth; rw [depS]; decide
  rw [h1, decide_eq_true h2]
  rfl
theorem eqvS : ∀ (ns ms : List Str), PyData.eqvAll (ns.map .str) (ms.map .str) = decide (ns = ms)
  | [], [] => rfl
  | [], _ :: _ => rfl
  | _ :: _, [] => rfl
  | x :: r, y :: t => by
    rw [List.map_cons, List.map_cons]
    unfold PyData.eqvAll PyData.eqv
    rw [eqvS r t]
    by_cases h : x = y <;> by_cases h2 : r = t <;> simp [h, h2]
theorem DpAll_strs {K : PySem.W.Frag} {H : Hp} : ∀ (ns : List Str), DpAll K H (ns.map V.str) (ns.map .str)
  | [] => .nil
  | x :: r => .cons (.str x) (DpAll_strs r)
theorem DpS {K : PySem.W.Frag} {H : Hp} {a : Addr} {ns : List Str} (h : H a = some (.lst (ns.map V.str))) : Dp K H (.ref a) (dS ns) := .lst (.of h) (DpAll_strs ns)
end TX
namespace TX
open PySem L2 PyProof.Rows TM
/-- all names of a list of pairs are names -/
def PsOk (ps : List Pr) : Prop := ∀ q ∈ ps, NameOk q.1 ∧ ∀ x, q.2 = some x → NameOk x
theorem PsOk.flat {f : Fo} (h : FoOk f) : PsOk (flat f none) := fun q hq => by
  refine ⟨h.ok _ ?_, fun x hx => ?_⟩
  · rw [← flat_names f none]
    exact List.mem_map.mpr ⟨q, hq, rfl⟩
  · rcases over_flat f none q hq with e | ⟨y, hy, e⟩
    · rw [e] at hx; cases hx
    · rw [e] at hx
      cases hx
      exact h.ok _ hy
theorem can_pair {q : Pr} (h : NameOk q.1 ∧ ∀ x, q.2 = some x → NameOk x) : PyData.canLay0 (.tuple [.str q.1, dO q.2]) = true := by
  obtain ⟨c, o⟩ := q
  have h1 : PyData.canLay0 (.str c) = true := strOk_name h.1
  have h2 : PyData.canLay0 (dO o) = true := by
    cases o with
    | none => rfl
    | some x => exact strOk_name (h.2 x rfl)
  unfold PyData.canLay0 PyData.canLayAll0 PyData.canLayAll0 PyData.canLayAll0
  rw [h1, h2]
  rfl
theorem canP : ∀ {ps : List Pr}, PsOk ps → PyData.canLayAll0 (ps.map fun q => .tuple [.str q.1, dO q.2]) = true
  | [], _ => rfl
  | x :: r, h => by
    rw [List.map_cons]
    unfold PyData.canLayAll0
    rw [can_pair (h x List.mem_cons_self), canP fun y hy => h y (List.mem_cons_of_mem _ hy)]
    rfl
theorem dep_dO (o : Option Str) : PyData.depth (dO o) = 0 := by cases o <;> rfl
theorem depP : ∀ (ps : List Pr), PyData.depthAll (ps.map fun q => .tuple [.str q.1, dO q.2]) ≤ 1
  | [] => Nat.zero_le _
  | x :: r => by
    rw [List.map_cons]
    unfold PyData.depthAll
    have h1 : PyData.depth (.tuple [.str x.1, dO x.2]) = 1 := by
      unfold PyData.depth PyData.depthAll PyData.depthAll PyData.depthAll
      rw [dep_dO]
      rfl
    have := depP r
    rw [h1]
    omega
theorem shP {ps : List Pr} (h : PsOk ps) : SeqAt.shaped (dP ps) = true := by
  unfold SeqAt.shaped dP
  have h1 : PyData.canLay0 (.list (ps.map fun q => .tuple [.str q.1, dO q.2])) = true := by unfold PyData.canLay0; exact canP h
  have h2 : PyData.depth (.list (ps.map fun q => .tuple [.str q.1, dO q.2])) ≤ 64 := by
    unfold PyData.depth
    have := depP ps
    omega
  rw [h1, decide_eq_true h2]
  rfl
theorem eqv_dO : ∀ (o p : Option Str), PyData.eqv (dO o) (dO p) = decide (o = p)
  | none, none => rfl
  | none, some _ => rfl
  | some _, none => rfl
  | some x, some y => by
    show PyData.eqv (.str x) (.str y) = _
    unfold PyData.eqv
    by_cases h : x = y <;> simp [h]
theorem eqv_pair (q r : Pr) : PyData.eqv (.tuple [.str q.1, dO q.2]) (.tuple [.str r.1, dO r.2]) = decide (q = r) := by
  obtain ⟨a, b⟩ := q
  obtain ⟨c, d⟩ := r
  unfold PyData.eqv PyData.eqvAll PyData.eqvAll PyData.eqvAll
  rw [eqv_dO]
  have : PyData.eqv (.str a) (.str c) = decide (a = c) := by unfold PyData.eqv; by_cases h : a = c <;> simp [h]
  show (PyData.eqv (.str a) (.str c) && (decide (b = d) && true)) = _
  rw [this]
  by_cases h : a = c <;> by_cases h2 : b = d <;> simp [h, h2]
theorem eqvP : ∀ (ps qs : List Pr), PyData.eqvAll (ps.map fun q => .tuple [.str q.1, dO q.2]) (qs.map fun q => .tuple [.str q.1, dO q.2]) = decide (ps = qs)
  | [], [] => rfl
  | [], _ :: _ => rfl
  | _ :: _, [] => rfl
  | x :: r, y :: t => by
    rw [List.map_cons, List.map_cons]
    unfold PyData.eqvAll
    rw [eqvP r t, eqv_pair]
    by_cases h : x = y <;> by_cases h2 : r = t <;> simp [h, h2]
theorem Dp_optV {K : PySem.W.Frag} {H : Hp} : ∀ (o : Option Str), Dp K H (optV o) (dO o)
  | none => .non
  | some x => .str x
theorem DpAll_tups {K : PySem.W.Frag} {H : Hp} {as : List Addr} {ps : List Pr} (h : TupsAt H as ps) : DpAll K H (as.map V.ref) (ps.map fun q => .tuple [.str q.1, dO q.2]) := by
  unfold TupsAt at h
  induction h with
  | nil => exact .nil
  | cons h _ ih => exact .cons (.tup (.of h) (.cons (.str _) (.cons (Dp_optV _) .nil))) ih
theorem PairsAt.dp {K : PySem.W.Frag} {H : Hp} {a : Addr} {ps : List Pr} (h : PairsAt H a ps) : Dp K H (.ref a) (dP ps) := by
  obtain ⟨as, e, t⟩ := h
  exact .lst (.of e) (DpAll_tups t)
theorem eqv_dS (ns ms : List Str) : PyData.eqv (dS ns) (dS ms) = decide (ns = ms) := by
  unfold dS PyData.eqv
  exact eqvS ns ms
theorem eqv_dP (ps qs : List Pr) : PyData.eqv (dP ps) (dP qs) = decide (ps = qs) := by
  unfold dP PyData.eqv
  exact eqvP ps qs
end TX
namespace TX
open PySem L2 PyProof.Rows TM
/-- a method of a class, ready to be called -/
structure Mt (K : PySem.W.Frag) (C : Addr) (m qual : Str) (st : Stmt) (ps : List Str) (f : Addr) (fd : FuncData) : Prop where
  F : Fun K m qual st f fd
  me : Meth K C m f
  b : Binds K fd ps []
theorem TupsAt.app {H : Hp} {as bs : List Addr} {ps qs : List Pr} (h : TupsAt H as ps) (k : TupsAt H bs qs) : TupsAt H (as ++ bs) (ps ++ qs) := by
  unfold TupsAt at *
  induction h with
  | nil => exact k
  | cons h _ ih => exact .cons h ih
/-- an error class of our own that is raised with a text -/
structure Ec (K : PySem.W.Frag) (mg : Str → Option Value) (x : Str) (C : Addr) : Prop where
  ex : PySem.W.excIn K C [.type "ValueError", .type "Exception", .type "BaseException", .type "object"] "ValueError.__new__" = true
  g : mg x = some (.ref C)
  k : PySem.W.keepIn K (.ref C) = true
  b : PySem.W.subIn K (.ref C) (.type "BaseException") = some true
  t : PySem.W.typeIn K (.ref C) = some (.type "type")
theorem FoOk.app {f g : Fo} (hf : FoOk f) (hg : FoOk g) (hd : ∀ x ∈ names f, x ∉ names g) (hl : (names f).length + (names g).length ≤ 8) : FoOk (app f g) := by
  refine ⟨?_, ?_, fun x hx => ?_⟩
  · rw [names_app, List.nodup_append]
    exact ⟨hf.nd, hg.nd, fun a ha b hb e => hd a ha (e ▸ hb)⟩
  · rw [names_app, List.length_append]
    exact hl
  · rw [names_app] at hx
    rcases List.mem_append.mp hx with hx | hx
    · exact hf.ok x hx
    · exact hg.ok x hx
theorem inV_str (x : Str) (ns : List Str) : inV (.str x) (ns.map V.str) = decide (x ∈ ns) := by
  unfold inV
  induction ns with
  | nil => rfl
  | cons y r ih =>
    rw [List.map_cons, List.any_cons, ih]
    show ((y == x) || decide (x ∈ r)) = _
    by_cases h : x = y
    · simp [h]
    · have h' : ¬ y = x := fun e => h e.symm
      simp [h, h']
theorem flat_strs (ns : List Str) : (ns.map V.str).all flatV = true := by
  rw [List.all_map, List.all_eq_true]
  intro x _
  rfl
end TX
namespace TX
open PySem L2 PyProof.Rows TM
theorem merge_kvs : ∀ (qs pre : List Pr), ((pre ++ qs).map Prod.fst).Nodup → mergeK (kvsOf pre) (kvsOf qs) = kvsOf (pre ++ qs)
  | [], pre, _ => by rw [List.append_nil]; rfl
  | (c, o) :: r, pre, h => by
    have hc : c ∉ pre.map Prod.fst := by
      rw [List.map_append, List.nodup_append] at h
      intro hm
      exact h.2.2 c hm c (by simp) rfl
    show mergeK (putK (kvsOf pre) (Sum.inr c : Key) (optV o)) (kvsOf r) = _
    rw [kvs_put hc, merge_kvs r (pre ++ [(c, o)]) (by simpa using h)]
    simp
theorem merge_nil {ps : List Pr} (h : (ps.map Prod.fst).Nodup) : mergeK [] (kvsOf ps) = kvsOf ps := by
  have := merge_kvs ps [] (by simpa using h)
  rw [List.nil_append] at this
  exact this
theorem kvs_isSome {ps : List Pr} (h : (ps.map Prod.fst).Nodup) (x : Str) : (valV (kvsOf ps) (Sum.inr x : Key)).isSome = decide (x ∈ ps.map Prod.fst) := by
  by_cases hx : x ∈ ps.map Prod.fst
  · obtain ⟨⟨x', o⟩, hm, rfl⟩ := List.mem_map.mp hx
    rw [kvs_some h hm, decide_eq_true hx]
    rfl
  · rw [kvs_none hx, decide_eq_false hx]
    rfl
theorem cut_strs (ns : List Str) (lo hi : Option Int) : ∃ ms : List Str, cutV (ns.map V.str) lo hi = ms.map V.str ∧ ms.Sublist ns ∧ ms.length ≤ HT.sIx ns.length ns.length hi - HT.sIx ns.length 0 lo := by
  refine ⟨(ns.drop (HT.sIx ns.length 0 lo)).take (HT.sIx ns.length ns.length hi - HT.sIx ns.length 0 lo), ?_, ?_, ?_⟩
  · unfold cutV
    rw [List.length_map, List.map_take, List.map_drop]
  · exact (List.take_sublist _ _).trans (List.drop_sublist _ _)
  · rw [List.length_take]
    exact Nat.min_le_left _ _
/-- dict(pairs) -/
def rDP (K : PySem.W.Frag) : List V → Hp → VK → Prop := fun vs H Q => ∃ (L : Addr) (as : List Addr) (es : List (Key × V)), vs = [.ref L] ∧ SqL K H L (as.map V.ref) ∧
  Paired (fun a e => SqT K H a [kV e.1, e.2]) as es ∧ ∀ d, H d = none → Q (.ref d) (upd H d (.dK (mergeK [] es)))
theorem call_dP {X : Cx} (hc : X.calm = true) : CallR X (.type "dict") (rDP X.K) := call_dictP hc
theorem pairs_es {K : PySem.W.Frag} {H : Hp} {as : List Addr} {ps : List Pr} (h : TupsAt H as ps) : Paired (fun a (e : Key × V) => SqT K H a [kV e.1, e.2]) as (kvsOf ps) := by
  unfold TupsAt at h
  induction h with
  | nil => exact .nil
  | cons h _ ih => exact .cons (.of h) ih
theorem PairsAt.nil {H : Hp} {p : Addr} (h : H p = some (.lst [])) : PairsAt H p [] := ⟨[], h, .nil⟩
theorem ord_len {ps : List Pr} (va : Valid [] ps) : (names (mk ps none)).length = ps.length := by
  have := (ord_perm va).length_eq
  rw [List.length_map] at this
  exact this
theorem foOk_nil : FoOk .nil := ⟨List.nodup_nil, Nat.zero_le _, fun _ h => nomatch h⟩
theorem PairsAt.app {H H' : Hp} {a b p : Addr} {ps qs : List Pr} {as bs : List Addr} (h : TupsAt H as ps) (k : TupsAt H bs qs) (s : Same H H') (e : H' p = some (.lst (as.map V.ref ++ bs.map V.ref))) : PairsAt H' p (ps ++ qs) :=
  ⟨as ++ bs, by rw [e, List.map_append], (h.app k).same s⟩
theorem PsOk.app {ps qs : List Pr} (h : PsOk ps) (k : PsOk qs) : PsOk (ps ++ qs) := fun q hq => (List.mem_append.mp hq).elim (h q) (k q)
/-- [pairs, pairs] -/
theorem sh2 {ps qs : List Pr} (h : PsOk ps) (k : PsOk qs) : SeqAt.shaped (.list [dP ps, dP qs]) = true := by
  unfold SeqAt.shaped
  have a1 : PyData.canLay0 (dP ps) = true := (Bool.and_eq_true_iff.mp (shP h)).1
  have a2 : PyData.canLay0 (dP qs) = true := (Bool.and_eq_true_iff.mp (shP k)).1
  have b1 : PyData.depth (dP ps) ≤ 2 := by unfold dP PyData.depth; have := depP ps; omega
  have b2 : PyData.depth (dP qs) ≤ 2 := by unfold dP PyData.depth; have := depP qs; omega
  have h1 : PyData.canLay0 (.list [dP ps, dP qs]) = true := by
    unfold PyData.canLay0 PyData.canLayAll0 PyData.canLayAll0 PyData.canLayAll0
    rw [a1, a2]
    rfl
  have h2 : PyData.depth (.list [dP ps, dP qs]) ≤ 64 := by
    unfold PyData.depth PyData.depthAll PyData.depthAll PyData.depthAll
    omega
  rw [h1, decide_eq_true h2]
  rfl
theorem eqv_refl2 (ps qs : List Pr) : PyData.eqv (.list [dP ps, dP qs]) (.list [dP ps, dP qs]) = true := by
  unfold PyData.eqv PyData.eqvAll PyData.eqvAll PyData.eqvAll
  rw [eqv_dP, eqv_dP, decide_eq_true rfl, decide_eq_true rfl]
  rfl
theorem Dp2 {K : PySem.W.Frag} {H : Hp} {p a b : Addr} {ps qs : List Pr} (h : H p = some (.lst [.ref a, .ref b])) (ha : PairsAt H a ps) (hb : PairsAt H b qs) : Dp K H (.ref p) (.list [dP ps, dP qs]) :=
  .lst (.of h) (.cons ha.dp (.cons hb.dp .nil))
end TX
namespace TX
open PySem L2 PyProof.Rows TM
theorem optV_ne_none {o : Option Str} : decide (optV o = .non) = o.isNone := by
  cases o with
  | none => rfl
  | some x => rfl
/-- the over of a name, found in the dict -/
theorem over_get {f : Fo} (ok : FoOk f) {c : Str} {a : List Str} {q : Fo} (h : loc f c = some (a, q)) : valV (kvsOf (flat f none)) (Sum.inr c : Key) = some (optV (lastOr a none)) :=
  kvs_some (by rw [flat_names]; exact ok.nd) (loc_flat none h)
end TX
namespace TX
open PySem L2 PyProof.Rows TM
/-- an expression that is v whatever is asked behind, and only makes objects -/
def Ee (te : TE) (s : L2.St) (H : Hp) (v : V) : Prop := ∀ h, Same H h → ∀ Q : VK, (∀ h', Same h h' → Q v h') → te s h Q
def Et (tt : TT) (s : L2.St) (H : Hp) (b : Bool) : Prop := ∀ h, Same H h → ∀ Q : Bool → Hp → Prop, (∀ h', Same h h' → Q b h') → tt s h Q
theorem et_yes {s : L2.St} {H : Hp} : Et tYes s H true := fun h _ Q q => q h (fun _ _ e => e)
theorem ee_var {i : Nat} {s : L2.St} {H : Hp} {v : V} (e : s[i]? = some (some v)) : Ee (tVar i) s H v := fun h _ Q q => ⟨v, e, q h (fun _ _ e => e)⟩
/-- [e for x in l if t], the items of the list l -/
theorem lc_all {K : PySem.W.Frag} {l : Addr} {i : Nat} {tt : TT} {te : TE} {s : L2.St} {H : Hp} {xs : List V} {g : V → V} {p : V → Bool} {Q : VK} {ti : TE} (hi : ti s H fun v h => v = .ref l ∧ Same H h) (mono : ∀ Q1 Q2 : VK, (∀ v h, Q1 v h → Q2 v h) → ti s H Q1 → ti s H Q2)
    (hl : SqL K H l xs) (hn : xs.length ≤ 1000) (ht : ∀ x ∈ xs, ∀ h, Same H h → Et tt ((wipe s [i]).set i (some x)) h (p x)) (he : ∀ x ∈ xs, p x = true → ∀ h, Same H h → Ee te ((wipe s [i]).set i (some x)) h (g x))
    (q : ∀ L h, Same H h → H L = none → h L = some (.lst ((xs.filter p).map g)) → Q (.ref L) h) : tLc (iList K ti) (gName i) tt te [i] s H Q := by
  refine mono _ _ (fun v H1 => ?_) hi
  rintro ⟨rfl, s1⟩
  refine ⟨l, rfl, ⟨xs, s1.seq hl⟩, fun D nD => ?_⟩
  refine lc_it (walk_list (xs := xs)) (fun j h => h D = some (.lst (((xs.take j).filter p).map g)) ∧ Same H1 h) ⟨upd_same, Same.new nD⟩ (fun j h _ ⟨_, s2⟩ => s2.seq (s1.seq hl)) ?_ ?_
  · rintro j x h h' hj ⟨e, s2⟩ ⟨rfl, hx⟩
    have hm : x ∈ xs := List.mem_of_getElem? hx
    have htk : xs.take (j + 1) = xs.take j ++ [x] := by rw [List.take_add_one, hx]; rfl
    have s3 := s1.trans s2
    refine ⟨?_, ?_⟩
    · show (((wipe s [i]).set i (some x)).set i none) = wipe s [i]
      show (((s.set i none).set i (some x)).set i none) = s.set i none
      rw [List.set_set, List.set_set]
    refine ht x hm h' s3 h' (fun _ _ e => e) _ fun h4 s4 => ?_
    have e4 := s4 _ _ e
    cases hp : p x with
    | true =>
      refine he x hm hp h4 (s3.trans s4) h4 (fun _ _ e => e) _ fun h5 s5 => ?_
      refine ⟨_, s5 _ _ e4, ?_, ?_, Same.mut ((s2.trans s4).trans s5) nD⟩
      · rw [List.length_map]
        have h1 := List.length_filter_le p (xs.take j)
        rw [List.length_take] at h1
        exact line100' (by omega)
      · rw [upd_same, htk, List.filter_append, List.filter_cons_of_pos hp, List.map_append]
        rfl
    | false =>
      refine ⟨?_, s2.trans s4⟩
      rw [htk, List.filter_append, List.filter_cons_of_neg (by rw [hp]; exact Bool.false_ne_true), List.filter_nil, List.append_nil]
      exact e4
  · rintro h ⟨e, s2⟩
    rw [List.take_length] at e
    exact q D h (s1.trans s2) (s1.free nD) e
theorem mono_var {i : Nat} {s : L2.St} {H : Hp} : ∀ Q1 Q2 : VK, (∀ v h, Q1 v h → Q2 v h) → tVar i s H Q1 → tVar i s H Q2 := fun Q1 Q2 k ⟨v, e, h⟩ => ⟨v, e, k v H h⟩
theorem mono_fld {K : PySem.W.Frag} {i : Nat} {f : Str} {s : L2.St} {H : Hp} : ∀ Q1 Q2 : VK, (∀ v h, Q1 v h → Q2 v h) → tFld K (tVar i) f s H Q1 → tFld K (tVar i) f s H Q2 :=
  fun Q1 Q2 k ⟨v, e, a, C, dx, fs, w, h1, h2, h3, h4, h5, h⟩ => ⟨v, e, a, C, dx, fs, w, h1, h2, h3, h4, h5, k w H h⟩
theorem filter_strs (ns : List Str) (p : Str → Bool) (r : V → Bool) (h : ∀ n ∈ ns, r (.str n) = p n) : (ns.map V.str).filter r = (ns.filter p).map V.str := by
  induction ns with
  | nil => rfl
  | cons n t ih =>
    rw [List.map_cons, List.filter_cons, List.filter_cons, h n List.mem_cons_self, ih fun m hm => h m (List.mem_cons_of_mem _ hm)]
    cases p n <;> rfl
end TX
namespace TX
open PySem L2 PyProof.Rows TM
/-- an if whose test is false, whatever was made -/
theorem sq_no {tc : TT} {t B : TS} {D : Ends} {s : L2.St} {H : Hp} (h : Et tc s H false) (k : ∀ h', Same H h' → B D s h') : tSeq (tIfS tc t tNext) B D s H := h H (fun _ _ e => e) _ k
theorem et_or {t u : TT} {s : L2.St} {H : Hp} (h : Et t s H false) (k : ∀ h', Same H h' → Et u s h' false) : Et (tOr t u) s H false := fun h1 s1 Q q =>
  h h1 s1 _ fun h2 s2 => k h2 (s1.trans s2) h2 (fun _ _ e => e) Q fun h3 s3 => q h3 (s2.trans s3)
theorem kids_take {q : Fo} {ks : List Str} {i : Nat} {c : Str} (h : ks[i]? = some c) : (ks.take (i + 1)).flatMap (kidsOf q) = (ks.take i).flatMap (kidsOf q) ++ kidsOf q c := by
  rw [List.take_add_one, h, List.flatMap_append]
  show _ ++ (kidsOf q c ++ []) = _
  rw [List.append_nil]
theorem bool_data (bs : List Bool) : SeqAt.shaped (.list (bs.map PyData.bool)) = true := by
  have h1 : PyData.canLayAll0 (bs.map PyData.bool) = true := by
    induction bs with
    | nil => rfl
    | cons b r ih => rw [List.map_cons]; unfold PyData.canLayAll0; rw [ih]; rfl
  have h2 : PyData.depthAll (bs.map PyData.bool) = 0 := by
    clear h1
    induction bs with
    | nil => rfl
    | cons b r ih => rw [List.map_cons]; unfold PyData.depthAll; rw [ih]; rfl
  unfold SeqAt.shaped
  have a1 : PyData.canLay0 (.list (bs.map PyData.bool)) = true := by unfold PyData.canLay0; exact h1
  have a2 : PyData.depth (.list (bs.map PyData.bool)) ≤ 64 := by unfold PyData.depth; rw [h2]; decide
  rw [a1, decide_eq_true a2]
  rfl
theorem bool_refl (bs : List Bool) : PyData.eqv (.list (bs.map PyData.bool)) (.list (bs.map PyData.bool)) = true := by
  unfold PyData.eqv
  induction bs with
  | nil => rfl
  | cons b r ih =>
    rw [List.map_cons]
    unfold PyData.eqvAll
    rw [ih]
    show (b == b && true) = true
    simp
theorem Dp_bools {K : PySem.W.Frag} {H : Hp} {a : Addr} {bs : List Bool} (h : H a = some (.lst (bs.map V.bl))) : Dp K H (.ref a) (.list (bs.map PyData.bool)) := by
  refine .lst (.of h) ?_
  clear h
  induction bs with
  | nil => exact .nil
  | cons b r ih => exact .cons (.bl b) ih
theorem filter_yes {xs : List V} : xs.filter (fun _ => true) = xs := by
  induction xs with
  | nil => rfl
  | cons x r ih => rw [List.filter_cons_of_pos rfl, ih]
theorem dec_strs (n : Str) (ks : List Str) : decide (V.str n ∈ ks.map V.str) = decide (n ∈ ks) := by
  by_cases hm : n ∈ ks
  · rw [decide_eq_true hm, decide_eq_true (List.mem_map.mpr ⟨n, hm, rfl⟩)]
  · rw [decide_eq_false hm, decide_eq_false]
    intro z
    obtain ⟨m, hm2, e2⟩ := List.mem_map.mp z
    exact hm (V.str.inj e2 ▸ hm2)
theorem same_rfl {H : Hp} : Same H H := fun _ _ e => e
end TX
namespace TX
open PySem L2 PyProof.Rows TM
theorem lt_anti : ∀ {a b : List Nat}, PySem.Spec.ltCps a b = false → PySem.Spec.ltCps b a = false → a = b
  | [], [], _, _ => rfl
  | [], _ :: _, h, _ => by cases h
  | _ :: _, [], _, h => by cases h
  | x :: a, y :: b, h1, h2 => by
    have g1 : (decide (x < y) || (x == y && PySem.Spec.ltCps a b)) = false := h1
    have g2 : (decide (y < x) || (y == x && PySem.Spec.ltCps b a)) = false := h2
    have e : x = y := by
      have a1 : ¬ x < y := fun z => by rw [decide_eq_true z] at g1; cases g1
      have a2 : ¬ y < x := fun z => by rw [decide_eq_true z] at g2; cases g2
      omega
    subst e
    simp at g1 g2
    rw [lt_anti g1 g2]
theorem lt_trans' : ∀ {a b c : List Nat}, PySem.Spec.ltCps b a = false → PySem.Spec.ltCps c b = false → PySem.Spec.ltCps c a = false
  | [], _, [], _, _ => rfl
  | [], [], _ :: _, _, h => rfl
  | [], _ :: _, _ :: _, _, _ => rfl
  | _ :: _, [], _, h, _ => by cases h
  | x :: a, y :: b, [], _, h => by cases h
  | x :: a, y :: b, z :: c, h1, h2 => by
    have g1 : (decide (y < x) || (y == x && PySem.Spec.ltCps b a)) = false := h1
    have g2 : (decide (z < y) || (z == y && PySem.Spec.ltCps c b)) = false := h2
    show (decide (z < x) || (z == x && PySem.Spec.ltCps c a)) = false
    have a1 : ¬ y < x := fun w => by rw [decide_eq_true w] at g1; cases g1
    have a2 : ¬ z < y := fun w => by rw [decide_eq_true w] at g2; cases g2
    have a3 : ¬ z < x := by omega
    rw [decide_eq_false a3, Bool.false_or]
    by_cases e : z = x
    · have e1 : y = x := by omega
      subst e
      subst e1
      simp at g1 g2
      rw [lt_trans' g1 g2]
      simp
    · have : (z == x) = false := by simpa using e
      rw [this]
      rfl
theorem sorted_pair : ∀ {l : List Str}, PyProof.Rows.sortedS l = true → l.Pairwise fun a b => PySem.Spec.ltCps b.cps.toList a.cps.toList = false
  | [], _ => List.Pairwise.nil
  | [x], _ => List.pairwise_singleton _ _
  | x :: y :: r, h => by
    have h' : (!PySem.Spec.ltCps y.cps.toList x.cps.toList && PyProof.Rows.risingS y r) = true := h
    rw [Bool.and_eq_true] at h'
    have ih : (y :: r).Pairwise fun a b => PySem.Spec.ltCps b.cps.toList a.cps.toList = false := sorted_pair h'.2
    have h1 : PySem.Spec.ltCps y.cps.toList x.cps.toList = false := by simpa using h'.1
    refine List.pairwise_cons.mpr ⟨fun z hz => ?_, ih⟩
    rcases List.mem_cons.mp hz with e | hz
    · rw [e]
      exact h1
    · exact lt_trans' h1 ((List.pairwise_cons.mp ih).1 z hz)
theorem sorted_same {l m : List Str} (h : l.Perm m) (h1 : PyProof.Rows.sortedS l = true) (h2 : PyProof.Rows.sortedS m = true) : l = m := by
  refine perm_eq (fun a b r1 r2 => ?_) h (sorted_pair h1) (sorted_pair h2)
  rw [S_eta a, S_eta b, lt_anti r2 r1]
theorem mono_c {v : V} {s : L2.St} {H : Hp} : ∀ Q1 Q2 : VK, (∀ v h, Q1 v h → Q2 v h) → tC v s H Q1 → tC v s H Q2 := fun _ _ k h => k _ _ h
end TX

set_option maxHeartbeats 2000000
/-! Rules of our own: the length of an own instance; isinstance of a caught error, one class or several. -/
namespace TY
open PySem L2 PyProof.Rows TX
section
variable {X : Cx}
/-- len(o) by an own __len__ -/
def rLenO (C : Addr) (sp : Sp) (E : XK) : List V → Hp → VK → Prop := fun xs H Q => ∃ a dx fs, xs = [.ref a] ∧ H a = some (.ins C dx fs) ∧ sp [.ref a] H (fun v H' => ∃ k : Nat, v = .int k ∧ k ≤ 1000000 ∧ Q (.int k) H') E
theorem call_lenO {CX : CXT} {C f : Addr} {fd : FuncData} {ps : List Str} {sp : Sp} {E : XK} {n : Nat} (F : FnOk X.prog X.w X.K X.mg X.base CX n f fd ps sp) (hs : PySem.W.findIn X.K (.ref C) "__len__" = some (some (.ref f)))
    (hf : PySem.W.isFn X.K (.ref f) = true) (hb : Binds X.K fd ps []) (hx : Passes CX X E) (hr : Room (n + 1) X.A) : CallR X (.builtin "len") (rLenO C sp E) := by
  intro pins s σ H xs us Q I r h
  obtain ⟨a, dx, fs, rfl, ha, hsp⟩ := h
  obtain ⟨u, rfl, rx⟩ := vals1 r
  cases rx
  obtain ⟨mA, J, _⟩ := ins_get I.hok ha
  obtain ⟨od, J, _⟩ := J.look
  obtain ⟨m, hF⟩ := I.fr
  refine PySem.W.len_K hF I.ok.mod.kin J hs hf ?_
  have e0 : Env0 X.prog X.w X.K X.mg X.base X.A.in1 X.stack s H := by
    have e := I.env0
    exact ⟨e.frames, e.mod, e.bs, e.bsz, e.funs, e.frf, e.hok, e.bare⟩
  have hl := F.len _ _ _ _ hsp
  refine wpAny_call (codeAny_mono (F.run X.A.in1 X.stack s H ⟨[.ref a], []⟩ [.ref a] [.ref a] _ E hr.in1 e0 (by
    have := hb s [.ref a] I.kIn (by simpa using hl)
    simpa using this) (.cons rfl .nil) hsp) fun r s' hq => ?_)
  cases r with
  | error e => exact hx pins σ H s e s' I hq
  | ok fl =>
    cases fl with
    | ret u =>
      obtain ⟨z, H', I', rz, k, ez, hk, q⟩ := I.after hq
      subst ez
      obtain ⟨t, rfl⟩ := rz
      show PySem.W.LenBack _ (.int (k : Int) t) s'
      exact ⟨by omega, ⟨.int k, H', I'.tok _, ⟨_, rfl⟩, q⟩⟩
    | next => exact False.elim hq
    | brk => exact False.elim hq
    | cont => exact False.elim hq
/-- isinstance of the error that the suite holds: one class, or a tuple of classes that was just laid -/
def rIsX (K : PySem.W.Frag) (a : Addr) (cls : Value) (d : Option Addr) : List V → Hp → VK → Prop := fun xs H Q => ∃ (D : Addr) (c : V) (b : Bool), cls = .ref D ∧ d = none ∧ ExcC K D ∧ xs = [.ref a, c] ∧
  ((∃ cv, ClsV c cv ∧ PySem.W.kitOne K (.ref D) cv = some b) ∨ (∃ tp cs us, c = .ref tp ∧ H tp = some (.tup cs) ∧ Paired ClsV cs us ∧ PySem.W.kitAny K (.ref D) us = some b)) ∧ Q (.bl b) H
theorem call_isX {a : Addr} {oe : Obj} {cls : Value} {d : Option Addr} {pn : List (Addr × Obj)} (hz : Zc cls d oe) (hf : ∃ vs, oe.data = .fields vs) : CallR (X.suite a ((a, oe) :: pn)) (.builtin "isinstance") (rIsX X.K a cls d) := by
  intro pins s σ H xs us Q I r h
  obtain ⟨D, c, b, rfl, rfl, C, rfl, hc, q⟩ := h
  obtain ⟨u1, u2, rfl, r1, r2⟩ := vals2 r
  cases r1
  obtain ⟨hget, _⟩ := I.pin (a, oe) (List.mem_append.mpr (.inl List.mem_cons_self))
  obtain ⟨vs, hv⟩ := hf
  have J : PySem.W.InstAt s.heap a oe D none := by
    obtain ⟨oc, od, oda, osl⟩ := oe
    obtain ⟨h1, h2⟩ := hz
    dsimp only at h1 h2 hv
    subst h1 h2 hv
    exact ⟨hget, rfl, rfl, trivial⟩
  have Z := PySem.W.handS_kitx_exc (x := a) (ox := oe) C.hg C.hk C.hs C.hd C.ha C.hn C.ht C.hm
  rcases hc with ⟨cv, hcv, e⟩ | ⟨tp, cs, ws, rfl, hT, k, e⟩
  · have e2 := hcv.eq r2
    subst e2
    exact PySem.W.kia_one Z I.kIn J e (fun z => nomatch z) fun tk => ⟨.bl b, H, I.kept (t' := tk) fun _ _ z => z, rfl, q⟩
  · cases (show u2 = Value.ref tp from r2)
    obtain ⟨_, its, rv, o, h1, h2, n, h3⟩ := (show ObjOk X.prog X.w H s.heap tp (.tup cs) from I.hok tp _ hT)
    have e3 := ClsV.all k rv
    subst e3
    obtain ⟨oc, od, dt, sl⟩ := o
    simp only at h2 h3
    subst h2 h3
    exact PySem.W.kia_tup Z I.kIn J h1 e (fun z => nomatch z) fun tk => ⟨.bl b, H, I.kept (t' := tk) fun _ _ z => z, rfl, q⟩
end
end TY

set_option maxHeartbeats 1000000
/-! Tuples: slices and sums of any kind read once; rows of whole numbers. -/
namespace TW
open PySem L2 PyProof.Rows TX
section
variable {K : PySem.W.Frag}
theorem cutV_whole {xs : List V} {lo hi : Option Int} (h : HT.sIx xs.length 0 lo = 0 ∧ HT.sIx xs.length xs.length hi = xs.length) : cutV xs lo hi = xs := by
  unfold cutV
  rw [h.1, h.2]
  simp
/-- t[lo:hi] -/
theorem sl_both {xs : List V} {lo hi : Option Int} {a : Addr} {H : Hp} {Q : VK} (h : H a = some (.tup xs)) (q : ∀ p H', Same H H' → H' p = some (.tup (cutV xs lo hi)) → Q (.ref p) H') : rSlA K (.ref a) lo hi H Q := by
  refine ⟨a, xs, rfl, .of h, fun w => q a H same_rfl ?_, fun _ p np => q p _ (Same.new np) upd_same⟩
  rw [h, cutV_whole w]
/-- t + u -/
theorem cat_both {xs ys : List V} {a b : Addr} {H : Hp} {Q : VK} (h : H a = some (.tup xs)) (k : H b = some (.tup ys)) (hl : xs.length + ys.length ≤ 1000) (q : ∀ p H', Same H H' → H' p = some (.tup (xs ++ ys)) → Q (.ref p) H') : rCatA K (.ref a) (.ref b) H Q := by
  refine ⟨a, b, xs, ys, rfl, rfl, .of h, .of k, line100 hl, fun e => ?_, fun _ e => ?_, fun _ _ p np => q p _ (Same.new np) upd_same⟩
  · subst e
    exact q b H same_rfl k
  · subst e
    refine q a H same_rfl ?_
    rw [h, List.append_nil]
theorem cut_take {xs : List V} {n : Nat} : cutV xs none (some (n : Int)) = xs.take n := by
  unfold cutV
  rw [HT.sIx_none, HT.sIx_nat, List.drop_zero, Nat.sub_zero]
  rcases Nat.le_total n xs.length with h | h
  · rw [Nat.min_eq_left h]
  · rw [Nat.min_eq_right h, List.take_of_length_le h, List.take_of_length_le (Nat.le_refl _)]
theorem cut_drop {xs : List V} {n : Nat} : cutV xs (some (n : Int)) none = xs.drop n := by
  unfold cutV
  rw [HT.sIx_none, HT.sIx_nat]
  rcases Nat.le_total n xs.length with h | h
  · rw [Nat.min_eq_left h, List.take_of_length_le (by rw [List.length_drop]; omega)]
  · rw [Nat.min_eq_right h, List.drop_of_length_le h, List.drop_of_length_le (Nat.le_refl _), List.take_nil]
theorem cut_mid {xs : List V} {n m : Nat} : cutV xs (some (n : Int)) (some (m : Int)) = (xs.drop n).take (m - n) := by
  unfold cutV
  rw [HT.sIx_nat, HT.sIx_nat]
  rcases Nat.le_total n xs.length with h | h
  · rw [Nat.min_eq_left h]
    rcases Nat.le_total m xs.length with h2 | h2
    · rw [Nat.min_eq_left h2]
    · rw [Nat.min_eq_right h2, List.take_of_length_le (Nat.le_of_eq List.length_drop), List.take_of_length_le (by rw [List.length_drop]; omega)]
  · rw [Nat.min_eq_right h, List.drop_of_length_le h, List.drop_of_length_le (Nat.le_refl _)]
    simp
end
/-- what a draw leaves as it was -/
theorem well_strs {H : Hp} {W l : Addr} {ns : List Str} (w : ∃ n, WellAt n H W) (h : H l = some (.lst (ns.map V.str))) : l ≠ W := by
  rintro rfl
  obtain ⟨n, a, b, c, e, _⟩ := w
  rw [h] at e
  cases ns with
  | nil => cases e
  | cons x r =>
    have e2 := Option.some.inj e
    injection e2 with e3
    rw [List.map_cons] at e3
    injection e3 with e4 _
    cases e4
theorem well_no {H : Hp} {W l : Addr} {o : HO} (w : ∃ n, WellAt n H W) (h : H l = some o) (k : ∀ xs, o ≠ .lst xs) : l ≠ W := by
  rintro rfl
  obtain ⟨n, a, b, c, e, _⟩ := w
  rw [h] at e
  exact k _ (Option.some.inj e)
theorem _root_.TX.TreeAt.sm {C W : Addr} {H H' : Hp} {p : Addr} {f : TM.Fo} (t : TreeAt C H p f) (s : Sm W H H') (w : ∃ n, WellAt n H W) : TreeAt C H' p f := by
  obtain ⟨dx, l, d, h1, h2, h3⟩ := t
  exact ⟨dx, l, d, s _ _ (well_no w h1 fun _ z => by cases z) h1, s _ _ (well_strs w h2) h2, s _ _ (well_no w h3 fun _ z => by cases z) h3⟩
theorem tup_sm {W : Addr} {H H' : Hp} {p : Addr} {xs : List V} (h : H p = some (.tup xs)) (s : Sm W H H') (w : ∃ n, WellAt n H W) : H' p = some (.tup xs) := s _ _ (well_no w h fun _ z => by cases z) h
/-- a whole number -/
def wholeV : V → Bool
  | .int _ => true
  | _ => false
/-- a value that no memory is asked for -/
def plainV : V → Bool
  | .int _ => true
  | .bl _ => true
  | .non => true
  | .str _ => true
  | _ => false
def numV : V → Bool
  | .int _ => true
  | .bl _ => true
  | _ => false
def truthV : V → Bool
  | .bl _ => true
  | _ => false
theorem whole_num (v : V) : wholeV v = (numV v && !truthV v) := by cases v <;> rfl
theorem plain_ty {K : PySem.W.Frag} {H : Hp} {v : V} (h : plainV v = true) : ∃ t, TyOf K H v (.type t) ∧ kitB t "int" = some (numV v) ∧ kitB t "bool" = some (truthV v) := by
  cases v with
  | int i => exact ⟨_, .int i, (by decide +kernel : kitB "int" "int" = some true), (by decide +kernel : kitB "int" "bool" = some false)⟩
  | bl b => exact ⟨_, .bl b, (by decide +kernel : kitB "bool" "int" = some true), (by decide +kernel : kitB "bool" "bool" = some true)⟩
  | non => exact ⟨_, .non, (by decide +kernel : kitB "NoneType" "int" = some false), (by decide +kernel : kitB "NoneType" "bool" = some false)⟩
  | str s => exact ⟨_, .str s, (by decide +kernel : kitB "str" "int" = some false), (by decide +kernel : kitB "str" "bool" = some false)⟩
  | _ => cases h
/-- a thing that may be a row of so many values; whether it is one -/
def RowLike (H : Hp) (v : V) (many : Nat) (b : Bool) : Prop :=
  (∃ a xs, v = .ref a ∧ H a = some (.tup xs) ∧ xs.length ≤ 100 ∧ xs.all plainV = true ∧ b = (decide (xs.length = many) && xs.all wholeV)) ∨
  (b = false ∧ (v = .non ∨ (∃ s, v = .str s) ∨ (∃ i, v = .int i) ∨ ∃ a xs, v = .ref a ∧ H a = some (.lst xs)))
theorem RowLike.same {H H' : Hp} {v : V} {many : Nat} {b : Bool} (h : RowLike H v many b) (s : Same H H') : RowLike H' v many b := by
  rcases h with ⟨a, xs, e1, e2, e3⟩ | ⟨e1, e2 | e2 | e2 | ⟨a, xs, e2, e3⟩⟩
  · exact .inl ⟨a, xs, e1, s _ _ e2, e3⟩
  · exact .inr ⟨e1, .inl e2⟩
  · exact .inr ⟨e1, .inr (.inl e2)⟩
  · exact .inr ⟨e1, .inr (.inr (.inl e2))⟩
  · exact .inr ⟨e1, .inr (.inr (.inr ⟨a, xs, e2, s _ _ e3⟩))⟩
/-- a row of whole numbers -/
theorem row_like {H : Hp} {a : Addr} {xs : List V} {n : Nat} (h : H a = some (.tup xs)) (hl : xs.length = n) (hn : n ≤ 100) (hw : xs.all wholeV = true) : RowLike H (.ref a) n true := by
  refine .inl ⟨a, xs, rfl, h, by omega, ?_, ?_⟩
  · rw [List.all_eq_true] at hw ⊢
    intro x hx
    have := hw x hx
    cases x <;> first | rfl | cases this
  · rw [decide_eq_true hl, hw]
    rfl
theorem row_of {H : Hp} {v : V} {n : Nat} (h : RowLike H v n true) : ∃ a xs, v = .ref a ∧ H a = some (.tup xs) ∧ xs.length = n ∧ xs.all wholeV = true := by
  rcases h with ⟨a, xs, e1, e2, e3, e4, e5⟩ | ⟨e1, _⟩
  · have := e5.symm
    rw [Bool.and_eq_true, decide_eq_true_iff] at this
    exact ⟨a, xs, e1, e2, this.1, this.2⟩
  · cases e1
end TW
namespace TM
open PySem L2
/-- beneath a name there is its part of the forest -/
theorem mk_loc : ∀ {t : List Pr} {seen : List Str} {u : Option Str} {c : Str} {a : List Str} {k : Fo}, Valid seen t → (∀ x, u = some x → x ∈ seen) → loc (mk t u) c = some (a, k) → mk t (some c) = k
  | [], _, u, c, a, k, _, _, h => by
    have h' : loc Fo.nil c = some (a, k) := h
    unfold loc at h'
    cases h'
  | (d, o) :: r, seen, u, c, a, k, ⟨h1, h2, h3⟩, hu, h => by
    have hin : ∀ {v : Option Str} {a' : List Str} {k' : Fo}, loc (mk r v) c = some (a', k') → c ∈ r.map Prod.fst := fun {v a' k'} g => by
      have := loc_mem g
      rw [← flat_names _ v] at this
      obtain ⟨p, hp, rfl⟩ := List.mem_map.mp this
      exact List.mem_map.mpr ⟨p, mk_sub hp, rfl⟩
    have out : c ∈ r.map Prod.fst → o ≠ some c := fun hc e => valid_notin h3 (List.mem_append_left _ (h2 c e)) hc
    have skip : o ≠ some c → mk ((d, o) :: r) (some c) = mk r (some c) := fun e => if_neg e
    by_cases ho : o = u
    · have e0 : mk ((d, o) :: r) u = .cons d (mk r (some d)) (mk r u) := if_pos ho
      rw [e0] at h
      rcases loc_cases h with ⟨rfl, rfl, rfl⟩ | ⟨_, b, rfl, g⟩ | ⟨_, _, g⟩
      · exact skip fun e => h1 (h2 d e)
      · rw [skip (out (hin g))]
        exact mk_loc h3 (fun x e => by cases e; simp) g
      · rw [skip (out (hin g))]
        exact mk_loc h3 (fun x e => List.mem_append_left _ (hu x e)) g
    · have e0 : mk ((d, o) :: r) u = mk r u := if_neg ho
      rw [e0] at h
      rw [skip (out (hin h))]
      exact mk_loc h3 (fun x e => List.mem_append_left _ (hu x e)) h
theorem ord_loc {ps : List Pr} {c : Str} {a : List Str} {k : Fo} (va : Valid [] ps) (h : loc (mk ps none) c = some (a, k)) : ord ps (some c) = names k := by
  unfold ord
  rw [mk_loc (u := none) va (fun _ e => by cases e) h]
end TM

set_option maxHeartbeats 2000000
/-! Rules of our own: a made instance whose __init__ may raise; isinstance of a caught error that has a dict; two lists of the same items. -/
namespace TY
open PySem L2 PyProof.Rows TX
section
variable {X : Cx} {CX : CXT} {k : Nat} {f C : Addr} {fd : FuncData} {ps : List Str} {sp : Sp} {E : L2.St → XK} {x : Str} {p pos : Pos} {e : Expr} {es : List Expr} {t : TA}
theorem run_makeS {pins : List (Addr × Obj)} {σ : L2.St} {H : Hp} {s : Shared} {Q : VK} {us : List Value} {vs : List V} (M : Mk X.K C f) (F : FnOk X.prog X.w X.K X.mg X.base CX k f fd ps sp) (hr : Room (k + 1) X.A) (hb : Binds X.K fd ps [])
    (hx : PassesAt CX X σ (E σ)) (I : Inv X pins σ H s) (r : Vals vs us)
    (h : ∀ x dx, H x = none → H dx = none → dx ≠ x → sp (.ref x :: vs) (upd (upd H dx (.own x)) x (.ins C dx [])) (fun v H2 => v = .non ∧ Q (.ref x) H2) (E σ)) :
    wpAny (model X.prog X.w) X.A (call (.ref C) us) (EP X pins σ Q) X.xe s := by
  have hq := h (s.heap.objs.size + 1) s.heap.objs.size (I.hok.fresh (Nat.le_succ _)) (I.hok.fresh (Nat.le_refl _)) (Nat.ne_of_lt (Nat.lt_succ_self _))
  have I2 := Inv.made (C := C) I
  have r2 : Vals (V.ref (s.heap.objs.size + 1) :: vs) (Value.ref (s.heap.objs.size + 1) :: us) := .cons rfl r
  have hl : (Value.ref (s.heap.objs.size + 1) :: us).length = ps.length := by
    have e := r2.length
    rw [F.len _ _ _ _ hq] at e
    exact e.symm
  have b := hb _ (Value.ref (s.heap.objs.size + 1) :: us) I2.kIn (by rw [List.append_nil]; exact hl)
  rw [List.append_nil] at b
  refine wpAny_call (make_map (f := f) I.kIn M.makes M.init (beq_iff_eq.mp M.fn) (codeAny_mono (F.run _ X.stack _ _ ⟨Value.ref (s.heap.objs.size + 1) :: us, []⟩ (Value.ref (s.heap.objs.size + 1) :: us) _ _ (E σ) (hr.make C us [])
    (I2.env0.make C us []) b r2 hq) fun r s' hq' => ?_))
  cases r with
  | error e => exact hx pins _ _ e s' I2 hq'
  | ok fl =>
    cases fl with
    | ret u =>
      obtain ⟨v, H', I3, rv, ev, q3⟩ := I2.after hq'
      subst ev
      exact ⟨rv, ⟨V.ref (s.heap.objs.size + 1), H', I3, rfl, q3⟩⟩
    | next => exact False.elim hq'
    | brk => exact False.elim hq'
    | cont => exact False.elim hq'
/-- C(..), whose __init__ may raise -/
def tMakeS (C : Addr) (sp : Sp) (E : L2.St → XK) (t : TA) : TE := fun σ H Q => t σ H fun vs H1 => ∀ x dx, H1 x = none → H1 dx = none → dx ≠ x →
  sp (.ref x :: vs) (upd (upd H1 dx (.own x)) x (.ins C dx [])) (fun v H2 => v = .non ∧ Q (.ref x) H2) (E σ)
theorem pe_makeS (M : Mk X.K C f) (F : FnOk X.prog X.w X.K X.mg X.base CX k f fd ps sp) (hr : Room (k + 1) X.A) (hg : Gl X x) (hm : X.mg x = some (.ref C)) (hb : Binds X.K fd ps []) (hx : ∀ σ, PassesAt CX X σ (E σ))
    (ha : PA X (e :: es) t) (hdb : (x == ("__debug__" : Str)) = false := by decide) (he : starEach (e :: es) X.env = (false, eval e X.env) :: starEach es X.env := by rfl) (hpl : (backTo pos (starEach es X.env)).any (·.1) = false := by rfl) :
    PE X (.Call (.Name x p) (e :: es) [] pos) (tMakeS C sp E t) := by
  refine ⟨fun pins s σ H Q I h => ?_⟩
  refine wpAny_Call_Name_kw (ld_glob I hg hm ?_ hdb)
  refine PySem.W.callWith_K (h₀ := X.base) I.ok.mod.kin M.kp (thn (ha.run pos pins s σ H _ I h) fun us s1 ⟨vs, H1, I1, r, q⟩ => ⟨I1.kIn, ?_⟩) he hpl
  exact run_makeS M F hr hb (hx σ) I1 r q
/-- isinstance of the error that the suite holds, which has a dict -/
def rIsXd (K : PySem.W.Frag) (a : Addr) (cls : Value) (d : Option Addr) : List V → Hp → VK → Prop := fun xs H Q => ∃ (D : Addr) (c : V) (b : Bool), cls = .ref D ∧ ExcC K D ∧ (∃ (dd : Addr) (fs : List (Str × V)), d = some dd ∧ H dd = some (.xd fs)) ∧ xs = [.ref a, c] ∧
  ((∃ cv, ClsV c cv ∧ PySem.W.kitOne K (.ref D) cv = some b) ∨ (∃ tp cs us, c = .ref tp ∧ H tp = some (.tup cs) ∧ Paired ClsV cs us ∧ PySem.W.kitAny K (.ref D) us = some b)) ∧ Q (.bl b) H
theorem call_isXd {a : Addr} {oe : Obj} {cls : Value} {d : Option Addr} {pn : List (Addr × Obj)} (hz : Zc cls d oe) (hf : ∃ vs, oe.data = .fields vs) : CallR (X.suite a ((a, oe) :: pn)) (.builtin "isinstance") (rIsXd X.K a cls d) := by
  intro pins s σ H xs us Q I r h
  obtain ⟨D, c, b, rfl, C, ⟨dd, fs, rfl, hdd⟩, rfl, hc, q⟩ := h
  obtain ⟨u1, u2, rfl, r1, r2⟩ := vals2 r
  cases r1
  obtain ⟨hget, _⟩ := I.pin (a, oe) (List.mem_append.mpr (.inl List.mem_cons_self))
  obtain ⟨vs, hv⟩ := hf
  have hx : ObjOk X.prog X.w H s.heap dd (.xd fs) := I.hok dd _ hdd
  obtain ⟨mA, hns, hr⟩ := hx
  obtain ⟨od, ho, hl⟩ := lookIn_ns hns
  have J : PySem.W.InstAt s.heap a oe D (some od) := ⟨hget, hz.1, by unfold PySem.W.notCls; rw [hv] <;> rfl, by rw [hz.2]; exact ho⟩
  have hcl : (PySem.W.clsIn X.K D).isSome = true := by
    obtain ⟨cd, hc', _⟩ := PySem.W.any_some C.hd
    rw [hc']
    rfl
  have Z := PySem.W.kitx_exc (x := a) (ox := oe) (od := some od) hcl C.hg C.hk C.hs C.ha C.hn C.ht C.hm
  rcases hc with ⟨cv, hcv, e⟩ | ⟨tp, cs, ws, rfl, hT, k, e⟩
  · have e2 := hcv.eq r2
    subst e2
    exact PySem.W.kia_one Z I.kIn J e (fun z => nomatch z) fun tk => ⟨.bl b, H, I.kept (t' := tk) fun _ _ z => z, rfl, q⟩
  · cases (show u2 = Value.ref tp from r2)
    obtain ⟨_, its, rv, o, h1, h2, n, h3⟩ := (show ObjOk X.prog X.w H s.heap tp (.tup cs) from I.hok tp _ hT)
    have e3 := ClsV.all k rv
    subst e3
    obtain ⟨oc, od', dt, sl⟩ := o
    simp only at h2 h3
    subst h2 h3
    exact PySem.W.kia_tup Z I.kIn J h1 e (fun z => nomatch z) fun tk => ⟨.bl b, H, I.kept (t' := tk) fun _ _ z => z, rfl, q⟩
/-- two lists of the same items: != is False -/
def itemV : V → Bool
  | .non => true
  | .bl _ => true
  | .int _ => true
  | .str _ => true
  | .ref _ => true
  | _ => false
theorem eqAt_item {A : Around} {s : Shared} {x : V} {u v : Value} (rx : RelV x u) (ry : RelV x v) (h : itemV x = true) : SeqAt.EqAt A s u v true := by
  cases x with
  | ref a =>
    cases (show u = Value.ref a from rx)
    cases (show v = Value.ref a from ry)
    intro prog w E Q hq
    unfold eqBool
    refine wpAny_holding ?_
    refine wpAny_ite_split (fun _ => ?_) (fun hab => absurd (by simp) hab)
    wp_walk
    exact hq
  | non => exact (eqAt_V rx ry rfl rfl : _)
  | bl b => have q := eqAt_V (A := A) (s := s) rx ry rfl rfl; rw [show eqV (.bl b) (.bl b) = true by simp [eqV]] at q; exact q
  | int i => have q := eqAt_V (A := A) (s := s) rx ry rfl rfl; rw [show eqV (.int i) (.int i) = true by simp [eqV]] at q; exact q
  | str z => have q := eqAt_V (A := A) (s := s) rx ry rfl rfl; rw [show eqV (.str z) (.str z) = true by simp [eqV]] at q; exact q
  | _ => cases h
def rNeSame (K : PySem.W.Frag) : R2 := fun x y H Q => ∃ a b xs, x = .ref a ∧ y = .ref b ∧ SqL K H a xs ∧ SqL K H b xs ∧ xs.all itemV = true ∧ Q (.bl false) H
theorem op_neSame (hu : X.A.units < cLine) : OpR X (compareOp .NotEq) (rNeSame X.K) := by
  intro pins s σ H x y v u Q I rx ry h
  obtain ⟨a, b, xs, rfl, rfl, ha, hb, hi, q⟩ := h
  cases rx
  cases ry
  obtain ⟨its, r, hl, _⟩ := I.list ha
  obtain ⟨its2, r2, hl2, _⟩ := I.list hb
  have hsz : its.toArray.size = its2.toArray.size := by rw [List.size_toArray, List.size_toArray, ← r.length, ← r2.length]
  have he : ∀ j (h1 : j < its.toArray.size) (h2 : j < its2.toArray.size), SeqAt.EqAt X.A.in1 s its.toArray[j] its2.toArray[j] ((fun _ => true) j) := by
    intro j h1 h2
    have k1 : j < xs.length := by rw [r.length]; simpa using h1
    obtain ⟨u1, e1, r1⟩ := r.get (List.getElem?_eq_getElem k1)
    obtain ⟨u2, e2, r3⟩ := r2.get (List.getElem?_eq_getElem k1)
    have g1 : its.toArray[j] = u1 := by
      have h1' : j < its.length := by simpa using h1
      rw [List.getElem?_eq_getElem h1'] at e1
      simpa using Option.some.inj e1
    have g2 : its2.toArray[j] = u2 := by
      have h2' : j < its2.length := by simpa using h2
      rw [List.getElem?_eq_getElem h2'] at e2
      simpa using Option.some.inj e2
    rw [g1, g2]
    exact eqAt_item r1 r3 (List.all_eq_true.mp hi _ (List.getElem_mem k1))
  have z := SeqAt.RcNeAt.lists hl.isList hl2.isList hsz hu he
  have e : (List.range its.toArray.size).all (fun _ => true) = true := by simp
  rw [e] at z
  exact z X.prog X.w X.xe _ ⟨.bl false, H, I, rfl, q⟩
/-- a list == [] -/
def rEqNil (K : PySem.W.Frag) : R2 := fun x y H Q => ∃ a b xs, x = .ref a ∧ y = .ref b ∧ SqL K H a xs ∧ SqL K H b [] ∧ Q (.bl xs.isEmpty) H
theorem op_eqNil (hu : X.A.units < cLine) : OpR X (compareOp .Eq) (rEqNil X.K) := by
  intro pins s σ H x y v u Q I rx ry h
  obtain ⟨a, b, xs, rfl, rfl, ha, hb, q⟩ := h
  cases rx
  cases ry
  obtain ⟨its, r, hl, _⟩ := I.list ha
  obtain ⟨its2, r2, hl2, _⟩ := I.list hb
  have h2 : its2 = [] := by
    cases r2
    rfl
  subst h2
  cases xs with
  | nil =>
    cases r
    have z := SeqAt.RcAt.lists (e := fun _ => true) hl.isList hl2.isList rfl hu (fun j h1 h2 => absurd h1 (by simp))
    exact z X.prog X.w X.xe _ ⟨.bl true, H, I, rfl, q⟩
  | cons z zs =>
    have hsz : (its.toArray.size != ([] : List Value).toArray.size) = true := by
      have : its.length = (z :: zs).length := r.length.symm
      simp [this]
    have z := SeqAt.RcAt.lists_lengths hl.isList hl2.isList hsz hu
    exact z X.prog X.w X.xe _ ⟨.bl false, H, I, rfl, q⟩
/-- one sign of a text -/
theorem found_sign (x : Str) (c : Nat) : (!(Builtin.Str.occurrences x ⟨#[c]⟩ 0 x.length 1).isEmpty) = decide (c ∈ x.cps.toList) := StrLaws.found_one x c
end
end TY

set_option maxHeartbeats 1000000
/-! Refusals with a field of their own: made, raised, caught. -/
namespace TE
open PySem L2 PyProof.Rows TX TY
/-- an own class over ValueError, read off the written part -/
def oexB (K : PySem.W.Frag) (C : Addr) : Bool := match K.lookup C with
  | some ⟨.type "type", _, .cls cd, sl⟩ => (match cd.mro, sl.toList with
    | .ref D :: bm, [_, _, _, _, some (.builtin n), _] => D == C && (n == "ValueError.__new__" && (!cd.hasDel && (cd.hasDict && PySem.HandSPX.refsVE bm)))
    | _, _ => false)
  | _ => false
theorem oexB_ok {K : PySem.W.Frag} {C : Addr} (q : oexB K C = true) : ∃ nm q N bs bm sn sub ab col dd k0 k1 k2 k3 k5, K.lookup C = some (excClassObj nm q C N bs bm true sn sub ab col dd k0 k1 k2 k3 k5 "ValueError.__new__") ∧ PySem.HandSPX.refsVE bm = true := by
  unfold oexB at q
  split at q
  · rename_i dd cd sl ho
    split at q
    · rename_i D bm k0 k1 k2 k3 n k5 hm hs
      simp only [Bool.and_eq_true, beq_iff_eq, Bool.not_eq_true'] at q
      obtain ⟨rfl, rfl, hdel, hdict, ht⟩ := q
      obtain ⟨nm, bs, mro, ns, qn, hd, sn, sub, ab, col, del⟩ := cd
      dsimp only at hm hdel hdict
      subst hm hdel hdict
      have hsl : sl = #[k0, k1, k2, k3, some (.builtin "ValueError.__new__"), k5] := by
        obtain ⟨l⟩ := sl
        simp only at hs
        rw [hs]
      subst hsl
      exact ⟨nm, qn, ns, bs, bm, sn, sub, ab, col, dd, k0, k1, k2, k3, k5, ho, ht⟩
    · cases q
  · cases q
section
variable {K : PySem.W.Frag} {mg : Str → Option Value}
/-- a class that is raised, with its own field -/
structure Nt (K : PySem.W.Frag) (mg : Str → Option Value) (x fld qual : Str) (st : Stmt) (Ct fi : Addr) (di : FuncData) : Prop where
  T : OexC K Ct
  i : PySem.W.findIn K (.ref Ct) "__init__" = some (some (.ref fi))
  t : PySem.W.typeIn K (.ref fi) = some (.type "function")
  F : Fun K "__init__" qual st fi di
  b : Binds K di ["self", fld] []
  g : mg x = some (.ref Ct)
  no : PySem.W.findIn K (.ref Ct) fld = some none
def sp_efld (C : Addr) (fld : Str) : Sp := fun vs H Q _ => ∃ (a : Addr) (v : V), vs = [.ref a, v] ∧ H a = some (exo a C none) ∧ ∀ dx, H dx = none → dx ≠ a → Q .non (upd (upd H dx (exd dx [(fld, v)])) a (exo a C (some dx)))
/-- raise C(v) -/
theorem rd_efld {C : Addr} {fld : Str} {H : Hp} {v : V} {Q : XK} (q : ∀ H' d, Same H H' → H' d = some (.xd [(fld, v)]) → Q (.ref C) (some d) H') : ∀ a, H a = none → sp_efld C fld [.ref a, v] (upd H a (exo a C none))
    (fun u H2 => u = .non ∧ ∃ (d : Addr) (fs : List (Str × V)), H2 a = some (exo a C (some d)) ∧ H2 d = some (exd d fs) ∧ H d = none ∧ Q (.ref C) (some d) (upd (del H2 a) d (.xd fs))) (fun _ _ _ => False) := by
  intro a na
  refine ⟨a, v, rfl, upd_same, fun dx nx hne => ⟨rfl, dx, [(fld, v)], upd_same, by rw [upd_ne hne, upd_same], ?_, ?_⟩⟩
  · rw [upd_ne hne] at nx
    exact nx
  · rw [upd_ne hne] at nx
    refine q _ dx (fun b o e => ?_) upd_same
    have hb1 : b ≠ dx := ne_of_none e nx
    have hb2 : b ≠ a := ne_of_none e na
    rw [upd_ne hb1, del_ne hb2, upd_ne hb2, upd_ne hb1, upd_ne hb2]
    exact e
end
end TE

set_option maxHeartbeats 1000000
/-! A rule of our own: f(k = v, ..), no argument by place. -/
namespace TK
open PySem L2 PyProof.Rows
theorem pe_callK0 {X : Cx} {CX : CXT} {k : Nat} {f : Addr} {fd : FuncData} {ps ks : List Str} {sp : Sp} {E : XK} {x : Str} {p pos : Pos} {kws : List Keyword} {tk : TA} {g : List Value → List Value → List Value} {gV : List V → List V → List V}
    (F : FnOk X.prog X.w X.K X.mg X.base CX k f fd ps sp) (hr : Room k X.A) (hg : Gl X x) (hm : X.mg x = some (.ref f)) (hk : PySem.W.keepIn X.K (.ref f) = true) (hb : KBn X.K fd ps 0 ks g gV) (hx : Passes CX X E) (hkw : PK X kws tk)
    (hall : ((backToKw pos (keywordEach kws X.env)).all (·.1.isSome)) = true := by rfl) (hks : (backToKw pos (keywordEach kws X.env)).filterMap (·.1) = ks := by rfl) (hdb : (x == Str.ofString "__debug__") = false := by decide +kernel)
    (hpl : (((backTo pos (starEach [] X.env)).any (·.1)) || (backToKw pos (keywordEach kws X.env)).any (·.1.isNone)) = false := by rfl) : PE X (.Call (.Name x p) [] kws pos) (tCallN 0 ks.length sp gV E tNil tk) :=
  ⟨fun pins s σ H Q I h => wpAny_Call_Name_kw (ld_glob I hg hm (by
    refine PySem.W.callWith_KW0 I.ok.mod.kin hk hall ?_ hpl
    refine thn (hkw.run pos pins s σ H _ I h) fun ws s2 x => ?_
    obtain ⟨zs, H2, I2, rz, l1, l2, q2⟩ := x
    refine ⟨I2.kIn, ?_⟩
    rw [hks]
    exact run_fnN F hr hb hx I2 .nil rz rfl l2 q2) hdb)⟩
theorem kbn0 {K : PySem.W.Frag} {x qual : Str} {st : Stmt} {f : Addr} {fd : FuncData} {ps ks : List Str} (F : Fun K x qual st f fd) (g : {α : Type} → List α → List α) (hrel : ∀ {zs : List V} {ws : List Value}, Vals zs ws → Vals (g zs) (g ws))
    (h : ∀ (kV doc pm : Value) (an : Option Addr) (cdv ct : Value) (ws : List Value), ws.length = ks.length → bindArgs (PySem.W.fnOf x qual (defArgs st) (defBody st) (defScope st) .none kV doc pm an cdv ct) { pos := [], kw := ks.zip ws } = pure (ps.zip (g ws))) :
    KBn K fd ps 0 ks (fun _ ws => g ws) (fun _ zs => g zs) := by
  obtain ⟨oc, od, kV, doc, pm, an, cdv, ct, osl, rfl, lk, hcd⟩ := F.ex
  refine ⟨fun s us ws hK hu hw => ?_, fun _ r => hrel r⟩
  have : us = [] := List.length_eq_zero_iff.mp hu
  subst this
  exact .of_eq (h kV doc pm an cdv ct ws hw)
theorem vals_rev {zs : List V} {ws : List Value} (h : Vals zs ws) : Vals zs.reverse ws.reverse := by
  have app : ∀ {a b : List V} {c d : List Value}, Vals a c → Vals b d → Vals (a ++ b) (c ++ d) := by
    intro a b c d h k
    induction h with
    | nil => exact k
    | cons r _ ih => exact .cons r ih
  induction h with
  | nil => exact .nil
  | cons r _ ih =>
    rw [List.reverse_cons, List.reverse_cons]
    exact app ih (.cons r .nil)
end TK

set_option maxHeartbeats 4000000
/-! Refusals that are made and kept: as values. -/
namespace TO
open PySem PySem.Spec PyProof.Rows L2 TX TY TE
section
variable {X : Cx} {p pos : Pos} {e : Expr} {es : List Expr} {ta : TA}
/-- C(..) of an own class over ValueError with its own __init__, kept -/
def tMkE (C : Addr) (sp : Sp) (t : TA) : TE := fun σ H Q => t σ H fun vs H1 => vs.length ≤ 1000 ∧ ∀ a, H1 a = none → sp (.ref a :: vs) (upd H1 a (exo a C none)) (fun v H2 => v = .non ∧ Q (.ref a) H2) (fun _ _ _ => False)
theorem pe_mkE {CX : CXT} {x : Str} {C fI : Addr} {k : Nat} {fd : FuncData} {ps : List Str} {sp : Sp} (T : OexC X.K C) (iC : PySem.W.findIn X.K (.ref C) "__init__" = some (some (.ref fI))) (tI : PySem.W.typeIn X.K (.ref fI) = some (.type "function"))
    (F1 : FnOk X.prog X.w X.K X.mg X.base CX k fI fd ps sp) (hr : Room (k + 1) X.A) (hb : Binds X.K fd ps []) (hx : Passes CX X (fun _ _ _ => False)) (hg : Gl X x) (hm : X.mg x = some (.ref C)) (ha : PA X (e :: es) ta)
    (hdb : (x == ("__debug__" : Str)) = false := by decide) (he : starEach (e :: es) X.env = (false, eval e X.env) :: starEach es X.env := by rfl) (hpl : (backTo pos (starEach es X.env)).any (·.1) = false := by rfl) :
    PE X (.Call (.Name x p) (e :: es) [] pos) (tMkE C sp ta) := by
  refine ⟨fun pins s σ H Q I h => ?_⟩
  obtain ⟨nm, q, N, bs, bm, sn, sub, ab, col, dd, k0, k1, k2, k3, k5, hC, hbm⟩ := T.cls
  refine wpAny_Call_Name_kw (ld_glob I hg hm ?_ hdb)
  refine PySem.W.callWith_K (h₀ := X.base) I.ok.mod.kin T.kC (thn (ha.run pos pins s σ H _ I h) fun us s1 ⟨vs, H1, I1, r1, hz, q1⟩ => ⟨I1.kIn, ?_⟩) he hpl
  obtain ⟨hp, g, dr, tk, os⟩ := s1
  have nA : H1 (hp.objs.size + 1) = none := I1.hok.fresh (Nat.le_succ _)
  have want := q1 (hp.objs.size + 1) nA
  have grow : ∀ b o, hp.get? b = some o → ((hp.push (PySem.W.kdv_tup us)).push (PySem.HandSPX.excO C hp.objs.size)).get? b = some o := fun b o z => Heap.get?_push_of_some _ (Heap.get?_push_of_some _ z)
  have there : ((hp.push (PySem.W.kdv_tup us)).push (PySem.HandSPX.excO C hp.objs.size)).get? (hp.objs.size + 1) = some (PySem.HandSPX.excO C hp.objs.size) := by heap_get
  have J : Inv X pins σ (upd H1 (hp.objs.size + 1) (exo (hp.objs.size + 1) C none)) ⟨(hp.push (PySem.W.kdv_tup us)).push (PySem.HandSPX.excO C hp.objs.size), g, dr, tk, os⟩ :=
    I1.laid (t' := tk) (a := hp.objs.size + 1) (o := exo (hp.objs.size + 1) C none) grow (Nat.le_succ _) (exo_ok there)
  have rel : Vals (V.ref (hp.objs.size + 1) :: vs) (Value.ref (hp.objs.size + 1) :: us) := .cons rfl r1
  have hl : (Value.ref (hp.objs.size + 1) :: us ++ []).length = ps.length := by
    rw [List.append_nil, ← rel.length]
    exact F1.len _ _ _ _ want
  have few : us.length ≤ sizeLine := by
    rw [← Paired.length r1, sizeLine_eq]
    omega
  have bd := hb ⟨(hp.push (PySem.W.kdv_tup us)).push (PySem.HandSPX.excO C hp.objs.size), g, dr, tk, os⟩ (Value.ref (hp.objs.size + 1) :: us) J.kIn hl
  rw [List.append_nil] at bd
  refine wpAny_call (PySem.HandSPX.call_own F.excBase_ValueError (fun Y => PySem.HandSPX.refsVE_contains Y bm hbm) (I1.kIn _ _ hC) (PySem.W.looks_findIn I1.kIn iC) (fun self => PySem.W.bind_fn I1.kIn self tI) few
    (codeAny_mono (F1.run _ X.stack _ _ ⟨Value.ref (hp.objs.size + 1) :: us, []⟩ (Value.ref (hp.objs.size + 1) :: us) _ _ (fun _ _ _ => False) (hr.make C us []) (J.env0.make C us []) bd rel want) fun r s' hq' => ?_))
  cases r with
  | error er => exact hx pins σ _ _ er s' J hq'
  | ok fl =>
    cases fl with
    | ret u =>
      obtain ⟨z, H2, J2, rz, ez, q2⟩ := J.after hq'
      subst ez
      exact ⟨rz, ⟨.ref (hp.objs.size + 1), H2, J2, rfl, q2⟩⟩
    | next => exact False.elim hq'
    | brk => exact False.elim hq'
    | cont => exact False.elim hq'
end
end TO

set_option maxHeartbeats 4000000
/-! An own class over ValueError with its own __init__, called by keywords. -/
namespace PySem
namespace TOK
open PyProof.Rows PySem.HandSPX
section
variable {M : Model} {A : Around} {E : Value → Shared → Prop} {h : Heap} {g : Array GenState} {d : Drawn} {t : Nat} {os : OsState}
variable {nm q : Str} {C N : Addr} {bs bm bmB : List Value} {hdct : Bool} {sn : List Str} {sub : List Value} {ab : Bool} {col : Option Bool} {dd : Option Addr} {k0 k1 k2 k3 k5 : Option Value} {B newId initId : String}
theorem chk_newK (Fx : ExcBaseFacts B newId initId bmB) (same : ∀ Y : String, bm.contains (.type Y) = bmB.contains (.type Y)) {pos : List Value} {kw : List (Str × Value)} {Q : Unit → Shared → Prop}
    (cls : h.get? C = some (excClassObj nm q C N bs bm hdct sn sub ab col dd k0 k1 k2 k3 k5 newId)) (fin : Q () ⟨h, g, d, t, os⟩) : wpAny M A (checkBuiltinCall newId ⟨.ref C :: pos, kw⟩) Q E ⟨h, g, d, t, os⟩ := by
  have isB : (Value.ref C :: bm).contains (.type B) = true := by
    rw [List.contains_cons, same, Fx.hasB, Bool.or_true]
  have star := Fx.noStar
  simp only [checkBuiltinCall, Fx.newKind, Fx.newSplit, Fx.newRow]
  repeat (first
    | refine wpAny_loadPart_at cls ?_
    | (refine wpAny_isSubtype_exc cls ?_
       rw [isB])
    | refine wpAny_staticBase_exc cls ?_
    | refine wpAny_madeBy_exc cls ?_
    | simp only [bne_self_eq_false, Bool.false_eq_true, if_false]
    | wp_step)
  exact fin
theorem chk_callK {pos : List Value} {kw : List (Str × Value)} {Q : Unit → Shared → Prop} (cls : h.get? C = some (excClassObj nm q C N bs bm hdct sn sub ab col dd k0 k1 k2 k3 k5 newId))
    (fin : Q () ⟨h, g, d, t, os⟩) : wpAny M A (checkBuiltinCall "type.__call__" ⟨.ref C :: pos, kw⟩) Q E ⟨h, g, d, t, os⟩ := by
  have e3 := tc_sub
  have ty : (⟨h, g, d, t, os⟩ : Shared).TypeIs (.ref C) "type" := ⟨_, cls, rfl⟩
  simp only [checkBuiltinCall, tc_kind, tc_split]
  repeat (any_goals (first
    | assumption
    | with_reducible refine wpAny_loadPart_at cls ?_
    | with_reducible refine wpAny_onRaise ?_
    | with_reducible refine wpAny_map ?_
    | wp_step))
end
section
variable {prog : Program} {w : World} {A : Around} {E : Value → Shared → Prop} {R : Result → Shared → Prop} {h : Heap} {g : Array GenState} {d : Drawn} {t : Nat} {os : OsState}
variable {nm q : Str} {C N : Addr} {bs bm bmB : List Value} {hdct : Bool} {sn : List Str} {sub : List Value} {ab : Bool} {col : Option Bool} {dd : Option Addr} {k0 k1 k2 k3 k5 : Option Value} {B newId initId : String}
theorem make_newK (Fx : ExcBaseFacts B newId initId bmB) (same : ∀ Y : String, bm.contains (.type Y) = bmB.contains (.type Y)) {pos : List Value} {kw : List (Str × Value)}
    (cls : h.get? C = some (excClassObj nm q C N bs bm hdct sn sub ab col dd k0 k1 k2 k3 k5 newId)) (few : pos.length ≤ sizeLine)
    (fin : R (.ok (.ret (.ref (h.objs.size + 1)))) ⟨(h.push { cls := .type "tuple", data := .seq pos.toArray }).push { cls := .ref C, data := .fields #[.ref h.objs.size, .none, .none, .none, .bool false, .none] }, g, d, t, os⟩) :
    codeAny (model prog w) A (.builtin newId ⟨.ref C :: pos, kw⟩) R ⟨h, g, d, t, os⟩ := by
  have ends := Fx.ends
  have isB : (Value.ref C :: bm).contains (.type B) = true := by
    rw [List.contains_cons, same, Fx.hasB, Bool.or_true]
  have noA : (Value.ref C :: bm).contains (.type "AttributeError") = false := by
    rw [List.contains_cons, same, Fx.noAttr]
    rfl
  have noN : (Value.ref C :: bm).contains (.type "NameError") = false := by
    rw [List.contains_cons, same, Fx.noName]
    rfl
  refine codeAny_builtinAt Fx.entry ?_
  unfold Builtin.«BaseException.__new__»
  refine wpAt_bind ?_
  show wpAt _ _ _ (stack >>= _) _ _ _
  refine wpAt_bind (wpAt_stack fun p below => wpAt_of_wpAny ?_)
  wp_walk
  refine wpAt_of_wpAny ?_
  rw [Fx.owner]
  repeat (first
    | with_reducible refine wpAny_madeHere_exc Fx.canon cls ?_
    | with_reducible refine wpAny_loadPart_at cls ?_
    | (with_reducible refine wpAny_isSubtype_exc cls ?_
       first
        | rw [isB]
        | rw [noA]
        | rw [noN])
    | wp_step)
  show R _ _
  rw [Heap.size_push]
  exact fin
theorem type_callK (Fx : ExcBaseFacts B newId initId bmB) (same : ∀ Y : String, bm.contains (.type Y) = bmB.contains (.type Y)) {pos : List Value} {kw : List (Str × Value)} {fI : Addr} {Q : Fin → Shared → Prop}
    (cls : h.get? C = some (excClassObj nm q C N bs bm hdct sn sub ab col dd k0 k1 k2 k3 k5 newId)) (few : pos.length ≤ sizeLine)
    (li : W.Looks (model prog w) h (typeLookup (.ref C) "__init__") (some (.ref fI))) (lb : ∀ self, W.Looks (model prog w) h (bindSpecial (.ref fI) self) (.ref fI, [self]))
    (fin : codeAny (model prog w) A (.call (.ref fI) ⟨.ref (h.objs.size + 1) :: pos, kw⟩)
      (fun r s' => match r with | .ok (.ret v) => v = .none ∧ Q (.done (.ret (.ref (h.objs.size + 1)))) s' | .ok _ => False | .error e => E e s')
      ⟨(h.push (W.kdv_tup pos)).push (excO C h.objs.size), g, d, t, os⟩) :
    wpAny (model prog w) A (Builtin.«type.__call__» ⟨.ref C :: pos, kw⟩) Q E ⟨h, g, d, t, os⟩ := by
  repeat (first
    | with_reducible refine wpAny_loadPart_at cls ?_
    | with_reducible refine wpAny_madeBy_exc cls ?_
    | wp_step)
  refine codeAny_call_builtin_code (Code.quiet_builtin _ Fx.quiet) (chk_newK Fx same cls ?_)
  refine make_newK Fx same cls few ?_
  show wpAny _ _ _ _ _ _
  have grow : ∀ b o, h.get? b = some o → ((h.push (W.kdv_tup pos)).push (excO C h.objs.size)).get? b = some o := fun b o z => Heap.get?_push_of_some _ (Heap.get?_push_of_some _ z)
  have cls1 := grow _ _ cls
  have there : ((h.push (W.kdv_tup pos)).push (excO C h.objs.size)).get? (h.objs.size + 1) = some (excO C h.objs.size) := by
    heap_get
  have self_ : (Value.ref C :: bm).contains (.ref C) = true := by
    simp
  have li1 := li.keeps grow
  have lb1 := (lb (.ref (h.objs.size + 1))).keeps grow
  unfold isInstance
  repeat (first
    | with_reducible refine wpAny_loadPart_at there ?_
    | (with_reducible refine wpAny_isSubtype_exc cls1 ?_
       rw [self_])
    | wp_step)
  show wpAny _ _ (typeLookup (.ref C) _) _ _ _
  refine li1.at ?_
  refine wpAny_holding (wpAny_bind (lb1.at ?_))
  refine wpAny_bind (wpAny_call (codeAny_mono fin fun r s' z => ?_))
  rcases r with e | (v | _ | _ | _)
  all_goals first
    | exact z
    | exact z.elim
    | skip
  obtain ⟨rfl, z⟩ := z
  first
    | exact wpAny_pure (wpAny_pure z)
    | (wp_walk
       exact z)
theorem call_clsK (Fx : ExcBaseFacts B newId initId bmB) (same : ∀ Y : String, bm.contains (.type Y) = bmB.contains (.type Y)) {pos : List Value} {kw : List (Str × Value)} {fI : Addr}
    (cls : h.get? C = some (excClassObj nm q C N bs bm hdct sn sub ab col dd k0 k1 k2 k3 k5 newId)) (few : pos.length ≤ sizeLine)
    (li : W.Looks (model prog w) h (typeLookup (.ref C) "__init__") (some (.ref fI))) (lb : ∀ self, W.Looks (model prog w) h (bindSpecial (.ref fI) self) (.ref fI, [self]))
    (fin : codeAny (model prog w) (A.under (.builtin "type.__call__" ⟨.ref C :: pos, kw⟩)) (.call (.ref fI) ⟨.ref (h.objs.size + 1) :: pos, kw⟩) (W.InitBack (h.objs.size + 1) R) ⟨(h.push (W.kdv_tup pos)).push (excO C h.objs.size), g, d, t, os⟩) :
    codeAny (model prog w) A (.call (.ref C) ⟨pos, kw⟩) R ⟨h, g, d, t, os⟩ := by
  have e1 := tc_lookup
  have e2 := tc_bind (.ref C)
  have ty : (⟨h, g, d, t, os⟩ : Shared).TypeIs (.ref C) "type" := ⟨_, cls, rfl⟩
  refine codeAny_of_tree ?_
  show wpAny _ _ (callAny (.ref C) _) _ _ _
  repeat (any_goals (first
    | assumption
    | with_reducible refine wpAny_loadPart_at cls ?_
    | wp_step))
  refine ⟨rfl, ?_⟩
  refine codeAny_call_builtin_at (Code.quiet_builtin _ (by decide +kernel)) entry_typeCall (chk_callK cls (type_callK Fx same cls few li lb ?_))
  refine codeAny_mono fin fun r s' z => ?_
  rcases r with e | (v | _ | _ | _)
  all_goals exact z
end
end TOK
end PySem

set_option maxHeartbeats 4000000
/-! Refusals that are kept: by keywords, without an __init__ of their own, asked for their class, their fields. -/
namespace TO
open PySem PySem.Spec PyProof.Rows L2 TX TY TE
section
variable {X : Cx} {p pos : Pos}
/-- C(k = v, ..), kept -/
def tMkK (C : Addr) (n : Nat) (sp : Sp) (gV : List V → List V) (tk : TA) : TE := fun σ H Q => tk σ H fun zs H1 => zs.length = n ∧ ∀ a, H1 a = none → sp (.ref a :: gV zs) (upd H1 a (exo a C none)) (fun v H2 => v = .non ∧ Q (.ref a) H2) (fun _ _ _ => False)
theorem pe_mkK {CX : CXT} {x : Str} {C fI : Addr} {k : Nat} {fd : FuncData} {ps ks : List Str} {sp : Sp} {kws : List Keyword} {tk : TA} {gV : List V → List V} {g : List Value → List Value} (T : OexC X.K C) (iC : PySem.W.findIn X.K (.ref C) "__init__" = some (some (.ref fI))) (tI : PySem.W.typeIn X.K (.ref fI) = some (.type "function"))
    (F1 : FnOk X.prog X.w X.K X.mg X.base CX k fI fd ps sp) (hr : Room (k + 1) X.A) (hb : KBn X.K fd ps 1 ks (fun us ws => us ++ g ws) (fun vs zs => vs ++ gV zs)) (hx : Passes CX X (fun _ _ _ => False)) (hg : Gl X x) (hm : X.mg x = some (.ref C)) (hkw : PK X kws tk)
    (hall : ((backToKw pos (keywordEach kws X.env)).all (·.1.isSome)) = true := by rfl) (hks : (backToKw pos (keywordEach kws X.env)).filterMap (·.1) = ks := by rfl)
    (hdb : (x == ("__debug__" : Str)) = false := by decide) (hpl : (((backTo pos (starEach [] X.env)).any (·.1)) || (backToKw pos (keywordEach kws X.env)).any (·.1.isNone)) = false := by rfl) :
    PE X (.Call (.Name x p) [] kws pos) (tMkK C ks.length sp gV tk) := by
  refine ⟨fun pins s σ H Q I h => wpAny_Call_Name_kw (ld_glob I hg hm ?_ hdb)⟩
  obtain ⟨nm, q, N, bs, bm, sn, sub, ab, col, dd, k0, k1, k2, k3, k5, hC, hbm⟩ := T.cls
  refine PySem.W.callWith_KW0 I.ok.mod.kin T.kC hall ?_ hpl
  refine thn (hkw.run pos pins s σ H _ I h) fun ws s1 x1 => ?_
  obtain ⟨zs, H1, I1, rz, l2, q2⟩ := x1
  refine ⟨I1.kIn, ?_⟩
  rw [hks]
  obtain ⟨hp, gn, dr, tk, os⟩ := s1
  have nA : H1 (hp.objs.size + 1) = none := I1.hok.fresh (Nat.le_succ _)
  have want := q2 (hp.objs.size + 1) nA
  have grow : ∀ b o, hp.get? b = some o → ((hp.push (PySem.W.kdv_tup [])).push (PySem.HandSPX.excO C hp.objs.size)).get? b = some o := fun b o z => Heap.get?_push_of_some _ (Heap.get?_push_of_some _ z)
  have there : ((hp.push (PySem.W.kdv_tup [])).push (PySem.HandSPX.excO C hp.objs.size)).get? (hp.objs.size + 1) = some (PySem.HandSPX.excO C hp.objs.size) := by heap_get
  have J : Inv X pins σ (upd H1 (hp.objs.size + 1) (exo (hp.objs.size + 1) C none)) ⟨(hp.push (PySem.W.kdv_tup [])).push (PySem.HandSPX.excO C hp.objs.size), gn, dr, tk, os⟩ :=
    I1.laid (t' := tk) (a := hp.objs.size + 1) (o := exo (hp.objs.size + 1) C none) grow (Nat.le_succ _) (exo_ok there)
  have rel : Vals ([V.ref (hp.objs.size + 1)] ++ gV zs) ([Value.ref (hp.objs.size + 1)] ++ g ws) := hb.rel (.cons rfl .nil) rz
  have bd := hb.to ⟨(hp.push (PySem.W.kdv_tup [])).push (PySem.HandSPX.excO C hp.objs.size), gn, dr, tk, os⟩ [Value.ref (hp.objs.size + 1)] ws J.kIn rfl (rz.length.symm.trans l2)
  refine wpAny_call (PySem.TOK.call_clsK F.excBase_ValueError (fun Y => PySem.HandSPX.refsVE_contains Y bm hbm) (I1.kIn _ _ hC) (by show 0 ≤ sizeLine; exact Nat.zero_le _) (PySem.W.looks_findIn I1.kIn iC) (fun self => PySem.W.bind_fn I1.kIn self tI)
    (codeAny_mono (F1.run _ X.stack _ _ ⟨[Value.ref (hp.objs.size + 1)], ks.zip ws⟩ ([Value.ref (hp.objs.size + 1)] ++ g ws) _ _ (fun _ _ _ => False) (hr.make C [] (ks.zip ws)) (J.env0.make C [] (ks.zip ws)) bd rel want) fun r s' hq' => ?_))
  cases r with
  | error er => exact hx pins σ _ _ er s' J hq'
  | ok fl =>
    cases fl with
    | ret u =>
      obtain ⟨z, H2, J2, rz2, ez, q3⟩ := J.after hq'
      subst ez
      exact ⟨rz2, ⟨.ref (hp.objs.size + 1), H2, J2, rfl, q3⟩⟩
    | next => exact False.elim hq'
    | brk => exact False.elim hq'
    | cont => exact False.elim hq'
/-- C('..') or C() of an own class without an __init__ of its own, kept -/
def tMkN (C : Addr) (ta : TA) : TE := fun σ H Q => ta σ H fun vs H1 => vs.length ≤ 1000 ∧ ∀ a, H1 a = none → Q (.ref a) (upd H1 a (exo a C none))
theorem run_mkN {C : Addr} {pins : List (Addr × Obj)} {σ : L2.St} {H : Hp} {s : Shared} {Q : VK} {us : List Value} (q : PySem.W.excIn X.K C [.type "ValueError", .type "Exception", .type "BaseException", .type "object"] "ValueError.__new__" = true) (I : Inv X pins σ H s) (few : us.length ≤ sizeLine)
    (h : ∀ a, H a = none → Q (.ref a) (upd H a (exo a C none))) : wpAny (model X.prog X.w) X.A (call (.ref C) us) (EP X pins σ Q) X.xe s := by
  obtain ⟨hp, gn, dr, tk, os⟩ := s
  obtain ⟨bm, N, nm, qn, bs, hdct, sn, sub, ab, col, dd, k0, k1, k2, k3, k5, mN, hC, hN, hni, T⟩ := exc_obj I.kIn q
  refine wpAny_call_exc_subT F.excBase_ValueError T hC hN hni (fun h' e hm => ?_) few
  obtain ⟨t0, there, _⟩ := hm.there
  have nA : H e = none := I.hok.gone hm.new
  exact ⟨.ref e, _, I.laidN (t' := tk) hm.keeps hm.new nA (exo_ok there), rfl, h e nA⟩
theorem pe_mkN {C : Addr} {x : Str} {e : Expr} {es : List Expr} {ta : TA} (q : PySem.W.excIn X.K C [.type "ValueError", .type "Exception", .type "BaseException", .type "object"] "ValueError.__new__" = true) (kC : PySem.W.keepIn X.K (.ref C) = true) (hg : Gl X x) (hm : X.mg x = some (.ref C)) (ha : PA X (e :: es) ta)
    (hdb : (x == ("__debug__" : Str)) = false := by decide) (he : starEach (e :: es) X.env = (false, eval e X.env) :: starEach es X.env := by rfl) (hpl : (backTo pos (starEach es X.env)).any (·.1) = false := by rfl) :
    PE X (.Call (.Name x p) (e :: es) [] pos) (tMkN C ta) :=
  ⟨fun pins s σ H Q I h => wpAny_Call_Name_kw (ld_glob I hg hm (PySem.W.callWith_K (h₀ := X.base) I.ok.mod.kin kC (thn (ha.run pos pins s σ H _ I h) fun us s1 ⟨vs, H1, I1, r1, hz, q1⟩ =>
    ⟨I1.kIn, run_mkN q I1 (by show us.length ≤ sizeLine; rw [← Paired.length r1, sizeLine_eq]; omega) q1⟩) he hpl) hdb)⟩
theorem pe_mkN0 {C : Addr} {x : Str} (q : PySem.W.excIn X.K C [.type "ValueError", .type "Exception", .type "BaseException", .type "object"] "ValueError.__new__" = true) (kC : PySem.W.keepIn X.K (.ref C) = true) (hg : Gl X x) (hm : X.mg x = some (.ref C))
    (hdb : (x == ("__debug__" : Str)) = false := by decide) : PE X (.Call (.Name x p) [] [] pos) (tMkN C tNil) :=
  ⟨fun pins s σ H Q I h => wpAny_Call_Name_kw (ld_glob I hg hm (PySem.W.callWith_K0 I.kIn kC (run_mkN q I (by show 0 ≤ sizeLine; exact Nat.zero_le _) h.2)) hdb)⟩
/-- isinstance of a refusal that is kept -/
def rIsO (K : PySem.W.Frag) : List V → Hp → VK → Prop := fun xs H Q => ∃ (a C : Addr) (d : Option Addr) (c : V) (cv : Value) (b : Bool), xs = [.ref a, c] ∧ H a = some (exo a C d) ∧ (∀ dx, d = some dx → ∃ fs, H dx = some (exd dx fs)) ∧ ExcC K C ∧ ClsV c cv ∧ PySem.W.kitOne K (.ref C) cv = some b ∧ Q (.bl b) H
theorem call_isO : CallR X (.builtin "isinstance") (rIsO X.K) := by
  intro pins s σ H xs us Q I r h
  obtain ⟨a, C, d, c, cv, b, rfl, ha, hd, G, hcv, e, q⟩ := h
  obtain ⟨u1, u2, rfl, r1, r2⟩ := vals2 r
  cases r1
  have e2 := hcv.eq r2
  subst e2
  obtain ⟨t1, hget⟩ := exo_at I.hok ha
  cases d with
  | none =>
    have Z := PySem.W.handS_kitx_exc (x := a) (ox := { cls := .ref C, dict := none, data := .fields #[.ref t1, .none, .none, .none, .bool false, .none] }) G.hg G.hk G.hs G.hd G.ha G.hn G.ht G.hm
    have J : PySem.W.InstAt s.heap a { cls := .ref C, dict := none, data := .fields #[.ref t1, .none, .none, .none, .bool false, .none] } C none := ⟨hget, rfl, rfl, trivial⟩
    exact PySem.W.kia_one Z I.kIn J e (fun z => nomatch z) fun tk => ⟨.bl b, H, I.kept (t' := tk) fun _ _ z => z, rfl, q⟩
  | some dx =>
    obtain ⟨fs, hdx⟩ := hd dx rfl
    obtain ⟨mA, hns, _⟩ := exd_at I.hok hdx
    obtain ⟨od, ho, _⟩ := lookIn_ns hns
    have hcl : (PySem.W.clsIn X.K C).isSome = true := by
      obtain ⟨cd, hc', _⟩ := PySem.W.any_some G.hd
      rw [hc']
      rfl
    have Z := PySem.W.kitx_exc (x := a) (ox := { cls := .ref C, dict := some dx, data := .fields #[.ref t1, .none, .none, .none, .bool false, .none] }) (od := some od) hcl G.hg G.hk G.hs G.ha G.hn G.ht G.hm
    have J : PySem.W.InstAt s.heap a { cls := .ref C, dict := some dx, data := .fields #[.ref t1, .none, .none, .none, .bool false, .none] } C (some od) := ⟨hget, rfl, rfl, ho⟩
    exact PySem.W.kia_one Z I.kIn J e (fun z => nomatch z) fun tk => ⟨.bl b, H, I.kept (t' := tk) fun _ _ z => z, rfl, q⟩
/-- e.f of a refusal that is kept -/
def tXo (K : PySem.W.Frag) (f : Str) (te : TE) : TE := fun σ H Q => te σ H fun x H1 => ∃ (a C dx : Addr) (fs : List (Str × V)) (v : V), x = .ref a ∧ H1 a = some (exo a C (some dx)) ∧ H1 dx = some (exd dx fs) ∧ XfC K C ∧ PySem.W.findIn K (.ref C) f = some none ∧ fs.lookup f = some v ∧ Q v H1
theorem pe_xo {e : Expr} {te : TE} {n : Str} (he : PE X e te) (hb : attributeBase e n X.env (eval e X.env) = eval e X.env := by rfl) : PE X (.Attribute e n pos) (tXo X.K n te) := by
  refine ⟨fun pins s σ H Q I h => attr_of hb (thn (he.run pins s σ H _ I h) fun u s1 hh => ?_)⟩
  obtain ⟨x, H1, I1, rx, a, C, dx, fs, v, rfl, ha, hd, T, no, l, q⟩ := hh
  obtain rfl : u = Value.ref a := rx
  obtain ⟨t1, hget⟩ := exo_at I1.hok ha
  obtain ⟨mA, hns, hr⟩ := exd_at I1.hok hd
  obtain ⟨od, ho, hl⟩ := lookIn_ns hns
  obtain ⟨w, hw, rw'⟩ := RelO.some_of (v := v) (o := mA n) (by rw [← l]; exact hr n)
  have J : PySem.W.InstAt s1.heap a { cls := .ref C, dict := some dx, data := .fields #[.ref t1, .none, .none, .none, .bool false, .none] } C (some od) := ⟨hget, rfl, rfl, ho⟩
  exact HandSPX.exc_get I1.kIn J T.ga T.gg T.exC (PySem.W.findObj_own T.hdC no rfl (by rw [hl, hw])) (handed_of rw') ⟨v, H1, I1.tok _, rw', q⟩
end
end TO

set_option maxHeartbeats 1000000
/-! Things as data: equal to themselves. -/
namespace TD
open PySem L2 PyProof.Rows TX TW
/-- a plain value as data -/
def dV : V → PyData
  | .int i => .int i
  | .bl b => .bool b
  | .str s => .str s
  | _ => .none
theorem Dp_plain {K : PySem.W.Frag} {H : Hp} {v : V} (h : plainV v = true) : Dp K H v (dV v) := by
  cases v with
  | int i => exact .int i
  | bl b => exact .bl b
  | str s => exact .str s
  | non => exact .non
  | _ => cases h
theorem DpAll_plain {K : PySem.W.Frag} {H : Hp} : ∀ {xs : List V}, xs.all plainV = true → DpAll K H xs (xs.map dV)
  | [], _ => .nil
  | x :: r, h => by
    rw [List.all_cons, Bool.and_eq_true] at h
    exact .cons (Dp_plain h.1) (DpAll_plain h.2)
theorem Dp_tup {K : PySem.W.Frag} {H : Hp} {a : Addr} {xs : List V} (h : H a = some (.tup xs)) (p : xs.all plainV = true) : Dp K H (.ref a) (.tuple (xs.map dV)) := .tup (.of h) (DpAll_plain p)
theorem whole_plain {xs : List V} (h : xs.all wholeV = true) : xs.all plainV = true := by
  rw [List.all_eq_true] at h ⊢
  intro x hx
  have := h x hx
  cases x <;> first | rfl | cases this
/-- whole numbers alone -/
theorem can_whole {xs : List V} (h : xs.all wholeV = true) : PyData.canLayAll0 (xs.map dV) = true := by
  induction xs with
  | nil => rfl
  | cons x r ih =>
    rw [List.all_cons, Bool.and_eq_true] at h
    rw [List.map_cons]
    unfold PyData.canLayAll0
    rw [ih h.2]
    cases x <;> first | rfl | cases h.1
theorem dep_plain (xs : List V) : PyData.depthAll (xs.map dV) = 0 := by
  induction xs with
  | nil => rfl
  | cons x r ih =>
    rw [List.map_cons]
    unfold PyData.depthAll
    rw [ih]
    cases x <;> rfl
theorem can_tup {xs : List V} (h : xs.all wholeV = true) : PyData.canLay0 (.tuple (xs.map dV)) = true := by unfold PyData.canLay0; exact can_whole h
theorem dep_tup (xs : List V) : PyData.depth (.tuple (xs.map dV)) = 1 := by unfold PyData.depth; rw [dep_plain]
theorem shaped_of {d : PyData} (h : PyData.canLay0 d = true) (k : PyData.depth d ≤ 64) : SeqAt.shaped d = true := by
  unfold SeqAt.shaped
  rw [h, decide_eq_true k]
  rfl
theorem can2 {a b : PyData} (h : PyData.canLay0 a = true) (k : PyData.canLay0 b = true) : PyData.canLay0 (.tuple [a, b]) = true := by
  unfold PyData.canLay0 PyData.canLayAll0 PyData.canLayAll0 PyData.canLayAll0
  rw [h, k]
  rfl
theorem dep2 (a b : PyData) : PyData.depth (.tuple [a, b]) = 1 + max (PyData.depth a) (PyData.depth b) := by
  show PyData.depthAll [a, b] + 1 = _
  show max (PyData.depth a) (max (PyData.depth b) 0) + 1 = _
  omega
theorem canL {xs : List PyData} (h : ∀ x ∈ xs, PyData.canLay0 x = true) : PyData.canLay0 (.list xs) = true := by
  unfold PyData.canLay0
  induction xs with
  | nil => rfl
  | cons x r ih =>
    unfold PyData.canLayAll0
    rw [h x List.mem_cons_self, ih fun y hy => h y (List.mem_cons_of_mem _ hy)]
    rfl
theorem depL {xs : List PyData} {n : Nat} (h : ∀ x ∈ xs, PyData.depth x ≤ n) : PyData.depth (.list xs) ≤ n + 1 := by
  have : PyData.depthAll xs ≤ n := by
    induction xs with
    | nil => exact Nat.zero_le _
    | cons x r ih =>
      unfold PyData.depthAll
      have h1 := h x List.mem_cons_self
      have h2 := ih fun y hy => h y (List.mem_cons_of_mem _ hy)
      omega
  unfold PyData.depth
  omega
theorem eqv_same {d e : PyData} (h : PyData.canLay0 d = true) (k : d = e) : PyData.eqv d e = true := by
  subst k
  exact SeqAt.eqv_refl d h
end TD

set_option maxHeartbeats 2000000
/-! Rules of our own: sets of rows (tuples of ints, below 64): made by a comprehension, sorted whatever the ints. -/
namespace TB
open PySem L2 PyProof.Rows
/-! ### the order of rows -/
def ltI : List Int → List Int → Bool
  | [], [] => false
  | [], _ :: _ => true
  | _ :: _, [] => false
  | x :: a, y :: b => if x = y then ltI a b else decide (x < y)
theorem ltI_asym : ∀ {a b : List Int}, ltI a b = true → ltI b a = false
  | [], [], h => by cases h
  | [], _ :: _, _ => rfl
  | _ :: _, [], h => by cases h
  | x :: a, y :: b, h => by
    unfold ltI at h ⊢
    by_cases e : x = y
    · subst e
      rw [if_pos rfl] at h ⊢
      exact ltI_asym h
    · rw [if_neg e] at h
      rw [if_neg (fun z => e z.symm)]
      have := of_decide_eq_true h
      exact decide_eq_false (by omega)
theorem ltI_anti : ∀ {a b : List Int}, ltI a b = false → ltI b a = false → a = b
  | [], [], _, _ => rfl
  | [], _ :: _, h, _ => by cases h
  | _ :: _, [], _, h => by cases h
  | x :: a, y :: b, h, k => by
    unfold ltI at h k
    by_cases e : x = y
    · subst e
      rw [if_pos rfl] at h k
      rw [ltI_anti h k]
    · rw [if_neg e] at h
      rw [if_neg (fun z => e z.symm)] at k
      have h1 := of_decide_eq_false h
      have h2 := of_decide_eq_false k
      omega
theorem ltI_le : ∀ {a b c : List Int}, ltI b a = false → ltI c b = false → ltI c a = false
  | [], [], [], _, _ => rfl
  | [], [], _ :: _, _, h => by cases h <;> rfl
  | [], _ :: _, [], h, _ => by first | rfl | cases h
  | [], _ :: _, _ :: _, h, _ => by first | rfl | cases h
  | _ :: _, [], _, h, _ => by cases h
  | _ :: _, _ :: _, [], _, h => by cases h
  | x :: a, y :: b, z :: c, h, k => by
    unfold ltI at h k ⊢
    by_cases e : y = x
    · subst e
      rw [if_pos rfl] at h
      by_cases e2 : z = y
      · subst e2
        rw [if_pos rfl] at k ⊢
        exact ltI_le h k
      · rw [if_neg e2] at k ⊢
        exact k
    · rw [if_neg e] at h
      have h1 := of_decide_eq_false h
      by_cases e2 : z = y
      · subst e2
        rw [if_neg e]
        exact h
      · rw [if_neg e2] at k
        have h2 := of_decide_eq_false k
        rw [if_neg (by omega)]
        exact decide_eq_false (by omega)
theorem ltI_swo {α : Type} (k : α → List Int) : SrtO.Swo fun v u => ltI (k v) (k u) := ⟨fun _ _ => ltI_asym, fun _ _ _ => ltI_le⟩
/-! ### rows held against one another by the sort -/
theorem lex_all {prog : Program} {w : World} {A : Around} {s : Shared} {Q : Bool → Shared → Prop} : ∀ {xs ys : List Value} {ns ms : List Int} {i : Nat} {fin : Bool}, IntsAre xs ns → IntsAre ys ms → (ns.length = ms.length → fin = false) → ns.length = ms.length → Q (ltI ns ms) s →
    W.KatLex prog w A true fin Q (xs.zip ys) i s := by
  intro xs ys ns ms i fin h
  induction h generalizing ys ms i with
  | nil =>
    intro k hf hl q
    cases k with
    | nil =>
      have e := hf hl
      subst e
      exact W.kat_nil q
    | cons n t k => cases hl
  | @cons n t vs ns h ih =>
    intro k hf hl q
    cases k with
    | nil => cases hl
    | @cons m u ws ms k =>
      have hl' : ns.length = ms.length := by simpa using hl
      refine W.kat_cons (SeqAt.EqAt.int_int n t m u prog w _ _ ?_)
      refine W.kat_go (fun e => ?_) fun e => ?_
      · have e : n = m := by simpa using e
        subst e
        refine W.kat_yes (ih k (fun _ => hf hl) hl' ?_)
        have : ltI (n :: ns) (n :: ms) = ltI ns ms := by conv => lhs; unfold ltI; rw [if_pos rfl]
        rwa [this] at q
      · have e : ¬ n = m := by simpa using e
        have : ltI (n :: ns) (m :: ms) = decide (n < m) := by unfold ltI; rw [if_neg e]
        rw [this] at q
        refine W.kat_no ?_
        by_cases hi : i = 0
        · subst hi
          exact oneLt_int q
        · have : (true && i == 0) = false := by simp [hi]
          rw [this]
          exact W.kat_one _ _ (lt_int q)
theorem tups_cmp {prog : Program} {w : World} {A : Around} {s : Shared} {vs : List Value} {k : Value → List Int} {d : Nat} (hk : ∀ v ∈ vs, TS.TupInts s.heap v (k v) ∧ (k v).length = d) : SrtO.Cmp prog w A s (tuples' true) (fun p => p.1 ∈ vs) (SrtO.lt2 fun v u => ltI (k v) (k u)) := by
  intro p q hp hq
  obtain ⟨⟨a, xs, ea, ⟨o, ho, hc, n, hd⟩, ia⟩, la⟩ := hk p.1 hp
  obtain ⟨⟨b, ys, eb, ⟨o', ho', hc', n', hd'⟩, ib⟩, lb⟩ := hk q.1 hq
  have l1 : xs.size = d := by
    have : ∀ {xs ns}, IntsAre xs ns → xs.length = ns.length := fun h => by induction h <;> simp_all
    rw [← la, ← this ia, Array.length_toList]
  have l2 : ys.size = d := by
    have : ∀ {xs ns}, IntsAre xs ns → xs.length = ns.length := fun h => by induction h <;> simp_all
    rw [← lb, ← this ib, Array.length_toList]
  rw [ea, eb]
  refine W.kat_lt ho hd ho' hd' (lex_all ia ib (fun _ => by rw [l1, l2]; simp) (by rw [la, lb]) ⟨rfl, ?_⟩)
  show ltI _ _ = ltI (k p.1) (k q.1)
  rw [ea, eb]
theorem firsts {h : Heap} {k : Value → List Int} : ∀ {vs : List Value}, (∀ v ∈ vs, TS.TupInts h v (k v) ∧ k v ≠ []) → ∃ fs : List Value, W.KatTups h vs fs ∧ fs.length = vs.length ∧ ∀ f ∈ fs, ∃ x t, f = Value.int x t
  | [], _ => ⟨[], by first | trivial | exact .nil | rfl, rfl, fun _ h => nomatch h⟩
  | v :: vs, hv => by
    obtain ⟨fs, h1, h2, h3⟩ := firsts fun u hu => hv u (List.mem_cons_of_mem _ hu)
    obtain ⟨⟨a, xs, ea, ⟨o, ho, hc, n, hd⟩, ia⟩, ne⟩ := hv v List.mem_cons_self
    generalize hns : k v = ns at ia ne
    generalize hl : xs.toList = l at ia
    cases ia with
    | nil => exact absurd rfl ne
    | @cons m t l' ns' ia =>
      subst ea
      refine ⟨.int m t :: fs, W.KatTups.cons ho hc hd ?_ h1, by rw [List.length_cons, List.length_cons, h2], fun f hf => ?_⟩
      · rw [← Array.getElem?_toList, hl]
        rfl
      · rcases List.mem_cons.mp hf with e | hf
        · exact ⟨m, t, e⟩
        · exact h3 f hf
theorem tupInts_keep {h h' : Heap} {v : Value} {ns : List Int} (t : TS.TupInts h v ns) (keep : ∀ b o, h.get? b = some o → o.cls = .type "tuple" → h'.get? b = some o) : TS.TupInts h' v ns := by
  obtain ⟨a, xs, ea, ⟨o, ho, hc, n, hd⟩, ia⟩ := t
  exact ⟨a, xs, ea, ⟨o, keep _ _ ho hc, hc, n, hd⟩, ia⟩
theorem rows_sortable {prog : Program} {w : World} {A : Around} {s : Shared} {a : Addr} {vs : List Value} {k : Value → List Int} {d : Nat} (h0 : 0 < vs.length) (hk : ∀ v ∈ vs, TS.TupInts s.heap v (k v) ∧ (k v).length = d) (hne : ∀ v ∈ vs, k v ≠ [])
    (ha : ∀ o, s.heap.get? a = some o → o.cls ≠ .type "tuple") : SrtO.SortableO prog w A s a vs fun v u => ltI (k v) (k u) := by
  intro h' keep
  have hk' : ∀ v ∈ vs, TS.TupInts h' v (k v) ∧ (k v).length = d := fun v hv => ⟨tupInts_keep (hk v hv).1 fun b o e hc => keep b o (fun z => ha o (z ▸ e) hc) e, (hk v hv).2⟩
  obtain ⟨fs, h1, h2, h3⟩ := firsts fun v hv => ⟨(hk' v hv).1, hne v hv⟩
  refine ⟨tuples' true, fun Q E hq => ?_, tups_cmp hk'⟩
  refine W.kat_kind (T := .type "int") h1 (by omega) (fun f hf => ?_) (by rfl) ?_
  · obtain ⟨x, t, rfl⟩ := h3 f hf
    exact W.Looks.now
  · have e : (Value.type "int" != Value.type "tuple") = true := by decide +kernel
    rw [e]
    exact hq
/-! ### a set of rows sorted -/
/-- what stands at an address -/
theorem rowsV {P : Program} {w : World} {h : Heap} {L : List (Addr × List Int)} (nd : (L.map (·.2)).Nodup) (tup : ∀ p ∈ L, L2.IsT P w h p.2 p.1) : ∃ k : Value → List Int, ∀ p ∈ L, k (.ref p.1) = p.2 := by
  refine ⟨fun v => match v with
    | .ref a => (match L.find? fun p => p.1 == a with
      | some p => p.2
      | none => [])
    | _ => [], fun p hp => ?_⟩
  show (match L.find? fun q => q.1 == p.1 with | some q => q.2 | none => []) = p.2
  cases hf : L.find? fun q => q.1 == p.1 with
  | none =>
    have := List.find?_eq_none.mp hf p hp
    simp at this
  | some q =>
    have hq := List.mem_of_find?_eq_some hf
    have he : q.1 = p.1 := by simpa using List.find?_some hf
    have a1 := tup q hq
    rw [he] at a1
    exact IsTupleKey.inj a1 (tup p hp)
theorem sorted_rows {P : Program} {w : World} {A : Around} {E : Value → Shared → Prop} {s : Shared} {a : Addr} {L : List (Addr × List Int)} {es : Array (Int × Value)} {ep : Nat} {t : SetTable} {Q : Value → Shared → Prop} {d : Nat}
    (R : SetTR P w s.heap a L es ep t) (hh : A.handled = none) (hd : ∀ p ∈ L, p.2.length = d)
    (hQ : ∀ (s' : Shared) (p : Nat) (out : Array Value) (c : Nat) (L' : List (Addr × List Int)), (∀ b o, s.heap.get? b = some o → s'.heap.get? b = some o) → s'.gens = s.gens → s'.os = s.os → s.heap.objs.size ≤ p →
      s'.heap.get? p = some (seqObj "list" out c) → out.toList = L'.map (fun q => Value.ref q.1) → L'.Perm L → L'.Pairwise (fun q r => ltI r.2 q.2 = false) → Q (.ref p) s') :
    wpAny (model P w) A (call (.builtin "sorted") [.ref a]) Q E s := by
  obtain ⟨o, ho, hex, hdat⟩ := R.ob
  have hsz := R.size
  have hfew := R.few
  obtain ⟨k, hk⟩ := rowsV R.nd R.tup
  refine Calls.call_function_entry kind_sorted plain_sorted entry_sorted (args_sorted1 (.ref a)) ?_
  refine wpAny_bind (wpAny_pure (wpAny_bind (collect_set hh ⟨o, ho, ⟨hex.1, hdat⟩⟩ R.fits (Nat.lt_of_lt_of_le (by omega) (by decide : 64 ≤ scanBound)) R.tab.ris R.led fun s1 vs k1 hz g1 o1 pm => ?_)))
  have hes : es.toList.map (·.2) = L.map fun q => Value.ref q.1 := by
    rw [R.rows]
    show ((L.map fun p => (thash P w p.2, Value.ref p.1)).map (·.2)) = _
    rw [List.map_map]
    rfl
  rw [hes] at pm
  have hvl : vs.length < 64 := by
    rw [pm.length_eq, List.length_map]
    exact hfew
  refine wpAny_bind (wpAny_newList ?_)
  have hoL := Heap.get?_push_size s1.heap (o := seqObj "list" vs.toArray 0) rfl
  have tk : ∀ q ∈ L, TS.TupInts (s1.heap.push (seqObj "list" vs.toArray 0)) (.ref q.1) q.2 := fun q hq =>
    tupInts_of (isT_keep (R.tup q hq) fun b u e => Heap.get?_push_of_some (seqObj "list" vs.toArray 0) (k1 b u e))
  have of_vs : ∀ v ∈ vs, ∃ q ∈ L, v = .ref q.1 := fun v hv => by
    obtain ⟨q, hq, e⟩ := List.mem_map.mp (pm.mem_iff.mp hv)
    exact ⟨q, hq, e.symm⟩
  have hkv : ∀ v ∈ vs, TS.TupInts (s1.heap.push (seqObj "list" vs.toArray 0)) v (k v) ∧ (k v).length = d := fun v hv => by
    obtain ⟨q, hq, rfl⟩ := of_vs v hv
    rw [hk q hq]
    exact ⟨tk q hq, hd q hq⟩
  refine wpAny_bind (wpAny_holding ?_)
  have ord : ∀ {l : List Value}, (∀ v ∈ l, ∃ q ∈ L, v = .ref q.1) → ∃ L1 : List (Addr × List Int), l = L1.map (fun q => Value.ref q.1) ∧ ∀ q ∈ L1, q ∈ L := by
    intro l
    induction l with
    | nil => exact fun _ => ⟨[], rfl, fun _ h => nomatch h⟩
    | cons v r ih =>
      intro hv
      obtain ⟨q, hq, e⟩ := hv v List.mem_cons_self
      obtain ⟨L1, e1, hs⟩ := ih fun u hu => hv u (List.mem_cons_of_mem _ hu)
      exact ⟨q :: L1, by rw [List.map_cons, e, e1], fun z hz => (List.mem_cons.mp hz).elim (fun e => e ▸ hq) (hs z)⟩
  have one : ∀ q ∈ L, ∀ r ∈ L, q.1 = r.1 → q = r := fun q hq r hr e => by
    have a1 := R.tup q hq
    rw [e] at a1
    exact Prod.ext e (IsTupleKey.inj a1 (R.tup r hr))
  have perm_of : ∀ {L1 : List (Addr × List Int)}, (∀ q ∈ L1, q ∈ L) → (L1.map fun q => Value.ref q.1).Perm (L.map fun q => Value.ref q.1) → L1.Perm L := by
    intro L1 hs p1
    have nL := nodup_of_map R.nd
    have nref : (L.map fun q => Value.ref q.1).Nodup := List.pairwise_map.mpr (List.Pairwise.imp_of_mem (fun {q r} hq hr hne e => hne (one q hq r hr (Value.ref.inj e))) nL)
    have n1 : L1.Nodup := nodup_of_map ((List.Perm.nodup_iff p1).mpr nref)
    refine (List.perm_ext_iff_of_nodup n1 nL).mpr fun q => ⟨hs q, fun hq => ?_⟩
    obtain ⟨r, hr, e⟩ := List.mem_map.mp (p1.mem_iff.mpr (List.mem_map.mpr ⟨q, hq, rfl⟩))
    rw [← one r (hs r hr) q hq (Value.ref.inj e)]
    exact hr
  have cmp2 : ∀ {L1 : List (Addr × List Int)} {out : List Value}, out = L1.map (fun q => Value.ref q.1) → (∀ q ∈ L1, q ∈ L) → SrtO.Srtd (fun v u => ltI (k v) (k u)) out → L1.Pairwise fun q r => ltI r.2 q.2 = false := by
    intro L1 out e hs h
    rw [e] at h
    refine List.Pairwise.imp_of_mem (fun {q r} hq hr z => ?_) (List.pairwise_map.mp h)
    have z : ltI (k (.ref r.1)) (k (.ref q.1)) = false := z
    rwa [hk q (hs q hq), hk r (hs r hr)] at z
  refine wpAny_call_entry slot_list_sort ⟨_, hoL, rfl⟩ entry_list_sort ?_ (args_list_sort _)
  refine SrtO.list_sort_ord (ltI_swo k) hoL (Nat.le_trans (Nat.le_of_lt hvl) (by decide)) (fun h2 => rows_sortable (by omega) hkv (fun v hv e => ?_) fun o e => ?_) fun out hs st => ?_
  · -- unlike rows of no values can't be two
    have d0 : d = 0 := by rw [← (hkv v hv).2, e]; rfl
    obtain ⟨L1, e1, h1⟩ := ord of_vs
    have pL := perm_of h1 (e1 ▸ pm)
    have nd1 : (L1.map (·.2)).Nodup := (List.Perm.nodup_iff (pL.map _)).mpr R.nd
    rw [e1, List.length_map] at h2
    match L1, h2, nd1, h1 with
    | q :: r :: _, _, nd1, h1 =>
      rw [List.map_cons, List.map_cons, List.nodup_cons] at nd1
      have eq : q.2 = [] := List.length_eq_zero_iff.mp (by rw [hd q (h1 q List.mem_cons_self), d0])
      have er : r.2 = [] := List.length_eq_zero_iff.mp (by rw [hd r (h1 r (List.mem_cons_of_mem _ List.mem_cons_self)), d0])
      exact absurd (by rw [eq, er]; exact List.mem_cons_self) nd1.1
  · rw [hoL] at e
    cases e
    show Value.type "list" ≠ Value.type "tuple"
    decide +kernel
  · obtain ⟨L', e', hs'⟩ := ord (l := out) fun v hv => of_vs v (st.perm.mem_iff.mp hv)
    obtain ⟨c, hc⟩ := sortedHeap_at (out := out.toArray) hoL
    refine ⟨_, rfl, wpAny_pure ⟨_, rfl, ?_⟩⟩
    refine hQ _ s1.heap.objs.size out.toArray c L' (fun b u e => ?_) g1 o1 hz hc e' (perm_of hs' (e' ▸ st.perm.trans pm)) (cmp2 e' hs' hs)
    have hb := k1 b u e
    have hlt := Heap.lt_size hb
    show (sortedHeap (s1.heap.push (seqObj "list" vs.toArray 0)) s1.heap.objs.size vs out.toArray).get? b = some u
    rw [sortedHeap_old (Nat.ne_of_lt hlt) (by rw [Heap.size_push]; exact Nat.lt_succ_of_lt hlt)]
    exact Heap.get?_push_of_some _ hb
/-- sorted(rows), a set of rows -/
def rSortedS (K : W.Frag) (P : Program) (w : World) : List V → Hp → VK → Prop := fun vs H Q => ∃ a L d, vs = [.ref a] ∧ H a = some (SetTO P w a L) ∧ (∀ p ∈ L, SqT K H p.1 (p.2.map V.int)) ∧ (∀ p ∈ L, p.2.length = d) ∧
  ∀ (L' : List (Addr × List Int)) (p : Addr), L'.Perm L → (L'.map (·.2)).Nodup → L'.length < 64 → L'.Pairwise (fun q r => ltI r.2 q.2 = false) → H p = none → Q (.ref p) (upd H p (.lst (L'.map fun q => V.ref q.1)))
theorem cr_sortedS {X : Cx} (hc : X.calm = true) : CallR X (.builtin "sorted") (rSortedS X.K X.prog X.w) := by
  intro pins s σ H vs us Q I r h
  obtain ⟨a, L, d, rfl, ha, hk, hd, q⟩ := h
  have R0 : SetT0 X.prog X.w s.heap a L := (I.hok a _ ha).1
  obtain ⟨es, ep, t, R⟩ := R0.full fun p hp => I.isT (hk p hp)
  rw [Vals.ref1 r]
  refine sorted_rows R (I.ok.hd hc) hd fun s' p out c L' k g o hp hg hout pm pw => ?_
  have hfew : L'.length < 64 := by rw [pm.length_eq]; exact R.few
  have hn : H p = none := HOk.fresh I.hok hp
  have hv : Vals (L'.map fun q => V.ref q.1) out.toList := by rw [hout]; exact vals_of_refs L'
  have hlen : (L'.map fun q => V.ref q.1).length ≤ sizeLine := by rw [List.length_map]; exact TX.line100 (by omega)
  have J : Inv X pins σ (upd H p (.lst (L'.map fun q => V.ref q.1))) { heap := s'.heap, gens := s'.gens, drawn := s'.drawn, toks := s'.toks, os := s.os } := by
    refine Inv.call (ch := []) I (Un.laid k hp hn) (HOk.laid I.hok k hp ⟨hlen, _, c, hv, hg⟩) ?_ ?_
    · rw [g]
      exact I.bare
    · exact fun x z => nomatch z
  have e : s' = { heap := s'.heap, gens := s'.gens, drawn := s'.drawn, toks := s'.toks, os := s.os } := by
    cases s'
    cases s
    cases o
    rfl
  rw [e]
  exact ⟨.ref p, _, J, rfl, q L' p pm ((List.Perm.nodup_iff (pm.map _)).mpr R.nd) hfew pw hn⟩
/-! ### a row put into a set -/
theorem add_row {P : Program} {w : World} {A : Around} {E : Value → Shared → Prop} {s : Shared} {a : Addr} {L : List (Addr × List Int)} {es : Array (Int × Value)} {ep : Nat} {t : SetTable} {x : Addr} {k : List Int} {Q : Value → Shared → Prop}
    (R : SetTR P w s.heap a L es ep t) (hx : L2.IsT P w s.heap k x) (hu : A.units + 1 < cLine) (hl : L.length + 1 < 64)
    (hQ : ∀ (h' : Heap) (tk : Nat) (L' : List (Addr × List Int)) (es' : Array (Int × Value)) (ep' : Nat) (t' : SetTable), Heap.SameBut a s.heap h' → SetTR P w h' a L' es' ep' t' →
      (k ∈ L.map (·.2) → L' = L) → (k ∉ L.map (·.2) → L'.Perm ((x, k) :: L)) → Q .none { heap := h', gens := s.gens, drawn := s.drawn, toks := tk, os := s.os }) :
    wpAny (model P w) A (call (.builtin "set.add") [.ref a, .ref x]) Q E s := by
  obtain ⟨o, ho, hex, hd⟩ := id R.ob
  refine wpAny_call_entry F.slot_set_add ⟨o, ho, hex.1⟩ F.entry_set_add ?_ (F.args_set_add_2 _ _)
  show wpAny _ _ ((do let y ← setAdd a (.ref x); ret .none : Sem Fin)) _ _ _
  refine wpAny_bind (wpAny_holding (wpAny_bind (wpAny_pyHash_tuple hu hx ?_)))
  refine add_at (s := { heap := s.heap, gens := s.gens, drawn := s.drawn, toks := s.toks + (k.length + 1), os := s.os }) R hx hu hl fun b h' L' es' ep' t' sb R' h1 h2 => ?_
  exact wpAny_pure ⟨_, rfl, hQ h' _ L' es' ep' t' sb R' h1 h2⟩
theorem addT_ok {X : Cx} {pins : List (Addr × Obj)} {σ : L2.St} {H : Hp} {s : Shared} {E : Value → Shared → Prop} {D x : Addr} {L : List (Addr × List Int)} {k : List Int} {Q : Value → Shared → Prop} (hu : X.A.units + 1 < cLine) (I : Inv X pins σ H s)
    (hD : H D = some (SetTO X.prog X.w D L)) (hk : ∀ p ∈ L, SqT X.K H p.1 (p.2.map V.int)) (hx : SqT X.K H x (k.map V.int)) (room : L.length + 1 < 64)
    (h : ∀ (s' : Shared) (L' : List (Addr × List Int)), (k ∈ L.map (·.2) → L' = L) → (k ∉ L.map (·.2) → L'.Perm ((x, k) :: L)) → Inv X pins σ (upd H D (SetTO X.prog X.w D L')) s' → Q .none s') :
    wpAny (model X.prog X.w) X.A (call (.builtin "set.add") [.ref D, .ref x]) Q E s := by
  have R0 : SetT0 X.prog X.w s.heap D L := (I.hok D _ hD).1
  obtain ⟨es, ep, t, R⟩ := R0.full fun p hp => I.isT (hk p hp)
  refine add_row R (I.isT hx) hu room fun h' tk L' es' ep' t' sb R' h1 h2 => ?_
  refine h _ L' h1 h2 (Inv.write (e := D) I ?_ (.inl rfl) (fun b u hb hu => (sb.2 b hb).trans hu) ?_ (setTO_new R'.t0))
  · rw [hD]
    trivial
  · obtain ⟨o, ho, _⟩ := R'.ob
    exact ⟨o, ho⟩
/-! ### {row for .. in ..} -/
def tScT (K : W.Frag) (P : Program) (w : World) (wi : TI) (g : TG) (tt : TT) (te : TE) (vs : List Nat) : TE := fun σ H Q => wi σ H fun J H1 => ∀ D, H1 D = none → ∃ Wt : Nat → Nat → Hp → Prop, (∃ m, Wt 0 m (upd H1 D (SetTO P w D []))) ∧
  ∀ i m H, Wt i m H → (J.stop i H ∧ Q (.ref D) H) ∨ (J.go i H ∧ ∃ Nx : Hp → Prop, (∀ H', Nx H' → ∃ m', m' < m ∧ Wt (i + 1) m' H') ∧ ∀ x H', J.yld i H x H' → g x (wipe σ vs) H' fun σ2 H2 => wipe σ2 vs = wipe σ vs ∧
    tt σ2 H2 fun b H3 => if b = true then te σ2 H3 fun y H4 => ∃ (t : Addr) (k : List Int) (L : List (Addr × List Int)), y = .ref t ∧ SqT K H4 t (k.map V.int) ∧ H4 D = some (SetTO P w D L) ∧ (∀ p ∈ L, SqT K H4 p.1 (p.2.map V.int)) ∧ L.length + 1 < 64 ∧
      ∀ L' : List (Addr × List Int), (k ∈ L.map (·.2) → L' = L) → (k ∉ L.map (·.2) → L'.Perm ((t, k) :: L)) → Nx (upd H4 D (SetTO P w D L')) else Nx H3)
theorem sc_rows {X : Cx} {pins : List (Addr × Obj)} {s : Shared} {σ : L2.St} {H : Hp} {Q : VK} {elt tg iter : Expr} {ifs : List Expr} {scope : Scope} {own : List (Str × Nat)} {pos pos' : Pos} {wi : TI} {g : TG} {tt : TT} {te : TE} {use : Option (Value → Sem Unit)} {Qf : Value → Shared → Prop}
    (hu : X.A.units + 1 < cLine) (hc : X.calm = true) (hN : X.N.Nodup) (I : L2.Inv X pins σ H s) (hi : PI X tg iter wi) (ok : BlkOk X.N X.env.scope scope own)
    (hg : ∀ (s : Shared) (H : Hp) (C : Addr) (cl : List (Str × Addr)) (fp : List Addr), PG (X.blk s H scope (compEnvC scope cl C X.env) fp) tg g)
    (ht : ∀ (s : Shared) (H : Hp) (C : Addr) (cl : List (Str × Addr)) (fp : List Addr), PTs (X.blk s H scope (compEnvC scope cl C X.env) fp) ifs tt)
    (he : ∀ (s : Shared) (H : Hp) (C : Addr) (cl : List (Str × Addr)) (fp : List Addr), PE (X.blk s H scope (compEnvC scope cl C X.env) fp) elt te)
    (hs : ∀ x : Value, foldedSetIterable iter X.env x = pure x) (h : tScT X.K X.prog X.w wi g tt te (own.map (·.2)) σ H Q)
    (hRR : ∀ (D C : Addr) (s' : Shared) (m : Str → Option Value) (H' : Hp), L2.Inv X pins σ H' s' → Q (.ref D) H' → s'.heap.Ns C m → FpOk X pins H' C → compPost (model X.prog X.w) X.A X.xe use Qf (.ref D) C (.ok .next) s') :
    wpAny (model X.prog X.w) X.A (comprehension (elt.SetComp [⟨tg, iter, ifs, 0⟩] scope pos) scope X.env pos' (newSet (.type "set")) false (eval iter X.env) use) Qf X.xe s := by
  have hfree : ∀ y ∈ scope.names, y.2 = .free → ∃ c, List.lookup y.1 X.env.cells = some c := fun y hy e => (ok.free y hy e).elim (fun k => I.ok.has _ (.inl k)) fun k => I.ok.has _ (.inr k)
  refine wpAny_comprehension_free rfl hs (closure_ok hfree) ok.kind (fun y hy e => by rw [ok.uniq y hy, e]) ?_
  refine thn (hi.run pins s σ H _ I h) fun xv s1 hx => thn hx fun itv s2 h2 => ?_
  obtain ⟨it, fp, tn, J, H2, rfl, I2, T, st2, f2, q⟩ := h2
  refine PpSet.newSet_ok (newEnv_comp ?_)
  have hDn : H2 s2.heap.objs.size = none := HOk.fresh I2.hok (Nat.le_refl _)
  obtain ⟨Wt, ⟨m0, w0⟩, turn⟩ := q _ hDn
  have I3 : L2.Inv X pins σ (upd H2 s2.heap.objs.size (SetTO X.prog X.w s2.heap.objs.size [])) { heap := s2.heap.push { cls := .type "set", data := .set #[] 0 (SetTable.fresh 0 0 !X.w.params.followText "set-order") }, gens := s2.gens, drawn := s2.drawn, toks := s2.toks, os := s2.os } :=
    Inv.laid I2 (fun b o e => Heap.get?_push_of_some _ e) (Nat.le_refl _) (setTO_new (setTR_fresh (Heap.get?_push_size _ rfl)).t0)
  have sz : ∀ b ∈ fp, b < s2.heap.objs.size := fun b hb => by
    obtain ⟨o, e, _⟩ := T.obj 0 s2.heap st2 b hb
    exact Heap.lt_size e
  have k3 : ∀ (b : Addr) (o : Obj), s2.heap.get? b = some o → (s2.heap.push { cls := .type "set", data := .set #[] 0 (SetTable.fresh 0 0 !X.w.params.followText "set-order") }).get? b = some o := fun b o e => Heap.get?_push_of_some _ e
  have z3 : (s2.heap.push { cls := .type "set", data := .set #[] 0 (SetTable.fresh 0 0 !X.w.params.followText "set-order") }).objs.size = s2.heap.objs.size + 1 := Heap.size_push _ _
  generalize hs3 : ({ heap := s2.heap.push { cls := .type "set", data := .set #[] 0 (SetTable.fresh 0 0 !X.w.params.followText "set-order") }, gens := s2.gens, drawn := s2.drawn, toks := s2.toks, os := s2.os } : Shared) = s3 at I3 ⊢
  have k3' : ∀ (b : Addr) (o : Obj), s2.heap.get? b = some o → s3.heap.get? b = some o := by rw [← hs3]; exact k3
  have z3' : s3.heap.objs.size = s2.heap.objs.size + 1 := by rw [← hs3]; exact z3
  have f3 : ∀ b ∈ fp, FpOk X pins (upd H2 s2.heap.objs.size (SetTO X.prog X.w s2.heap.objs.size [])) b ∧ b < s3.heap.objs.size := fun b hb =>
    ⟨⟨by rw [upd_ne (Nat.ne_of_lt (sz b hb))]; exact (f2 b hb).1, (f2 b hb).2⟩, by rw [z3']; exact Nat.lt_succ_of_lt (sz b hb)⟩
  have st3 : tn 0 s3.heap := T.keep 0 _ _ st2 fun b _ o e => k3' b o e
  have I4 := block_start I3 ok hN f3
  have pg := hg s3 (upd H2 s2.heap.objs.size (SetTO X.prog X.w s2.heap.objs.size [])) s3.heap.objs.size (cellsFrom (s3.heap.objs.size + 1) scope.names (cloFrom X.env.cells scope.names [])) fp
  have pt := ht s3 (upd H2 s2.heap.objs.size (SetTO X.prog X.w s2.heap.objs.size [])) s3.heap.objs.size (cellsFrom (s3.heap.objs.size + 1) scope.names (cloFrom X.env.cells scope.names [])) fp
  have pe := he s3 (upd H2 s2.heap.objs.size (SetTO X.prog X.w s2.heap.objs.size [])) s3.heap.objs.size (cellsFrom (s3.heap.objs.size + 1) scope.names (cloFrom X.env.cells scope.names [])) fp
  show codeAny _ _ (Code.compStart _ 0 _ _ (compEnvC scope (cellsFrom (s3.heap.objs.size + 1) scope.names (cloFrom X.env.cells scope.names [])) s3.heap.objs.size X.env)) (compPost (model X.prog X.w) X.A X.xe use Qf (.ref s2.heap.objs.size) s3.heap.objs.size) _
  have cL : (compEnvC scope (cellsFrom (s3.heap.objs.size + 1) scope.names (cloFrom X.env.cells scope.names [])) s3.heap.objs.size X.env).locals = s3.heap.objs.size := rfl
  have hs4 : ∀ (b : Addr) (o : Obj), s3.heap.get? b = some o → (pushCells (s3.heap.push { cls := .type "dict", data := .dict #[] }) scope.names).get? b = some o := fun b o e => pushCells_keeps scope.names _ b o (Heap.get?_push_of_some _ e)
  generalize hce : compEnvC scope (cellsFrom (s3.heap.objs.size + 1) scope.names (cloFrom X.env.cells scope.names [])) s3.heap.objs.size X.env = ce at I4 pg pt pe cL ⊢
  have st4 : tn 0 (pushCells (s3.heap.push { cls := .type "dict", data := .dict #[] }) scope.names) := T.keep 0 _ _ st3 fun b _ o e => hs4 b o e
  have nfp : ∀ b ∈ fp, upd H2 s2.heap.objs.size (SetTO X.prog X.w s2.heap.objs.size []) b = none := fun b hb => (f3 b hb).1.1
  generalize upd H2 s2.heap.objs.size (SetTO X.prog X.w s2.heap.objs.size []) = H3 at w0 I3 f3 I4 pg pt pe nfp
  generalize hs4' : ({ heap := pushCells (s3.heap.push { cls := .type "dict", data := .dict #[] }) scope.names, gens := s3.gens, drawn := s3.drawn, toks := s3.toks, os := s3.os } : Shared) = s4 at I4 ⊢
  have st4' : tn 0 s4.heap := by rw [← hs4']; exact st4
  have stat : ∀ {σ' : L2.St} {H' : Hp} {s' : Shared}, L2.Inv (X.blk s3 H3 scope ce fp) [] σ' H' s' → (∀ b ∈ fp, H' b = none) → ∀ b ∈ fp, FpOk (X.blk s3 H3 scope ce fp) [] H' b := fun I' hn b hb =>
    ⟨hn b hb, (I'.ok.exf b hb).1, I'.ok.exfs b hb, .inl hb, (I'.ok.exf b hb).2, fun p hp => by simp [Cx.blk] at hp⟩
  have loop : codeAny (model X.prog X.w) X.A (Code.compLoop (elt.SetComp [⟨tg, iter, ifs, 0⟩] scope pos) 0 (.ref it) (.ref s2.heap.objs.size) ce) (compPost (model X.prog X.w) X.A X.xe use Qf (.ref s2.heap.objs.size) s3.heap.objs.size) s4 := by
    refine PpSet.compLoopS_any (fun n s' => ∃ i H', L2.Inv (X.blk s3 H3 scope ce fp) [] (wipe σ (own.map (·.2))) H' s' ∧ tn i s'.heap ∧ (∀ b ∈ fp, H' b = none) ∧ Wt i n H') ?_ m0 ⟨0, H3, I4, st4', nfp, w0⟩
    rintro n s5 ⟨i, H5, I5, st5, n5, w5⟩
    rcases turn i n H5 w5 with ⟨stop, qq⟩ | ⟨go, Nx, hNx, step⟩
    · refine thnF (T.done (X.blk s3 H3 scope ce fp) rfl rfl rfl hc i [] s5 _ H5 _ I5 (stat I5 n5) st5 stop) fun r s6 x => ?_
      obtain ⟨rfl, I6⟩ := x
      have I7 : L2.Inv X pins σ H5 s6 := Inv.call' (ch := fp) I3 I6.os I6.base I6.hok I6.bare fun b hb => ⟨(f3 b hb).1.2.2.2.1, (f3 b hb).1.2.1, (f3 b hb).1.2.2.2.2.1, (f3 b hb).1.2.2.2.2.2⟩
      have nC : H5 s3.heap.objs.size = none := by
        have z : H5 ce.locals = none := I6.free
        rwa [cL] at z
      obtain ⟨m, hn, _⟩ := I6.loc
      have hn : s6.heap.Ns ce.locals m := hn
      rw [cL] at hn
      exact hRR _ _ s6 m H5 I7 qq hn (I3.fpOk (Nat.le_refl _) nC)
    · refine thnF (T.item (X.blk s3 H3 scope ce fp) rfl rfl rfl hc i [] s5 _ H5 _ I5 (stat I5 n5) st5 go) fun r s6 x => ?_
      obtain ⟨u, rfl, h6⟩ := x
      refine thnF h6 fun _ s7 x => ?_
      obtain ⟨x, H7, I7, r7, y7, st7, n7⟩ := x
      have I7' := I7.pinned (stat I7 n7) (T.obj _ _ st7)
      refine thnF (pg.run _ s7 _ H7 x u _ I7' r7 (step x H7 y7)) fun _ s8 x => ?_
      obtain ⟨σ8, H8, I8, hw8, q8⟩ := x
      refine thnF (pt.run _ s8 σ8 H8 _ I8 q8) fun b s9 x => ?_
      obtain ⟨H9, I9, q9⟩ := x
      have fin : ∀ {s' : Shared} {H' : Hp}, L2.Inv (X.blk s3 H3 scope ce fp) ([] ++ pinsAt fp s7.heap) σ8 H' s' → Nx H' → ∃ m, m < n ∧ ∃ i H', L2.Inv (X.blk s3 H3 scope ce fp) [] (wipe σ (own.map (·.2))) H' s' ∧ tn i s'.heap ∧ (∀ b ∈ fp, H' b = none) ∧ Wt i m H' := by
        intro s' H' I' nx
        obtain ⟨m', hm, w'⟩ := hNx H' nx
        have pin' : ∀ b ∈ fp, ∀ o, s7.heap.get? b = some o → s'.heap.get? b = some o ∧ H' b = none := fun b hb o e => by
          have z := I'.pin (b, o) (List.mem_append_right _ (List.mem_append_right _ (mem_pinsAt hb e)))
          exact ⟨z.1, z.2.1⟩
        have hl : (wipe σ (own.map (·.2))).length = σ8.length := by
          rw [← hw8, wipe_length]
        refine ⟨m', hm, i + 1, H', I'.unpinned.weak hl (fun j v e => (wipe_some (hw8 ▸ e)).1), T.keep _ _ _ st7 (fun b hb o e => (pin' b hb o e).1), fun b hb => ?_, w'⟩
        obtain ⟨o, e, _⟩ := T.obj _ _ st7 b hb
        exact (pin' b hb o e).2
      cases b with
      | false =>
        rw [if_neg Bool.false_ne_true] at q9 ⊢
        exact fin I9 q9
      | true =>
        rw [if_pos rfl] at q9 ⊢
        refine thnF (pe.run _ s9 σ8 H9 _ I9 q9) fun z s10 x => ?_
        obtain ⟨y, H10, I10, ry, tt', k, L, rfl, hk, hD, hL, room, nx⟩ := x
        cases (show z = Value.ref tt' from ry)
        exact addT_ok (X := X.blk s3 H3 scope ce fp) hu I10 hD hL hk room fun s' L' h1 h2 I' => fin I' (nx L' h1 h2)
  exact PpSet.codeAny_compStart_set loop (T.self _ 0 _ _ _ st4' loop)
theorem pe_scT {X : Cx} {elt tg iter : Expr} {ifs : List Expr} {scope : Scope} {own : List (Str × Nat)} {pos : Pos} {wi : TI} {g : TG} {tt : TT} {te : TE} (hu : X.A.units + 1 < cLine) (hc : X.calm = true) (hN : X.N.Nodup) (hi : PI X tg iter wi) (ok : BlkOk X.N X.env.scope scope own)
    (hg : ∀ (s : Shared) (H : Hp) (C : Addr) (cl : List (Str × Addr)) (fp : List Addr), PG (X.blk s H scope (compEnvC scope cl C X.env) fp) tg g)
    (ht : ∀ (s : Shared) (H : Hp) (C : Addr) (cl : List (Str × Addr)) (fp : List Addr), PTs (X.blk s H scope (compEnvC scope cl C X.env) fp) ifs tt)
    (he : ∀ (s : Shared) (H : Hp) (C : Addr) (cl : List (Str × Addr)) (fp : List Addr), PE (X.blk s H scope (compEnvC scope cl C X.env) fp) elt te)
    (hs : ∀ x : Value, foldedSetIterable iter X.env x = pure x := by intros; rfl) : PE X (elt.SetComp [⟨tg, iter, ifs, 0⟩] scope pos) (tScT X.K X.prog X.w wi g tt te (own.map (·.2))) :=
  ⟨fun pins s σ H Q I h => by
    rw [PpSet.eval_SetComp]
    refine sc_rows hu hc hN I hi ok hg ht he hs h fun D C s' m H' I' q hn f => ?_
    obtain ⟨f0, f1, f2, f3, f4, f5⟩ := f
    exact ⟨m, hn, fun h'' sb => ⟨.ref D, H', Inv.turned I' (fun b o hb e => (sb.2 b hb).trans e) f0 f1 f3 f4 f5, rfl, q⟩⟩⟩
/-- a set of rows, the things walked one by one -/
theorem sc_walk {K : W.Frag} {P : Program} {w : World} {J : It} {n : Nat} {G : Hp → Prop} {Y : Nat → Hp → V → Hp → Prop} (wk : Walk J n G Y) {tgt : TG} {cond : TT} {te : TE} {own : List Nat} {slots : L2.St} {Hs : Hp} {D : Addr} {Qf : Hp → Prop}
    (Pw : Nat → Hp → Prop) (start : Pw 0 (upd Hs D (SetTO P w D []))) (good : ∀ i h, i ≤ n → Pw i h → G h)
    (turn : ∀ i v h h', i < n → Pw i h → Y i h v h' → tgt v (wipe slots own) h' fun s2 h2 => wipe s2 own = wipe slots own ∧ cond s2 h2 fun b h3 =>
      (if b = true then te s2 h3 fun y h4 => ∃ (t : Addr) (k : List Int) (L : List (Addr × List Int)), y = .ref t ∧ SqT K h4 t (k.map V.int) ∧ h4 D = some (SetTO P w D L) ∧ (∀ p ∈ L, SqT K h4 p.1 (p.2.map V.int)) ∧ L.length + 1 < 64 ∧
        ∀ L' : List (Addr × List Int), (k ∈ L.map (·.2) → L' = L) → (k ∉ L.map (·.2) → L'.Perm ((t, k) :: L)) → Pw (i + 1) (upd h4 D (SetTO P w D L')) else Pw (i + 1) h3))
    (fin : ∀ h, Pw n h → Qf h) :
    ∃ Wt : Nat → Nat → Hp → Prop, (∃ m, Wt 0 m (upd Hs D (SetTO P w D []))) ∧ ∀ i m h, Wt i m h → (J.stop i h ∧ Qf h) ∨ (J.go i h ∧ ∃ Nx : Hp → Prop, (∀ h', Nx h' → ∃ m', m' < m ∧ Wt (i + 1) m' h') ∧
      ∀ v h', J.yld i h v h' → tgt v (wipe slots own) h' fun s2 h2 => wipe s2 own = wipe slots own ∧ cond s2 h2 fun b h3 =>
        if b = true then te s2 h3 fun y h4 => ∃ (t : Addr) (k : List Int) (L : List (Addr × List Int)), y = .ref t ∧ SqT K h4 t (k.map V.int) ∧ h4 D = some (SetTO P w D L) ∧ (∀ p ∈ L, SqT K h4 p.1 (p.2.map V.int)) ∧ L.length + 1 < 64 ∧
          ∀ L' : List (Addr × List Int), (k ∈ L.map (·.2) → L' = L) → (k ∉ L.map (·.2) → L'.Perm ((t, k) :: L)) → Nx (upd h4 D (SetTO P w D L')) else Nx h3) := by
  refine ⟨fun i m h => i ≤ n ∧ m = n - i ∧ Pw i h, ⟨n, Nat.zero_le _, by simp, start⟩, ?_⟩
  rintro i m h ⟨hi, rfl, pw⟩
  have g := good i h hi pw
  rcases Nat.lt_or_ge i n with hlt | hge
  · exact .inr ⟨wk.goes i h hlt g, Pw (i + 1), fun h' p' => ⟨n - (i + 1), by omega, hlt, rfl, p'⟩, fun v h' y => turn i v h h' hlt pw (wk.yields i h v h' hlt g y)⟩
  · obtain rfl : i = n := by omega
    exact .inl ⟨wk.stops h g, fin h pw⟩
end TB

namespace T08
open PySem L2 PyProof.Rows TX
def top (i : Nat) : Stmt := PySem.Challenge.pw_foldbough_k08_refusals_apart.main.body.getD i (.Pass ⟨0, 0, 0, 0⟩)
abbrev s_i1 : Stmt := inClass (top 6) 0
abbrev s_i2 : Stmt := inClass (top 7) 0
abbrev s_i3 : Stmt := inClass (top 13) 0
abbrev s_i4 : Stmt := inClass (top 16) 0
abbrev s_i5 : Stmt := inClass (top 8) 0
abbrev s_i6 : Stmt := inClass (top 17) 0
abbrev s_i7 : Stmt := inClass (top 9) 0
abbrev s_i8 : Stmt := inClass (top 18) 0
abbrev s_i9 : Stmt := inClass (top 10) 0
abbrev s_i12 : Stmt := inClass (top 14) 0
abbrev s_i13 : Stmt := inClass (top 15) 0
abbrev s_i15 : Stmt := inClass (top 11) 0
abbrev s_i16 : Stmt := inClass (top 12) 0
abbrev s_well : Stmt := top 20
abbrev s_draw : Stmt := top 21
abbrev s_kinds : Stmt := top 22
abbrev s_byname : Stmt := top 23
abbrev s_byplace : Stmt := top 24
abbrev s_fields : Stmt := top 25
abbrev s_taken : Stmt := top 26
abbrev s_law : Stmt := top 27
end T08

set_option maxHeartbeats 1000000
local macro_rules | `(tactic| walk_at "z") => `(tactic| ((try dsimp only); first | assumption | omega | decide | (simp only [List.length_cons, List.length_nil]; first | decide | omega)))
namespace T08
open PySem L2 PyProof.Rows TX
section
variable {P : Program} {w : World} {K : PySem.W.Frag} {mg : Str → Option Value} {base : Heap}
theorem sc_well : FnScope ["_law_cell", "_law_k"] ["_law_cell", "_law_k"] (defScope s_well) := ⟨rfl, rfl, rfl, by decide +kernel, rfl, by decide +kernel, by decide +kernel⟩
def sp_well : Sp := fun vs H Q _ => ∃ (cell k : Int), vs = [.int cell, .int k] ∧ 0 ≤ k ∧ k ≤ 1000 ∧ ∀ H' p, Same H H' → H p = none → WellAt 100000 H' p → Q (.ref p) H'
theorem ok_well {f : Addr} {fd : FuncData} (F : Fn K mg "_law_well" s_well ["_law_cell", "_law_k"] f fd) (B : Bn mg) : FnOk P w K mg base CX0 1 f fd ["_law_cell", "_law_k"] sp_well := by
  refine F.F.ok sc_well (fun vs H Q E h => ?_) (fun cdv A outer s H vs Q E hr h => ?_)
  · obtain ⟨cell, k, rfl, _⟩ := h
    rfl
  · obtain ⟨cell, k, rfl, h0, h1, q⟩ := h
    refine ⟨_, pss_one (ps_ret (pe_lst (pa_cons (pe_op op_mul (pv 0) (pe_callTy call_int1 (by rfl) B.int boot_int (pa_cons (pe_cmpR op_ge (pv 0) (pe_op op_pow pe_int pe_int) (nomark _)) pa_nil)))
      (pa_cons (pe_op op_mod (pe_op op_add (pe_op op_mod (pv 0) pe_int) (pe_op op_mul pe_int (pv 1))) pe_int) (pa_cons pe_int pa_nil))))), ?_⟩
    refine ⟨_, rfl, _, rfl, _, _, rfl, rfl, ⟨by decide, by decide, by decide⟩, _, _, rfl, rfl, .inr ⟨_, rfl, _, _, rfl, rfl, .inr (by split <;> decide), ?_⟩⟩
    refine ⟨_, rfl, _, _, rfl, rfl, by walk_at "z", _, rfl, _, _, rfl, rfl, .inl (by decide), _, _, rfl, rfl, _, _, rfl, rfl, by walk_at "z", by walk_at "z", fun p hp => ?_⟩
    refine q _ p (Same.new hp) hp ⟨_, _, _, upd_same, ?_, ?_, by decide, by decide⟩
    · exact Int.emod_nonneg _ (by decide)
    · have := Int.emod_lt_of_pos (cell % 2147483647 + 104729 * k) (show (0 : Int) < 2147483647 by decide)
      omega
theorem sc_draw : FnScope ["_law_well_here", "_law_top", "_law_found", "_law_prime", "_law_twist"] ["_law_well_here", "_law_top"] (defScope s_draw) := ⟨rfl, rfl, rfl, by decide +kernel, rfl, by decide +kernel, by decide +kernel⟩
/-- a draw: one below top; the well may be drawn from once less -/
def sp_draw : Sp := fun vs H Q _ => ∃ (W : Addr) (t n : Nat), vs = [.ref W, .int t] ∧ 0 < t ∧ t < 1073741824 ∧ WellAt (n + 1) H W ∧ ∀ (H' : Hp) (r : Nat), r < t → Sm W H H' → WellAt n H' W → Q (.int r) H'
theorem ok_draw {f : Addr} {fd : FuncData} (F : Fn K mg "_law_draw" s_draw ["_law_well_here", "_law_top"] f fd) : FnOk P w K mg base CX0 1 f fd ["_law_well_here", "_law_top"] sp_draw := by
  refine F.F.ok sc_draw (fun vs H Q E h => ?_) (fun cdv A outer s H vs Q E hr h => ?_)
  · obtain ⟨W, t, n, rfl, _⟩ := h
    rfl
  · obtain ⟨W, t, n, rfl, h0, h1, ⟨a, b, c, hW, b0, b1, c0, c1⟩, q⟩ := h
    have hu := hu_of hr
    have t0 : (0 : Int) < (t : Int) := by omega
    have aI0 : ∀ x y z : V, atI [x, y, z] (0 : Int) = some x := fun _ _ _ => rfl
    have aI1 : ∀ x y z : V, atI [x, y, z] (1 : Int) = some y := fun _ _ _ => rfl
    have aI2 : ∀ x y z : V, atI [x, y, z] (2 : Int) = some z := fun _ _ _ => rfl
    refine ⟨_, pss_cons (ps_if (pt_cmpR op_gt (pe_ix ix_list (pv 0) pe_int (fun _ _ => rfl)) pe_int (nomark _))
        (pss_cons (ps_set (i := 2) sc_draw.nd rfl (Or.inl rfl) (pe_op op_mod (pe_ix ix_list (pv 0) pe_int (fun _ _ => rfl)) (pv 1)))
        (pss_cons (ps_asg (pe_op op_fdiv (pe_ix ix_list (pv 0) pe_int (fun _ _ => rfl)) (pv 1)) (pg_sub (pv 0) pe_int set_list))
        (pss_one (ps_ret (pv 2))))) pss_nil)
      (pss_cons (ps_asg (pe_op op_add (pe_ix ix_list (pv 0) pe_int (fun _ _ => rfl)) pe_int) (pg_sub (pv 0) pe_int set_list))
      (pss_cons (ps_set (i := 3) sc_draw.nd rfl (Or.inl rfl) (pe_ix ix_list (pe_lst (pa_cons pe_int (pa_cons pe_int (pa_cons pe_int (pa_cons pe_int (pa_cons pe_int pa_nil))))))
          (pe_op op_mod (pe_ix ix_list (pv 0) pe_int (fun _ _ => rfl)) pe_int) (fun _ _ => rfl)))
      (pss_cons (ps_set (i := 4) sc_draw.nd rfl (Or.inl rfl) (pe_op op_mod (pe_op op_pow (pe_op op_add (pe_op op_add (pe_ix ix_list (pv 0) pe_int (fun _ _ => rfl)) (pe_op op_mul pe_int (pe_ix ix_list (pv 0) pe_int (fun _ _ => rfl)))) pe_int) pe_int) (pv 3)))
      (pss_cons (ps_set (i := 4) sc_draw.nd rfl (Or.inl rfl) (pe_op op_mod (pe_op op_mul (pe_op op_add (pv 4) (pe_ix ix_list (pv 0) pe_int (fun _ _ => rfl))) (pe_op op_add (pe_op op_fdiv (pv 4) pe_int) pe_int)) (pv 3)))
      (pss_one (ps_ret (pe_op op_mod (pe_op op_fdiv (pv 4) pe_int) (pv 1)))))))), ?_⟩
    refine ⟨_, rfl, W, _, _, _, rfl, rfl, .of hW, aI0 _ _ _, _, _, rfl, rfl, _, rfl, ite2 (fun ha => ?_) (fun ha => ?_)⟩
    · refine ⟨_, rfl, W, _, _, _, rfl, rfl, .of hW, aI0 _ _ _, _, rfl, _, _, rfl, rfl, by walk_at "z", ?_⟩
      refine ⟨_, rfl, W, _, _, _, rfl, rfl, .of hW, aI0 _ _ _, _, rfl, _, _, rfl, rfl, by constructor <;> omega, ?_⟩
      refine ⟨_, rfl, W, _, _, 0, rfl, rfl, hW, rfl, _, rfl, ?_⟩
      have hm := Int.emod_nonneg a (show (t : Int) ≠ 0 by omega)
      have hl := Int.emod_lt_of_pos a t0
      have e : a % (t : Int) = ((a % (t : Int)).toNat : Int) := by omega
      show Q (.int (a % (t : Int))) _
      rw [e]
      exact q _ _ (by omega) (Sm.put .rfl') ⟨_, _, _, upd_same, b0, b1, c0, by omega⟩
    · refine ⟨_, rfl, W, _, _, _, rfl, rfl, .of hW, aI2 _ _ _, _, _, rfl, rfl, ?_⟩
      refine ⟨_, rfl, W, _, _, 2, rfl, rfl, hW, rfl, ?_⟩
      refine ⟨by decide, fun p np => ?_⟩
      have nW : W ≠ p := ne_of_none upd_same np
      have hW1 : ∀ o, upd (upd H W (.lst [.int a, .int b, .int (c + 1)])) p o W = some (.lst [.int a, .int b, .int (c + 1)]) := fun o => by rw [upd_ne nW, upd_same]
      refine ⟨_, rfl, W, _, _, _, rfl, rfl, .of (hW1 _), aI2 _ _ _, _, _, rfl, rfl, by walk_at "z", ?_⟩
      obtain ⟨pr, hpr, p0, p1⟩ : ∃ pr : Int, atI [V.int 2147483629, V.int 2147483587, V.int 2147483579, V.int 2147483563, V.int 2147483549] ((c + 1) % 5) = some (V.int pr) ∧ 1 ≤ pr ∧ pr < 2147483648 := by
        have h5 := Int.emod_nonneg (c + 1) (show (5 : Int) ≠ 0 by decide)
        have h6 := Int.emod_lt_of_pos (c + 1) (show (0 : Int) < 5 by decide)
        have : (c + 1) % 5 = 0 ∨ (c + 1) % 5 = 1 ∨ (c + 1) % 5 = 2 ∨ (c + 1) % 5 = 3 ∨ (c + 1) % 5 = 4 := by omega
        rcases this with e | e | e | e | e <;> rw [e]
        · exact ⟨2147483629, rfl, by decide, by decide⟩
        · exact ⟨2147483587, rfl, by decide, by decide⟩
        · exact ⟨2147483579, rfl, by decide, by decide⟩
        · exact ⟨2147483563, rfl, by decide, by decide⟩
        · exact ⟨2147483549, rfl, by decide, by decide⟩
      refine ⟨p, _, _, _, rfl, rfl, .of upd_same, hpr, ?_⟩
      refine ⟨_, rfl, W, _, _, _, rfl, rfl, .of (hW1 _), aI1 _ _ _, _, rfl, W, _, _, _, rfl, rfl, .of (hW1 _), aI2 _ _ _, _, _, rfl, rfl, .inl (by decide), ?_⟩
      refine ⟨_, _, rfl, rfl, _, _, rfl, rfl, _, _, rfl, rfl, ⟨by decide, by decide, by omega⟩, _, rfl, _, _, rfl, rfl, by walk_at "z", ?_⟩
      -- the twist, below the prime
      dsimp only
      generalize hx : (b + 6701 * (c + 1) + 3) ^ Int.toNat 5 % pr = x
      have x0 : 0 ≤ x := by rw [← hx]; exact Int.emod_nonneg _ (by omega)
      have x1 : x < pr := by rw [← hx]; exact Int.emod_lt_of_pos _ (by omega)
      refine ⟨_, rfl, _, rfl, W, _, _, _, rfl, rfl, .of (hW1 _), aI2 _ _ _, _, _, rfl, rfl, _, rfl, _, _, rfl, rfl, ⟨by decide, by decide⟩, _, _, rfl, rfl, _, _, rfl, rfl, .inr ?_, _, rfl, _, _, rfl, rfl, by walk_at "z", ?_⟩
      · have := Int.ediv_le_self 1013 x0
        have := Int.ediv_nonneg x0 (show (0 : Int) ≤ 1013 by decide)
        try dsimp only
        omega
      dsimp only
      generalize hy : (x + (c + 1)) * (x / 1013 + 40693) % pr = y
      have y0 : 0 ≤ y := by rw [← hy]; exact Int.emod_nonneg _ (by omega)
      refine ⟨_, rfl, _, _, rfl, rfl, ⟨by decide, by decide⟩, _, rfl, _, _, rfl, rfl, by walk_at "z", ?_⟩
      have hm := Int.emod_nonneg (y / 11) (show (t : Int) ≠ 0 by omega)
      have hl := Int.emod_lt_of_pos (y / 11) t0
      have e : y / 11 % (t : Int) = ((y / 11 % (t : Int)).toNat : Int) := by omega
      show Q (.int (y / 11 % (t : Int))) _
      rw [e]
      refine q _ _ (by omega) (Sm.new (Sm.put .rfl') np) ⟨_, _, _, hW1 _, b0, b1, by omega, by omega⟩
end
end T08

set_option maxHeartbeats 4000000
namespace T08
open PySem L2 PyProof.Rows TX TY TW TD TE TK TO
section
variable {P : Program} {w : World} {K : PySem.W.Frag} {mg : Str → Option Value} {base : Heap}
/-- a refusal of two fields -/
structure Nt2 (K : PySem.W.Frag) (mg : Str → Option Value) (x f1 f2 qual : Str) (st : Stmt) (Ct fi : Addr) (di : FuncData) : Prop where
  T : OexC K Ct
  i : PySem.W.findIn K (.ref Ct) "__init__" = some (some (.ref fi))
  t : PySem.W.typeIn K (.ref fi) = some (.type "function")
  F : Fun K "__init__" qual st fi di
  b : Binds K di ["self", f1, f2] []
  g : mg x = some (.ref Ct)
  no1 : PySem.W.findIn K (.ref Ct) f1 = some none
  no2 : PySem.W.findIn K (.ref Ct) f2 = some none
def sp_efld2 (C : Addr) (f1 f2 : Str) : Sp := fun vs H Q _ => ∃ (a : Addr) (v u : V), vs = [.ref a, v, u] ∧ H a = some (exo a C none) ∧ ∀ dx, H dx = none → dx ≠ a → ∀ H', H' = upd (upd (upd H dx (exd dx [(f1, v)])) a (exo a C (some dx))) dx (exd dx [(f2, u), (f1, v)]) → Q .non H'
/-- a refusal that is made and kept -/
theorem rd_keep {C a : Addr} {fld : Str} {H : Hp} {v : V} {R : Hp → Prop} (na : H a = none) (q : ∀ H' dx, Same H H' → H' a = some (exo a C (some dx)) → H' dx = some (exd dx [(fld, v)]) → R H') : sp_efld C fld [.ref a, v] (upd H a (exo a C none)) (fun u H2 => u = .non ∧ R H2) (fun _ _ _ => False) := by
  refine ⟨a, v, rfl, upd_same, fun dx nx hne => ⟨rfl, q _ dx (fun b o e => ?_) upd_same (by rw [upd_ne hne, upd_same])⟩⟩
  rw [upd_ne hne] at nx
  have hb1 : b ≠ dx := ne_of_none e nx
  have hb2 : b ≠ a := ne_of_none e na
  rw [upd_ne hb2, upd_ne hb1, upd_ne hb2]
  exact e
theorem rd_keep2 {C a : Addr} {f1 f2 : Str} {H : Hp} {v u : V} {R : Hp → Prop} (na : H a = none) (q : ∀ H' dx, Same H H' → H' a = some (exo a C (some dx)) → H' dx = some (exd dx [(f2, u), (f1, v)]) → R H') : sp_efld2 C f1 f2 [.ref a, v, u] (upd H a (exo a C none)) (fun z H2 => z = .non ∧ R H2) (fun _ _ _ => False) := by
  refine ⟨a, v, u, rfl, upd_same, fun dx nx hne H' e' => ⟨rfl, q _ dx (fun b o e => ?_) (by rw [e', upd_ne hne.symm, upd_same]) (by rw [e', upd_same])⟩⟩
  rw [upd_ne hne] at nx
  have hb1 : b ≠ dx := ne_of_none e nx
  have hb2 : b ≠ a := ne_of_none e na
  rw [e', upd_ne hb1, upd_ne hb2, upd_ne hb1, upd_ne hb2]
  exact e
theorem sc_i1 : FnScope ["self", "at"] ["self", "at"] (defScope s_i1) := ⟨rfl, rfl, rfl, by decide +kernel, rfl, by decide +kernel, by decide +kernel⟩
theorem ok_i1 {Ct fi : Addr} {di : FuncData} (N : Nt K mg "NoRow" "at" "NoRow.__init__" s_i1 Ct fi di) : FnOk P w K mg base CX0 1 fi di ["self", "at"] (sp_efld Ct "at") := by
  refine N.F.ok sc_i1 (fun vs H Q E h => ?_) (fun cdv A outer s H vs Q E hr h => ?_)
  · obtain ⟨a, v, rfl, _⟩ := h
    rfl
  · obtain ⟨a, v, rfl, ha, q⟩ := h
    refine ⟨_, pss_one (ps_ost (pv 0) (pv 1)), ?_⟩
    exact ⟨_, rfl, _, rfl, a, Ct, rfl, N.T, N.no, .inl ⟨ha, fun dx h1 h2 => q dx h1 h2⟩⟩
theorem sc_i2 : FnScope ["self", "at"] ["self", "at"] (defScope s_i2) := ⟨rfl, rfl, rfl, by decide +kernel, rfl, by decide +kernel, by decide +kernel⟩
theorem ok_i2 {Ct fi : Addr} {di : FuncData} (N : Nt K mg "NoTree" "at" "NoTree.__init__" s_i2 Ct fi di) : FnOk P w K mg base CX0 1 fi di ["self", "at"] (sp_efld Ct "at") := by
  refine N.F.ok sc_i2 (fun vs H Q E h => ?_) (fun cdv A outer s H vs Q E hr h => ?_)
  · obtain ⟨a, v, rfl, _⟩ := h
    rfl
  · obtain ⟨a, v, rfl, ha, q⟩ := h
    refine ⟨_, pss_one (ps_ost (pv 0) (pv 1)), ?_⟩
    exact ⟨_, rfl, _, rfl, a, Ct, rfl, N.T, N.no, .inl ⟨ha, fun dx h1 h2 => q dx h1 h2⟩⟩
theorem sc_i3 : FnScope ["self", "name"] ["self", "name"] (defScope s_i3) := ⟨rfl, rfl, rfl, by decide +kernel, rfl, by decide +kernel, by decide +kernel⟩
theorem ok_i3 {Ct fi : Addr} {di : FuncData} (N : Nt K mg "NoColumn" "name" "NoColumn.__init__" s_i3 Ct fi di) : FnOk P w K mg base CX0 1 fi di ["self", "name"] (sp_efld Ct "name") := by
  refine N.F.ok sc_i3 (fun vs H Q E h => ?_) (fun cdv A outer s H vs Q E hr h => ?_)
  · obtain ⟨a, v, rfl, _⟩ := h
    rfl
  · obtain ⟨a, v, rfl, ha, q⟩ := h
    refine ⟨_, pss_one (ps_ost (pv 0) (pv 1)), ?_⟩
    exact ⟨_, rfl, _, rfl, a, Ct, rfl, N.T, N.no, .inl ⟨ha, fun dx h1 h2 => q dx h1 h2⟩⟩
theorem sc_i4 : FnScope ["self", "one", "other"] ["self", "one", "other"] (defScope s_i4) := ⟨rfl, rfl, rfl, by decide +kernel, rfl, by decide +kernel, by decide +kernel⟩
theorem ok_i4 {Ct fi : Addr} {di : FuncData} (N : Nt2 K mg "NoFit" "one" "other" "NoFit.__init__" s_i4 Ct fi di) : FnOk P w K mg base CX0 1 fi di ["self", "one", "other"] (sp_efld2 Ct "one" "other") := by
  refine N.F.ok sc_i4 (fun vs H Q E h => ?_) (fun cdv A outer s H vs Q E hr h => ?_)
  · obtain ⟨a, v, u, rfl, _⟩ := h
    rfl
  · obtain ⟨a, v, u, rfl, ha, q⟩ := h
    refine ⟨_, pss_cons (ps_ost (pv 0) (pv 1)) (pss_one (ps_ost (pv 0) (pv 2))), ?_⟩
    refine ⟨_, rfl, _, rfl, a, Ct, rfl, N.T, N.no1, .inl ⟨ha, fun dx h1 h2 => ?_⟩⟩
    exact ⟨_, rfl, _, rfl, a, Ct, rfl, N.T, N.no2, .inr ⟨dx, _, upd_same, by rw [upd_ne h2]; exact upd_same, (by show 1 ≤ 900; decide), q dx h1 h2 _ rfl⟩⟩
theorem sc_i5 : FnScope ["self", "at"] ["self", "at"] (defScope s_i5) := ⟨rfl, rfl, rfl, by decide +kernel, rfl, by decide +kernel, by decide +kernel⟩
theorem ok_i5 {Ct fi : Addr} {di : FuncData} (N : Nt K mg "NoFold" "at" "NoFold.__init__" s_i5 Ct fi di) : FnOk P w K mg base CX0 1 fi di ["self", "at"] (sp_efld Ct "at") := by
  refine N.F.ok sc_i5 (fun vs H Q E h => ?_) (fun cdv A outer s H vs Q E hr h => ?_)
  · obtain ⟨a, v, rfl, _⟩ := h
    rfl
  · obtain ⟨a, v, rfl, ha, q⟩ := h
    refine ⟨_, pss_one (ps_ost (pv 0) (pv 1)), ?_⟩
    exact ⟨_, rfl, _, rfl, a, Ct, rfl, N.T, N.no, .inl ⟨ha, fun dx h1 h2 => q dx h1 h2⟩⟩
theorem sc_i6 : FnScope ["self", "number"] ["self", "number"] (defScope s_i6) := ⟨rfl, rfl, rfl, by decide +kernel, rfl, by decide +kernel, by decide +kernel⟩
theorem ok_i6 {Ct fi : Addr} {di : FuncData} (N : Nt K mg "NoBunch" "number" "NoBunch.__init__" s_i6 Ct fi di) : FnOk P w K mg base CX0 1 fi di ["self", "number"] (sp_efld Ct "number") := by
  refine N.F.ok sc_i6 (fun vs H Q E h => ?_) (fun cdv A outer s H vs Q E hr h => ?_)
  · obtain ⟨a, v, rfl, _⟩ := h
    rfl
  · obtain ⟨a, v, rfl, ha, q⟩ := h
    refine ⟨_, pss_one (ps_ost (pv 0) (pv 1)), ?_⟩
    exact ⟨_, rfl, _, rfl, a, Ct, rfl, N.T, N.no, .inl ⟨ha, fun dx h1 h2 => q dx h1 h2⟩⟩
theorem sc_i7 : FnScope ["self", "at"] ["self", "at"] (defScope s_i7) := ⟨rfl, rfl, rfl, by decide +kernel, rfl, by decide +kernel, by decide +kernel⟩
theorem ok_i7 {Ct fi : Addr} {di : FuncData} (N : Nt K mg "NoPaper" "at" "NoPaper.__init__" s_i7 Ct fi di) : FnOk P w K mg base CX0 1 fi di ["self", "at"] (sp_efld Ct "at") := by
  refine N.F.ok sc_i7 (fun vs H Q E h => ?_) (fun cdv A outer s H vs Q E hr h => ?_)
  · obtain ⟨a, v, rfl, _⟩ := h
    rfl
  · obtain ⟨a, v, rfl, ha, q⟩ := h
    refine ⟨_, pss_one (ps_ost (pv 0) (pv 1)), ?_⟩
    exact ⟨_, rfl, _, rfl, a, Ct, rfl, N.T, N.no, .inl ⟨ha, fun dx h1 h2 => q dx h1 h2⟩⟩
theorem sc_i8 : FnScope ["self", "many"] ["self", "many"] (defScope s_i8) := ⟨rfl, rfl, rfl, by decide +kernel, rfl, by decide +kernel, by decide +kernel⟩
theorem ok_i8 {Ct fi : Addr} {di : FuncData} (N : Nt K mg "TooMany" "many" "TooMany.__init__" s_i8 Ct fi di) : FnOk P w K mg base CX0 1 fi di ["self", "many"] (sp_efld Ct "many") := by
  refine N.F.ok sc_i8 (fun vs H Q E h => ?_) (fun cdv A outer s H vs Q E hr h => ?_)
  · obtain ⟨a, v, rfl, _⟩ := h
    rfl
  · obtain ⟨a, v, rfl, ha, q⟩ := h
    refine ⟨_, pss_one (ps_ost (pv 0) (pv 1)), ?_⟩
    exact ⟨_, rfl, _, rfl, a, Ct, rfl, N.T, N.no, .inl ⟨ha, fun dx h1 h2 => q dx h1 h2⟩⟩
theorem sc_i9 : FnScope ["self", "at"] ["self", "at"] (defScope s_i9) := ⟨rfl, rfl, rfl, by decide +kernel, rfl, by decide +kernel, by decide +kernel⟩
theorem ok_i9 {Ct fi : Addr} {di : FuncData} (N : Nt K mg "NoPlace" "at" "NoPlace.__init__" s_i9 Ct fi di) : FnOk P w K mg base CX0 1 fi di ["self", "at"] (sp_efld Ct "at") := by
  refine N.F.ok sc_i9 (fun vs H Q E h => ?_) (fun cdv A outer s H vs Q E hr h => ?_)
  · obtain ⟨a, v, rfl, _⟩ := h
    rfl
  · obtain ⟨a, v, rfl, ha, q⟩ := h
    refine ⟨_, pss_one (ps_ost (pv 0) (pv 1)), ?_⟩
    exact ⟨_, rfl, _, rfl, a, Ct, rfl, N.T, N.no, .inl ⟨ha, fun dx h1 h2 => q dx h1 h2⟩⟩
theorem sc_i12 : FnScope ["self", "name"] ["self", "name"] (defScope s_i12) := ⟨rfl, rfl, rfl, by decide +kernel, rfl, by decide +kernel, by decide +kernel⟩
theorem ok_i12 {Ct fi : Addr} {di : FuncData} (N : Nt K mg "NoName" "name" "NoName.__init__" s_i12 Ct fi di) : FnOk P w K mg base CX0 1 fi di ["self", "name"] (sp_efld Ct "name") := by
  refine N.F.ok sc_i12 (fun vs H Q E h => ?_) (fun cdv A outer s H vs Q E hr h => ?_)
  · obtain ⟨a, v, rfl, _⟩ := h
    rfl
  · obtain ⟨a, v, rfl, ha, q⟩ := h
    refine ⟨_, pss_one (ps_ost (pv 0) (pv 1)), ?_⟩
    exact ⟨_, rfl, _, rfl, a, Ct, rfl, N.T, N.no, .inl ⟨ha, fun dx h1 h2 => q dx h1 h2⟩⟩
theorem sc_i13 : FnScope ["self", "name"] ["self", "name"] (defScope s_i13) := ⟨rfl, rfl, rfl, by decide +kernel, rfl, by decide +kernel, by decide +kernel⟩
theorem ok_i13 {Ct fi : Addr} {di : FuncData} (N : Nt K mg "NoTurn" "name" "NoTurn.__init__" s_i13 Ct fi di) : FnOk P w K mg base CX0 1 fi di ["self", "name"] (sp_efld Ct "name") := by
  refine N.F.ok sc_i13 (fun vs H Q E h => ?_) (fun cdv A outer s H vs Q E hr h => ?_)
  · obtain ⟨a, v, rfl, _⟩ := h
    rfl
  · obtain ⟨a, v, rfl, ha, q⟩ := h
    refine ⟨_, pss_one (ps_ost (pv 0) (pv 1)), ?_⟩
    exact ⟨_, rfl, _, rfl, a, Ct, rfl, N.T, N.no, .inl ⟨ha, fun dx h1 h2 => q dx h1 h2⟩⟩
theorem sc_i15 : FnScope ["self", "at"] ["self", "at"] (defScope s_i15) := ⟨rfl, rfl, rfl, by decide +kernel, rfl, by decide +kernel, by decide +kernel⟩
theorem ok_i15 {Ct fi : Addr} {di : FuncData} (N : Nt K mg "NoText" "at" "NoText.__init__" s_i15 Ct fi di) : FnOk P w K mg base CX0 1 fi di ["self", "at"] (sp_efld Ct "at") := by
  refine N.F.ok sc_i15 (fun vs H Q E h => ?_) (fun cdv A outer s H vs Q E hr h => ?_)
  · obtain ⟨a, v, rfl, _⟩ := h
    rfl
  · obtain ⟨a, v, rfl, ha, q⟩ := h
    refine ⟨_, pss_one (ps_ost (pv 0) (pv 1)), ?_⟩
    exact ⟨_, rfl, _, rfl, a, Ct, rfl, N.T, N.no, .inl ⟨ha, fun dx h1 h2 => q dx h1 h2⟩⟩
theorem sc_i16 : FnScope ["self", "at"] ["self", "at"] (defScope s_i16) := ⟨rfl, rfl, rfl, by decide +kernel, rfl, by decide +kernel, by decide +kernel⟩
theorem ok_i16 {Ct fi : Addr} {di : FuncData} (N : Nt K mg "NoLine" "at" "NoLine.__init__" s_i16 Ct fi di) : FnOk P w K mg base CX0 1 fi di ["self", "at"] (sp_efld Ct "at") := by
  refine N.F.ok sc_i16 (fun vs H Q E h => ?_) (fun cdv A outer s H vs Q E hr h => ?_)
  · obtain ⟨a, v, rfl, _⟩ := h
    rfl
  · obtain ⟨a, v, rfl, ha, q⟩ := h
    refine ⟨_, pss_one (ps_ost (pv 0) (pv 1)), ?_⟩
    exact ⟨_, rfl, _, rfl, a, Ct, rfl, N.T, N.no, .inl ⟨ha, fun dx h1 h2 => q dx h1 h2⟩⟩
/-- all refusals -/
structure Kc (K : PySem.W.Frag) (mg : Str → Option Value) (CF : Addr) (C fi : Nat → Addr) (di : Nat → FuncData) : Prop where
  e0 : Ec K mg "NoColumns" (C 0)
  n1 : Nt K mg "NoRow" "at" "NoRow.__init__" s_i1 (C 1) (fi 1) (di 1)
  k1 : KBn K (di 1) ["self", "at"] 1 ["at"] (fun us ws => us ++ ws) (fun vs zs => vs ++ zs)
  n2 : Nt K mg "NoTree" "at" "NoTree.__init__" s_i2 (C 2) (fi 2) (di 2)
  k2 : KBn K (di 2) ["self", "at"] 1 ["at"] (fun us ws => us ++ ws) (fun vs zs => vs ++ zs)
  n3 : Nt K mg "NoColumn" "name" "NoColumn.__init__" s_i3 (C 3) (fi 3) (di 3)
  k3 : KBn K (di 3) ["self", "name"] 1 ["name"] (fun us ws => us ++ ws) (fun vs zs => vs ++ zs)
  n4 : Nt2 K mg "NoFit" "one" "other" "NoFit.__init__" s_i4 (C 4) (fi 4) (di 4)
  k4 : KBn K (di 4) ["self", "one", "other"] 1 ["other", "one"] (fun us ws => us ++ ws.reverse) (fun vs zs => vs ++ zs.reverse)
  n5 : Nt K mg "NoFold" "at" "NoFold.__init__" s_i5 (C 5) (fi 5) (di 5)
  k5 : KBn K (di 5) ["self", "at"] 1 ["at"] (fun us ws => us ++ ws) (fun vs zs => vs ++ zs)
  n6 : Nt K mg "NoBunch" "number" "NoBunch.__init__" s_i6 (C 6) (fi 6) (di 6)
  k6 : KBn K (di 6) ["self", "number"] 1 ["number"] (fun us ws => us ++ ws) (fun vs zs => vs ++ zs)
  n7 : Nt K mg "NoPaper" "at" "NoPaper.__init__" s_i7 (C 7) (fi 7) (di 7)
  k7 : KBn K (di 7) ["self", "at"] 1 ["at"] (fun us ws => us ++ ws) (fun vs zs => vs ++ zs)
  n8 : Nt K mg "TooMany" "many" "TooMany.__init__" s_i8 (C 8) (fi 8) (di 8)
  k8 : KBn K (di 8) ["self", "many"] 1 ["many"] (fun us ws => us ++ ws) (fun vs zs => vs ++ zs)
  n9 : Nt K mg "NoPlace" "at" "NoPlace.__init__" s_i9 (C 9) (fi 9) (di 9)
  k9 : KBn K (di 9) ["self", "at"] 1 ["at"] (fun us ws => us ++ ws) (fun vs zs => vs ++ zs)
  e10 : Ec K mg "NoStretch" (C 10)
  e11 : Ec K mg "NoCosts" (C 11)
  n12 : Nt K mg "NoName" "name" "NoName.__init__" s_i12 (C 12) (fi 12) (di 12)
  k12 : KBn K (di 12) ["self", "name"] 1 ["name"] (fun us ws => us ++ ws) (fun vs zs => vs ++ zs)
  n13 : Nt K mg "NoTurn" "name" "NoTurn.__init__" s_i13 (C 13) (fi 13) (di 13)
  k13 : KBn K (di 13) ["self", "name"] 1 ["name"] (fun us ws => us ++ ws) (fun vs zs => vs ++ zs)
  e14 : Ec K mg "NothingDone" (C 14)
  n15 : Nt K mg "NoText" "at" "NoText.__init__" s_i15 (C 15) (fi 15) (di 15)
  k15 : KBn K (di 15) ["self", "at"] 1 ["at"] (fun us ws => us ++ ws) (fun vs zs => vs ++ zs)
  n16 : Nt K mg "NoLine" "at" "NoLine.__init__" s_i16 (C 16) (fi 16) (di 16)
  k16 : KBn K (di 16) ["self", "at"] 1 ["at"] (fun us ws => us ++ ws) (fun vs zs => vs ++ zs)
  xc : ∀ j, j < 17 → ExcC K (C j)
  kit : ∀ j, j < 17 → ∀ i, i < 17 → PySem.W.kitOne K (.ref (C j)) (.ref (C i)) = some (decide (j = i))
  kF : ∀ j, j < 17 → PySem.W.kitOne K (.ref (C j)) (.ref CF) = some true
  kV : ∀ j, j < 17 → PySem.W.kitOne K (.ref (C j)) (.type "ValueError") = some true
  x0 : PySem.W.exmOne K (.ref (C 0)) (.ref CF) = some true
  x1 : PySem.W.exmOne K (.ref (C 1)) (.ref CF) = some true
  x3 : PySem.W.exmOne K (.ref (C 3)) (.ref CF) = some true
  gF : mg "FoldError" = some (.ref CF)
  gV : mg "ValueError" = none
/-- the fields of a refusal of x and y -/
def fsOf (x y : V) : Nat → Option (List (Str × V))
  | 1 => some [("at", x)]
  | 2 => some [("at", x)]
  | 3 => some [("name", x)]
  | 4 => some [("other", y), ("one", x)]
  | 5 => some [("at", x)]
  | 6 => some [("number", x)]
  | 7 => some [("at", x)]
  | 8 => some [("many", x)]
  | 9 => some [("at", x)]
  | 12 => some [("name", x)]
  | 13 => some [("name", x)]
  | 15 => some [("at", x)]
  | 16 => some [("at", x)]
  | _ => none
/-- a refusal that is kept, of the class j, with its fields -/
def ErrV (C : Nat → Addr) (x y : V) (H : Hp) (a : Addr) (j : Nat) : Prop := ∃ d, H a = some (exo a (C j) d) ∧ (∀ dx, d = some dx → ∃ fs, H dx = some (exd dx fs)) ∧ ∀ fs, fsOf x y j = some fs → ∃ dx, d = some dx ∧ H dx = some (exd dx fs)
theorem ErrV.same {C : Nat → Addr} {x y : V} {H H' : Hp} {a : Addr} {j : Nat} (h : ErrV C x y H a j) (s : Same H H') : ErrV C x y H' a j := by
  obtain ⟨d, h1, h2, h3⟩ := h
  refine ⟨d, s _ _ h1, fun dx e => ?_, fun fs e => ?_⟩
  · obtain ⟨fs, h⟩ := h2 dx e
    exact ⟨fs, s _ _ h⟩
  · obtain ⟨dx, e2, h⟩ := h3 fs e
    exact ⟨dx, e2, s _ _ h⟩
theorem errV_of {C : Nat → Addr} {x y : V} {H : Hp} {a dx : Addr} {j : Nat} {fs : List (Str × V)} (h1 : H a = some (exo a (C j) (some dx))) (h2 : H dx = some (exd dx fs)) (h : fsOf x y j = some fs) : ErrV C x y H a j :=
  ⟨some dx, h1, fun _ e => by cases e; exact ⟨fs, h2⟩, fun fs' e => by rw [h] at e; cases e; exact ⟨dx, rfl, h2⟩⟩
theorem errV_no {C : Nat → Addr} {x y : V} {H : Hp} {a : Addr} {j : Nat} (h1 : H a = some (exo a (C j) none)) (h : fsOf x y j = none) : ErrV C x y H a j :=
  ⟨none, h1, fun _ e => (nomatch e), fun fs' e => by rw [h] at e; cases e⟩
end
end T08

set_option maxHeartbeats 4000000
namespace T08
open PySem L2 PyProof.Rows TX TY TW TD TE TK TO
section
variable {P : Program} {w : World} {K : PySem.W.Frag} {mg : Str → Option Value} {base : Heap}
variable {CF : Addr} {C fi : Nat → Addr} {di : Nat → FuncData}
theorem rd_is {x y : V} {H : Hp} {a : Addr} {j i : Nat} {Q : VK} (k : Kc K mg CF C fi di) (e : ErrV C x y H a j) (hj : j < 17) (hi : i < 17) (q : Q (.bl (decide (j = i))) H) : rIsO K [.ref a, .ref (C i)] H Q := by
  obtain ⟨d, h1, h2, _⟩ := e
  exact ⟨a, C j, d, _, _, _, rfl, h1, h2, k.xc j hj, .own _, k.kit j hj i hi, q⟩
def marks (j : Nat) : List Bool := (List.range 17).map fun i => decide (j = i)
theorem sc_kinds : FnScope ["_law_e", "_law_found"] ["_law_e"] (defScope s_kinds) := ⟨rfl, rfl, rfl, by decide +kernel, rfl, by decide +kernel, by decide +kernel⟩
def sp_kinds (C : Nat → Addr) : Sp := fun vs H Q _ => ∃ (x y : V) (a : Addr) (j : Nat), vs = [.ref a] ∧ j < 17 ∧ ErrV C x y H a j ∧ ∀ H' p, Same H H' → H' p = some (.lst ((marks j).map V.bl)) → Q (.ref p) H'
theorem ok_kinds {f : Addr} {fd : FuncData} (F : Fn K mg "_law_kinds" s_kinds ["_law_e"] f fd) (B : Bn mg) (k : Kc K mg CF C fi di) : FnOk P w K mg base CX0 1 f fd ["_law_e"] (sp_kinds C) := by
  refine F.F.ok sc_kinds (fun vs H Q E h => ?_) (fun cdv A outer s H vs Q E hr h => ?_)
  · obtain ⟨x, y, a, j, rfl, _⟩ := h
    rfl
  · obtain ⟨x, y, a, j, rfl, hj, e, q⟩ := h
    have nd := sc_kinds.nd
    refine ⟨_, pss_cons (ps_set (i := 1) nd rfl (Or.inl rfl) (pe_lst (pa_cons (pe_callB call_isO (by rfl) B.isi boot_isinstance (pa_cons (pv 0) (pa_cons (pe_glob (v := .ref (C 0)) (by rfl) k.e0.g rfl) pa_nil))) (pa_cons (pe_callB call_isO (by rfl) B.isi boot_isinstance (pa_cons (pv 0) (pa_cons (pe_glob (v := .ref (C 1)) (by rfl) k.n1.g rfl) pa_nil))) (pa_cons (pe_callB call_isO (by rfl) B.isi boot_isinstance (pa_cons (pv 0) (pa_cons (pe_glob (v := .ref (C 2)) (by rfl) k.n2.g rfl) pa_nil))) (pa_cons (pe_callB call_isO (by rfl) B.isi boot_isinstance (pa_cons (pv 0) (pa_cons (pe_glob (v := .ref (C 3)) (by rfl) k.n3.g rfl) pa_nil))) pa_nil))))))
      (pss_cons (ps_set (i := 1) nd rfl (Or.inl rfl) (pe_op op_cat (pv 1) (pe_lst (pa_cons (pe_callB call_isO (by rfl) B.isi boot_isinstance (pa_cons (pv 0) (pa_cons (pe_glob (v := .ref (C 4)) (by rfl) k.n4.g rfl) pa_nil))) (pa_cons (pe_callB call_isO (by rfl) B.isi boot_isinstance (pa_cons (pv 0) (pa_cons (pe_glob (v := .ref (C 5)) (by rfl) k.n5.g rfl) pa_nil))) (pa_cons (pe_callB call_isO (by rfl) B.isi boot_isinstance (pa_cons (pv 0) (pa_cons (pe_glob (v := .ref (C 6)) (by rfl) k.n6.g rfl) pa_nil))) (pa_cons (pe_callB call_isO (by rfl) B.isi boot_isinstance (pa_cons (pv 0) (pa_cons (pe_glob (v := .ref (C 7)) (by rfl) k.n7.g rfl) pa_nil))) pa_nil)))))))
      (pss_cons (ps_set (i := 1) nd rfl (Or.inl rfl) (pe_op op_cat (pv 1) (pe_lst (pa_cons (pe_callB call_isO (by rfl) B.isi boot_isinstance (pa_cons (pv 0) (pa_cons (pe_glob (v := .ref (C 8)) (by rfl) k.n8.g rfl) pa_nil))) (pa_cons (pe_callB call_isO (by rfl) B.isi boot_isinstance (pa_cons (pv 0) (pa_cons (pe_glob (v := .ref (C 9)) (by rfl) k.n9.g rfl) pa_nil))) (pa_cons (pe_callB call_isO (by rfl) B.isi boot_isinstance (pa_cons (pv 0) (pa_cons (pe_glob (v := .ref (C 10)) (by rfl) k.e10.g rfl) pa_nil))) (pa_cons (pe_callB call_isO (by rfl) B.isi boot_isinstance (pa_cons (pv 0) (pa_cons (pe_glob (v := .ref (C 11)) (by rfl) k.e11.g rfl) pa_nil))) pa_nil)))))))
      (pss_cons (ps_set (i := 1) nd rfl (Or.inl rfl) (pe_op op_cat (pv 1) (pe_lst (pa_cons (pe_callB call_isO (by rfl) B.isi boot_isinstance (pa_cons (pv 0) (pa_cons (pe_glob (v := .ref (C 12)) (by rfl) k.n12.g rfl) pa_nil))) (pa_cons (pe_callB call_isO (by rfl) B.isi boot_isinstance (pa_cons (pv 0) (pa_cons (pe_glob (v := .ref (C 13)) (by rfl) k.n13.g rfl) pa_nil))) (pa_cons (pe_callB call_isO (by rfl) B.isi boot_isinstance (pa_cons (pv 0) (pa_cons (pe_glob (v := .ref (C 14)) (by rfl) k.e14.g rfl) pa_nil))) (pa_cons (pe_callB call_isO (by rfl) B.isi boot_isinstance (pa_cons (pv 0) (pa_cons (pe_glob (v := .ref (C 15)) (by rfl) k.n15.g rfl) pa_nil))) pa_nil)))))))
      (pss_one (ps_ret (pe_op op_cat (pv 1) (pe_lst (pa_cons (pe_callB call_isO (by rfl) B.isi boot_isinstance (pa_cons (pv 0) (pa_cons (pe_glob (v := .ref (C 16)) (by rfl) k.n16.g rfl) pa_nil))) pa_nil)))))))), ?_⟩
    obtain ⟨d, h1, h2, _⟩ := id e
    refine ⟨_, rfl, a, C j, d, _, _, _, rfl, h1, h2, k.xc j hj, .own _, k.kit j hj 0 (by decide), ?_⟩
    refine ⟨_, rfl, a, C j, d, _, _, _, rfl, h1, h2, k.xc j hj, .own _, k.kit j hj 1 (by decide), ?_⟩
    refine ⟨_, rfl, a, C j, d, _, _, _, rfl, h1, h2, k.xc j hj, .own _, k.kit j hj 2 (by decide), ?_⟩
    refine ⟨_, rfl, a, C j, d, _, _, _, rfl, h1, h2, k.xc j hj, .own _, k.kit j hj 3 (by decide), ?_⟩
    refine ⟨by show 4 ≤ sizeLine; decide, fun m0 nm0 => ?_⟩
    have e0 : upd H m0 (.lst [V.bl (decide (j = 0)), V.bl (decide (j = 1)), V.bl (decide (j = 2)), V.bl (decide (j = 3))]) m0 = some (.lst [V.bl (decide (j = 0)), V.bl (decide (j = 1)), V.bl (decide (j = 2)), V.bl (decide (j = 3))]) := upd_same
    have s0 : Same H (upd H m0 (.lst [V.bl (decide (j = 0)), V.bl (decide (j = 1)), V.bl (decide (j = 2)), V.bl (decide (j = 3))])) := Same.new nm0
    generalize upd H m0 (.lst [V.bl (decide (j = 0)), V.bl (decide (j = 1)), V.bl (decide (j = 2)), V.bl (decide (j = 3))]) = H0 at e0 s0 ⊢
    refine ⟨_, rfl, ?_⟩
    obtain ⟨d, h1, h2, _⟩ := id (e.same s0)
    refine ⟨_, rfl, a, C j, d, _, _, _, rfl, h1, h2, k.xc j hj, .own _, k.kit j hj 4 (by decide), ?_⟩
    refine ⟨_, rfl, a, C j, d, _, _, _, rfl, h1, h2, k.xc j hj, .own _, k.kit j hj 5 (by decide), ?_⟩
    refine ⟨_, rfl, a, C j, d, _, _, _, rfl, h1, h2, k.xc j hj, .own _, k.kit j hj 6 (by decide), ?_⟩
    refine ⟨_, rfl, a, C j, d, _, _, _, rfl, h1, h2, k.xc j hj, .own _, k.kit j hj 7 (by decide), ?_⟩
    refine ⟨by show 4 ≤ sizeLine; decide, fun n0 nn0 => ?_⟩
    refine ⟨m0, n0, _, _, rfl, rfl, (Same.new nn0) _ _ e0, upd_same, by show 4 + 4 ≤ sizeLine; decide, fun m1 nm1 => ?_⟩
    have e1 : upd (upd H0 n0 (.lst [V.bl (decide (j = 4)), V.bl (decide (j = 5)), V.bl (decide (j = 6)), V.bl (decide (j = 7))])) m1 (.lst ([V.bl (decide (j = 0)), V.bl (decide (j = 1)), V.bl (decide (j = 2)), V.bl (decide (j = 3))] ++ [V.bl (decide (j = 4)), V.bl (decide (j = 5)), V.bl (decide (j = 6)), V.bl (decide (j = 7))])) m1 = some (.lst [V.bl (decide (j = 0)), V.bl (decide (j = 1)), V.bl (decide (j = 2)), V.bl (decide (j = 3)), V.bl (decide (j = 4)), V.bl (decide (j = 5)), V.bl (decide (j = 6)), V.bl (decide (j = 7))]) := upd_same
    have s1 : Same H (upd (upd H0 n0 (.lst [V.bl (decide (j = 4)), V.bl (decide (j = 5)), V.bl (decide (j = 6)), V.bl (decide (j = 7))])) m1 (.lst ([V.bl (decide (j = 0)), V.bl (decide (j = 1)), V.bl (decide (j = 2)), V.bl (decide (j = 3))] ++ [V.bl (decide (j = 4)), V.bl (decide (j = 5)), V.bl (decide (j = 6)), V.bl (decide (j = 7))]))) := s0.trans ((Same.new nn0).trans (Same.new nm1))
    generalize upd (upd H0 n0 (.lst [V.bl (decide (j = 4)), V.bl (decide (j = 5)), V.bl (decide (j = 6)), V.bl (decide (j = 7))])) m1 (.lst ([V.bl (decide (j = 0)), V.bl (decide (j = 1)), V.bl (decide (j = 2)), V.bl (decide (j = 3))] ++ [V.bl (decide (j = 4)), V.bl (decide (j = 5)), V.bl (decide (j = 6)), V.bl (decide (j = 7))])) = H1 at e1 s1 ⊢
    refine ⟨_, rfl, ?_⟩
    obtain ⟨d, h1, h2, _⟩ := id (e.same s1)
    refine ⟨_, rfl, a, C j, d, _, _, _, rfl, h1, h2, k.xc j hj, .own _, k.kit j hj 8 (by decide), ?_⟩
    refine ⟨_, rfl, a, C j, d, _, _, _, rfl, h1, h2, k.xc j hj, .own _, k.kit j hj 9 (by decide), ?_⟩
    refine ⟨_, rfl, a, C j, d, _, _, _, rfl, h1, h2, k.xc j hj, .own _, k.kit j hj 10 (by decide), ?_⟩
    refine ⟨_, rfl, a, C j, d, _, _, _, rfl, h1, h2, k.xc j hj, .own _, k.kit j hj 11 (by decide), ?_⟩
    refine ⟨by show 4 ≤ sizeLine; decide, fun n1 nn1 => ?_⟩
    refine ⟨m1, n1, _, _, rfl, rfl, (Same.new nn1) _ _ e1, upd_same, by show 8 + 4 ≤ sizeLine; decide, fun m2 nm2 => ?_⟩
    have e2 : upd (upd H1 n1 (.lst [V.bl (decide (j = 8)), V.bl (decide (j = 9)), V.bl (decide (j = 10)), V.bl (decide (j = 11))])) m2 (.lst ([V.bl (decide (j = 0)), V.bl (decide (j = 1)), V.bl (decide (j = 2)), V.bl (decide (j = 3)), V.bl (decide (j = 4)), V.bl (decide (j = 5)), V.bl (decide (j = 6)), V.bl (decide (j = 7))] ++ [V.bl (decide (j = 8)), V.bl (decide (j = 9)), V.bl (decide (j = 10)), V.bl (decide (j = 11))])) m2 = some (.lst [V.bl (decide (j = 0)), V.bl (decide (j = 1)), V.bl (decide (j = 2)), V.bl (decide (j = 3)), V.bl (decide (j = 4)), V.bl (decide (j = 5)), V.bl (decide (j = 6)), V.bl (decide (j = 7)), V.bl (decide (j = 8)), V.bl (decide (j = 9)), V.bl (decide (j = 10)), V.bl (decide (j = 11))]) := upd_same
    have s2 : Same H (upd (upd H1 n1 (.lst [V.bl (decide (j = 8)), V.bl (decide (j = 9)), V.bl (decide (j = 10)), V.bl (decide (j = 11))])) m2 (.lst ([V.bl (decide (j = 0)), V.bl (decide (j = 1)), V.bl (decide (j = 2)), V.bl (decide (j = 3)), V.bl (decide (j = 4)), V.bl (decide (j = 5)), V.bl (decide (j = 6)), V.bl (decide (j = 7))] ++ [V.bl (decide (j = 8)), V.bl (decide (j = 9)), V.bl (decide (j = 10)), V.bl (decide (j = 11))]))) := s1.trans ((Same.new nn1).trans (Same.new nm2))
    generalize upd (upd H1 n1 (.lst [V.bl (decide (j = 8)), V.bl (decide (j = 9)), V.bl (decide (j = 10)), V.bl (decide (j = 11))])) m2 (.lst ([V.bl (decide (j = 0)), V.bl (decide (j = 1)), V.bl (decide (j = 2)), V.bl (decide (j = 3)), V.bl (decide (j = 4)), V.bl (decide (j = 5)), V.bl (decide (j = 6)), V.bl (decide (j = 7))] ++ [V.bl (decide (j = 8)), V.bl (decide (j = 9)), V.bl (decide (j = 10)), V.bl (decide (j = 11))])) = H2 at e2 s2 ⊢
    refine ⟨_, rfl, ?_⟩
    obtain ⟨d, h1, h2, _⟩ := id (e.same s2)
    refine ⟨_, rfl, a, C j, d, _, _, _, rfl, h1, h2, k.xc j hj, .own _, k.kit j hj 12 (by decide), ?_⟩
    refine ⟨_, rfl, a, C j, d, _, _, _, rfl, h1, h2, k.xc j hj, .own _, k.kit j hj 13 (by decide), ?_⟩
    refine ⟨_, rfl, a, C j, d, _, _, _, rfl, h1, h2, k.xc j hj, .own _, k.kit j hj 14 (by decide), ?_⟩
    refine ⟨_, rfl, a, C j, d, _, _, _, rfl, h1, h2, k.xc j hj, .own _, k.kit j hj 15 (by decide), ?_⟩
    refine ⟨by show 4 ≤ sizeLine; decide, fun n2 nn2 => ?_⟩
    refine ⟨m2, n2, _, _, rfl, rfl, (Same.new nn2) _ _ e2, upd_same, by show 12 + 4 ≤ sizeLine; decide, fun m3 nm3 => ?_⟩
    have e3 : upd (upd H2 n2 (.lst [V.bl (decide (j = 12)), V.bl (decide (j = 13)), V.bl (decide (j = 14)), V.bl (decide (j = 15))])) m3 (.lst ([V.bl (decide (j = 0)), V.bl (decide (j = 1)), V.bl (decide (j = 2)), V.bl (decide (j = 3)), V.bl (decide (j = 4)), V.bl (decide (j = 5)), V.bl (decide (j = 6)), V.bl (decide (j = 7)), V.bl (decide (j = 8)), V.bl (decide (j = 9)), V.bl (decide (j = 10)), V.bl (decide (j = 11))] ++ [V.bl (decide (j = 12)), V.bl (decide (j = 13)), V.bl (decide (j = 14)), V.bl (decide (j = 15))])) m3 = some (.lst [V.bl (decide (j = 0)), V.bl (decide (j = 1)), V.bl (decide (j = 2)), V.bl (decide (j = 3)), V.bl (decide (j = 4)), V.bl (decide (j = 5)), V.bl (decide (j = 6)), V.bl (decide (j = 7)), V.bl (decide (j = 8)), V.bl (decide (j = 9)), V.bl (decide (j = 10)), V.bl (decide (j = 11)), V.bl (decide (j = 12)), V.bl (decide (j = 13)), V.bl (decide (j = 14)), V.bl (decide (j = 15))]) := upd_same
    have s3 : Same H (upd (upd H2 n2 (.lst [V.bl (decide (j = 12)), V.bl (decide (j = 13)), V.bl (decide (j = 14)), V.bl (decide (j = 15))])) m3 (.lst ([V.bl (decide (j = 0)), V.bl (decide (j = 1)), V.bl (decide (j = 2)), V.bl (decide (j = 3)), V.bl (decide (j = 4)), V.bl (decide (j = 5)), V.bl (decide (j = 6)), V.bl (decide (j = 7)), V.bl (decide (j = 8)), V.bl (decide (j = 9)), V.bl (decide (j = 10)), V.bl (decide (j = 11))] ++ [V.bl (decide (j = 12)), V.bl (decide (j = 13)), V.bl (decide (j = 14)), V.bl (decide (j = 15))]))) := s2.trans ((Same.new nn2).trans (Same.new nm3))
    generalize upd (upd H2 n2 (.lst [V.bl (decide (j = 12)), V.bl (decide (j = 13)), V.bl (decide (j = 14)), V.bl (decide (j = 15))])) m3 (.lst ([V.bl (decide (j = 0)), V.bl (decide (j = 1)), V.bl (decide (j = 2)), V.bl (decide (j = 3)), V.bl (decide (j = 4)), V.bl (decide (j = 5)), V.bl (decide (j = 6)), V.bl (decide (j = 7)), V.bl (decide (j = 8)), V.bl (decide (j = 9)), V.bl (decide (j = 10)), V.bl (decide (j = 11))] ++ [V.bl (decide (j = 12)), V.bl (decide (j = 13)), V.bl (decide (j = 14)), V.bl (decide (j = 15))])) = H3 at e3 s3 ⊢
    refine ⟨_, rfl, ?_⟩
    obtain ⟨d, h1, h2, _⟩ := id (e.same s3)
    refine ⟨_, rfl, a, C j, d, _, _, _, rfl, h1, h2, k.xc j hj, .own _, k.kit j hj 16 (by decide), ?_⟩
    refine ⟨by show 1 ≤ sizeLine; decide, fun n3 nn3 => ?_⟩
    refine ⟨m3, n3, _, _, rfl, rfl, (Same.new nn3) _ _ e3, upd_same, by show 16 + 1 ≤ sizeLine; decide, fun m4 nm4 => ?_⟩
    exact q _ _ (s3.trans ((Same.new nn3).trans (Same.new nm4))) upd_same
theorem sc_byname : FnScope ["_law_x", "_law_y", "_law_some"] ["_law_x", "_law_y"] (defScope s_byname) := ⟨rfl, rfl, rfl, by decide +kernel, rfl, by decide +kernel, by decide +kernel⟩
def sp_made (C : Nat → Addr) : Sp := fun vs H Q _ => ∃ (x y : V), vs = [x, y] ∧ ∀ H' p (es : List Addr), Same H H' → H' p = some (.lst (es.map V.ref)) → es.length = 17 → (∀ j a, es[j]? = some a → ErrV C x y H' a j) → Q (.ref p) H'
theorem ok_byname {f : Addr} {fd : FuncData} (F : Fn K mg "_law_by_name" s_byname ["_law_x", "_law_y"] f fd) (k : Kc K mg CF C fi di) : FnOk P w K mg base CX0 3 f fd ["_law_x", "_law_y"] (sp_made C) := by
  have G1 : FnOk P w K mg base CX0 1 (fi 1) (di 1) ["self", "at"] (sp_efld (C 1) "at") := ok_i1 k.n1
  have G2 : FnOk P w K mg base CX0 1 (fi 2) (di 2) ["self", "at"] (sp_efld (C 2) "at") := ok_i2 k.n2
  have G3 : FnOk P w K mg base CX0 1 (fi 3) (di 3) ["self", "name"] (sp_efld (C 3) "name") := ok_i3 k.n3
  have G4 : FnOk P w K mg base CX0 1 (fi 4) (di 4) ["self", "one", "other"] (sp_efld2 (C 4) "one" "other") := ok_i4 k.n4
  have G5 : FnOk P w K mg base CX0 1 (fi 5) (di 5) ["self", "at"] (sp_efld (C 5) "at") := ok_i5 k.n5
  have G6 : FnOk P w K mg base CX0 1 (fi 6) (di 6) ["self", "number"] (sp_efld (C 6) "number") := ok_i6 k.n6
  have G7 : FnOk P w K mg base CX0 1 (fi 7) (di 7) ["self", "at"] (sp_efld (C 7) "at") := ok_i7 k.n7
  have G8 : FnOk P w K mg base CX0 1 (fi 8) (di 8) ["self", "many"] (sp_efld (C 8) "many") := ok_i8 k.n8
  have G9 : FnOk P w K mg base CX0 1 (fi 9) (di 9) ["self", "at"] (sp_efld (C 9) "at") := ok_i9 k.n9
  have G12 : FnOk P w K mg base CX0 1 (fi 12) (di 12) ["self", "name"] (sp_efld (C 12) "name") := ok_i12 k.n12
  have G13 : FnOk P w K mg base CX0 1 (fi 13) (di 13) ["self", "name"] (sp_efld (C 13) "name") := ok_i13 k.n13
  have G15 : FnOk P w K mg base CX0 1 (fi 15) (di 15) ["self", "at"] (sp_efld (C 15) "at") := ok_i15 k.n15
  have G16 : FnOk P w K mg base CX0 1 (fi 16) (di 16) ["self", "at"] (sp_efld (C 16) "at") := ok_i16 k.n16
  refine F.F.ok sc_byname (fun vs H Q E h => ?_) (fun cdv A outer s H vs Q E hr h => ?_)
  · obtain ⟨x, y, rfl, _⟩ := h
    rfl
  · obtain ⟨x, y, rfl, q⟩ := h
    have nd := sc_byname.nd
    refine ⟨_, pss_cons (ps_set (i := 2) nd rfl (Or.inl rfl) (pe_lst (pa_cons (pe_mkN0 k.e0.ex k.e0.k (by exact rfl) k.e0.g) (pa_cons (pe_mkK k.n1.T k.n1.i k.n1.t G1 hr k.k1 pass0 (by exact rfl) k.n1.g (pk_cons (pv 0) pk_nil)) (pa_cons (pe_mkK k.n2.T k.n2.i k.n2.t G2 hr k.k2 pass0 (by exact rfl) k.n2.g (pk_cons (pv 0) pk_nil)) (pa_cons (pe_mkK k.n3.T k.n3.i k.n3.t G3 hr k.k3 pass0 (by exact rfl) k.n3.g (pk_cons (pv 0) pk_nil)) (pa_cons (pe_mkK k.n4.T k.n4.i k.n4.t G4 hr k.k4 pass0 (by exact rfl) k.n4.g (pk_cons (pv 1) (pk_cons (pv 0) pk_nil))) (pa_cons (pe_mkK k.n5.T k.n5.i k.n5.t G5 hr k.k5 pass0 (by exact rfl) k.n5.g (pk_cons (pv 0) pk_nil)) pa_nil))))))))
      (pss_cons (ps_set (i := 2) nd rfl (Or.inl rfl) (pe_op op_cat (pv 2) (pe_lst (pa_cons (pe_mkK k.n6.T k.n6.i k.n6.t G6 hr k.k6 pass0 (by exact rfl) k.n6.g (pk_cons (pv 0) pk_nil)) (pa_cons (pe_mkK k.n7.T k.n7.i k.n7.t G7 hr k.k7 pass0 (by exact rfl) k.n7.g (pk_cons (pv 0) pk_nil)) (pa_cons (pe_mkK k.n8.T k.n8.i k.n8.t G8 hr k.k8 pass0 (by exact rfl) k.n8.g (pk_cons (pv 0) pk_nil)) (pa_cons (pe_mkK k.n9.T k.n9.i k.n9.t G9 hr k.k9 pass0 (by exact rfl) k.n9.g (pk_cons (pv 0) pk_nil)) (pa_cons (pe_mkN0 k.e10.ex k.e10.k (by exact rfl) k.e10.g) (pa_cons (pe_mkN0 k.e11.ex k.e11.k (by exact rfl) k.e11.g) pa_nil)))))))))
      (pss_one (ps_ret (pe_op op_cat (pv 2) (pe_lst (pa_cons (pe_mkK k.n12.T k.n12.i k.n12.t G12 hr k.k12 pass0 (by exact rfl) k.n12.g (pk_cons (pv 0) pk_nil)) (pa_cons (pe_mkK k.n13.T k.n13.i k.n13.t G13 hr k.k13 pass0 (by exact rfl) k.n13.g (pk_cons (pv 0) pk_nil)) (pa_cons (pe_mkN0 k.e14.ex k.e14.k (by exact rfl) k.e14.g) (pa_cons (pe_mkK k.n15.T k.n15.i k.n15.t G15 hr k.k15 pass0 (by exact rfl) k.n15.g (pk_cons (pv 0) pk_nil)) (pa_cons (pe_mkK k.n16.T k.n16.i k.n16.t G16 hr k.k16 pass0 (by exact rfl) k.n16.g (pk_cons (pv 0) pk_nil)) pa_nil)))))))))), ?_⟩
    have t0 : Same H H := same_rfl
    refine ⟨by show 0 ≤ 1000; decide, fun a0 na0 => ?_⟩
    have v0 : ErrV C x y (upd H a0 (exo a0 (C 0) none)) a0 0 := errV_no upd_same rfl
    have s0 : Same H (upd H a0 (exo a0 (C 0) none)) := Same.new na0
    generalize upd H a0 (exo a0 (C 0) none) = K0 at v0 s0 ⊢
    refine ⟨_, rfl, rfl, fun a1 na1 => ?_⟩
    refine rd_keep na1 fun K1 d1 s1 ea1 ed1 => ?_
    have v1 : ErrV C x y K1 a1 1 := errV_of ea1 ed1 rfl
    refine ⟨_, rfl, rfl, fun a2 na2 => ?_⟩
    refine rd_keep na2 fun K2 d2 s2 ea2 ed2 => ?_
    have v2 : ErrV C x y K2 a2 2 := errV_of ea2 ed2 rfl
    refine ⟨_, rfl, rfl, fun a3 na3 => ?_⟩
    refine rd_keep na3 fun K3 d3 s3 ea3 ed3 => ?_
    have v3 : ErrV C x y K3 a3 3 := errV_of ea3 ed3 rfl
    refine ⟨_, rfl, _, rfl, rfl, fun a4 na4 => ?_⟩
    refine rd_keep2 na4 fun K4 d4 s4 ea4 ed4 => ?_
    have v4 : ErrV C x y K4 a4 4 := errV_of ea4 ed4 rfl
    refine ⟨_, rfl, rfl, fun a5 na5 => ?_⟩
    refine rd_keep na5 fun K5 d5 s5 ea5 ed5 => ?_
    have v5 : ErrV C x y K5 a5 5 := errV_of ea5 ed5 rfl
    refine ⟨by show 6 ≤ sizeLine; decide, fun l0 nl0 => ?_⟩
    have el0 : upd K5 l0 (.lst [V.ref a0, V.ref a1, V.ref a2, V.ref a3, V.ref a4, V.ref a5]) l0 = some (.lst [V.ref a0, V.ref a1, V.ref a2, V.ref a3, V.ref a4, V.ref a5]) := upd_same
    have sl0 : Same K5 (upd K5 l0 (.lst [V.ref a0, V.ref a1, V.ref a2, V.ref a3, V.ref a4, V.ref a5])) := Same.new nl0
    generalize upd K5 l0 (.lst [V.ref a0, V.ref a1, V.ref a2, V.ref a3, V.ref a4, V.ref a5]) = L0 at el0 sl0 ⊢
    refine ⟨_, rfl, ?_⟩
    refine ⟨_, rfl, rfl, fun a6 na6 => ?_⟩
    refine rd_keep na6 fun K6 d6 s6 ea6 ed6 => ?_
    have v6 : ErrV C x y K6 a6 6 := errV_of ea6 ed6 rfl
    refine ⟨_, rfl, rfl, fun a7 na7 => ?_⟩
    refine rd_keep na7 fun K7 d7 s7 ea7 ed7 => ?_
    have v7 : ErrV C x y K7 a7 7 := errV_of ea7 ed7 rfl
    refine ⟨_, rfl, rfl, fun a8 na8 => ?_⟩
    refine rd_keep na8 fun K8 d8 s8 ea8 ed8 => ?_
    have v8 : ErrV C x y K8 a8 8 := errV_of ea8 ed8 rfl
    refine ⟨_, rfl, rfl, fun a9 na9 => ?_⟩
    refine rd_keep na9 fun K9 d9 s9 ea9 ed9 => ?_
    have v9 : ErrV C x y K9 a9 9 := errV_of ea9 ed9 rfl
    refine ⟨by show 0 ≤ 1000; decide, fun a10 na10 => ?_⟩
    have v10 : ErrV C x y (upd K9 a10 (exo a10 (C 10) none)) a10 10 := errV_no upd_same rfl
    have s10 : Same K9 (upd K9 a10 (exo a10 (C 10) none)) := Same.new na10
    generalize upd K9 a10 (exo a10 (C 10) none) = K10 at v10 s10 ⊢
    refine ⟨by show 0 ≤ 1000; decide, fun a11 na11 => ?_⟩
    have v11 : ErrV C x y (upd K10 a11 (exo a11 (C 11) none)) a11 11 := errV_no upd_same rfl
    have s11 : Same K10 (upd K10 a11 (exo a11 (C 11) none)) := Same.new na11
    generalize upd K10 a11 (exo a11 (C 11) none) = K11 at v11 s11 ⊢
    have tg1 : Same L0 K11 := (((((s6.trans s7).trans s8).trans s9).trans s10).trans s11)
    refine ⟨by show 6 ≤ sizeLine; decide, fun h1 nh1 => ?_⟩
    refine ⟨l0, h1, _, _, rfl, rfl, (tg1.trans (Same.new nh1)) _ _ el0, upd_same, by show 6 + 6 ≤ sizeLine; decide, fun l1 nl1 => ?_⟩
    have el1 : upd (upd K11 h1 (.lst [V.ref a6, V.ref a7, V.ref a8, V.ref a9, V.ref a10, V.ref a11])) l1 (.lst ([V.ref a0, V.ref a1, V.ref a2, V.ref a3, V.ref a4, V.ref a5] ++ [V.ref a6, V.ref a7, V.ref a8, V.ref a9, V.ref a10, V.ref a11])) l1 = some (.lst [V.ref a0, V.ref a1, V.ref a2, V.ref a3, V.ref a4, V.ref a5, V.ref a6, V.ref a7, V.ref a8, V.ref a9, V.ref a10, V.ref a11]) := upd_same
    have sl1 : Same K11 (upd (upd K11 h1 (.lst [V.ref a6, V.ref a7, V.ref a8, V.ref a9, V.ref a10, V.ref a11])) l1 (.lst ([V.ref a0, V.ref a1, V.ref a2, V.ref a3, V.ref a4, V.ref a5] ++ [V.ref a6, V.ref a7, V.ref a8, V.ref a9, V.ref a10, V.ref a11]))) := (Same.new nh1).trans (Same.new nl1)
    generalize upd (upd K11 h1 (.lst [V.ref a6, V.ref a7, V.ref a8, V.ref a9, V.ref a10, V.ref a11])) l1 (.lst ([V.ref a0, V.ref a1, V.ref a2, V.ref a3, V.ref a4, V.ref a5] ++ [V.ref a6, V.ref a7, V.ref a8, V.ref a9, V.ref a10, V.ref a11])) = L1 at el1 sl1 ⊢
    refine ⟨_, rfl, ?_⟩
    refine ⟨_, rfl, rfl, fun a12 na12 => ?_⟩
    refine rd_keep na12 fun K12 d12 s12 ea12 ed12 => ?_
    have v12 : ErrV C x y K12 a12 12 := errV_of ea12 ed12 rfl
    refine ⟨_, rfl, rfl, fun a13 na13 => ?_⟩
    refine rd_keep na13 fun K13 d13 s13 ea13 ed13 => ?_
    have v13 : ErrV C x y K13 a13 13 := errV_of ea13 ed13 rfl
    refine ⟨by show 0 ≤ 1000; decide, fun a14 na14 => ?_⟩
    have v14 : ErrV C x y (upd K13 a14 (exo a14 (C 14) none)) a14 14 := errV_no upd_same rfl
    have s14 : Same K13 (upd K13 a14 (exo a14 (C 14) none)) := Same.new na14
    generalize upd K13 a14 (exo a14 (C 14) none) = K14 at v14 s14 ⊢
    refine ⟨_, rfl, rfl, fun a15 na15 => ?_⟩
    refine rd_keep na15 fun K15 d15 s15 ea15 ed15 => ?_
    have v15 : ErrV C x y K15 a15 15 := errV_of ea15 ed15 rfl
    refine ⟨_, rfl, rfl, fun a16 na16 => ?_⟩
    refine rd_keep na16 fun K16 d16 s16 ea16 ed16 => ?_
    have v16 : ErrV C x y K16 a16 16 := errV_of ea16 ed16 rfl
    have tg2 : Same L1 K16 := ((((s12.trans s13).trans s14).trans s15).trans s16)
    refine ⟨by show 5 ≤ sizeLine; decide, fun h2 nh2 => ?_⟩
    refine ⟨l1, h2, _, _, rfl, rfl, (tg2.trans (Same.new nh2)) _ _ el1, upd_same, by show 12 + 5 ≤ sizeLine; decide, fun l2 nl2 => ?_⟩
    have el2 : upd (upd K16 h2 (.lst [V.ref a12, V.ref a13, V.ref a14, V.ref a15, V.ref a16])) l2 (.lst ([V.ref a0, V.ref a1, V.ref a2, V.ref a3, V.ref a4, V.ref a5, V.ref a6, V.ref a7, V.ref a8, V.ref a9, V.ref a10, V.ref a11] ++ [V.ref a12, V.ref a13, V.ref a14, V.ref a15, V.ref a16])) l2 = some (.lst (([a0, a1, a2, a3, a4, a5, a6, a7, a8, a9, a10, a11, a12, a13, a14, a15, a16] : List Addr).map V.ref)) := upd_same
    have sl2 : Same K16 (upd (upd K16 h2 (.lst [V.ref a12, V.ref a13, V.ref a14, V.ref a15, V.ref a16])) l2 (.lst ([V.ref a0, V.ref a1, V.ref a2, V.ref a3, V.ref a4, V.ref a5, V.ref a6, V.ref a7, V.ref a8, V.ref a9, V.ref a10, V.ref a11] ++ [V.ref a12, V.ref a13, V.ref a14, V.ref a15, V.ref a16]))) := (Same.new nh2).trans (Same.new nl2)
    generalize upd (upd K16 h2 (.lst [V.ref a12, V.ref a13, V.ref a14, V.ref a15, V.ref a16])) l2 (.lst ([V.ref a0, V.ref a1, V.ref a2, V.ref a3, V.ref a4, V.ref a5, V.ref a6, V.ref a7, V.ref a8, V.ref a9, V.ref a10, V.ref a11] ++ [V.ref a12, V.ref a13, V.ref a14, V.ref a15, V.ref a16])) = L2 at el2 sl2 ⊢
    have z20 : Same L2 L2 := same_rfl
    have z19 := sl2.trans z20
    have z18 := s16.trans z19
    have z17 := s15.trans z18
    have z16 := s14.trans z17
    have z15 := s13.trans z16
    have z14 := s12.trans z15
    have z13 := sl1.trans z14
    have z12 := s11.trans z13
    have z11 := s10.trans z12
    have z10 := s9.trans z11
    have z9 := s8.trans z10
    have z8 := s7.trans z9
    have z7 := s6.trans z8
    have z6 := sl0.trans z7
    have z5 := s5.trans z6
    have z4 := s4.trans z5
    have z3 := s3.trans z4
    have z2 := s2.trans z3
    have z1 := s1.trans z2
    have z0 := s0.trans z1
    refine q _ _ _ z0 el2 rfl fun j a hja => ?_
    rcases j with _ | j
    · cases hja
      exact v0.same z1
    rcases j with _ | j
    · cases hja
      exact v1.same z2
    rcases j with _ | j
    · cases hja
      exact v2.same z3
    rcases j with _ | j
    · cases hja
      exact v3.same z4
    rcases j with _ | j
    · cases hja
      exact v4.same z5
    rcases j with _ | j
    · cases hja
      exact v5.same z6
    rcases j with _ | j
    · cases hja
      exact v6.same z8
    rcases j with _ | j
    · cases hja
      exact v7.same z9
    rcases j with _ | j
    · cases hja
      exact v8.same z10
    rcases j with _ | j
    · cases hja
      exact v9.same z11
    rcases j with _ | j
    · cases hja
      exact v10.same z12
    rcases j with _ | j
    · cases hja
      exact v11.same z13
    rcases j with _ | j
    · cases hja
      exact v12.same z15
    rcases j with _ | j
    · cases hja
      exact v13.same z16
    rcases j with _ | j
    · cases hja
      exact v14.same z17
    rcases j with _ | j
    · cases hja
      exact v15.same z18
    rcases j with _ | j
    · cases hja
      exact v16.same z19
    cases hja
theorem sc_byplace : FnScope ["_law_x", "_law_y", "_law_some"] ["_law_x", "_law_y"] (defScope s_byplace) := ⟨rfl, rfl, rfl, by decide +kernel, rfl, by decide +kernel, by decide +kernel⟩
theorem ok_byplace {f : Addr} {fd : FuncData} (F : Fn K mg "_law_by_place" s_byplace ["_law_x", "_law_y"] f fd) (k : Kc K mg CF C fi di) : FnOk P w K mg base CX0 3 f fd ["_law_x", "_law_y"] (sp_made C) := by
  have G1 : FnOk P w K mg base CX0 1 (fi 1) (di 1) ["self", "at"] (sp_efld (C 1) "at") := ok_i1 k.n1
  have G2 : FnOk P w K mg base CX0 1 (fi 2) (di 2) ["self", "at"] (sp_efld (C 2) "at") := ok_i2 k.n2
  have G3 : FnOk P w K mg base CX0 1 (fi 3) (di 3) ["self", "name"] (sp_efld (C 3) "name") := ok_i3 k.n3
  have G4 : FnOk P w K mg base CX0 1 (fi 4) (di 4) ["self", "one", "other"] (sp_efld2 (C 4) "one" "other") := ok_i4 k.n4
  have G5 : FnOk P w K mg base CX0 1 (fi 5) (di 5) ["self", "at"] (sp_efld (C 5) "at") := ok_i5 k.n5
  have G6 : FnOk P w K mg base CX0 1 (fi 6) (di 6) ["self", "number"] (sp_efld (C 6) "number") := ok_i6 k.n6
  have G7 : FnOk P w K mg base CX0 1 (fi 7) (di 7) ["self", "at"] (sp_efld (C 7) "at") := ok_i7 k.n7
  have G8 : FnOk P w K mg base CX0 1 (fi 8) (di 8) ["self", "many"] (sp_efld (C 8) "many") := ok_i8 k.n8
  have G9 : FnOk P w K mg base CX0 1 (fi 9) (di 9) ["self", "at"] (sp_efld (C 9) "at") := ok_i9 k.n9
  have G12 : FnOk P w K mg base CX0 1 (fi 12) (di 12) ["self", "name"] (sp_efld (C 12) "name") := ok_i12 k.n12
  have G13 : FnOk P w K mg base CX0 1 (fi 13) (di 13) ["self", "name"] (sp_efld (C 13) "name") := ok_i13 k.n13
  have G15 : FnOk P w K mg base CX0 1 (fi 15) (di 15) ["self", "at"] (sp_efld (C 15) "at") := ok_i15 k.n15
  have G16 : FnOk P w K mg base CX0 1 (fi 16) (di 16) ["self", "at"] (sp_efld (C 16) "at") := ok_i16 k.n16
  refine F.F.ok sc_byplace (fun vs H Q E h => ?_) (fun cdv A outer s H vs Q E hr h => ?_)
  · obtain ⟨x, y, rfl, _⟩ := h
    rfl
  · obtain ⟨x, y, rfl, q⟩ := h
    have nd := sc_byplace.nd
    refine ⟨_, pss_cons (ps_set (i := 2) nd rfl (Or.inl rfl) (pe_lst (pa_cons (pe_mkN k.e0.ex k.e0.k (by exact rfl) k.e0.g (pa_cons pe_str pa_nil)) (pa_cons (pe_mkE k.n1.T k.n1.i k.n1.t G1 hr k.n1.b pass0 (by exact rfl) k.n1.g (pa_cons (pv 0) pa_nil)) (pa_cons (pe_mkE k.n2.T k.n2.i k.n2.t G2 hr k.n2.b pass0 (by exact rfl) k.n2.g (pa_cons (pv 0) pa_nil)) (pa_cons (pe_mkE k.n3.T k.n3.i k.n3.t G3 hr k.n3.b pass0 (by exact rfl) k.n3.g (pa_cons (pv 0) pa_nil)) (pa_cons (pe_mkE k.n4.T k.n4.i k.n4.t G4 hr k.n4.b pass0 (by exact rfl) k.n4.g (pa_cons (pv 0) (pa_cons (pv 1) pa_nil))) (pa_cons (pe_mkE k.n5.T k.n5.i k.n5.t G5 hr k.n5.b pass0 (by exact rfl) k.n5.g (pa_cons (pv 0) pa_nil)) (pa_cons (pe_mkE k.n6.T k.n6.i k.n6.t G6 hr k.n6.b pass0 (by exact rfl) k.n6.g (pa_cons (pv 0) pa_nil)) (pa_cons (pe_mkE k.n7.T k.n7.i k.n7.t G7 hr k.n7.b pass0 (by exact rfl) k.n7.g (pa_cons (pv 0) pa_nil)) pa_nil))))))))))
      (pss_cons (ps_set (i := 2) nd rfl (Or.inl rfl) (pe_op op_cat (pv 2) (pe_lst (pa_cons (pe_mkE k.n8.T k.n8.i k.n8.t G8 hr k.n8.b pass0 (by exact rfl) k.n8.g (pa_cons (pv 0) pa_nil)) (pa_cons (pe_mkE k.n9.T k.n9.i k.n9.t G9 hr k.n9.b pass0 (by exact rfl) k.n9.g (pa_cons (pv 0) pa_nil)) (pa_cons (pe_mkN k.e10.ex k.e10.k (by exact rfl) k.e10.g (pa_cons pe_str pa_nil)) (pa_cons (pe_mkN k.e11.ex k.e11.k (by exact rfl) k.e11.g (pa_cons pe_str pa_nil)) (pa_cons (pe_mkE k.n12.T k.n12.i k.n12.t G12 hr k.n12.b pass0 (by exact rfl) k.n12.g (pa_cons (pv 0) pa_nil)) (pa_cons (pe_mkE k.n13.T k.n13.i k.n13.t G13 hr k.n13.b pass0 (by exact rfl) k.n13.g (pa_cons (pv 0) pa_nil)) pa_nil)))))))))
      (pss_one (ps_ret (pe_op op_cat (pv 2) (pe_lst (pa_cons (pe_mkN k.e14.ex k.e14.k (by exact rfl) k.e14.g (pa_cons pe_str pa_nil)) (pa_cons (pe_mkE k.n15.T k.n15.i k.n15.t G15 hr k.n15.b pass0 (by exact rfl) k.n15.g (pa_cons (pv 0) pa_nil)) (pa_cons (pe_mkE k.n16.T k.n16.i k.n16.t G16 hr k.n16.b pass0 (by exact rfl) k.n16.g (pa_cons (pv 0) pa_nil)) pa_nil)))))))), ?_⟩
    have t0 : Same H H := same_rfl
    refine ⟨by show 1 ≤ 1000; decide, fun a0 na0 => ?_⟩
    have v0 : ErrV C x y (upd H a0 (exo a0 (C 0) none)) a0 0 := errV_no upd_same rfl
    have s0 : Same H (upd H a0 (exo a0 (C 0) none)) := Same.new na0
    generalize upd H a0 (exo a0 (C 0) none) = K0 at v0 s0 ⊢
    refine ⟨_, rfl, by show 1 ≤ 1000; decide, fun a1 na1 => ?_⟩
    refine rd_keep na1 fun K1 d1 s1 ea1 ed1 => ?_
    have v1 : ErrV C x y K1 a1 1 := errV_of ea1 ed1 rfl
    refine ⟨_, rfl, by show 1 ≤ 1000; decide, fun a2 na2 => ?_⟩
    refine rd_keep na2 fun K2 d2 s2 ea2 ed2 => ?_
    have v2 : ErrV C x y K2 a2 2 := errV_of ea2 ed2 rfl
    refine ⟨_, rfl, by show 1 ≤ 1000; decide, fun a3 na3 => ?_⟩
    refine rd_keep na3 fun K3 d3 s3 ea3 ed3 => ?_
    have v3 : ErrV C x y K3 a3 3 := errV_of ea3 ed3 rfl
    refine ⟨_, rfl, _, rfl, by show 2 ≤ 1000; decide, fun a4 na4 => ?_⟩
    refine rd_keep2 na4 fun K4 d4 s4 ea4 ed4 => ?_
    have v4 : ErrV C x y K4 a4 4 := errV_of ea4 ed4 rfl
    refine ⟨_, rfl, by show 1 ≤ 1000; decide, fun a5 na5 => ?_⟩
    refine rd_keep na5 fun K5 d5 s5 ea5 ed5 => ?_
    have v5 : ErrV C x y K5 a5 5 := errV_of ea5 ed5 rfl
    refine ⟨_, rfl, by show 1 ≤ 1000; decide, fun a6 na6 => ?_⟩
    refine rd_keep na6 fun K6 d6 s6 ea6 ed6 => ?_
    have v6 : ErrV C x y K6 a6 6 := errV_of ea6 ed6 rfl
    refine ⟨_, rfl, by show 1 ≤ 1000; decide, fun a7 na7 => ?_⟩
    refine rd_keep na7 fun K7 d7 s7 ea7 ed7 => ?_
    have v7 : ErrV C x y K7 a7 7 := errV_of ea7 ed7 rfl
    refine ⟨by show 8 ≤ sizeLine; decide, fun l0 nl0 => ?_⟩
    have el0 : upd K7 l0 (.lst [V.ref a0, V.ref a1, V.ref a2, V.ref a3, V.ref a4, V.ref a5, V.ref a6, V.ref a7]) l0 = some (.lst [V.ref a0, V.ref a1, V.ref a2, V.ref a3, V.ref a4, V.ref a5, V.ref a6, V.ref a7]) := upd_same
    have sl0 : Same K7 (upd K7 l0 (.lst [V.ref a0, V.ref a1, V.ref a2, V.ref a3, V.ref a4, V.ref a5, V.ref a6, V.ref a7])) := Same.new nl0
    generalize upd K7 l0 (.lst [V.ref a0, V.ref a1, V.ref a2, V.ref a3, V.ref a4, V.ref a5, V.ref a6, V.ref a7]) = L0 at el0 sl0 ⊢
    refine ⟨_, rfl, ?_⟩
    refine ⟨_, rfl, by show 1 ≤ 1000; decide, fun a8 na8 => ?_⟩
    refine rd_keep na8 fun K8 d8 s8 ea8 ed8 => ?_
    have v8 : ErrV C x y K8 a8 8 := errV_of ea8 ed8 rfl
    refine ⟨_, rfl, by show 1 ≤ 1000; decide, fun a9 na9 => ?_⟩
    refine rd_keep na9 fun K9 d9 s9 ea9 ed9 => ?_
    have v9 : ErrV C x y K9 a9 9 := errV_of ea9 ed9 rfl
    refine ⟨by show 1 ≤ 1000; decide, fun a10 na10 => ?_⟩
    have v10 : ErrV C x y (upd K9 a10 (exo a10 (C 10) none)) a10 10 := errV_no upd_same rfl
    have s10 : Same K9 (upd K9 a10 (exo a10 (C 10) none)) := Same.new na10
    generalize upd K9 a10 (exo a10 (C 10) none) = K10 at v10 s10 ⊢
    refine ⟨by show 1 ≤ 1000; decide, fun a11 na11 => ?_⟩
    have v11 : ErrV C x y (upd K10 a11 (exo a11 (C 11) none)) a11 11 := errV_no upd_same rfl
    have s11 : Same K10 (upd K10 a11 (exo a11 (C 11) none)) := Same.new na11
    generalize upd K10 a11 (exo a11 (C 11) none) = K11 at v11 s11 ⊢
    refine ⟨_, rfl, by show 1 ≤ 1000; decide, fun a12 na12 => ?_⟩
    refine rd_keep na12 fun K12 d12 s12 ea12 ed12 => ?_
    have v12 : ErrV C x y K12 a12 12 := errV_of ea12 ed12 rfl
    refine ⟨_, rfl, by show 1 ≤ 1000; decide, fun a13 na13 => ?_⟩
    refine rd_keep na13 fun K13 d13 s13 ea13 ed13 => ?_
    have v13 : ErrV C x y K13 a13 13 := errV_of ea13 ed13 rfl
    have tg1 : Same L0 K13 := (((((s8.trans s9).trans s10).trans s11).trans s12).trans s13)
    refine ⟨by show 6 ≤ sizeLine; decide, fun h1 nh1 => ?_⟩
    refine ⟨l0, h1, _, _, rfl, rfl, (tg1.trans (Same.new nh1)) _ _ el0, upd_same, by show 8 + 6 ≤ sizeLine; decide, fun l1 nl1 => ?_⟩
    have el1 : upd (upd K13 h1 (.lst [V.ref a8, V.ref a9, V.ref a10, V.ref a11, V.ref a12, V.ref a13])) l1 (.lst ([V.ref a0, V.ref a1, V.ref a2, V.ref a3, V.ref a4, V.ref a5, V.ref a6, V.ref a7] ++ [V.ref a8, V.ref a9, V.ref a10, V.ref a11, V.ref a12, V.ref a13])) l1 = some (.lst [V.ref a0, V.ref a1, V.ref a2, V.ref a3, V.ref a4, V.ref a5, V.ref a6, V.ref a7, V.ref a8, V.ref a9, V.ref a10, V.ref a11, V.ref a12, V.ref a13]) := upd_same
    have sl1 : Same K13 (upd (upd K13 h1 (.lst [V.ref a8, V.ref a9, V.ref a10, V.ref a11, V.ref a12, V.ref a13])) l1 (.lst ([V.ref a0, V.ref a1, V.ref a2, V.ref a3, V.ref a4, V.ref a5, V.ref a6, V.ref a7] ++ [V.ref a8, V.ref a9, V.ref a10, V.ref a11, V.ref a12, V.ref a13]))) := (Same.new nh1).trans (Same.new nl1)
    generalize upd (upd K13 h1 (.lst [V.ref a8, V.ref a9, V.ref a10, V.ref a11, V.ref a12, V.ref a13])) l1 (.lst ([V.ref a0, V.ref a1, V.ref a2, V.ref a3, V.ref a4, V.ref a5, V.ref a6, V.ref a7] ++ [V.ref a8, V.ref a9, V.ref a10, V.ref a11, V.ref a12, V.ref a13])) = L1 at el1 sl1 ⊢
    refine ⟨_, rfl, ?_⟩
    refine ⟨by show 1 ≤ 1000; decide, fun a14 na14 => ?_⟩
    have v14 : ErrV C x y (upd L1 a14 (exo a14 (C 14) none)) a14 14 := errV_no upd_same rfl
    have s14 : Same L1 (upd L1 a14 (exo a14 (C 14) none)) := Same.new na14
    generalize upd L1 a14 (exo a14 (C 14) none) = K14 at v14 s14 ⊢
    refine ⟨_, rfl, by show 1 ≤ 1000; decide, fun a15 na15 => ?_⟩
    refine rd_keep na15 fun K15 d15 s15 ea15 ed15 => ?_
    have v15 : ErrV C x y K15 a15 15 := errV_of ea15 ed15 rfl
    refine ⟨_, rfl, by show 1 ≤ 1000; decide, fun a16 na16 => ?_⟩
    refine rd_keep na16 fun K16 d16 s16 ea16 ed16 => ?_
    have v16 : ErrV C x y K16 a16 16 := errV_of ea16 ed16 rfl
    have tg2 : Same L1 K16 := ((s14.trans s15).trans s16)
    refine ⟨by show 3 ≤ sizeLine; decide, fun h2 nh2 => ?_⟩
    refine ⟨l1, h2, _, _, rfl, rfl, (tg2.trans (Same.new nh2)) _ _ el1, upd_same, by show 14 + 3 ≤ sizeLine; decide, fun l2 nl2 => ?_⟩
    have el2 : upd (upd K16 h2 (.lst [V.ref a14, V.ref a15, V.ref a16])) l2 (.lst ([V.ref a0, V.ref a1, V.ref a2, V.ref a3, V.ref a4, V.ref a5, V.ref a6, V.ref a7, V.ref a8, V.ref a9, V.ref a10, V.ref a11, V.ref a12, V.ref a13] ++ [V.ref a14, V.ref a15, V.ref a16])) l2 = some (.lst (([a0, a1, a2, a3, a4, a5, a6, a7, a8, a9, a10, a11, a12, a13, a14, a15, a16] : List Addr).map V.ref)) := upd_same
    have sl2 : Same K16 (upd (upd K16 h2 (.lst [V.ref a14, V.ref a15, V.ref a16])) l2 (.lst ([V.ref a0, V.ref a1, V.ref a2, V.ref a3, V.ref a4, V.ref a5, V.ref a6, V.ref a7, V.ref a8, V.ref a9, V.ref a10, V.ref a11, V.ref a12, V.ref a13] ++ [V.ref a14, V.ref a15, V.ref a16]))) := (Same.new nh2).trans (Same.new nl2)
    generalize upd (upd K16 h2 (.lst [V.ref a14, V.ref a15, V.ref a16])) l2 (.lst ([V.ref a0, V.ref a1, V.ref a2, V.ref a3, V.ref a4, V.ref a5, V.ref a6, V.ref a7, V.ref a8, V.ref a9, V.ref a10, V.ref a11, V.ref a12, V.ref a13] ++ [V.ref a14, V.ref a15, V.ref a16])) = L2 at el2 sl2 ⊢
    have z20 : Same L2 L2 := same_rfl
    have z19 := sl2.trans z20
    have z18 := s16.trans z19
    have z17 := s15.trans z18
    have z16 := s14.trans z17
    have z15 := sl1.trans z16
    have z14 := s13.trans z15
    have z13 := s12.trans z14
    have z12 := s11.trans z13
    have z11 := s10.trans z12
    have z10 := s9.trans z11
    have z9 := s8.trans z10
    have z8 := sl0.trans z9
    have z7 := s7.trans z8
    have z6 := s6.trans z7
    have z5 := s5.trans z6
    have z4 := s4.trans z5
    have z3 := s3.trans z4
    have z2 := s2.trans z3
    have z1 := s1.trans z2
    have z0 := s0.trans z1
    refine q _ _ _ z0 el2 rfl fun j a hja => ?_
    rcases j with _ | j
    · cases hja
      exact v0.same z1
    rcases j with _ | j
    · cases hja
      exact v1.same z2
    rcases j with _ | j
    · cases hja
      exact v2.same z3
    rcases j with _ | j
    · cases hja
      exact v3.same z4
    rcases j with _ | j
    · cases hja
      exact v4.same z5
    rcases j with _ | j
    · cases hja
      exact v5.same z6
    rcases j with _ | j
    · cases hja
      exact v6.same z7
    rcases j with _ | j
    · cases hja
      exact v7.same z8
    rcases j with _ | j
    · cases hja
      exact v8.same z10
    rcases j with _ | j
    · cases hja
      exact v9.same z11
    rcases j with _ | j
    · cases hja
      exact v10.same z12
    rcases j with _ | j
    · cases hja
      exact v11.same z13
    rcases j with _ | j
    · cases hja
      exact v12.same z14
    rcases j with _ | j
    · cases hja
      exact v13.same z15
    rcases j with _ | j
    · cases hja
      exact v14.same z17
    rcases j with _ | j
    · cases hja
      exact v15.same z18
    rcases j with _ | j
    · cases hja
      exact v16.same z19
    cases hja
end
end T08

set_option maxHeartbeats 4000000
namespace T08
open PySem L2 PyProof.Rows TX TY TW TD TE TK TO

/-- isinstance of the error in hand, with fields of its own or without -/
def rIsB (K : PySem.W.Frag) (a : Addr) (cls : Value) (d : Option Addr) : List V → Hp → VK → Prop := fun xs H Q => rIsX K a cls d xs H Q ∨ rIsXd K a cls d xs H Q
theorem call_isB {X : Cx} {a : Addr} {oe : Obj} {cls : Value} {d : Option Addr} {pn : List (Addr × Obj)} (hz : Zc cls d oe) (hf : ∃ vs, oe.data = .fields vs) : CallR (X.suite a ((a, oe) :: pn)) (.builtin "isinstance") (rIsB X.K a cls d) := by
  intro pins s σ H xs us Q I r h
  exact h.elim (call_isX hz hf pins s σ H xs us Q I r) (call_isXd hz hf pins s σ H xs us Q I r)
def rI1 : List V → Hp → VK → Prop := fun xs H Q => (∃ i, xs = [.int i] ∧ Q (.int i) H) ∨ ∃ k, xs = [.bl k] ∧ Q (.int (if k then 1 else 0)) H
theorem call_i1 {X : Cx} : CallR X (.type "int") rI1 := call_int1
section
variable {P : Program} {w : World} {K : PySem.W.Frag} {mg : Str → Option Value} {base : Heap}
variable {CF : Addr} {C fi : Nat → Addr} {di : Nat → FuncData}
theorem xf_of {j : Nat} (k : Kc K mg CF C fi di) (h : j < 17) : XfC K (C j) := ⟨(k.xc j h).hg, (k.xc j h).hk, (k.xc j h).hs, (k.xc j h).hd⟩
theorem list17 {es : List Addr} (h : es.length = 17) : ∃ a0 a1 a2 a3 a4 a5 a6 a7 a8 a9 a10 a11 a12 a13 a14 a15 a16, es = [a0, a1, a2, a3, a4, a5, a6, a7, a8, a9, a10, a11, a12, a13, a14, a15, a16] :=
  match es, h with
  | [_, _, _, _, _, _, _, _, _, _, _, _, _, _, _, _, _], _ => ⟨_, _, _, _, _, _, _, _, _, _, _, _, _, _, _, _, _, rfl⟩
theorem sc_fields : FnScope ["_law_some", "_law_found"] ["_law_some"] (defScope s_fields) := ⟨rfl, rfl, rfl, by decide +kernel, rfl, by decide +kernel, by decide +kernel⟩
def sp_fields (C : Nat → Addr) : Sp := fun vs H Q _ => ∃ (x y : V) (p : Addr) (es : List Addr), vs = [.ref p] ∧ H p = some (.lst (es.map V.ref)) ∧ es.length = 17 ∧ (∀ j a, es[j]? = some a → ErrV C x y H a j) ∧ ∀ H' q, Same H H' → H' q = some (.lst [x, x, x, x, y, x, x, x, x, x, x, x, x, x]) → Q (.ref q) H'
theorem ok_fields {f : Addr} {fd : FuncData} (F : Fn K mg "_law_fields" s_fields ["_law_some"] f fd) (k : Kc K mg CF C fi di) : FnOk P w K mg base CX0 1 f fd ["_law_some"] (sp_fields C) := by
  refine F.F.ok sc_fields (fun vs H Q E h => ?_) (fun cdv A outer s H vs Q E hr h => ?_)
  · obtain ⟨x, y, p, es, rfl, _⟩ := h
    rfl
  · obtain ⟨x, y, p, es, rfl, hp, h17, hv, q⟩ := h
    have nd := sc_fields.nd
    refine ⟨_, pss_cons (ps_set (i := 1) nd rfl (Or.inl rfl) (pe_lst (pa_cons (pe_xo (pe_ix ix_list (pv 0) pe_int (fun _ _ => rfl))) (pa_cons (pe_xo (pe_ix ix_list (pv 0) pe_int (fun _ _ => rfl))) (pa_cons (pe_xo (pe_ix ix_list (pv 0) pe_int (fun _ _ => rfl))) (pa_cons (pe_xo (pe_ix ix_list (pv 0) pe_int (fun _ _ => rfl))) (pa_cons (pe_xo (pe_ix ix_list (pv 0) pe_int (fun _ _ => rfl))) (pa_cons (pe_xo (pe_ix ix_list (pv 0) pe_int (fun _ _ => rfl))) (pa_cons (pe_xo (pe_ix ix_list (pv 0) pe_int (fun _ _ => rfl))) (pa_cons (pe_xo (pe_ix ix_list (pv 0) pe_int (fun _ _ => rfl))) pa_nil))))))))))
      (pss_one (ps_ret (pe_op op_cat (pv 1) (pe_lst (pa_cons (pe_xo (pe_ix ix_list (pv 0) pe_int (fun _ _ => rfl))) (pa_cons (pe_xo (pe_ix ix_list (pv 0) pe_int (fun _ _ => rfl))) (pa_cons (pe_xo (pe_ix ix_list (pv 0) pe_int (fun _ _ => rfl))) (pa_cons (pe_xo (pe_ix ix_list (pv 0) pe_int (fun _ _ => rfl))) (pa_cons (pe_xo (pe_ix ix_list (pv 0) pe_int (fun _ _ => rfl))) (pa_cons (pe_xo (pe_ix ix_list (pv 0) pe_int (fun _ _ => rfl))) pa_nil)))))))))), ?_⟩
    obtain ⟨a0, a1, a2, a3, a4, a5, a6, a7, a8, a9, a10, a11, a12, a13, a14, a15, a16, rfl⟩ := list17 h17
    obtain ⟨_, g1, _, h1⟩ := hv 1 _ rfl
    obtain ⟨d1, rfl, f1⟩ := h1 _ rfl
    obtain ⟨_, g2, _, h2⟩ := hv 2 _ rfl
    obtain ⟨d2, rfl, f2⟩ := h2 _ rfl
    obtain ⟨_, g3, _, h3⟩ := hv 3 _ rfl
    obtain ⟨d3, rfl, f3⟩ := h3 _ rfl
    obtain ⟨_, g4, _, h4⟩ := hv 4 _ rfl
    obtain ⟨d4, rfl, f4⟩ := h4 _ rfl
    obtain ⟨_, g5, _, h5⟩ := hv 5 _ rfl
    obtain ⟨d5, rfl, f5⟩ := h5 _ rfl
    obtain ⟨_, g6, _, h6⟩ := hv 6 _ rfl
    obtain ⟨d6, rfl, f6⟩ := h6 _ rfl
    obtain ⟨_, g7, _, h7⟩ := hv 7 _ rfl
    obtain ⟨d7, rfl, f7⟩ := h7 _ rfl
    obtain ⟨_, g8, _, h8⟩ := hv 8 _ rfl
    obtain ⟨d8, rfl, f8⟩ := h8 _ rfl
    obtain ⟨_, g9, _, h9⟩ := hv 9 _ rfl
    obtain ⟨d9, rfl, f9⟩ := h9 _ rfl
    obtain ⟨_, g12, _, h12⟩ := hv 12 _ rfl
    obtain ⟨d12, rfl, f12⟩ := h12 _ rfl
    obtain ⟨_, g13, _, h13⟩ := hv 13 _ rfl
    obtain ⟨d13, rfl, f13⟩ := h13 _ rfl
    obtain ⟨_, g15, _, h15⟩ := hv 15 _ rfl
    obtain ⟨d15, rfl, f15⟩ := h15 _ rfl
    obtain ⟨_, g16, _, h16⟩ := hv 16 _ rfl
    obtain ⟨d16, rfl, f16⟩ := h16 _ rfl
    refine ⟨_, rfl, p, _, 1, .ref a1, rfl, rfl, .of hp, rfl, a1, C 1, d1, _, _, rfl, g1, f1, xf_of k (by decide), k.n1.no, rfl, ?_⟩
    refine ⟨_, rfl, p, _, 2, .ref a2, rfl, rfl, .of hp, rfl, a2, C 2, d2, _, _, rfl, g2, f2, xf_of k (by decide), k.n2.no, rfl, ?_⟩
    refine ⟨_, rfl, p, _, 3, .ref a3, rfl, rfl, .of hp, rfl, a3, C 3, d3, _, _, rfl, g3, f3, xf_of k (by decide), k.n3.no, rfl, ?_⟩
    refine ⟨_, rfl, p, _, 4, .ref a4, rfl, rfl, .of hp, rfl, a4, C 4, d4, _, _, rfl, g4, f4, xf_of k (by decide), k.n4.no1, rfl, ?_⟩
    refine ⟨_, rfl, p, _, 4, .ref a4, rfl, rfl, .of hp, rfl, a4, C 4, d4, _, _, rfl, g4, f4, xf_of k (by decide), k.n4.no2, rfl, ?_⟩
    refine ⟨_, rfl, p, _, 5, .ref a5, rfl, rfl, .of hp, rfl, a5, C 5, d5, _, _, rfl, g5, f5, xf_of k (by decide), k.n5.no, rfl, ?_⟩
    refine ⟨_, rfl, p, _, 6, .ref a6, rfl, rfl, .of hp, rfl, a6, C 6, d6, _, _, rfl, g6, f6, xf_of k (by decide), k.n6.no, rfl, ?_⟩
    refine ⟨_, rfl, p, _, 7, .ref a7, rfl, rfl, .of hp, rfl, a7, C 7, d7, _, _, rfl, g7, f7, xf_of k (by decide), k.n7.no, rfl, ?_⟩
    refine ⟨by show 8 ≤ sizeLine; decide, fun m nm => ?_⟩
    have em : upd H m (.lst [x, x, x, x, y, x, x, x]) m = some (.lst [x, x, x, x, y, x, x, x]) := upd_same
    have sm : Same H (upd H m (.lst [x, x, x, x, y, x, x, x])) := Same.new nm
    generalize upd H m (.lst [x, x, x, x, y, x, x, x]) = H1 at em sm ⊢
    refine ⟨_, rfl, ?_⟩
    refine ⟨_, rfl, p, _, 8, .ref a8, rfl, rfl, .of (sm _ _ hp), rfl, a8, C 8, d8, _, _, rfl, (sm _ _ g8), (sm _ _ f8), xf_of k (by decide), k.n8.no, rfl, ?_⟩
    refine ⟨_, rfl, p, _, 9, .ref a9, rfl, rfl, .of (sm _ _ hp), rfl, a9, C 9, d9, _, _, rfl, (sm _ _ g9), (sm _ _ f9), xf_of k (by decide), k.n9.no, rfl, ?_⟩
    refine ⟨_, rfl, p, _, 12, .ref a12, rfl, rfl, .of (sm _ _ hp), rfl, a12, C 12, d12, _, _, rfl, (sm _ _ g12), (sm _ _ f12), xf_of k (by decide), k.n12.no, rfl, ?_⟩
    refine ⟨_, rfl, p, _, 13, .ref a13, rfl, rfl, .of (sm _ _ hp), rfl, a13, C 13, d13, _, _, rfl, (sm _ _ g13), (sm _ _ f13), xf_of k (by decide), k.n13.no, rfl, ?_⟩
    refine ⟨_, rfl, p, _, 15, .ref a15, rfl, rfl, .of (sm _ _ hp), rfl, a15, C 15, d15, _, _, rfl, (sm _ _ g15), (sm _ _ f15), xf_of k (by decide), k.n15.no, rfl, ?_⟩
    refine ⟨_, rfl, p, _, 16, .ref a16, rfl, rfl, .of (sm _ _ hp), rfl, a16, C 16, d16, _, _, rfl, (sm _ _ g16), (sm _ _ f16), xf_of k (by decide), k.n16.no, rfl, ?_⟩
    refine ⟨by show 6 ≤ sizeLine; decide, fun n nn => ?_⟩
    refine ⟨m, n, _, _, rfl, rfl, (Same.new nn) _ _ em, upd_same, by show 8 + 6 ≤ sizeLine; decide, fun l nl => ?_⟩
    exact q _ _ (sm.trans ((Same.new nn).trans (Same.new nl))) upd_same
theorem same_xd {H : Hp} {a dx : Addr} {o1 o2 o3 o4 : HO} (na : H a = none) (nd : H dx = none) : Same H (upd (del (upd (upd (upd H a o1) dx o2) a o3) a) dx o4) := fun b o e => by
  have hb1 : b ≠ dx := ne_of_none e nd
  have hb2 : b ≠ a := ne_of_none e na
  rw [upd_ne hb1, del_ne hb2, upd_ne hb2, upd_ne hb1, upd_ne hb2]
  exact e
abbrev N_taken : List Str := ["_law_turn", "_law_x", "_law_word", "_law_e"]
theorem sc_taken : FnScope N_taken ["_law_turn", "_law_x"] (defScope s_taken) := ⟨rfl, rfl, rfl, by decide +kernel, rfl, by decide +kernel, by decide +kernel⟩
def sp_taken : Sp := fun vs H Q _ => ∃ (t : Nat) (x : V), vs = [.int t, x] ∧ t < 3 ∧ ∀ H', Same H H' → Q (.str "fold") H'
def tb_taken (C : Nat → Addr) : WX → TS := fun W => tSeq (tIfS (tTest (tOp rEq (tVar 0) (tC (.int 0)))) (fun _ σ H => tMkO (C 1) (sp_efld (C 1) "at") [] (tCons (tVar 1) tNil) σ H fun cls d H' => W cls d σ H') tNext)
  (tSeq (tIfS (tTest (tOp rEq (tVar 0) (tC (.int 1)))) (fun _ σ H => tMkO (C 3) (sp_efld (C 3) "name") [] (tCons (tVar 1) tNil) σ H fun cls d H' => W cls d σ H') tNext) (fun _ σ H => W (.ref (C 0)) none σ H))
def ts_taken (K : PySem.W.Frag) : Addr → Value → Option Addr → TS := fun a cls d => tAsg (tOp (rIxL K) (tLst (tCons (tC (.str "other")) (tCons (tC (.str "fold")) tNil))) (tCB rI1 (tCons (tCB (rIsB K a cls d) (tCons (tVar 3) (tCons (tC (.ty "ValueError")) tNil))) tNil))) (gName 2)
theorem ok_taken {f : Addr} {fd : FuncData} (F : Fn K mg "_law_taken" s_taken ["_law_turn", "_law_x"] f fd) (B : Bn mg) (k : Kc K mg CF C fi di) : FnOk P w K mg base CX0 3 f fd ["_law_turn", "_law_x"] sp_taken := by
  have G1 : FnOk P w K mg base CX0 1 (fi 1) (di 1) ["self", "at"] (sp_efld (C 1) "at") := ok_i1 k.n1
  have G3 : FnOk P w K mg base CX0 1 (fi 3) (di 3) ["self", "name"] (sp_efld (C 3) "name") := ok_i3 k.n3
  refine F.F.ok sc_taken (fun vs H Q E h => ?_) (fun cdv A outer s H vs Q E hr h => ?_)
  · obtain ⟨t, x, rfl, _⟩ := h
    rfl
  · obtain ⟨t, x, rfl, ht, q⟩ := h
    have nd := sc_taken.nd
    refine ⟨_, pss_cons (ps_set (i := 2) nd rfl (Or.inl rfl) pe_str)
      (pss_cons (ps_try_as (i := 3) (tb := tb_taken C) (ts := ts_taken K) (Wout := fun _ _ _ _ => False) rfl rfl nd rfl rfl ⟨rfl, by decide, Or.inl k.gF⟩ takes0
        (fun W pn xe tk _ => pss_cons (ps_if (pt_cmpR op_eq (pv 0) pe_int (nomark _)) (pss_one (ps_raise rfl tk (pmk_oex k.n1.T k.n1.i k.n1.t G1 hr k.n1.b .nil pass0 (by exact rfl) k.n1.g (pa_cons (pv 1) pa_nil)))) pss_nil)
          (pss_cons (ps_if (pt_cmpR op_eq (pv 0) pe_int (nomark _)) (pss_one (ps_raise rfl tk (pmk_oex k.n3.T k.n3.i k.n3.t G3 hr k.n3.b .nil pass0 (by exact rfl) k.n3.g (pa_cons (pv 1) pa_nil)))) pss_nil)
          (pss_one (ps_raise rfl tk (pmk_own PySem.F.excBase_ValueError k.e0.ex k.e0.g k.e0.k (raises_own k.e0.b k.e0.t) (by exact rfl))))))
        (fun a oe cls d pn hz hf => pss_one (ps_set (i := 2) nd rfl (Or.inl rfl) (pe_ix ix_list (pe_lst (pa_cons pe_str (pa_cons pe_str pa_nil))) (pe_callTy call_i1 (by rfl) B.int boot_int (pa_cons (pe_callB (call_isB hz hf) (by rfl) B.isi boot_isinstance (pa_cons (pv 3) (pa_cons (pe_bltn (v := .ty "ValueError") (by rfl) k.gV boot_ValueError rfl) pa_nil))) pa_nil)) (fun _ _ => rfl)))))
      (pss_one (ps_ret (pv 2)))), ?_⟩
    have : t = 0 ∨ t = 1 ∨ t = 2 := by omega
    rcases this with e | e | e <;> subst e
    · refine ⟨_, rfl, rfl, _, rfl, ?_⟩
      refine ⟨_, rfl, (by show 1 ≤ 1000; decide), fun a na => ⟨a, x, rfl, upd_same, fun d nx hne => ⟨rfl, d, [("at", x)], upd_same, by rw [upd_ne hne, upd_same], ?_, ?_⟩⟩⟩
      · rw [upd_ne hne] at nx
        exact nx
      rw [upd_ne hne] at nx
      have s1 := same_xd (o1 := exo a (C 1) none) (o2 := exd d [("at", x)]) (o3 := exo a (C 1) (some d)) (o4 := .xd [("at", x)]) na nx
      have ed : upd (del (upd (upd (upd H a (exo a (C 1) none)) d (exd d [("at", x)])) a (exo a (C 1) (some d))) a) d (.xd [("at", x)]) d = some (.xd [("at", x)]) := upd_same
      generalize upd (del (upd (upd (upd H a (exo a (C 1) none)) d (exd d [("at", x)])) a (exo a (C 1) (some d))) a) d (.xd [("at", x)]) = H1 at s1 ed ⊢
      refine ⟨true, k.x1, fun _ e0 ne0 => ?_, fun q => Bool.noConfusion q⟩
      refine ⟨by show 2 ≤ sizeLine; decide, fun m nm => ⟨_, rfl, .inr ⟨C 1, _, true, rfl, k.xc 1 (by decide), ⟨d, _, rfl, (Same.new nm) _ _ ed⟩, rfl, .inl ⟨_, .ty "ValueError", k.kV 1 (by decide)⟩, .inr ⟨true, rfl, m, _, 1, .str "fold", rfl, rfl, .of upd_same, rfl, ?_⟩⟩⟩⟩
      exact ⟨_, rfl, q _ (s1.trans (Same.new nm))⟩
    · refine ⟨_, rfl, rfl, _, rfl, ?_⟩
      refine ⟨_, rfl, rfl, _, rfl, ?_⟩
      refine ⟨_, rfl, (by show 1 ≤ 1000; decide), fun a na => ⟨a, x, rfl, upd_same, fun d nx hne => ⟨rfl, d, [("name", x)], upd_same, by rw [upd_ne hne, upd_same], ?_, ?_⟩⟩⟩
      · rw [upd_ne hne] at nx
        exact nx
      rw [upd_ne hne] at nx
      have s1 := same_xd (o1 := exo a (C 3) none) (o2 := exd d [("name", x)]) (o3 := exo a (C 3) (some d)) (o4 := .xd [("name", x)]) na nx
      have ed : upd (del (upd (upd (upd H a (exo a (C 3) none)) d (exd d [("name", x)])) a (exo a (C 3) (some d))) a) d (.xd [("name", x)]) d = some (.xd [("name", x)]) := upd_same
      generalize upd (del (upd (upd (upd H a (exo a (C 3) none)) d (exd d [("name", x)])) a (exo a (C 3) (some d))) a) d (.xd [("name", x)]) = H1 at s1 ed ⊢
      refine ⟨true, k.x3, fun _ e0 ne0 => ?_, fun q => Bool.noConfusion q⟩
      refine ⟨by show 2 ≤ sizeLine; decide, fun m nm => ⟨_, rfl, .inr ⟨C 3, _, true, rfl, k.xc 3 (by decide), ⟨d, _, rfl, (Same.new nm) _ _ ed⟩, rfl, .inl ⟨_, .ty "ValueError", k.kV 3 (by decide)⟩, .inr ⟨true, rfl, m, _, 1, .str "fold", rfl, rfl, .of upd_same, rfl, ?_⟩⟩⟩⟩
      exact ⟨_, rfl, q _ (s1.trans (Same.new nm))⟩
    · refine ⟨_, rfl, rfl, _, rfl, ?_⟩
      refine ⟨_, rfl, rfl, _, rfl, ?_⟩
      refine ⟨true, k.x0, fun _ e0 ne0 => ?_, fun q => Bool.noConfusion q⟩
      refine ⟨by show 2 ≤ sizeLine; decide, fun m nm => ⟨_, rfl, .inl ⟨C 0, _, true, rfl, rfl, k.xc 0 (by decide), rfl, .inl ⟨_, .ty "ValueError", k.kV 0 (by decide)⟩, .inr ⟨true, rfl, m, _, 1, .str "fold", rfl, rfl, .of upd_same, rfl, ?_⟩⟩⟩⟩
      exact ⟨_, rfl, q _ (Same.new nm)⟩
end
end T08

set_option maxHeartbeats 4000000
namespace T08
open PySem PySem.Spec PyProof.Rows L2 TX TY TE TK TO
/-- a built-in refusal that is kept -/
def bxo (a : Addr) (T : String) : HO := .ext fun h => ∃ o : Obj, h.get? a = some o ∧ o.cls = .type T
theorem bxo_ok {P : Program} {w : World} {H : Hp} {h : Heap} {a : Addr} {T : String} {o : Obj} (e : h.get? a = some o) (z : o.cls = .type T) : ObjOk P w H h a (bxo a T) :=
  ⟨⟨o, e, z⟩, ⟨o, e⟩, fun _ _ ⟨u, q, r⟩ k => ⟨u, k u q, r⟩⟩
section
variable {X : Cx} {p pos : Pos}
theorem pe_mkB {x : Str} {T N I0 : String} {e : Expr} {es : List Expr} {ta : TA} (F : ExcCallFacts T N I0) (hg : Gl X x) (hm : X.mg x = none) (hv : bootBuiltins x = some (.type T)) (ha : PA X (e :: es) ta) (hn : x ≠ "__name__" := by decide) (hdb : (x == ("__debug__" : Str)) = false := by decide)
    (he : starEach (e :: es) X.env = (false, eval e X.env) :: starEach es X.env := by rfl) (hpl : (backTo pos (starEach es X.env)).any (·.1) = false := by rfl) :
    PE X (.Call (.Name x p) (e :: es) [] pos) (fun σ H Q => ta σ H fun vs H1 => vs.length ≤ sizeLine ∧ ∀ a, H1 a = none → Q (.ref a) (upd H1 a (bxo a T))) := by
  refine ⟨fun pins s σ H Q J h => wpAny_Call_Name_kw (ld_blt J hg hm hv (PyProof.Rows.callWith_type1 (thn (ha.run pos pins s σ H _ J h) fun us s1 hh => ?_) he hpl) hn hdb)⟩
  obtain ⟨vs, H1, I1, r1, q0, q1⟩ := hh
  obtain ⟨hp1, g1, d1, tk1, os1⟩ := s1
  refine wpAny_call_exc F (fun h' a mk => ?_) (Nat.le_trans (Nat.le_of_eq r1.length.symm) q0)
  have mo := PySem.Heap.MadeExc.of mk
  obtain ⟨t0, there, _⟩ := mo.there
  have nA : H1 a = none := I1.hok.gone mk.new
  exact ⟨.ref a, _, I1.laidN (t' := _) mo.keeps mk.new nA (bxo_ok there rfl), rfl, q1 a nA⟩
def rIsV (K : PySem.W.Frag) : List V → Hp → VK → Prop := fun xs H Q => ∃ (a : Addr) (c : V) (cv : Value) (b : Bool), xs = [.ref a, c] ∧ H a = some (bxo a "ValueError") ∧ ClsV c cv ∧ PySem.W.kitOne K (.type "ValueError") cv = some b ∧ Q (.bl b) H
theorem call_isV : CallR X (.builtin "isinstance") (rIsV X.K) := by
  intro pins s σ H xs us Q I r h
  obtain ⟨a, c, cv, b, rfl, ha, hcv, e, q⟩ := h
  obtain ⟨u1, u2, rfl, r1, r2⟩ := vals2 r
  cases r1
  have e2 := hcv.eq r2
  subst e2
  obtain ⟨o, hget, hcl⟩ := (I.hok a _ ha).1
  have Z := PySem.W.kitx_bexc (K := X.K) (x := a) PySem.F.excAttr_ValueError (by kernel_rfl) (by kernel_rfl) (by decide)
  exact PySem.W.kia_one Z I.kIn ⟨o, hget, hcl⟩ e (fun z => nomatch z) fun tk => ⟨.bl b, H, I.kept (t' := tk) fun _ _ z => z, rfl, q⟩
end
end T08

set_option maxHeartbeats 4000000
namespace T08
open PySem L2 PyProof.Rows TX TY TW TD TE TK TO
/-- a drawn value -/
def XV (H : Hp) (v : V) : Prop := (∃ r : Int, v = .int r) ∨ v = .str "word" ∨ (∃ (T : Addr) (r : Int), v = .ref T ∧ H T = some (.tup [.int r, .str "z"])) ∨ v = .non
theorem XV.same {H H' : Hp} {v : V} (h : XV H v) (s : Same H H') : XV H' v := by
  rcases h with h | h | ⟨T, r, h, e⟩ | h
  · exact .inl h
  · exact .inr (.inl h)
  · exact .inr (.inr (.inl ⟨T, r, h, s _ _ e⟩))
  · exact .inr (.inr (.inr h))
theorem can_word : PyData.canLay0 (.str "word") = true := by decide +kernel
theorem can_z (r : Int) : PyData.canLay0 (.tuple [.int r, .str "z"]) = true := can2 rfl (by decide +kernel)
theorem XV.data {K : PySem.W.Frag} {H : Hp} {v : V} (h : XV H v) : ∃ d, (∀ H', Same H H' → Dp K H' v d) ∧ PyData.canLay0 d = true ∧ PyData.depth d ≤ 1 := by
  rcases h with ⟨r, h⟩ | h | ⟨T, r, h, e⟩ | h <;> subst h
  · exact ⟨.int r, fun _ _ => .int r, rfl, Nat.zero_le _⟩
  · exact ⟨.str "word", fun _ _ => .str "word", can_word, Nat.zero_le _⟩
  · exact ⟨.tuple [.int r, .str "z"], fun H' s => .tup (.of (s _ _ e)) (.cons (.int r) (.cons (.str "z") .nil)), can_z r, Nat.le_refl _⟩
  · exact ⟨.none, fun _ _ => .non, rfl, Nat.zero_le _⟩
theorem some_at {r q : Int} {T : Addr} {j : Nat} (hj : j < 5) : ∃ v, atI [V.int r, .str "word", .ref T, .non, .int (-1)] (j : Int) = some v ∧ ∀ H : Hp, H T = some (.tup [.int q, .str "z"]) → XV H v := by
  have : j = 0 ∨ j = 1 ∨ j = 2 ∨ j = 3 ∨ j = 4 := by omega
  rcases this with h | h | h | h | h <;> subst h
  · exact ⟨_, rfl, fun _ _ => .inl ⟨_, rfl⟩⟩
  · exact ⟨_, rfl, fun _ _ => .inr (.inl rfl)⟩
  · exact ⟨_, rfl, fun _ e => .inr (.inr (.inl ⟨_, _, rfl, e⟩))⟩
  · exact ⟨_, rfl, fun _ _ => .inr (.inr (.inr rfl))⟩
  · exact ⟨_, rfl, fun _ _ => .inl ⟨_, rfl⟩⟩
theorem dec_nat (j i : Nat) : decide (V.int (j : Int) = V.int (0 + (i : Int))) = decide (j = i) := by
  rw [Bool.eq_iff_iff, decide_eq_true_iff, decide_eq_true_iff]
  constructor
  · intro h
    have h2 : (j : Int) = 0 + (i : Int) := V.int.inj h
    omega
  · intro h
    rw [h, Int.zero_add]
theorem can_fold : PyData.canLay0 (dS ["fold", "fold", "fold"]) = true := by decide +kernel
theorem sh_fold : SeqAt.shaped (dS ["fold", "fold", "fold"]) = true := by decide +kernel
section
variable {P : Program} {w : World} {K : PySem.W.Frag} {mg : Str → Option Value} {base : Heap}
variable {CF : Addr} {C fi : Nat → Addr} {di : Nat → FuncData}
abbrev N_law : List Str := ["_law_script", "_law_k", "_law_cell", "_law_well_here", "_law_some", "_law_x", "_law_y", "_law_made", "_law_j", "_law_error", "_law_i", "_law_turn"]
theorem sc_law : FnScope N_law ["_law_script"] (defScope s_law) := ⟨rfl, rfl, rfl, by decide +kernel, rfl, by decide +kernel, by decide +kernel⟩
def sp_law (K : PySem.W.Frag) : Sp := fun vs H Q _ => ∃ (a : Addr) (ns : List Int), vs = [.ref a] ∧ SqL K H a (ns.map V.int) ∧ ns.length ≤ 63 ∧ ∀ H', Q (.bl true) H'
theorem ok_law {f gW gD gK gN gP gF gT : Addr} {fd eW eD eK eN eP eF eT : FuncData} (F : Fn K mg "law" s_law ["_law_script"] f fd) (FW : Fn K mg "_law_well" s_well ["_law_cell", "_law_k"] gW eW) (FD : Fn K mg "_law_draw" s_draw ["_law_well_here", "_law_top"] gD eD)
    (FK : Fn K mg "_law_kinds" s_kinds ["_law_e"] gK eK) (FN : Fn K mg "_law_by_name" s_byname ["_law_x", "_law_y"] gN eN) (FP : Fn K mg "_law_by_place" s_byplace ["_law_x", "_law_y"] gP eP) (FF : Fn K mg "_law_fields" s_fields ["_law_some"] gF eF) (FT : Fn K mg "_law_taken" s_taken ["_law_turn", "_law_x"] gT eT)
    (B : Bn mg) (k : Kc K mg CF C fi di) (kn : PySem.W.kitOne K (.type "ValueError") (.ref CF) = some false) : FnOk P w K mg base CX0 4 f fd ["_law_script"] (sp_law K) := by
  have GW : FnOk P w K mg base CX0 1 gW eW ["_law_cell", "_law_k"] sp_well := ok_well FW B
  have GD : FnOk P w K mg base CX0 1 gD eD ["_law_well_here", "_law_top"] sp_draw := ok_draw FD
  have GK : FnOk P w K mg base CX0 1 gK eK ["_law_e"] (sp_kinds C) := ok_kinds FK B k
  have GN : FnOk P w K mg base CX0 3 gN eN ["_law_x", "_law_y"] (sp_made C) := ok_byname FN k
  have GP : FnOk P w K mg base CX0 3 gP eP ["_law_x", "_law_y"] (sp_made C) := ok_byplace FP k
  have GF : FnOk P w K mg base CX0 1 gF eF ["_law_some"] (sp_fields C) := ok_fields FF k
  have GT : FnOk P w K mg base CX0 3 gT eT ["_law_turn", "_law_x"] sp_taken := ok_taken FT B k
  refine F.F.ok sc_law (fun vs H Q E h => ?_) (fun cdv A outer s H vs Q E hr h => ?_)
  · obtain ⟨a, ns, rfl, _⟩ := h
    rfl
  · obtain ⟨a, ns, rfl, hS, hl, q⟩ := h
    have hu64 := hr.units
    have r1 : Room 1 _ := hr.mono (by decide)
    have nd := sc_law.nd
    refine ⟨_, pss_cons (ps_for PassesOwn.never rfl (pi_enum rfl B.enum (pa_cons (pe_op op_cat (pe_lst (pa_cons pe_int pa_nil)) (pe_slice sl_list (pv 0) po_none (po_some pe_int))) pa_nil))
        (pg_tup rfl (pgs_cons (pg_name (i := 1) nd rfl (Or.inl rfl)) (pgs_cons (pg_name (i := 2) nd rfl (Or.inl rfl)) pgs_nil)))
        (pss_cons (ps_set (i := 3) nd rfl (Or.inl rfl) (pe_call GW r1 rfl FW.g FW.F.kp FW.b .nil pass0 (pa_cons (pv 2) (pa_cons (pv 1) pa_nil))))
        (pss_cons (ps_set (i := 4) nd rfl (Or.inl rfl) (pe_lst (pa_cons (pe_op op_sub (pe_call GD r1 rfl FD.g FD.F.kp FD.b .nil pass0 (pa_cons (pv 3) (pa_cons (pe_op op_pow pe_int pe_int) pa_nil))) pe_int) (pa_cons pe_str (pa_cons (pe_tup (pa_cons (pe_call GD r1 rfl FD.g FD.F.kp FD.b .nil pass0 (pa_cons (pv 3) (pa_cons pe_int pa_nil))) (pa_cons pe_str pa_nil))) (pa_cons pe_non (pa_cons (pe_un un_neg pe_int) pa_nil)))))))
        (pss_cons (ps_asg (pe_tup (pa_cons (pe_ix ix_list (pv 4) (pe_call GD r1 rfl FD.g FD.F.kp FD.b .nil pass0 (pa_cons (pv 3) (pa_cons pe_int pa_nil))) (fun _ _ => rfl)) (pa_cons (pe_ix ix_list (pv 4) (pe_call GD r1 rfl FD.g FD.F.kp FD.b .nil pass0 (pa_cons (pv 3) (pa_cons pe_int pa_nil))) (fun _ _ => rfl)) pa_nil)))
            (pg_tup rfl (pgs_cons (pg_name (i := 5) nd rfl (Or.inr rfl)) (pgs_cons (pg_name (i := 6) nd rfl (Or.inl rfl)) pgs_nil))))
        (pss_cons (ps_for PassesOwn.never rfl (pi_list (pe_lst (pa_cons (pe_call GN hr rfl FN.g FN.F.kp FN.b .nil pass0 (pa_cons (pv 5) (pa_cons (pv 6) pa_nil))) (pa_cons (pe_call GP hr rfl FP.g FP.F.kp FP.b .nil pass0 (pa_cons (pv 5) (pa_cons (pv 6) pa_nil))) pa_nil)))) (pg_name (i := 7) nd rfl (Or.inl rfl))
            (pss_cons (ps_for PassesOwn.never rfl (pi_enum rfl B.enum (pa_cons (pv 7) pa_nil)) (pg_tup rfl (pgs_cons (pg_name (i := 8) nd rfl (Or.inr rfl)) (pgs_cons (pg_name (i := 9) nd rfl (Or.inl rfl)) pgs_nil)))
                (pss_cons (ps_if (pt_cmpR (op_neD hu64) (pe_call GK r1 rfl FK.g FK.F.kp FK.b .nil pass0 (pa_cons (pv 9) pa_nil))
                    (pe_lc (own := [("_law_i", 10)]) (g := gName 10) (tt := tYes) (te := tOp rEq (tVar 8) (tVar 10)) rfl nd (pi_range1 rfl B.range (pa_cons pe_int pa_nil)) (blkOk_by (N := N_law) (sc := defScope s_law) (by decide +kernel)) (fun _ _ _ _ _ => pg_name (i := 10) nd rfl (Or.inl rfl)) (fun _ _ _ _ _ => pts_nil) (fun _ _ _ _ _ => pe_cmpR op_eq (pv 8) (pv 10) (nomark _))) (nomark _)) (pss_one (ps_ret pe_bl)) pss_nil)
                (pss_one (ps_if (PW.pt (pw_or (pt_not (pt_val (pe_callB call_isO (by rfl) B.isi boot_isinstance (pa_cons (pv 9) (pa_cons (pe_glob (v := .ref CF) (by rfl) k.gF rfl) pa_nil)))))
                    (pw_or1 (pt_not (pt_val (pe_callB call_isO (by rfl) B.isi boot_isinstance (pa_cons (pv 9) (pa_cons (pe_bltn (v := .ty "ValueError") (by rfl) k.gV boot_ValueError rfl) pa_nil)))))))) (pss_one (ps_ret pe_bl)) pss_nil))))
            (pss_one (ps_if (pt_cmpR (op_neD hu64) (pe_call GF r1 rfl FF.g FF.F.kp FF.b .nil pass0 (pa_cons (pv 7) pa_nil)) (pe_lst (pa_cons (pv 5) (pa_cons (pv 5) (pa_cons (pv 5) (pa_cons (pv 5) (pa_cons (pv 6) (pa_cons (pv 5) (pa_cons (pv 5) (pa_cons (pv 5) (pa_cons (pv 5) (pa_cons (pv 5) (pa_cons (pv 5) (pa_cons (pv 5) (pa_cons (pv 5) (pa_cons (pv 5) pa_nil))))))))))))))) (nomark _)) (pss_one (ps_ret pe_bl)) pss_nil))))
        (pss_one (ps_if (pt_cmpR (op_neD hu64) (pe_lc (own := [("_law_turn", 11)]) (g := gName 11) (tt := tYes) (te := tCall sp_taken [] E0 (tCons (tVar 11) (tCons (tVar 5) tNil))) rfl nd (pi_range1 rfl B.range (pa_cons pe_int pa_nil)) (blkOk_by (N := N_law) (sc := defScope s_law) (by decide +kernel)) (fun _ _ _ _ _ => pg_name (i := 11) nd rfl (Or.inl rfl)) (fun _ _ _ _ _ => pts_nil)
            (fun _ _ _ _ _ => pe_call GT hr rfl FT.g FT.F.kp FT.b .nil pass0 (pa_cons (pv 11) (pa_cons (pv 5) pa_nil)))) (pe_op op_rep (pe_lst (pa_cons pe_str pa_nil)) pe_int) (nomark _)) (pss_one (ps_ret pe_bl)) pss_nil)))))))
      (pss_one (ps_ret (pe_not (pe_callB call_isV (by rfl) B.isi boot_isinstance (pa_cons (pe_mkB PySem.F.excCall_ValueError (by rfl) k.gV boot_ValueError (pa_cons pe_str pa_nil)) (pa_cons (pe_glob (v := .ref CF) (by rfl) k.gF rfl) pa_nil)))))), ?_⟩
    refine ⟨by decide, fun p1 n1 => ?_⟩
    have hS1 : SqL K (upd H p1 (.lst [.int 0])) a (ns.map V.int) := (Same.new n1).seq hS
    refine ⟨_, rfl, _, rfl, a, _, rfl, hS1, fun p2 n2 => ?_⟩
    obtain ⟨ms, ems, lms⟩ : ∃ ms : List Int, cutV (ns.map V.int) none (some 6) = ms.map V.int ∧ ms.length ≤ 6 := by
      refine ⟨(ns.drop (HT.sIx ns.length 0 none)).take (HT.sIx ns.length ns.length (some 6) - HT.sIx ns.length 0 none), ?_, ?_⟩
      · unfold cutV
        rw [List.length_map, List.map_take, List.map_drop]
      · rw [List.length_take, HT.sIx_none, show (some (6 : Int)) = some ((6 : Nat) : Int) from rfl, HT.sIx_nat]
        omega
    have e1 : upd (upd H p1 (.lst [.int 0])) p2 (.lst (cutV (ns.map V.int) none (some 6))) p1 = some (.lst [.int 0]) := by rw [upd_ne (ne_of_none upd_same n2)]; exact upd_same
    refine ⟨p1, p2, _, _, rfl, rfl, e1, upd_same, ?_, fun p3 n3 => ?_⟩
    · rw [ems, List.length_map]
      show 1 + _ ≤ sizeLine
      exact line100 (by omega)
    rw [ems]
    have e3 : ∀ h, upd h p3 (.lst ([V.int 0] ++ ms.map V.int)) p3 = some (.lst ((0 :: ms).map V.int)) := fun h => upd_same
    refine ⟨p3, (0 :: ms).map V.int, rfl, .of (e3 _), ?_⟩
    refine for_it (walk_enum (xs := (0 :: ms).map V.int)) (fun i σ H' => ∃ v1 v2 v3 v4 v5 v6 v7 v8 v9 : Option V, σ = [some (.ref a), v1, v2, v3, v4, v5, v6, v7, v8, v9, none, none] ∧ H' p3 = some (.lst ((0 :: ms).map V.int)))
      ⟨none, none, none, none, none, none, none, none, none, rfl, e3 _⟩ (fun i σ H1 _ ⟨_, _, _, _, _, _, _, _, _, _, e⟩ => .of e) ?_ ?_
    · rintro i x σ H1 H1' hi ⟨v1, v2, v3, v4, v5, v6, v7, v8, v9, rfl, e4⟩ ⟨T', x1, x2, rfl, nT, rfl, hx1, hx2⟩
      rw [List.length_map] at hi
      obtain rfl : V.int (i : Int) = x1 := Option.some.inj hx1
      obtain ⟨cell, rfl⟩ : ∃ c : Int, x2 = V.int c := by
        have h2 : ((0 :: ms).map V.int)[i]? = some x2 := hx2
        rw [List.getElem?_map, List.getElem?_eq_getElem hi] at h2
        exact ⟨_, (Option.some.inj h2).symm⟩
      have hi11 : i < 7 := by
        rw [List.length_cons] at hi
        omega
      have e5 : upd H1 T' (.tup [.int (i : Int), .int cell]) p3 = some (.lst ((0 :: ms).map V.int)) := by rw [upd_ne (ne_of_none e4 nT)]; exact e4
      refine ⟨T', _, rfl, .of upd_same, rfl, _, _, rfl, _, _, rfl, rfl, ?_⟩
      refine ⟨_, rfl, _, rfl, cell, (i : Int), rfl, by omega, by omega, fun H2 W s2 nW wW => ?_⟩
      have hne : p3 ≠ W := ne_of_none e5 nW
      have e6 := s2 _ _ e5
      refine ⟨_, rfl, _, _, rfl, rfl, ⟨by decide, by decide, by decide⟩, W, 100000000, 99999, rfl, by decide, by decide, wW, fun H3 r3 hr3 s3 w3 => ?_⟩
      have e7 := s3 _ _ hne e6
      refine ⟨_, _, rfl, rfl, ?_⟩
      refine ⟨_, rfl, W, 9, 99998, rfl, by decide, by decide, w3, fun H4 r4 hr4 s4 w4 => ?_⟩
      have e8 := s4 _ _ hne e7
      refine ⟨two_le, fun T nTz => ?_⟩
      have sT : Same H4 (upd H4 T (.tup [.int (r4 : Int), .str "z"])) := Same.new nTz
      have eT : upd H4 T (.tup [.int (r4 : Int), .str "z"]) T = some (.tup [.int (r4 : Int), .str "z"]) := upd_same
      have w5 := w4.new (o := .tup [.int (r4 : Int), .str "z"]) nTz
      generalize upd H4 T (.tup [.int (r4 : Int), .str "z"]) = H5 at sT eT w5 ⊢
      refine ⟨_, rfl, by show 5 ≤ sizeLine; decide, fun L nL => ?_⟩
      have s6 : Same H5 (upd H5 L (.lst [.int ((r3 : Int) - 5), .str "word", .ref T, .non, .int (-1)])) := Same.new nL
      have eL : upd H5 L (.lst [.int ((r3 : Int) - 5), .str "word", .ref T, .non, .int (-1)]) L = some (.lst [.int ((r3 : Int) - 5), .str "word", .ref T, .non, .int (-1)]) := upd_same
      have w6 := w5.new (o := .lst [.int ((r3 : Int) - 5), .str "word", .ref T, .non, .int (-1)]) nL
      have LW : L ≠ W := (w5.ne nL).symm
      have TW : T ≠ W := (w4.ne nTz).symm
      generalize upd H5 L (.lst [.int ((r3 : Int) - 5), .str "word", .ref T, .non, .int (-1)]) = H6 at s6 eL w6 ⊢
      have e9 := s6 _ _ (sT _ _ e8)
      have eT6 := s6 _ _ eT
      refine ⟨_, rfl, _, rfl, W, 5, 99997, rfl, by decide, by decide, w6, fun H7 j1 hj1 s7 w7 => ?_⟩
      obtain ⟨x, hx, X0⟩ := some_at (r := (r3 : Int) - 5) (q := (r4 : Int)) (T := T) hj1
      refine ⟨L, _, _, x, rfl, rfl, .of (s7 _ _ LW eL), hx, ?_⟩
      refine ⟨_, rfl, _, rfl, W, 5, 99996, rfl, by decide, by decide, w7, fun H8 j2 hj2 s8 w8 => ?_⟩
      obtain ⟨y, hy, Y0⟩ := some_at (r := (r3 : Int) - 5) (q := (r4 : Int)) (T := T) hj2
      refine ⟨L, _, _, y, rfl, rfl, .of (s8 _ _ LW (s7 _ _ LW eL)), hy, ?_⟩
      have eT8 := s8 _ _ TW (s7 _ _ TW eT6)
      have e10 := s8 _ _ hne (s7 _ _ hne e9)
      have X1 := X0 _ eT8
      have Y1 := Y0 _ eT8
      refine ⟨two_le, fun Z nZ => ?_⟩
      refine ⟨Z, _, rfl, .of upd_same, rfl, _, _, rfl, _, _, rfl, rfl, ?_⟩
      have sZ : Same H8 (upd H8 Z (.tup [x, y])) := Same.new nZ
      generalize upd H8 Z (.tup [x, y]) = H9 at sZ ⊢
      refine ⟨_, rfl, _, rfl, x, y, rfl, fun H10 pa ea s10 epa la hea => ?_⟩
      refine ⟨_, rfl, _, rfl, x, y, rfl, fun H11 pb eb s11 epb lb heb => ?_⟩
      refine ⟨two_le, fun M nM => ?_⟩
      have s12 : Same H11 (upd H11 M (.lst [.ref pa, .ref pb])) := Same.new nM
      have eM : upd H11 M (.lst [.ref pa, .ref pb]) M = some (.lst [.ref pa, .ref pb]) := upd_same
      generalize upd H11 M (.lst [.ref pa, .ref pb]) = H12 at s12 eM ⊢
      have e12 := s12 _ _ (s11 _ _ (s10 _ _ (sZ _ _ e10)))
      have X2 := X1.same (((sZ.trans s10).trans s11).trans s12)
      have Y2 := Y1.same (((sZ.trans s10).trans s11).trans s12)
      have two : ∀ (u : Nat) (v : V), [V.ref pa, .ref pb][u]? = some v → ∃ (pm : Addr) (es : List Addr), v = .ref pm ∧ H12 pm = some (.lst (es.map V.ref)) ∧ es.length = 17 ∧ ∀ j a, es[j]? = some a → ErrV C x y H12 a j := by
        intro u v hv
        match u, hv with
        | 0, hv => exact ⟨pa, ea, (Option.some.inj hv).symm, s12 _ _ (s11 _ _ epa), la, fun j a e => (hea j a e).same (s11.trans s12)⟩
        | 1, hv => exact ⟨pb, eb, (Option.some.inj hv).symm, s12 _ _ epb, lb, fun j a e => (heb j a e).same s12⟩
      refine ⟨M, rfl, ⟨_, .of eM⟩, ?_⟩
      refine for_it (walk_list (xs := [V.ref pa, .ref pb])) (fun u σ h => ∃ v7 v8 v9 : Option V, σ = [some (.ref a), some (.int (i : Int)), some (.int cell), some (.ref W), some (.ref L), some x, some y, v7, v8, v9, none, none] ∧ Same H12 h)
        ⟨_, _, _, rfl, fun _ _ e => e⟩ (fun u σ h _ ⟨_, _, _, _, s⟩ => .of (s _ _ eM)) ?_ ?_
      · rintro u v σ h h' hu ⟨v7, v8, v9, rfl, s13⟩ ⟨rfl, hv⟩
        obtain ⟨pm, es, rfl, epm, les, he⟩ := two u v hv
        refine ⟨_, rfl, pm, es.map V.ref, rfl, .of (s13 _ _ epm), ?_⟩
        refine for_it (walk_enum (xs := es.map V.ref)) (fun j σ h => ∃ v8 v9 : Option V, σ = [some (.ref a), some (.int (i : Int)), some (.int cell), some (.ref W), some (.ref L), some x, some y, some (.ref pm), v8, v9, none, none] ∧ Same H12 h)
          ⟨_, _, rfl, s13⟩ (fun j σ h _ ⟨_, _, _, s⟩ => .of (s _ _ epm)) ?_ ?_
        · rintro j z σ h h' hj ⟨v8, v9, rfl, s14⟩ ⟨T2, z1, z2, rfl, nT2, rfl, hz1, hz2⟩
          rw [List.length_map, les] at hj
          obtain rfl : V.int (j : Int) = z1 := Option.some.inj hz1
          obtain ⟨b, hb, rfl⟩ : ∃ b : Addr, es[j]? = some b ∧ z2 = V.ref b := by
            have h2 : (es.map V.ref)[j]? = some z2 := hz2
            rw [List.getElem?_map, List.getElem?_eq_getElem (by rw [les]; exact hj)] at h2
            exact ⟨_, List.getElem?_eq_getElem _, (Option.some.inj h2).symm⟩
          have s15 : Same H12 (upd h T2 (.tup [.int (j : Int), .ref b])) := s14.trans (Same.new nT2)
          refine ⟨T2, _, rfl, .of upd_same, rfl, _, _, rfl, _, _, rfl, rfl, ?_⟩
          generalize upd h T2 (.tup [.int (j : Int), .ref b]) = H15 at s15 ⊢
          refine ⟨_, rfl, x, y, b, j, rfl, hj, (he j b hb).same s15, fun H16 pk s16 ek => ?_⟩
          refine ⟨17, rfl, by decide, by decide, fun D nD => ?_⟩
          refine lc_it (walk_range (lo := 0) (n := (17 : Int).toNat)) (fun i h => h D = some (.lst (((List.range i).map fun i => decide (j = i)).map V.bl)) ∧ Same H16 h)
            ⟨upd_same, Same.new nD⟩ (fun _ _ _ _ => trivial) ?_ ?_
          · rintro i z h h' hi ⟨eD, sD⟩ ⟨rfl, rfl⟩
            refine ⟨rfl, _, rfl, _, rfl, rfl, _, eD, ?_, ?_, Same.mut sD nD⟩
            · rw [List.length_map, List.length_map, List.length_range]
              exact Nat.lt_trans hi (by decide)
            · rw [upd_same, List.range_succ, List.map_append, List.map_append, dec_nat]
              rfl
          · rintro h ⟨eD, sD⟩
            have cb : PyData.canLay0 (.list ((marks j).map PyData.bool)) = true := by
              have h := bool_data (marks j)
              unfold SeqAt.shaped at h
              exact (Bool.and_eq_true_iff.mp h).1
            refine ⟨_, _, Dp_bools (sD _ _ ek), Dp_bools (bs := marks j) eD, bool_data _, bool_data _, _, rfl, ?_⟩
            rw [eqv_same cb rfl]
            have s17 := (s15.trans s16).trans sD
            obtain ⟨d, h1, h2, _⟩ := (he j b hb).same s17
            refine ⟨_, rfl, b, C j, d, _, _, _, rfl, h1, h2, k.xc j hj, .own _, k.kF j hj, true, rfl, ?_⟩
            refine ⟨_, rfl, b, C j, d, _, _, _, rfl, h1, h2, k.xc j hj, .ty "ValueError", k.kV j hj, true, rfl, ?_⟩
            exact ⟨_, _, rfl, s17⟩
        · rintro σ h ⟨v8, v9, rfl, s14⟩
          refine ⟨_, rfl, x, y, pm, es, rfl, s14 _ _ epm, les, fun j a e => (he j a e).same s14, fun H18 pf s18 ef => ?_⟩
          refine ⟨_, rfl, _, rfl, _, rfl, _, rfl, _, rfl, _, rfl, _, rfl, _, rfl, _, rfl, _, rfl, _, rfl, _, rfl, _, rfl, _, rfl, by show 14 ≤ sizeLine; decide, fun pl npl => ?_⟩
          obtain ⟨dx, Dx, cx, px⟩ := X2.data (K := K)
          obtain ⟨dy, Dy, cy, py⟩ := Y2.data (K := K)
          have sA := (s14.trans s18).trans (Same.new (o := .lst [x, x, x, x, y, x, x, x, x, x, x, x, x, x]) npl)
          have x1 := Dx _ sA
          have y1 := Dy _ sA
          have cl : PyData.canLay0 (.list [dx, dx, dx, dx, dy, dx, dx, dx, dx, dx, dx, dx, dx, dx]) = true := canL fun z hz => by
            simp only [List.mem_cons, List.not_mem_nil, or_false, or_self] at hz
            rcases hz with e | e | e | e | e | e <;> first | (rw [e]; first | exact cx | exact cy) | skip
          have dl : PyData.depth (.list [dx, dx, dx, dx, dy, dx, dx, dx, dx, dx, dx, dx, dx, dx]) ≤ 1 + 1 := depL fun z hz => by
            simp only [List.mem_cons, List.not_mem_nil, or_false, or_self] at hz
            rcases hz with e | e | e | e | e | e <;> first | (rw [e]; first | exact px | exact py) | skip
          have sh := shaped_of cl (Nat.le_trans dl (by decide))
          have al : DpAll K _ [x, x, x, x, y, x, x, x, x, x, x, x, x, x] [dx, dx, dx, dx, dy, dx, dx, dx, dx, dx, dx, dx, dx, dx] := .cons x1 (.cons x1 (.cons x1 (.cons x1 (.cons y1 (.cons x1 (.cons x1 (.cons x1 (.cons x1 (.cons x1 (.cons x1 (.cons x1 (.cons x1 (.cons x1 .nil)))))))))))))
          refine ⟨_, _, .lst (.of ((Same.new npl) _ _ ef)) al, .lst (.of upd_same) al, sh, sh, _, rfl, ?_⟩
          rw [eqv_same cl rfl]
          exact ⟨_, _, _, rfl, sA⟩
      · rintro σ h ⟨v7, v8, v9, rfl, s13⟩
        refine ⟨3, rfl, by decide, by decide, fun D nD => ?_⟩
        refine lc_it (walk_range (lo := 0) (n := (3 : Int).toNat)) (fun i h' => h' D = some (.lst ((List.replicate i ("fold" : Str)).map V.str)) ∧ Same h h')
          ⟨upd_same, Same.new nD⟩ (fun _ _ _ _ => trivial) ?_ ?_
        · rintro i z h1 h' hi ⟨eD, sD⟩ ⟨rfl, rfl⟩
          have hi3 : i < 3 := hi
          refine ⟨rfl, _, rfl, _, rfl, i, x, by show [V.int (0 + (i : Int)), x] = [V.int (i : Int), x]; rw [Int.zero_add], hi3, fun h3 s3 => ?_⟩
          refine ⟨_, s3 _ _ eD, ?_, ?_, Same.mut (Same.trans sD s3) nD⟩
          · rw [List.length_map, List.length_replicate]
            exact Nat.lt_trans hi3 (by decide)
          · rw [upd_same, List.replicate_succ', List.map_append]
            rfl
        · rintro h1 ⟨eD, sD⟩
          refine ⟨by show 1 ≤ sizeLine; decide, fun l nl => ?_⟩
          refine ⟨l, 3, _, rfl, rfl, upd_same, by decide, by decide, by show 1 * 3 ≤ sizeLine; decide, fun q' nq => ?_⟩
          have sB := (Same.new (o := .lst [.str "fold"]) nl).trans (Same.new (o := .lst (List.replicate (3 : Int).toNat [V.str "fold"]).flatten) nq)
          refine ⟨_, _, DpS (ns := ["fold", "fold", "fold"]) (sB _ _ eD), DpS (ns := ["fold", "fold", "fold"]) upd_same, sh_fold, sh_fold, _, rfl, ?_⟩
          rw [eqv_same can_fold rfl]
          exact ⟨_, _, _, _, _, _, _, _, _, rfl, sB _ _ (sD _ _ (s13 _ _ e12))⟩
    · rintro σ H1 ⟨v1, v2, v3, v4, v5, v6, v7, v8, v9, rfl, e4⟩
      refine ⟨by show 1 ≤ sizeLine; decide, fun a na => ?_⟩
      exact ⟨a, .ref CF, _, false, rfl, upd_same, .own _, kn, false, rfl, q _⟩
end
end T08

set_option maxHeartbeats 1000000
/-! Rules of our own: a method that may raise what the caller's slots say; a method called by names alone. -/
namespace TK
open PySem L2 PyProof.Rows
section
variable {X : Cx} {CX : CXT} {k : Nat} {f C : Addr} {fd : FuncData} {ps : List Str} {sp : Sp} {m : Str} {pos apos : Pos} {o : Expr} {ta : TE} {pl : Sem Bool}
def tMethE (C : Addr) (m : Str) (sp : Sp) (E : L2.St → XK) (ta : TE) (t : TA) : TE := fun σ H Q => ta σ H fun x H1 => ∃ (a dx : Addr) (fs : List (Str × V)), x = .ref a ∧ H1 a = some (.ins C dx fs) ∧ fs.lookup m = none ∧ t σ H1 fun vs H2 => sp (x :: vs) H2 Q (E σ)
theorem pe_methE {E : L2.St → XK} {e : Expr} {es : List Expr} {t : TA} (he : PE X o ta) (c : Cls X.K C) (hm : Meth X.K C m f) (F : FnOk X.prog X.w X.K X.mg X.base CX k f fd ps sp) (hr : Room k X.A) (hb : Binds X.K fd ps []) (hx : ∀ σ, PassesAt CX X σ (E σ)) (ha : PA X (e :: es) t)
    (hst : starEach (e :: es) X.env = (false, eval e X.env) :: starEach es X.env := by rfl) (hpl : (backTo pos (starEach es X.env)).any (·.1) = false := by rfl)
    (ht : eval (.Call (.Attribute o m apos) (e :: es) [] pos) X.env = (do
      let ov ← eval o X.env
      standAt apos.atName
      let (f, first) ← holding [ov] (getMethod ov m pl)
      callWith pos f first (backTo pos (starEach (e :: es) X.env)) (backToKw pos (keywordEach [] X.env))) := by rfl) : PE X (.Call (.Attribute o m apos) (e :: es) [] pos) (tMethE C m sp E ta t) := by
  refine ⟨fun pins s σ H Q I h => PySem.W.methodCall_KW (thn (he.run pins s σ H _ I h) fun u s1 x => ?_) ht⟩
  obtain ⟨x, H1, I1, rx, a, dx, fs, rfl, ea, l, q⟩ := x
  cases (show u = Value.ref a from rx)
  refine getmeth_ok I1 ea c hm l (PySem.W.callWith_K (h₀ := X.base) I.ok.mod.kin hm.kp (thn (ha.run pos pins s1 σ H1 _ I1 q) fun us s2 x => ?_) hst hpl)
  obtain ⟨vs, H2, I2, r, q2⟩ := x
  exact ⟨I2.kIn, run_fnS F hr hb (hx σ) I2 (.cons (show RelV (V.ref a) (Value.ref a) from rfl) r) q2⟩
def tMethK0 (C : Addr) (m : Str) (n : Nat) (sp : Sp) (gV : List V → List V → List V) (E : XK) (ta : TE) (tk : TA) : TE := fun σ H Q => ta σ H fun x H1 => ∃ (a dx : Addr) (fs : List (Str × V)), x = .ref a ∧ H1 a = some (.ins C dx fs) ∧ fs.lookup m = none ∧ tk σ H1 fun zs H2 => zs.length = n ∧ sp (gV [x] zs) H2 Q E
theorem pe_methK0 {E : XK} {kws : List Keyword} {ks : List Str} {tk : TA} {g : List Value → List Value → List Value} {gV : List V → List V → List V} (he : PE X o ta) (c : Cls X.K C) (hm : Meth X.K C m f) (F : FnOk X.prog X.w X.K X.mg X.base CX k f fd ps sp) (hr : Room k X.A) (hb : KBn X.K fd ps 1 ks g gV) (hx : Passes CX X E) (hkw : PK X kws tk)
    (hall : ((backToKw pos (keywordEach kws X.env)).all (·.1.isSome)) = true := by rfl) (hks : (backToKw pos (keywordEach kws X.env)).filterMap (·.1) = ks := by rfl)
    (hpl : (((backTo pos (starEach [] X.env)).any (·.1)) || (backToKw pos (keywordEach kws X.env)).any (·.1.isNone)) = false := by rfl)
    (ht : eval (.Call (.Attribute o m apos) [] kws pos) X.env = (do
      let ov ← eval o X.env
      standAt apos.atName
      let (f, first) ← holding [ov] (getMethod ov m pl)
      callWith pos f first (backTo pos (starEach [] X.env)) (backToKw pos (keywordEach kws X.env))) := by rfl) : PE X (.Call (.Attribute o m apos) [] kws pos) (tMethK0 C m ks.length sp gV E ta tk) := by
  refine ⟨fun pins s σ H Q I h => PySem.W.methodCall_KW (thn (he.run pins s σ H _ I h) fun u s1 x => ?_) ht⟩
  obtain ⟨x, H1, I1, rx, a, dx, fs, rfl, ea, l, q⟩ := x
  cases (show u = Value.ref a from rx)
  refine getmeth_ok I1 ea c hm l (PySem.W.callWith_KW0 I.ok.mod.kin hm.kp hall ?_ hpl)
  refine thn (hkw.run pos pins s1 σ H1 _ I1 q) fun ws s2 x => ?_
  obtain ⟨zs, H2, I2, rz, l2, q2⟩ := x
  refine ⟨I2.kIn, ?_⟩
  rw [hks]
  exact run_fnN F hr hb hx I2 (.cons (show RelV (V.ref a) (Value.ref a) from rfl) .nil) rz rfl l2 q2
theorem kbn1 {K : PySem.W.Frag} {x qual : Str} {st : Stmt} {f : Addr} {fd : FuncData} {ps ks : List Str} (F : Fun K x qual st f fd) (g : {α : Type} → List α → List α → List α) (hrel : ∀ {vs : List V} {us : List Value} {zs : List V} {ws : List Value}, Vals vs us → Vals zs ws → Vals (g vs zs) (g us ws)) (n : Nat)
    (h : ∀ (kV doc pm : Value) (an : Option Addr) (cdv ct : Value) (us ws : List Value), us.length = n → ws.length = ks.length → bindArgs (PySem.W.fnOf x qual (defArgs st) (defBody st) (defScope st) .none kV doc pm an cdv ct) { pos := us, kw := ks.zip ws } = pure (ps.zip (g us ws))) :
    KBn K fd ps n ks (fun us ws => g us ws) (fun vs zs => g vs zs) := by
  obtain ⟨oc, od, kV, doc, pm, an, cdv, ct, osl, rfl, lk, hcd⟩ := F.ex
  exact ⟨fun s us ws hK hu hw => .of_eq (h kV doc pm an cdv ct us ws hu hw), fun r1 r2 => hrel r1 r2⟩
end
end TK

set_option maxHeartbeats 4000000
namespace T08
open PySem L2 PyProof.Rows TX TY TW TD TE TK TO
theorem vals_and {a b : List V} {c d : List Value} (h : Vals a c) (k : Vals b d) : Vals (a ++ b) (c ++ d) := by
  induction h with
  | nil => exact k
  | cons r _ ih => exact .cons r ih
theorem getD_mem {α : Type} {l : List α} {d : α} {n j : Nat} (hl : l.length = n := by rfl) (h : j < n) : l.getD j d ∈ l := by
  have hj : j < l.length := by rw [hl]; exact h
  rw [List.getD_eq_getElem?_getD, List.getElem?_eq_getElem hj]
  exact List.getElem_mem hj
def kitAll (K : PySem.W.Frag) (cs : List Addr) : Bool := (List.range 17).all fun j => (List.range 17).all fun i => PySem.W.kitOne K (.ref (cs.getD j 0)) (.ref (cs.getD i 0)) == some (decide (j = i))
theorem kit_all {K : PySem.W.Frag} {cs : List Addr} (h : kitAll K cs = true) {j i : Nat} (hj : j < 17) (hi : i < 17) : PySem.W.kitOne K (.ref (cs.getD j 0)) (.ref (cs.getD i 0)) = some (decide (j = i)) := by
  unfold kitAll at h
  exact beq_iff_eq.mp (List.all_eq_true.mp (List.all_eq_true.mp h j (List.mem_range.mpr hj)) i (List.mem_range.mpr hi))
theorem kit_one {K : PySem.W.Frag} {cs : List Addr} {C : Addr} {n j : Nat} (h : cs.all (fun c => PySem.W.kitOne K (.ref c) (.ref C) == some true) = true) (hl : cs.length = n := by rfl) (hj : j < n) : PySem.W.kitOne K (.ref (cs.getD j 0)) (.ref C) = some true :=
  beq_iff_eq.mp (List.all_eq_true.mp h _ (getD_mem hl hj))
theorem kit_oneV {K : PySem.W.Frag} {cs : List Addr} {T : String} {n j : Nat} (h : cs.all (fun c => PySem.W.kitOne K (.ref c) (.type T) == some true) = true) (hl : cs.length = n := by rfl) (hj : j < n) : PySem.W.kitOne K (.ref (cs.getD j 0)) (.type T) = some true :=
  beq_iff_eq.mp (List.all_eq_true.mp h _ (getD_mem hl hj))
theorem all_mk {l : PySem.W.OpenLaw} {w : World} {K : PySem.W.Frag} {h : Heap} {mg : Str → Option Value} {fa f__law_well f__law_draw f__law_kinds f__law_by_name f__law_by_place f__law_fields f__law_taken f_law c_FoldError c_NoColumns c_NoRow c_NoTree c_NoColumn c_NoFit c_NoFold c_NoBunch c_NoPaper c_TooMany c_NoPlace c_NoStretch c_NoCosts c_NoName c_NoTurn c_NothingDone c_NoText c_NoLine f_NoRow___init__ f_NoTree___init__ f_NoColumn___init__ f_NoFit___init__ f_NoFold___init__ f_NoBunch___init__ f_NoPaper___init__ f_TooMany___init__ f_NoPlace___init__ f_NoName___init__ f_NoTurn___init__ f_NoText___init__ f_NoLine___init__ : Addr} (X : K.In h) (G : h.Ns mainGlobals mg) (hfa : mg "law" = some (.ref fa))
    {od1 an1 : Option Addr} {sl1 : Array (Option Value)} {oc1 kV1 dc1 pm1 cd1 ct1 : Value}
    {od2 an2 : Option Addr} {sl2 : Array (Option Value)} {oc2 kV2 dc2 pm2 cd2 ct2 : Value}
    {od3 an3 : Option Addr} {sl3 : Array (Option Value)} {oc3 kV3 dc3 pm3 cd3 ct3 : Value}
    {od4 an4 : Option Addr} {sl4 : Array (Option Value)} {oc4 kV4 dc4 pm4 cd4 ct4 : Value}
    {od5 an5 : Option Addr} {sl5 : Array (Option Value)} {oc5 kV5 dc5 pm5 cd5 ct5 : Value}
    {od6 an6 : Option Addr} {sl6 : Array (Option Value)} {oc6 kV6 dc6 pm6 cd6 ct6 : Value}
    {od7 an7 : Option Addr} {sl7 : Array (Option Value)} {oc7 kV7 dc7 pm7 cd7 ct7 : Value}
    {od8 an8 : Option Addr} {sl8 : Array (Option Value)} {oc8 kV8 dc8 pm8 cd8 ct8 : Value}
    {od9 an9 : Option Addr} {sl9 : Array (Option Value)} {oc9 kV9 dc9 pm9 cd9 ct9 : Value}
    {od10 an10 : Option Addr} {sl10 : Array (Option Value)} {oc10 kV10 dc10 pm10 cd10 ct10 : Value}
    {od11 an11 : Option Addr} {sl11 : Array (Option Value)} {oc11 kV11 dc11 pm11 cd11 ct11 : Value}
    {od12 an12 : Option Addr} {sl12 : Array (Option Value)} {oc12 kV12 dc12 pm12 cd12 ct12 : Value}
    {od13 an13 : Option Addr} {sl13 : Array (Option Value)} {oc13 kV13 dc13 pm13 cd13 ct13 : Value}
    {od14 an14 : Option Addr} {sl14 : Array (Option Value)} {oc14 kV14 dc14 pm14 cd14 ct14 : Value}
    {od15 an15 : Option Addr} {sl15 : Array (Option Value)} {oc15 kV15 dc15 pm15 cd15 ct15 : Value}
    {od16 an16 : Option Addr} {sl16 : Array (Option Value)} {oc16 kV16 dc16 pm16 cd16 ct16 : Value}
    {od17 an17 : Option Addr} {sl17 : Array (Option Value)} {oc17 kV17 dc17 pm17 cd17 ct17 : Value}
    {od18 an18 : Option Addr} {sl18 : Array (Option Value)} {oc18 kV18 dc18 pm18 cd18 ct18 : Value}
    {od19 an19 : Option Addr} {sl19 : Array (Option Value)} {oc19 kV19 dc19 pm19 cd19 ct19 : Value}
    {od20 an20 : Option Addr} {sl20 : Array (Option Value)} {oc20 kV20 dc20 pm20 cd20 ct20 : Value}
    {od21 an21 : Option Addr} {sl21 : Array (Option Value)} {oc21 kV21 dc21 pm21 cd21 ct21 : Value}
    (a__law_well : PySem.W.nsIn K mainGlobals "_law_well" = some (some (.ref f__law_well)))
    (l__law_well : K.lookup f__law_well = some ⟨oc1, od1, .func (PySem.W.fnOf "_law_well" "_law_well" (defArgs s_well) (defBody s_well) (defScope s_well) .none kV1 dc1 pm1 an1 cd1 ct1), sl1⟩)
    (o__law_well : PySem.W.codeIn K cd1 "_law_well" = true)
    (k__law_well : PySem.W.keepIn K (.ref f__law_well) = true)
    (a__law_draw : PySem.W.nsIn K mainGlobals "_law_draw" = some (some (.ref f__law_draw)))
    (l__law_draw : K.lookup f__law_draw = some ⟨oc2, od2, .func (PySem.W.fnOf "_law_draw" "_law_draw" (defArgs s_draw) (defBody s_draw) (defScope s_draw) .none kV2 dc2 pm2 an2 cd2 ct2), sl2⟩)
    (o__law_draw : PySem.W.codeIn K cd2 "_law_draw" = true)
    (k__law_draw : PySem.W.keepIn K (.ref f__law_draw) = true)
    (a__law_kinds : PySem.W.nsIn K mainGlobals "_law_kinds" = some (some (.ref f__law_kinds)))
    (l__law_kinds : K.lookup f__law_kinds = some ⟨oc3, od3, .func (PySem.W.fnOf "_law_kinds" "_law_kinds" (defArgs s_kinds) (defBody s_kinds) (defScope s_kinds) .none kV3 dc3 pm3 an3 cd3 ct3), sl3⟩)
    (o__law_kinds : PySem.W.codeIn K cd3 "_law_kinds" = true)
    (k__law_kinds : PySem.W.keepIn K (.ref f__law_kinds) = true)
    (a__law_by_name : PySem.W.nsIn K mainGlobals "_law_by_name" = some (some (.ref f__law_by_name)))
    (l__law_by_name : K.lookup f__law_by_name = some ⟨oc4, od4, .func (PySem.W.fnOf "_law_by_name" "_law_by_name" (defArgs s_byname) (defBody s_byname) (defScope s_byname) .none kV4 dc4 pm4 an4 cd4 ct4), sl4⟩)
    (o__law_by_name : PySem.W.codeIn K cd4 "_law_by_name" = true)
    (k__law_by_name : PySem.W.keepIn K (.ref f__law_by_name) = true)
    (a__law_by_place : PySem.W.nsIn K mainGlobals "_law_by_place" = some (some (.ref f__law_by_place)))
    (l__law_by_place : K.lookup f__law_by_place = some ⟨oc5, od5, .func (PySem.W.fnOf "_law_by_place" "_law_by_place" (defArgs s_byplace) (defBody s_byplace) (defScope s_byplace) .none kV5 dc5 pm5 an5 cd5 ct5), sl5⟩)
    (o__law_by_place : PySem.W.codeIn K cd5 "_law_by_place" = true)
    (k__law_by_place : PySem.W.keepIn K (.ref f__law_by_place) = true)
    (a__law_fields : PySem.W.nsIn K mainGlobals "_law_fields" = some (some (.ref f__law_fields)))
    (l__law_fields : K.lookup f__law_fields = some ⟨oc6, od6, .func (PySem.W.fnOf "_law_fields" "_law_fields" (defArgs s_fields) (defBody s_fields) (defScope s_fields) .none kV6 dc6 pm6 an6 cd6 ct6), sl6⟩)
    (o__law_fields : PySem.W.codeIn K cd6 "_law_fields" = true)
    (k__law_fields : PySem.W.keepIn K (.ref f__law_fields) = true)
    (a__law_taken : PySem.W.nsIn K mainGlobals "_law_taken" = some (some (.ref f__law_taken)))
    (l__law_taken : K.lookup f__law_taken = some ⟨oc7, od7, .func (PySem.W.fnOf "_law_taken" "_law_taken" (defArgs s_taken) (defBody s_taken) (defScope s_taken) .none kV7 dc7 pm7 an7 cd7 ct7), sl7⟩)
    (o__law_taken : PySem.W.codeIn K cd7 "_law_taken" = true)
    (k__law_taken : PySem.W.keepIn K (.ref f__law_taken) = true)
    (a_law : PySem.W.nsIn K mainGlobals "law" = some (some (.ref f_law)))
    (l_law : K.lookup f_law = some ⟨oc8, od8, .func (PySem.W.fnOf "law" "law" (defArgs s_law) (defBody s_law) (defScope s_law) .none kV8 dc8 pm8 an8 cd8 ct8), sl8⟩)
    (o_law : PySem.W.codeIn K cd8 "law" = true)
    (k_law : PySem.W.keepIn K (.ref f_law) = true)
    (hn : PySem.W.specialIn K (.builtin "object.__class__") "__get__" = some (some (.builtin "getset_descriptor.__get__")))
    (ht : PySem.W.takesIn K (.builtin "object.__class__") = some true)
    (a_FoldError : PySem.W.nsIn K mainGlobals "FoldError" = some (some (.ref c_FoldError)))
    (a_NoColumns : PySem.W.nsIn K mainGlobals "NoColumns" = some (some (.ref c_NoColumns)))
    (a_NoRow : PySem.W.nsIn K mainGlobals "NoRow" = some (some (.ref c_NoRow)))
    (a_NoTree : PySem.W.nsIn K mainGlobals "NoTree" = some (some (.ref c_NoTree)))
    (a_NoColumn : PySem.W.nsIn K mainGlobals "NoColumn" = some (some (.ref c_NoColumn)))
    (a_NoFit : PySem.W.nsIn K mainGlobals "NoFit" = some (some (.ref c_NoFit)))
    (a_NoFold : PySem.W.nsIn K mainGlobals "NoFold" = some (some (.ref c_NoFold)))
    (a_NoBunch : PySem.W.nsIn K mainGlobals "NoBunch" = some (some (.ref c_NoBunch)))
    (a_NoPaper : PySem.W.nsIn K mainGlobals "NoPaper" = some (some (.ref c_NoPaper)))
    (a_TooMany : PySem.W.nsIn K mainGlobals "TooMany" = some (some (.ref c_TooMany)))
    (a_NoPlace : PySem.W.nsIn K mainGlobals "NoPlace" = some (some (.ref c_NoPlace)))
    (a_NoStretch : PySem.W.nsIn K mainGlobals "NoStretch" = some (some (.ref c_NoStretch)))
    (a_NoCosts : PySem.W.nsIn K mainGlobals "NoCosts" = some (some (.ref c_NoCosts)))
    (a_NoName : PySem.W.nsIn K mainGlobals "NoName" = some (some (.ref c_NoName)))
    (a_NoTurn : PySem.W.nsIn K mainGlobals "NoTurn" = some (some (.ref c_NoTurn)))
    (a_NothingDone : PySem.W.nsIn K mainGlobals "NothingDone" = some (some (.ref c_NothingDone)))
    (a_NoText : PySem.W.nsIn K mainGlobals "NoText" = some (some (.ref c_NoText)))
    (a_NoLine : PySem.W.nsIn K mainGlobals "NoLine" = some (some (.ref c_NoLine)))
    (a_NoRow___init__ : PySem.W.findIn K (.ref c_NoRow) "__init__" = some (some (.ref f_NoRow___init__)))
    (l_NoRow___init__ : K.lookup f_NoRow___init__ = some ⟨oc9, od9, .func (PySem.W.fnOf "__init__" "NoRow.__init__" (defArgs s_i1) (defBody s_i1) (defScope s_i1) .none kV9 dc9 pm9 an9 cd9 ct9), sl9⟩)
    (o_NoRow___init__ : PySem.W.codeIn K cd9 "NoRow.__init__" = true)
    (k_NoRow___init__ : PySem.W.keepIn K (.ref f_NoRow___init__) = true)
    (y_NoRow___init__ : PySem.W.typeIn K (.ref f_NoRow___init__) = some (.type "function"))
    (a_NoTree___init__ : PySem.W.findIn K (.ref c_NoTree) "__init__" = some (some (.ref f_NoTree___init__)))
    (l_NoTree___init__ : K.lookup f_NoTree___init__ = some ⟨oc10, od10, .func (PySem.W.fnOf "__init__" "NoTree.__init__" (defArgs s_i2) (defBody s_i2) (defScope s_i2) .none kV10 dc10 pm10 an10 cd10 ct10), sl10⟩)
    (o_NoTree___init__ : PySem.W.codeIn K cd10 "NoTree.__init__" = true)
    (k_NoTree___init__ : PySem.W.keepIn K (.ref f_NoTree___init__) = true)
    (y_NoTree___init__ : PySem.W.typeIn K (.ref f_NoTree___init__) = some (.type "function"))
    (a_NoColumn___init__ : PySem.W.findIn K (.ref c_NoColumn) "__init__" = some (some (.ref f_NoColumn___init__)))
    (l_NoColumn___init__ : K.lookup f_NoColumn___init__ = some ⟨oc11, od11, .func (PySem.W.fnOf "__init__" "NoColumn.__init__" (defArgs s_i3) (defBody s_i3) (defScope s_i3) .none kV11 dc11 pm11 an11 cd11 ct11), sl11⟩)
    (o_NoColumn___init__ : PySem.W.codeIn K cd11 "NoColumn.__init__" = true)
    (k_NoColumn___init__ : PySem.W.keepIn K (.ref f_NoColumn___init__) = true)
    (y_NoColumn___init__ : PySem.W.typeIn K (.ref f_NoColumn___init__) = some (.type "function"))
    (a_NoFit___init__ : PySem.W.findIn K (.ref c_NoFit) "__init__" = some (some (.ref f_NoFit___init__)))
    (l_NoFit___init__ : K.lookup f_NoFit___init__ = some ⟨oc12, od12, .func (PySem.W.fnOf "__init__" "NoFit.__init__" (defArgs s_i4) (defBody s_i4) (defScope s_i4) .none kV12 dc12 pm12 an12 cd12 ct12), sl12⟩)
    (o_NoFit___init__ : PySem.W.codeIn K cd12 "NoFit.__init__" = true)
    (k_NoFit___init__ : PySem.W.keepIn K (.ref f_NoFit___init__) = true)
    (y_NoFit___init__ : PySem.W.typeIn K (.ref f_NoFit___init__) = some (.type "function"))
    (a_NoFold___init__ : PySem.W.findIn K (.ref c_NoFold) "__init__" = some (some (.ref f_NoFold___init__)))
    (l_NoFold___init__ : K.lookup f_NoFold___init__ = some ⟨oc13, od13, .func (PySem.W.fnOf "__init__" "NoFold.__init__" (defArgs s_i5) (defBody s_i5) (defScope s_i5) .none kV13 dc13 pm13 an13 cd13 ct13), sl13⟩)
    (o_NoFold___init__ : PySem.W.codeIn K cd13 "NoFold.__init__" = true)
    (k_NoFold___init__ : PySem.W.keepIn K (.ref f_NoFold___init__) = true)
    (y_NoFold___init__ : PySem.W.typeIn K (.ref f_NoFold___init__) = some (.type "function"))
    (a_NoBunch___init__ : PySem.W.findIn K (.ref c_NoBunch) "__init__" = some (some (.ref f_NoBunch___init__)))
    (l_NoBunch___init__ : K.lookup f_NoBunch___init__ = some ⟨oc14, od14, .func (PySem.W.fnOf "__init__" "NoBunch.__init__" (defArgs s_i6) (defBody s_i6) (defScope s_i6) .none kV14 dc14 pm14 an14 cd14 ct14), sl14⟩)
    (o_NoBunch___init__ : PySem.W.codeIn K cd14 "NoBunch.__init__" = true)
    (k_NoBunch___init__ : PySem.W.keepIn K (.ref f_NoBunch___init__) = true)
    (y_NoBunch___init__ : PySem.W.typeIn K (.ref f_NoBunch___init__) = some (.type "function"))
    (a_NoPaper___init__ : PySem.W.findIn K (.ref c_NoPaper) "__init__" = some (some (.ref f_NoPaper___init__)))
    (l_NoPaper___init__ : K.lookup f_NoPaper___init__ = some ⟨oc15, od15, .func (PySem.W.fnOf "__init__" "NoPaper.__init__" (defArgs s_i7) (defBody s_i7) (defScope s_i7) .none kV15 dc15 pm15 an15 cd15 ct15), sl15⟩)
    (o_NoPaper___init__ : PySem.W.codeIn K cd15 "NoPaper.__init__" = true)
    (k_NoPaper___init__ : PySem.W.keepIn K (.ref f_NoPaper___init__) = true)
    (y_NoPaper___init__ : PySem.W.typeIn K (.ref f_NoPaper___init__) = some (.type "function"))
    (a_TooMany___init__ : PySem.W.findIn K (.ref c_TooMany) "__init__" = some (some (.ref f_TooMany___init__)))
    (l_TooMany___init__ : K.lookup f_TooMany___init__ = some ⟨oc16, od16, .func (PySem.W.fnOf "__init__" "TooMany.__init__" (defArgs s_i8) (defBody s_i8) (defScope s_i8) .none kV16 dc16 pm16 an16 cd16 ct16), sl16⟩)
    (o_TooMany___init__ : PySem.W.codeIn K cd16 "TooMany.__init__" = true)
    (k_TooMany___init__ : PySem.W.keepIn K (.ref f_TooMany___init__) = true)
    (y_TooMany___init__ : PySem.W.typeIn K (.ref f_TooMany___init__) = some (.type "function"))
    (a_NoPlace___init__ : PySem.W.findIn K (.ref c_NoPlace) "__init__" = some (some (.ref f_NoPlace___init__)))
    (l_NoPlace___init__ : K.lookup f_NoPlace___init__ = some ⟨oc17, od17, .func (PySem.W.fnOf "__init__" "NoPlace.__init__" (defArgs s_i9) (defBody s_i9) (defScope s_i9) .none kV17 dc17 pm17 an17 cd17 ct17), sl17⟩)
    (o_NoPlace___init__ : PySem.W.codeIn K cd17 "NoPlace.__init__" = true)
    (k_NoPlace___init__ : PySem.W.keepIn K (.ref f_NoPlace___init__) = true)
    (y_NoPlace___init__ : PySem.W.typeIn K (.ref f_NoPlace___init__) = some (.type "function"))
    (a_NoName___init__ : PySem.W.findIn K (.ref c_NoName) "__init__" = some (some (.ref f_NoName___init__)))
    (l_NoName___init__ : K.lookup f_NoName___init__ = some ⟨oc18, od18, .func (PySem.W.fnOf "__init__" "NoName.__init__" (defArgs s_i12) (defBody s_i12) (defScope s_i12) .none kV18 dc18 pm18 an18 cd18 ct18), sl18⟩)
    (o_NoName___init__ : PySem.W.codeIn K cd18 "NoName.__init__" = true)
    (k_NoName___init__ : PySem.W.keepIn K (.ref f_NoName___init__) = true)
    (y_NoName___init__ : PySem.W.typeIn K (.ref f_NoName___init__) = some (.type "function"))
    (a_NoTurn___init__ : PySem.W.findIn K (.ref c_NoTurn) "__init__" = some (some (.ref f_NoTurn___init__)))
    (l_NoTurn___init__ : K.lookup f_NoTurn___init__ = some ⟨oc19, od19, .func (PySem.W.fnOf "__init__" "NoTurn.__init__" (defArgs s_i13) (defBody s_i13) (defScope s_i13) .none kV19 dc19 pm19 an19 cd19 ct19), sl19⟩)
    (o_NoTurn___init__ : PySem.W.codeIn K cd19 "NoTurn.__init__" = true)
    (k_NoTurn___init__ : PySem.W.keepIn K (.ref f_NoTurn___init__) = true)
    (y_NoTurn___init__ : PySem.W.typeIn K (.ref f_NoTurn___init__) = some (.type "function"))
    (a_NoText___init__ : PySem.W.findIn K (.ref c_NoText) "__init__" = some (some (.ref f_NoText___init__)))
    (l_NoText___init__ : K.lookup f_NoText___init__ = some ⟨oc20, od20, .func (PySem.W.fnOf "__init__" "NoText.__init__" (defArgs s_i15) (defBody s_i15) (defScope s_i15) .none kV20 dc20 pm20 an20 cd20 ct20), sl20⟩)
    (o_NoText___init__ : PySem.W.codeIn K cd20 "NoText.__init__" = true)
    (k_NoText___init__ : PySem.W.keepIn K (.ref f_NoText___init__) = true)
    (y_NoText___init__ : PySem.W.typeIn K (.ref f_NoText___init__) = some (.type "function"))
    (a_NoLine___init__ : PySem.W.findIn K (.ref c_NoLine) "__init__" = some (some (.ref f_NoLine___init__)))
    (l_NoLine___init__ : K.lookup f_NoLine___init__ = some ⟨oc21, od21, .func (PySem.W.fnOf "__init__" "NoLine.__init__" (defArgs s_i16) (defBody s_i16) (defScope s_i16) .none kV21 dc21 pm21 an21 cd21 ct21), sl21⟩)
    (o_NoLine___init__ : PySem.W.codeIn K cd21 "NoLine.__init__" = true)
    (k_NoLine___init__ : PySem.W.keepIn K (.ref f_NoLine___init__) = true)
    (y_NoLine___init__ : PySem.W.typeIn K (.ref f_NoLine___init__) = some (.type "function"))
    (z_len : PySem.W.nsIn K mainGlobals "len" = some none)
    (z_isi : PySem.W.nsIn K mainGlobals "isinstance" = some none)
    (z_str : PySem.W.nsIn K mainGlobals "str" = some none)
    (z_list : PySem.W.nsIn K mainGlobals "list" = some none)
    (z_tuple : PySem.W.nsIn K mainGlobals "tuple" = some none)
    (z_dict : PySem.W.nsIn K mainGlobals "dict" = some none)
    (z_int : PySem.W.nsIn K mainGlobals "int" = some none)
    (z_range : PySem.W.nsIn K mainGlobals "range" = some none)
    (z_enum : PySem.W.nsIn K mainGlobals "enumerate" = some none)
    (z_all : PySem.W.nsIn K mainGlobals "all" = some none)
    (z_any : PySem.W.nsIn K mainGlobals "any" = some none)
    (z_max : PySem.W.nsIn K mainGlobals "max" = some none)
    (z_sorted : PySem.W.nsIn K mainGlobals "sorted" = some none)
    (xnNoColumns : PySem.W.excIn K c_NoColumns [.type "ValueError", .type "Exception", .type "BaseException", .type "object"] "ValueError.__new__" = true)
    (kxNoColumns : PySem.W.keepIn K (.ref c_NoColumns) = true)
    (bxNoColumns : PySem.W.subIn K (.ref c_NoColumns) (.type "BaseException") = some true)
    (txNoColumns : PySem.W.typeIn K (.ref c_NoColumns) = some (.type "type"))
    (snfNoColumns : PySem.W.subIn K (.ref c_NoColumns) (.ref c_FoldError) = some true)
    (xgNoColumns : PySem.W.findIn K (.ref c_NoColumns) "__getattribute__" = some (some (.builtin "BaseException.__getattribute__")))
    (xkNoColumns : PySem.W.findIn K (.ref c_NoColumns) "__getattr__" = some none)
    (xdNoColumns : PySem.W.hasDictIn K c_NoColumns = true)
    (xaNoColumns : PySem.W.findIn K (.ref c_NoColumns) "__class__" = some (some (.builtin "object.__class__")))
    (xmNoColumns : PySem.W.mroIn K c_NoColumns (.type "object") = some true)
    (oxNoRow : oexB K c_NoRow = true)
    (sxNoRow : PySem.W.findIn K (.ref c_NoRow) "__setattr__" = some (some (.builtin "object.__setattr__")))
    (kxNoRow : PySem.W.keepIn K (.ref c_NoRow) = true)
    (bxNoRow : PySem.W.subIn K (.ref c_NoRow) (.type "BaseException") = some true)
    (txNoRow : PySem.W.typeIn K (.ref c_NoRow) = some (.type "type"))
    (nxNoRow : PySem.W.findIn K (.ref c_NoRow) "at" = some none)
    (snfNoRow : PySem.W.subIn K (.ref c_NoRow) (.ref c_FoldError) = some true)
    (xgNoRow : PySem.W.findIn K (.ref c_NoRow) "__getattribute__" = some (some (.builtin "BaseException.__getattribute__")))
    (xkNoRow : PySem.W.findIn K (.ref c_NoRow) "__getattr__" = some none)
    (xdNoRow : PySem.W.hasDictIn K c_NoRow = true)
    (xaNoRow : PySem.W.findIn K (.ref c_NoRow) "__class__" = some (some (.builtin "object.__class__")))
    (xmNoRow : PySem.W.mroIn K c_NoRow (.type "object") = some true)
    (oxNoTree : oexB K c_NoTree = true)
    (sxNoTree : PySem.W.findIn K (.ref c_NoTree) "__setattr__" = some (some (.builtin "object.__setattr__")))
    (kxNoTree : PySem.W.keepIn K (.ref c_NoTree) = true)
    (bxNoTree : PySem.W.subIn K (.ref c_NoTree) (.type "BaseException") = some true)
    (txNoTree : PySem.W.typeIn K (.ref c_NoTree) = some (.type "type"))
    (nxNoTree : PySem.W.findIn K (.ref c_NoTree) "at" = some none)
    (snfNoTree : PySem.W.subIn K (.ref c_NoTree) (.ref c_FoldError) = some true)
    (xgNoTree : PySem.W.findIn K (.ref c_NoTree) "__getattribute__" = some (some (.builtin "BaseException.__getattribute__")))
    (xkNoTree : PySem.W.findIn K (.ref c_NoTree) "__getattr__" = some none)
    (xdNoTree : PySem.W.hasDictIn K c_NoTree = true)
    (xaNoTree : PySem.W.findIn K (.ref c_NoTree) "__class__" = some (some (.builtin "object.__class__")))
    (xmNoTree : PySem.W.mroIn K c_NoTree (.type "object") = some true)
    (oxNoColumn : oexB K c_NoColumn = true)
    (sxNoColumn : PySem.W.findIn K (.ref c_NoColumn) "__setattr__" = some (some (.builtin "object.__setattr__")))
    (kxNoColumn : PySem.W.keepIn K (.ref c_NoColumn) = true)
    (bxNoColumn : PySem.W.subIn K (.ref c_NoColumn) (.type "BaseException") = some true)
    (txNoColumn : PySem.W.typeIn K (.ref c_NoColumn) = some (.type "type"))
    (nxNoColumn : PySem.W.findIn K (.ref c_NoColumn) "name" = some none)
    (snfNoColumn : PySem.W.subIn K (.ref c_NoColumn) (.ref c_FoldError) = some true)
    (xgNoColumn : PySem.W.findIn K (.ref c_NoColumn) "__getattribute__" = some (some (.builtin "BaseException.__getattribute__")))
    (xkNoColumn : PySem.W.findIn K (.ref c_NoColumn) "__getattr__" = some none)
    (xdNoColumn : PySem.W.hasDictIn K c_NoColumn = true)
    (xaNoColumn : PySem.W.findIn K (.ref c_NoColumn) "__class__" = some (some (.builtin "object.__class__")))
    (xmNoColumn : PySem.W.mroIn K c_NoColumn (.type "object") = some true)
    (oxNoFit : oexB K c_NoFit = true)
    (sxNoFit : PySem.W.findIn K (.ref c_NoFit) "__setattr__" = some (some (.builtin "object.__setattr__")))
    (kxNoFit : PySem.W.keepIn K (.ref c_NoFit) = true)
    (bxNoFit : PySem.W.subIn K (.ref c_NoFit) (.type "BaseException") = some true)
    (txNoFit : PySem.W.typeIn K (.ref c_NoFit) = some (.type "type"))
    (nxNoFit : PySem.W.findIn K (.ref c_NoFit) "one" = some none)
    (snfNoFit : PySem.W.subIn K (.ref c_NoFit) (.ref c_FoldError) = some true)
    (xgNoFit : PySem.W.findIn K (.ref c_NoFit) "__getattribute__" = some (some (.builtin "BaseException.__getattribute__")))
    (xkNoFit : PySem.W.findIn K (.ref c_NoFit) "__getattr__" = some none)
    (xdNoFit : PySem.W.hasDictIn K c_NoFit = true)
    (xaNoFit : PySem.W.findIn K (.ref c_NoFit) "__class__" = some (some (.builtin "object.__class__")))
    (xmNoFit : PySem.W.mroIn K c_NoFit (.type "object") = some true)
    (nx2NoFit : PySem.W.findIn K (.ref c_NoFit) "other" = some none)
    (oxNoFold : oexB K c_NoFold = true)
    (sxNoFold : PySem.W.findIn K (.ref c_NoFold) "__setattr__" = some (some (.builtin "object.__setattr__")))
    (kxNoFold : PySem.W.keepIn K (.ref c_NoFold) = true)
    (bxNoFold : PySem.W.subIn K (.ref c_NoFold) (.type "BaseException") = some true)
    (txNoFold : PySem.W.typeIn K (.ref c_NoFold) = some (.type "type"))
    (nxNoFold : PySem.W.findIn K (.ref c_NoFold) "at" = some none)
    (snfNoFold : PySem.W.subIn K (.ref c_NoFold) (.ref c_FoldError) = some true)
    (xgNoFold : PySem.W.findIn K (.ref c_NoFold) "__getattribute__" = some (some (.builtin "BaseException.__getattribute__")))
    (xkNoFold : PySem.W.findIn K (.ref c_NoFold) "__getattr__" = some none)
    (xdNoFold : PySem.W.hasDictIn K c_NoFold = true)
    (xaNoFold : PySem.W.findIn K (.ref c_NoFold) "__class__" = some (some (.builtin "object.__class__")))
    (xmNoFold : PySem.W.mroIn K c_NoFold (.type "object") = some true)
    (oxNoBunch : oexB K c_NoBunch = true)
    (sxNoBunch : PySem.W.findIn K (.ref c_NoBunch) "__setattr__" = some (some (.builtin "object.__setattr__")))
    (kxNoBunch : PySem.W.keepIn K (.ref c_NoBunch) = true)
    (bxNoBunch : PySem.W.subIn K (.ref c_NoBunch) (.type "BaseException") = some true)
    (txNoBunch : PySem.W.typeIn K (.ref c_NoBunch) = some (.type "type"))
    (nxNoBunch : PySem.W.findIn K (.ref c_NoBunch) "number" = some none)
    (snfNoBunch : PySem.W.subIn K (.ref c_NoBunch) (.ref c_FoldError) = some true)
    (xgNoBunch : PySem.W.findIn K (.ref c_NoBunch) "__getattribute__" = some (some (.builtin "BaseException.__getattribute__")))
    (xkNoBunch : PySem.W.findIn K (.ref c_NoBunch) "__getattr__" = some none)
    (xdNoBunch : PySem.W.hasDictIn K c_NoBunch = true)
    (xaNoBunch : PySem.W.findIn K (.ref c_NoBunch) "__class__" = some (some (.builtin "object.__class__")))
    (xmNoBunch : PySem.W.mroIn K c_NoBunch (.type "object") = some true)
    (oxNoPaper : oexB K c_NoPaper = true)
    (sxNoPaper : PySem.W.findIn K (.ref c_NoPaper) "__setattr__" = some (some (.builtin "object.__setattr__")))
    (kxNoPaper : PySem.W.keepIn K (.ref c_NoPaper) = true)
    (bxNoPaper : PySem.W.subIn K (.ref c_NoPaper) (.type "BaseException") = some true)
    (txNoPaper : PySem.W.typeIn K (.ref c_NoPaper) = some (.type "type"))
    (nxNoPaper : PySem.W.findIn K (.ref c_NoPaper) "at" = some none)
    (snfNoPaper : PySem.W.subIn K (.ref c_NoPaper) (.ref c_FoldError) = some true)
    (xgNoPaper : PySem.W.findIn K (.ref c_NoPaper) "__getattribute__" = some (some (.builtin "BaseException.__getattribute__")))
    (xkNoPaper : PySem.W.findIn K (.ref c_NoPaper) "__getattr__" = some none)
    (xdNoPaper : PySem.W.hasDictIn K c_NoPaper = true)
    (xaNoPaper : PySem.W.findIn K (.ref c_NoPaper) "__class__" = some (some (.builtin "object.__class__")))
    (xmNoPaper : PySem.W.mroIn K c_NoPaper (.type "object") = some true)
    (oxTooMany : oexB K c_TooMany = true)
    (sxTooMany : PySem.W.findIn K (.ref c_TooMany) "__setattr__" = some (some (.builtin "object.__setattr__")))
    (kxTooMany : PySem.W.keepIn K (.ref c_TooMany) = true)
    (bxTooMany : PySem.W.subIn K (.ref c_TooMany) (.type "BaseException") = some true)
    (txTooMany : PySem.W.typeIn K (.ref c_TooMany) = some (.type "type"))
    (nxTooMany : PySem.W.findIn K (.ref c_TooMany) "many" = some none)
    (snfTooMany : PySem.W.subIn K (.ref c_TooMany) (.ref c_FoldError) = some true)
    (xgTooMany : PySem.W.findIn K (.ref c_TooMany) "__getattribute__" = some (some (.builtin "BaseException.__getattribute__")))
    (xkTooMany : PySem.W.findIn K (.ref c_TooMany) "__getattr__" = some none)
    (xdTooMany : PySem.W.hasDictIn K c_TooMany = true)
    (xaTooMany : PySem.W.findIn K (.ref c_TooMany) "__class__" = some (some (.builtin "object.__class__")))
    (xmTooMany : PySem.W.mroIn K c_TooMany (.type "object") = some true)
    (oxNoPlace : oexB K c_NoPlace = true)
    (sxNoPlace : PySem.W.findIn K (.ref c_NoPlace) "__setattr__" = some (some (.builtin "object.__setattr__")))
    (kxNoPlace : PySem.W.keepIn K (.ref c_NoPlace) = true)
    (bxNoPlace : PySem.W.subIn K (.ref c_NoPlace) (.type "BaseException") = some true)
    (txNoPlace : PySem.W.typeIn K (.ref c_NoPlace) = some (.type "type"))
    (nxNoPlace : PySem.W.findIn K (.ref c_NoPlace) "at" = some none)
    (snfNoPlace : PySem.W.subIn K (.ref c_NoPlace) (.ref c_FoldError) = some true)
    (xgNoPlace : PySem.W.findIn K (.ref c_NoPlace) "__getattribute__" = some (some (.builtin "BaseException.__getattribute__")))
    (xkNoPlace : PySem.W.findIn K (.ref c_NoPlace) "__getattr__" = some none)
    (xdNoPlace : PySem.W.hasDictIn K c_NoPlace = true)
    (xaNoPlace : PySem.W.findIn K (.ref c_NoPlace) "__class__" = some (some (.builtin "object.__class__")))
    (xmNoPlace : PySem.W.mroIn K c_NoPlace (.type "object") = some true)
    (xnNoStretch : PySem.W.excIn K c_NoStretch [.type "ValueError", .type "Exception", .type "BaseException", .type "object"] "ValueError.__new__" = true)
    (kxNoStretch : PySem.W.keepIn K (.ref c_NoStretch) = true)
    (bxNoStretch : PySem.W.subIn K (.ref c_NoStretch) (.type "BaseException") = some true)
    (txNoStretch : PySem.W.typeIn K (.ref c_NoStretch) = some (.type "type"))
    (snfNoStretch : PySem.W.subIn K (.ref c_NoStretch) (.ref c_FoldError) = some true)
    (xgNoStretch : PySem.W.findIn K (.ref c_NoStretch) "__getattribute__" = some (some (.builtin "BaseException.__getattribute__")))
    (xkNoStretch : PySem.W.findIn K (.ref c_NoStretch) "__getattr__" = some none)
    (xdNoStretch : PySem.W.hasDictIn K c_NoStretch = true)
    (xaNoStretch : PySem.W.findIn K (.ref c_NoStretch) "__class__" = some (some (.builtin "object.__class__")))
    (xmNoStretch : PySem.W.mroIn K c_NoStretch (.type "object") = some true)
    (xnNoCosts : PySem.W.excIn K c_NoCosts [.type "ValueError", .type "Exception", .type "BaseException", .type "object"] "ValueError.__new__" = true)
    (kxNoCosts : PySem.W.keepIn K (.ref c_NoCosts) = true)
    (bxNoCosts : PySem.W.subIn K (.ref c_NoCosts) (.type "BaseException") = some true)
    (txNoCosts : PySem.W.typeIn K (.ref c_NoCosts) = some (.type "type"))
    (snfNoCosts : PySem.W.subIn K (.ref c_NoCosts) (.ref c_FoldError) = some true)
    (xgNoCosts : PySem.W.findIn K (.ref c_NoCosts) "__getattribute__" = some (some (.builtin "BaseException.__getattribute__")))
    (xkNoCosts : PySem.W.findIn K (.ref c_NoCosts) "__getattr__" = some none)
    (xdNoCosts : PySem.W.hasDictIn K c_NoCosts = true)
    (xaNoCosts : PySem.W.findIn K (.ref c_NoCosts) "__class__" = some (some (.builtin "object.__class__")))
    (xmNoCosts : PySem.W.mroIn K c_NoCosts (.type "object") = some true)
    (oxNoName : oexB K c_NoName = true)
    (sxNoName : PySem.W.findIn K (.ref c_NoName) "__setattr__" = some (some (.builtin "object.__setattr__")))
    (kxNoName : PySem.W.keepIn K (.ref c_NoName) = true)
    (bxNoName : PySem.W.subIn K (.ref c_NoName) (.type "BaseException") = some true)
    (txNoName : PySem.W.typeIn K (.ref c_NoName) = some (.type "type"))
    (nxNoName : PySem.W.findIn K (.ref c_NoName) "name" = some none)
    (snfNoName : PySem.W.subIn K (.ref c_NoName) (.ref c_FoldError) = some true)
    (xgNoName : PySem.W.findIn K (.ref c_NoName) "__getattribute__" = some (some (.builtin "BaseException.__getattribute__")))
    (xkNoName : PySem.W.findIn K (.ref c_NoName) "__getattr__" = some none)
    (xdNoName : PySem.W.hasDictIn K c_NoName = true)
    (xaNoName : PySem.W.findIn K (.ref c_NoName) "__class__" = some (some (.builtin "object.__class__")))
    (xmNoName : PySem.W.mroIn K c_NoName (.type "object") = some true)
    (oxNoTurn : oexB K c_NoTurn = true)
    (sxNoTurn : PySem.W.findIn K (.ref c_NoTurn) "__setattr__" = some (some (.builtin "object.__setattr__")))
    (kxNoTurn : PySem.W.keepIn K (.ref c_NoTurn) = true)
    (bxNoTurn : PySem.W.subIn K (.ref c_NoTurn) (.type "BaseException") = some true)
    (txNoTurn : PySem.W.typeIn K (.ref c_NoTurn) = some (.type "type"))
    (nxNoTurn : PySem.W.findIn K (.ref c_NoTurn) "name" = some none)
    (snfNoTurn : PySem.W.subIn K (.ref c_NoTurn) (.ref c_FoldError) = some true)
    (xgNoTurn : PySem.W.findIn K (.ref c_NoTurn) "__getattribute__" = some (some (.builtin "BaseException.__getattribute__")))
    (xkNoTurn : PySem.W.findIn K (.ref c_NoTurn) "__getattr__" = some none)
    (xdNoTurn : PySem.W.hasDictIn K c_NoTurn = true)
    (xaNoTurn : PySem.W.findIn K (.ref c_NoTurn) "__class__" = some (some (.builtin "object.__class__")))
    (xmNoTurn : PySem.W.mroIn K c_NoTurn (.type "object") = some true)
    (xnNothingDone : PySem.W.excIn K c_NothingDone [.type "ValueError", .type "Exception", .type "BaseException", .type "object"] "ValueError.__new__" = true)
    (kxNothingDone : PySem.W.keepIn K (.ref c_NothingDone) = true)
    (bxNothingDone : PySem.W.subIn K (.ref c_NothingDone) (.type "BaseException") = some true)
    (txNothingDone : PySem.W.typeIn K (.ref c_NothingDone) = some (.type "type"))
    (snfNothingDone : PySem.W.subIn K (.ref c_NothingDone) (.ref c_FoldError) = some true)
    (xgNothingDone : PySem.W.findIn K (.ref c_NothingDone) "__getattribute__" = some (some (.builtin "BaseException.__getattribute__")))
    (xkNothingDone : PySem.W.findIn K (.ref c_NothingDone) "__getattr__" = some none)
    (xdNothingDone : PySem.W.hasDictIn K c_NothingDone = true)
    (xaNothingDone : PySem.W.findIn K (.ref c_NothingDone) "__class__" = some (some (.builtin "object.__class__")))
    (xmNothingDone : PySem.W.mroIn K c_NothingDone (.type "object") = some true)
    (oxNoText : oexB K c_NoText = true)
    (sxNoText : PySem.W.findIn K (.ref c_NoText) "__setattr__" = some (some (.builtin "object.__setattr__")))
    (kxNoText : PySem.W.keepIn K (.ref c_NoText) = true)
    (bxNoText : PySem.W.subIn K (.ref c_NoText) (.type "BaseException") = some true)
    (txNoText : PySem.W.typeIn K (.ref c_NoText) = some (.type "type"))
    (nxNoText : PySem.W.findIn K (.ref c_NoText) "at" = some none)
    (snfNoText : PySem.W.subIn K (.ref c_NoText) (.ref c_FoldError) = some true)
    (xgNoText : PySem.W.findIn K (.ref c_NoText) "__getattribute__" = some (some (.builtin "BaseException.__getattribute__")))
    (xkNoText : PySem.W.findIn K (.ref c_NoText) "__getattr__" = some none)
    (xdNoText : PySem.W.hasDictIn K c_NoText = true)
    (xaNoText : PySem.W.findIn K (.ref c_NoText) "__class__" = some (some (.builtin "object.__class__")))
    (xmNoText : PySem.W.mroIn K c_NoText (.type "object") = some true)
    (oxNoLine : oexB K c_NoLine = true)
    (sxNoLine : PySem.W.findIn K (.ref c_NoLine) "__setattr__" = some (some (.builtin "object.__setattr__")))
    (kxNoLine : PySem.W.keepIn K (.ref c_NoLine) = true)
    (bxNoLine : PySem.W.subIn K (.ref c_NoLine) (.type "BaseException") = some true)
    (txNoLine : PySem.W.typeIn K (.ref c_NoLine) = some (.type "type"))
    (nxNoLine : PySem.W.findIn K (.ref c_NoLine) "at" = some none)
    (snfNoLine : PySem.W.subIn K (.ref c_NoLine) (.ref c_FoldError) = some true)
    (xgNoLine : PySem.W.findIn K (.ref c_NoLine) "__getattribute__" = some (some (.builtin "BaseException.__getattribute__")))
    (xkNoLine : PySem.W.findIn K (.ref c_NoLine) "__getattr__" = some none)
    (xdNoLine : PySem.W.hasDictIn K c_NoLine = true)
    (xaNoLine : PySem.W.findIn K (.ref c_NoLine) "__class__" = some (some (.builtin "object.__class__")))
    (xmNoLine : PySem.W.mroIn K c_NoLine (.type "object") = some true)
    (bf : PySem.W.subIn K (.ref c_FoldError) (.type "BaseException") = some true)
    (hf : PySem.W.hasDictIn K c_FoldError = true)
    (tf : PySem.W.typeIn K (.ref c_FoldError) = some (.type "type"))
    (zve : PySem.W.nsIn K mainGlobals "ValueError" = some none)
    (kitB : kitAll K [c_NoColumns, c_NoRow, c_NoTree, c_NoColumn, c_NoFit, c_NoFold, c_NoBunch, c_NoPaper, c_TooMany, c_NoPlace, c_NoStretch, c_NoCosts, c_NoName, c_NoTurn, c_NothingDone, c_NoText, c_NoLine] = true)
    (kitF : [c_NoColumns, c_NoRow, c_NoTree, c_NoColumn, c_NoFit, c_NoFold, c_NoBunch, c_NoPaper, c_TooMany, c_NoPlace, c_NoStretch, c_NoCosts, c_NoName, c_NoTurn, c_NothingDone, c_NoText, c_NoLine].all (fun c => PySem.W.kitOne K (.ref c) (.ref c_FoldError) == some true) = true)
    (kitV : [c_NoColumns, c_NoRow, c_NoTree, c_NoColumn, c_NoFit, c_NoFold, c_NoBunch, c_NoPaper, c_TooMany, c_NoPlace, c_NoStretch, c_NoCosts, c_NoName, c_NoTurn, c_NothingDone, c_NoText, c_NoLine].all (fun c => PySem.W.kitOne K (.ref c) (.type "ValueError") == some true) = true)
    (kitN : PySem.W.kitOne K (.type "ValueError") (.ref c_FoldError) = some false)
    : ∃ fd : FuncData, (∀ (s : Shared) (v : Value), BindsTo s fd ⟨[v], []⟩ [("_law_script", v)]) ∧ ∀ base : Heap, K.In base → base.Ns mainGlobals mg → FnOk l.prog w K mg base CX0 4 fa fd ["_law_script"] (sp_law K) := by
  have e := hfa.symm.trans (PySem.W.mg_of X G a_law)
  cases e
  have F__law_well := fun_mk (st := s_well) l__law_well o__law_well k__law_well
  have b__law_well := F__law_well.binds (ps := ["_law_cell", "_law_k"]) fun _ _ _ _ _ _ us hl => match us, hl with | [_, _], _ => rfl
  have N__law_well : Fn K mg "_law_well" s_well ["_law_cell", "_law_k"] f__law_well _ := ⟨F__law_well, PySem.W.mg_of X G a__law_well, b__law_well⟩
  have F__law_draw := fun_mk (st := s_draw) l__law_draw o__law_draw k__law_draw
  have b__law_draw := F__law_draw.binds (ps := ["_law_well_here", "_law_top"]) fun _ _ _ _ _ _ us hl => match us, hl with | [_, _], _ => rfl
  have N__law_draw : Fn K mg "_law_draw" s_draw ["_law_well_here", "_law_top"] f__law_draw _ := ⟨F__law_draw, PySem.W.mg_of X G a__law_draw, b__law_draw⟩
  have F__law_kinds := fun_mk (st := s_kinds) l__law_kinds o__law_kinds k__law_kinds
  have b__law_kinds := F__law_kinds.binds (ps := ["_law_e"]) fun _ _ _ _ _ _ us hl => match us, hl with | [_], _ => rfl
  have N__law_kinds : Fn K mg "_law_kinds" s_kinds ["_law_e"] f__law_kinds _ := ⟨F__law_kinds, PySem.W.mg_of X G a__law_kinds, b__law_kinds⟩
  have F__law_by_name := fun_mk (st := s_byname) l__law_by_name o__law_by_name k__law_by_name
  have b__law_by_name := F__law_by_name.binds (ps := ["_law_x", "_law_y"]) fun _ _ _ _ _ _ us hl => match us, hl with | [_, _], _ => rfl
  have N__law_by_name : Fn K mg "_law_by_name" s_byname ["_law_x", "_law_y"] f__law_by_name _ := ⟨F__law_by_name, PySem.W.mg_of X G a__law_by_name, b__law_by_name⟩
  have F__law_by_place := fun_mk (st := s_byplace) l__law_by_place o__law_by_place k__law_by_place
  have b__law_by_place := F__law_by_place.binds (ps := ["_law_x", "_law_y"]) fun _ _ _ _ _ _ us hl => match us, hl with | [_, _], _ => rfl
  have N__law_by_place : Fn K mg "_law_by_place" s_byplace ["_law_x", "_law_y"] f__law_by_place _ := ⟨F__law_by_place, PySem.W.mg_of X G a__law_by_place, b__law_by_place⟩
  have F__law_fields := fun_mk (st := s_fields) l__law_fields o__law_fields k__law_fields
  have b__law_fields := F__law_fields.binds (ps := ["_law_some"]) fun _ _ _ _ _ _ us hl => match us, hl with | [_], _ => rfl
  have N__law_fields : Fn K mg "_law_fields" s_fields ["_law_some"] f__law_fields _ := ⟨F__law_fields, PySem.W.mg_of X G a__law_fields, b__law_fields⟩
  have F__law_taken := fun_mk (st := s_taken) l__law_taken o__law_taken k__law_taken
  have b__law_taken := F__law_taken.binds (ps := ["_law_turn", "_law_x"]) fun _ _ _ _ _ _ us hl => match us, hl with | [_, _], _ => rfl
  have N__law_taken : Fn K mg "_law_taken" s_taken ["_law_turn", "_law_x"] f__law_taken _ := ⟨F__law_taken, PySem.W.mg_of X G a__law_taken, b__law_taken⟩
  have F_law := fun_mk (st := s_law) l_law o_law k_law
  have b_law := F_law.binds (ps := ["_law_script"]) fun _ _ _ _ _ _ us hl => match us, hl with | [_], _ => rfl
  have N_law : Fn K mg "law" s_law ["_law_script"] fa _ := ⟨F_law, PySem.W.mg_of X G a_law, b_law⟩
  have F_NoRow___init__ := fun_mk (st := s_i1) l_NoRow___init__ o_NoRow___init__ k_NoRow___init__
  have b_NoRow___init__ := F_NoRow___init__.binds (ps := ["self", "at"]) fun _ _ _ _ _ _ us hl => match us, hl with | [_, _], _ => rfl
  have F_NoTree___init__ := fun_mk (st := s_i2) l_NoTree___init__ o_NoTree___init__ k_NoTree___init__
  have b_NoTree___init__ := F_NoTree___init__.binds (ps := ["self", "at"]) fun _ _ _ _ _ _ us hl => match us, hl with | [_, _], _ => rfl
  have F_NoColumn___init__ := fun_mk (st := s_i3) l_NoColumn___init__ o_NoColumn___init__ k_NoColumn___init__
  have b_NoColumn___init__ := F_NoColumn___init__.binds (ps := ["self", "name"]) fun _ _ _ _ _ _ us hl => match us, hl with | [_, _], _ => rfl
  have F_NoFit___init__ := fun_mk (st := s_i4) l_NoFit___init__ o_NoFit___init__ k_NoFit___init__
  have b_NoFit___init__ := F_NoFit___init__.binds (ps := ["self", "one", "other"]) fun _ _ _ _ _ _ us hl => match us, hl with | [_, _, _], _ => rfl
  have F_NoFold___init__ := fun_mk (st := s_i5) l_NoFold___init__ o_NoFold___init__ k_NoFold___init__
  have b_NoFold___init__ := F_NoFold___init__.binds (ps := ["self", "at"]) fun _ _ _ _ _ _ us hl => match us, hl with | [_, _], _ => rfl
  have F_NoBunch___init__ := fun_mk (st := s_i6) l_NoBunch___init__ o_NoBunch___init__ k_NoBunch___init__
  have b_NoBunch___init__ := F_NoBunch___init__.binds (ps := ["self", "number"]) fun _ _ _ _ _ _ us hl => match us, hl with | [_, _], _ => rfl
  have F_NoPaper___init__ := fun_mk (st := s_i7) l_NoPaper___init__ o_NoPaper___init__ k_NoPaper___init__
  have b_NoPaper___init__ := F_NoPaper___init__.binds (ps := ["self", "at"]) fun _ _ _ _ _ _ us hl => match us, hl with | [_, _], _ => rfl
  have F_TooMany___init__ := fun_mk (st := s_i8) l_TooMany___init__ o_TooMany___init__ k_TooMany___init__
  have b_TooMany___init__ := F_TooMany___init__.binds (ps := ["self", "many"]) fun _ _ _ _ _ _ us hl => match us, hl with | [_, _], _ => rfl
  have F_NoPlace___init__ := fun_mk (st := s_i9) l_NoPlace___init__ o_NoPlace___init__ k_NoPlace___init__
  have b_NoPlace___init__ := F_NoPlace___init__.binds (ps := ["self", "at"]) fun _ _ _ _ _ _ us hl => match us, hl with | [_, _], _ => rfl
  have F_NoName___init__ := fun_mk (st := s_i12) l_NoName___init__ o_NoName___init__ k_NoName___init__
  have b_NoName___init__ := F_NoName___init__.binds (ps := ["self", "name"]) fun _ _ _ _ _ _ us hl => match us, hl with | [_, _], _ => rfl
  have F_NoTurn___init__ := fun_mk (st := s_i13) l_NoTurn___init__ o_NoTurn___init__ k_NoTurn___init__
  have b_NoTurn___init__ := F_NoTurn___init__.binds (ps := ["self", "name"]) fun _ _ _ _ _ _ us hl => match us, hl with | [_, _], _ => rfl
  have F_NoText___init__ := fun_mk (st := s_i15) l_NoText___init__ o_NoText___init__ k_NoText___init__
  have b_NoText___init__ := F_NoText___init__.binds (ps := ["self", "at"]) fun _ _ _ _ _ _ us hl => match us, hl with | [_, _], _ => rfl
  have F_NoLine___init__ := fun_mk (st := s_i16) l_NoLine___init__ o_NoLine___init__ k_NoLine___init__
  have b_NoLine___init__ := F_NoLine___init__.binds (ps := ["self", "at"]) fun _ _ _ _ _ _ us hl => match us, hl with | [_, _], _ => rfl
  have B : Bn mg := ⟨PySem.W.mg_none_of X G z_len, PySem.W.mg_none_of X G z_isi, PySem.W.mg_none_of X G z_str, PySem.W.mg_none_of X G z_list, PySem.W.mg_none_of X G z_tuple, PySem.W.mg_none_of X G z_dict, PySem.W.mg_none_of X G z_int, PySem.W.mg_none_of X G z_range, PySem.W.mg_none_of X G z_enum, PySem.W.mg_none_of X G z_all, PySem.W.mg_none_of X G z_any, PySem.W.mg_none_of X G z_max, PySem.W.mg_none_of X G z_sorted⟩
  have kb1 := TK.kbn1 (ps := ["self", "at"]) (ks := ["at"]) F_NoRow___init__ (fun us ws => us ++ ws) (fun a b => vals_and a b) 1 (fun _ _ _ _ _ _ us ws h1 h2 => match us, ws, h1, h2 with | [_], [_], _, _ => rfl)
  have kb2 := TK.kbn1 (ps := ["self", "at"]) (ks := ["at"]) F_NoTree___init__ (fun us ws => us ++ ws) (fun a b => vals_and a b) 1 (fun _ _ _ _ _ _ us ws h1 h2 => match us, ws, h1, h2 with | [_], [_], _, _ => rfl)
  have kb3 := TK.kbn1 (ps := ["self", "name"]) (ks := ["name"]) F_NoColumn___init__ (fun us ws => us ++ ws) (fun a b => vals_and a b) 1 (fun _ _ _ _ _ _ us ws h1 h2 => match us, ws, h1, h2 with | [_], [_], _, _ => rfl)
  have kb4 := TK.kbn1 (ps := ["self", "one", "other"]) (ks := ["other", "one"]) F_NoFit___init__ (fun us ws => us ++ ws.reverse) (fun a b => vals_and a (vals_rev b)) 1 (fun _ _ _ _ _ _ us ws h1 h2 => match us, ws, h1, h2 with | [_], [_, _], _, _ => rfl)
  have kb5 := TK.kbn1 (ps := ["self", "at"]) (ks := ["at"]) F_NoFold___init__ (fun us ws => us ++ ws) (fun a b => vals_and a b) 1 (fun _ _ _ _ _ _ us ws h1 h2 => match us, ws, h1, h2 with | [_], [_], _, _ => rfl)
  have kb6 := TK.kbn1 (ps := ["self", "number"]) (ks := ["number"]) F_NoBunch___init__ (fun us ws => us ++ ws) (fun a b => vals_and a b) 1 (fun _ _ _ _ _ _ us ws h1 h2 => match us, ws, h1, h2 with | [_], [_], _, _ => rfl)
  have kb7 := TK.kbn1 (ps := ["self", "at"]) (ks := ["at"]) F_NoPaper___init__ (fun us ws => us ++ ws) (fun a b => vals_and a b) 1 (fun _ _ _ _ _ _ us ws h1 h2 => match us, ws, h1, h2 with | [_], [_], _, _ => rfl)
  have kb8 := TK.kbn1 (ps := ["self", "many"]) (ks := ["many"]) F_TooMany___init__ (fun us ws => us ++ ws) (fun a b => vals_and a b) 1 (fun _ _ _ _ _ _ us ws h1 h2 => match us, ws, h1, h2 with | [_], [_], _, _ => rfl)
  have kb9 := TK.kbn1 (ps := ["self", "at"]) (ks := ["at"]) F_NoPlace___init__ (fun us ws => us ++ ws) (fun a b => vals_and a b) 1 (fun _ _ _ _ _ _ us ws h1 h2 => match us, ws, h1, h2 with | [_], [_], _, _ => rfl)
  have kb12 := TK.kbn1 (ps := ["self", "name"]) (ks := ["name"]) F_NoName___init__ (fun us ws => us ++ ws) (fun a b => vals_and a b) 1 (fun _ _ _ _ _ _ us ws h1 h2 => match us, ws, h1, h2 with | [_], [_], _, _ => rfl)
  have kb13 := TK.kbn1 (ps := ["self", "name"]) (ks := ["name"]) F_NoTurn___init__ (fun us ws => us ++ ws) (fun a b => vals_and a b) 1 (fun _ _ _ _ _ _ us ws h1 h2 => match us, ws, h1, h2 with | [_], [_], _, _ => rfl)
  have kb15 := TK.kbn1 (ps := ["self", "at"]) (ks := ["at"]) F_NoText___init__ (fun us ws => us ++ ws) (fun a b => vals_and a b) 1 (fun _ _ _ _ _ _ us ws h1 h2 => match us, ws, h1, h2 with | [_], [_], _, _ => rfl)
  have kb16 := TK.kbn1 (ps := ["self", "at"]) (ks := ["at"]) F_NoLine___init__ (fun us ws => us ++ ws) (fun a b => vals_and a b) 1 (fun _ _ _ _ _ _ us ws h1 h2 => match us, ws, h1, h2 with | [_], [_], _, _ => rfl)
  have xcB : ∀ C ∈ [c_NoColumns, c_NoRow, c_NoTree, c_NoColumn, c_NoFit, c_NoFold, c_NoBunch, c_NoPaper, c_TooMany, c_NoPlace, c_NoStretch, c_NoCosts, c_NoName, c_NoTurn, c_NothingDone, c_NoText, c_NoLine], ExcC K C := by
    simp only [List.forall_mem_cons, List.not_mem_nil, false_imp_iff, implies_true, and_true]
    exact ⟨⟨xgNoColumns, xkNoColumns, bxNoColumns, xdNoColumns, xaNoColumns, hn, ht, xmNoColumns⟩, ⟨xgNoRow, xkNoRow, bxNoRow, xdNoRow, xaNoRow, hn, ht, xmNoRow⟩, ⟨xgNoTree, xkNoTree, bxNoTree, xdNoTree, xaNoTree, hn, ht, xmNoTree⟩, ⟨xgNoColumn, xkNoColumn, bxNoColumn, xdNoColumn, xaNoColumn, hn, ht, xmNoColumn⟩, ⟨xgNoFit, xkNoFit, bxNoFit, xdNoFit, xaNoFit, hn, ht, xmNoFit⟩, ⟨xgNoFold, xkNoFold, bxNoFold, xdNoFold, xaNoFold, hn, ht, xmNoFold⟩, ⟨xgNoBunch, xkNoBunch, bxNoBunch, xdNoBunch, xaNoBunch, hn, ht, xmNoBunch⟩, ⟨xgNoPaper, xkNoPaper, bxNoPaper, xdNoPaper, xaNoPaper, hn, ht, xmNoPaper⟩, ⟨xgTooMany, xkTooMany, bxTooMany, xdTooMany, xaTooMany, hn, ht, xmTooMany⟩, ⟨xgNoPlace, xkNoPlace, bxNoPlace, xdNoPlace, xaNoPlace, hn, ht, xmNoPlace⟩, ⟨xgNoStretch, xkNoStretch, bxNoStretch, xdNoStretch, xaNoStretch, hn, ht, xmNoStretch⟩, ⟨xgNoCosts, xkNoCosts, bxNoCosts, xdNoCosts, xaNoCosts, hn, ht, xmNoCosts⟩, ⟨xgNoName, xkNoName, bxNoName, xdNoName, xaNoName, hn, ht, xmNoName⟩, ⟨xgNoTurn, xkNoTurn, bxNoTurn, xdNoTurn, xaNoTurn, hn, ht, xmNoTurn⟩, ⟨xgNothingDone, xkNothingDone, bxNothingDone, xdNothingDone, xaNothingDone, hn, ht, xmNothingDone⟩, ⟨xgNoText, xkNoText, bxNoText, xdNoText, xaNoText, hn, ht, xmNoText⟩, ⟨xgNoLine, xkNoLine, bxNoLine, xdNoLine, xaNoLine, hn, ht, xmNoLine⟩⟩
  have xcA : ∀ j, j < 17 → ExcC K ([c_NoColumns, c_NoRow, c_NoTree, c_NoColumn, c_NoFit, c_NoFold, c_NoBunch, c_NoPaper, c_TooMany, c_NoPlace, c_NoStretch, c_NoCosts, c_NoName, c_NoTurn, c_NothingDone, c_NoText, c_NoLine].getD j 0) := fun j h => xcB _ (getD_mem rfl h)
  have Kk : Kc K mg c_FoldError (fun j => [c_NoColumns, c_NoRow, c_NoTree, c_NoColumn, c_NoFit, c_NoFold, c_NoBunch, c_NoPaper, c_TooMany, c_NoPlace, c_NoStretch, c_NoCosts, c_NoName, c_NoTurn, c_NothingDone, c_NoText, c_NoLine].getD j 0) (fun j => [0, f_NoRow___init__, f_NoTree___init__, f_NoColumn___init__, f_NoFit___init__, f_NoFold___init__, f_NoBunch___init__, f_NoPaper___init__, f_TooMany___init__, f_NoPlace___init__, 0, 0, f_NoName___init__, f_NoTurn___init__, 0, f_NoText___init__, f_NoLine___init__].getD j 0) (fun j => [(PySem.W.fnOf "__init__" "NoRow.__init__" (defArgs s_i1) (defBody s_i1) (defScope s_i1) .none kV9 dc9 pm9 an9 cd9 ct9), (PySem.W.fnOf "__init__" "NoRow.__init__" (defArgs s_i1) (defBody s_i1) (defScope s_i1) .none kV9 dc9 pm9 an9 cd9 ct9), (PySem.W.fnOf "__init__" "NoTree.__init__" (defArgs s_i2) (defBody s_i2) (defScope s_i2) .none kV10 dc10 pm10 an10 cd10 ct10), (PySem.W.fnOf "__init__" "NoColumn.__init__" (defArgs s_i3) (defBody s_i3) (defScope s_i3) .none kV11 dc11 pm11 an11 cd11 ct11), (PySem.W.fnOf "__init__" "NoFit.__init__" (defArgs s_i4) (defBody s_i4) (defScope s_i4) .none kV12 dc12 pm12 an12 cd12 ct12), (PySem.W.fnOf "__init__" "NoFold.__init__" (defArgs s_i5) (defBody s_i5) (defScope s_i5) .none kV13 dc13 pm13 an13 cd13 ct13), (PySem.W.fnOf "__init__" "NoBunch.__init__" (defArgs s_i6) (defBody s_i6) (defScope s_i6) .none kV14 dc14 pm14 an14 cd14 ct14), (PySem.W.fnOf "__init__" "NoPaper.__init__" (defArgs s_i7) (defBody s_i7) (defScope s_i7) .none kV15 dc15 pm15 an15 cd15 ct15), (PySem.W.fnOf "__init__" "TooMany.__init__" (defArgs s_i8) (defBody s_i8) (defScope s_i8) .none kV16 dc16 pm16 an16 cd16 ct16), (PySem.W.fnOf "__init__" "NoPlace.__init__" (defArgs s_i9) (defBody s_i9) (defScope s_i9) .none kV17 dc17 pm17 an17 cd17 ct17), (PySem.W.fnOf "__init__" "NoRow.__init__" (defArgs s_i1) (defBody s_i1) (defScope s_i1) .none kV9 dc9 pm9 an9 cd9 ct9), (PySem.W.fnOf "__init__" "NoRow.__init__" (defArgs s_i1) (defBody s_i1) (defScope s_i1) .none kV9 dc9 pm9 an9 cd9 ct9), (PySem.W.fnOf "__init__" "NoName.__init__" (defArgs s_i12) (defBody s_i12) (defScope s_i12) .none kV18 dc18 pm18 an18 cd18 ct18), (PySem.W.fnOf "__init__" "NoTurn.__init__" (defArgs s_i13) (defBody s_i13) (defScope s_i13) .none kV19 dc19 pm19 an19 cd19 ct19), (PySem.W.fnOf "__init__" "NoRow.__init__" (defArgs s_i1) (defBody s_i1) (defScope s_i1) .none kV9 dc9 pm9 an9 cd9 ct9), (PySem.W.fnOf "__init__" "NoText.__init__" (defArgs s_i15) (defBody s_i15) (defScope s_i15) .none kV20 dc20 pm20 an20 cd20 ct20), (PySem.W.fnOf "__init__" "NoLine.__init__" (defArgs s_i16) (defBody s_i16) (defScope s_i16) .none kV21 dc21 pm21 an21 cd21 ct21)].getD j (PySem.W.fnOf "__init__" "NoRow.__init__" (defArgs s_i1) (defBody s_i1) (defScope s_i1) .none kV9 dc9 pm9 an9 cd9 ct9)) := ⟨⟨xnNoColumns, PySem.W.mg_of X G a_NoColumns, kxNoColumns, bxNoColumns, txNoColumns⟩, ⟨⟨oexB_ok oxNoRow, sxNoRow, bxNoRow, txNoRow, kxNoRow⟩, a_NoRow___init__, y_NoRow___init__, F_NoRow___init__, b_NoRow___init__, PySem.W.mg_of X G a_NoRow, nxNoRow⟩, kb1, ⟨⟨oexB_ok oxNoTree, sxNoTree, bxNoTree, txNoTree, kxNoTree⟩, a_NoTree___init__, y_NoTree___init__, F_NoTree___init__, b_NoTree___init__, PySem.W.mg_of X G a_NoTree, nxNoTree⟩, kb2, ⟨⟨oexB_ok oxNoColumn, sxNoColumn, bxNoColumn, txNoColumn, kxNoColumn⟩, a_NoColumn___init__, y_NoColumn___init__, F_NoColumn___init__, b_NoColumn___init__, PySem.W.mg_of X G a_NoColumn, nxNoColumn⟩, kb3, ⟨⟨oexB_ok oxNoFit, sxNoFit, bxNoFit, txNoFit, kxNoFit⟩, a_NoFit___init__, y_NoFit___init__, F_NoFit___init__, b_NoFit___init__, PySem.W.mg_of X G a_NoFit, nxNoFit, nx2NoFit⟩, kb4, ⟨⟨oexB_ok oxNoFold, sxNoFold, bxNoFold, txNoFold, kxNoFold⟩, a_NoFold___init__, y_NoFold___init__, F_NoFold___init__, b_NoFold___init__, PySem.W.mg_of X G a_NoFold, nxNoFold⟩, kb5, ⟨⟨oexB_ok oxNoBunch, sxNoBunch, bxNoBunch, txNoBunch, kxNoBunch⟩, a_NoBunch___init__, y_NoBunch___init__, F_NoBunch___init__, b_NoBunch___init__, PySem.W.mg_of X G a_NoBunch, nxNoBunch⟩, kb6, ⟨⟨oexB_ok oxNoPaper, sxNoPaper, bxNoPaper, txNoPaper, kxNoPaper⟩, a_NoPaper___init__, y_NoPaper___init__, F_NoPaper___init__, b_NoPaper___init__, PySem.W.mg_of X G a_NoPaper, nxNoPaper⟩, kb7, ⟨⟨oexB_ok oxTooMany, sxTooMany, bxTooMany, txTooMany, kxTooMany⟩, a_TooMany___init__, y_TooMany___init__, F_TooMany___init__, b_TooMany___init__, PySem.W.mg_of X G a_TooMany, nxTooMany⟩, kb8, ⟨⟨oexB_ok oxNoPlace, sxNoPlace, bxNoPlace, txNoPlace, kxNoPlace⟩, a_NoPlace___init__, y_NoPlace___init__, F_NoPlace___init__, b_NoPlace___init__, PySem.W.mg_of X G a_NoPlace, nxNoPlace⟩, kb9, ⟨xnNoStretch, PySem.W.mg_of X G a_NoStretch, kxNoStretch, bxNoStretch, txNoStretch⟩, ⟨xnNoCosts, PySem.W.mg_of X G a_NoCosts, kxNoCosts, bxNoCosts, txNoCosts⟩, ⟨⟨oexB_ok oxNoName, sxNoName, bxNoName, txNoName, kxNoName⟩, a_NoName___init__, y_NoName___init__, F_NoName___init__, b_NoName___init__, PySem.W.mg_of X G a_NoName, nxNoName⟩, kb12, ⟨⟨oexB_ok oxNoTurn, sxNoTurn, bxNoTurn, txNoTurn, kxNoTurn⟩, a_NoTurn___init__, y_NoTurn___init__, F_NoTurn___init__, b_NoTurn___init__, PySem.W.mg_of X G a_NoTurn, nxNoTurn⟩, kb13, ⟨xnNothingDone, PySem.W.mg_of X G a_NothingDone, kxNothingDone, bxNothingDone, txNothingDone⟩, ⟨⟨oexB_ok oxNoText, sxNoText, bxNoText, txNoText, kxNoText⟩, a_NoText___init__, y_NoText___init__, F_NoText___init__, b_NoText___init__, PySem.W.mg_of X G a_NoText, nxNoText⟩, kb15, ⟨⟨oexB_ok oxNoLine, sxNoLine, bxNoLine, txNoLine, kxNoLine⟩, a_NoLine___init__, y_NoLine___init__, F_NoLine___init__, b_NoLine___init__, PySem.W.mg_of X G a_NoLine, nxNoLine⟩, kb16, xcA, fun j h i g => kit_all kitB h g, fun j h => kit_one kitF rfl h, fun j h => kit_oneV kitV rfl h, PySem.W.exm_ref bf hf tf snfNoColumns, PySem.W.exm_ref bf hf tf snfNoRow, PySem.W.exm_ref bf hf tf snfNoColumn, PySem.W.mg_of X G a_FoldError, PySem.W.mg_none_of X G zve⟩
  exact ⟨PySem.W.fnOf "law" "law" (defArgs s_law) (defBody s_law) (defScope s_law) .none kV8 dc8 pm8 an8 cd8 ct8, fun s v => .of_eq rfl, fun base _ _ => ok_law N_law N__law_well N__law_draw N__law_kinds N__law_by_name N__law_by_place N__law_fields N__law_taken B Kk kitN⟩
end T08
open PySem PySem.W PyProof.Rows
set_option maxRecDepth 100000 in
set_option maxHeartbeats 0 in
theorem PySem.Challenge.cw_foldbough_k08_refusals_apart_holds : PySem.Challenge.rw_foldbough_k08_refusals_apart.Holds := by
  w_on; o_law; k_head; (case hw => w_witness2)
  k_fill
  refine L2.walk_of (l := PySem.Challenge.rw_foldbough_k08_refusals_apart) (n := 63) (k := 4) (x := "_law_script") (CX := fun _ => L2.CX0) (sp := fun w => T08.sp_law (_)) rfl (by decide) rfl ⟨rfl, by decide, by decide⟩ (fun w h Y => PySem.W.kIn_of Y) ?F (fun _ _ a ns hl _ hS => ⟨a, ns, rfl, hS, hl, fun _ => rfl⟩) (fun _ _ _ _ _ z => z)
  case F =>
    intro w mg fa h KX G hmg
    refine' T08.all_mk KX G hmg ?a__law_well ?l__law_well ?o__law_well ?k__law_well ?a__law_draw ?l__law_draw ?o__law_draw ?k__law_draw ?a__law_kinds ?l__law_kinds ?o__law_kinds ?k__law_kinds ?a__law_by_name ?l__law_by_name ?o__law_by_name ?k__law_by_name ?a__law_by_place ?l__law_by_place ?o__law_by_place ?k__law_by_place ?a__law_fields ?l__law_fields ?o__law_fields ?k__law_fields ?a__law_taken ?l__law_taken ?o__law_taken ?k__law_taken ?a_law ?l_law ?o_law ?k_law ?hn ?ht ?a_FoldError ?a_NoColumns ?a_NoRow ?a_NoTree ?a_NoColumn ?a_NoFit ?a_NoFold ?a_NoBunch ?a_NoPaper ?a_TooMany ?a_NoPlace ?a_NoStretch ?a_NoCosts ?a_NoName ?a_NoTurn ?a_NothingDone ?a_NoText ?a_NoLine ?a_NoRow___init__ ?l_NoRow___init__ ?o_NoRow___init__ ?k_NoRow___init__ ?y_NoRow___init__ ?a_NoTree___init__ ?l_NoTree___init__ ?o_NoTree___init__ ?k_NoTree___init__ ?y_NoTree___init__ ?a_NoColumn___init__ ?l_NoColumn___init__ ?o_NoColumn___init__ ?k_NoColumn___init__ ?y_NoColumn___init__ ?a_NoFit___init__ ?l_NoFit___init__ ?o_NoFit___init__ ?k_NoFit___init__ ?y_NoFit___init__ ?a_NoFold___init__ ?l_NoFold___init__ ?o_NoFold___init__ ?k_NoFold___init__ ?y_NoFold___init__ ?a_NoBunch___init__ ?l_NoBunch___init__ ?o_NoBunch___init__ ?k_NoBunch___init__ ?y_NoBunch___init__ ?a_NoPaper___init__ ?l_NoPaper___init__ ?o_NoPaper___init__ ?k_NoPaper___init__ ?y_NoPaper___init__ ?a_TooMany___init__ ?l_TooMany___init__ ?o_TooMany___init__ ?k_TooMany___init__ ?y_TooMany___init__ ?a_NoPlace___init__ ?l_NoPlace___init__ ?o_NoPlace___init__ ?k_NoPlace___init__ ?y_NoPlace___init__ ?a_NoName___init__ ?l_NoName___init__ ?o_NoName___init__ ?k_NoName___init__ ?y_NoName___init__ ?a_NoTurn___init__ ?l_NoTurn___init__ ?o_NoTurn___init__ ?k_NoTurn___init__ ?y_NoTurn___init__ ?a_NoText___init__ ?l_NoText___init__ ?o_NoText___init__ ?k_NoText___init__ ?y_NoText___init__ ?a_NoLine___init__ ?l_NoLine___init__ ?o_NoLine___init__ ?k_NoLine___init__ ?y_NoLine___init__ ?z_len ?z_isi ?z_str ?z_list ?z_tuple ?z_dict ?z_int ?z_range ?z_enum ?z_all ?z_any ?z_max ?z_sorted ?xnNoColumns ?kxNoColumns ?bxNoColumns ?txNoColumns ?snfNoColumns ?xgNoColumns ?xkNoColumns ?xdNoColumns ?xaNoColumns ?xmNoColumns ?oxNoRow ?sxNoRow ?kxNoRow ?bxNoRow ?txNoRow ?nxNoRow ?snfNoRow ?xgNoRow ?xkNoRow ?xdNoRow ?xaNoRow ?xmNoRow ?oxNoTree ?sxNoTree ?kxNoTree ?bxNoTree ?txNoTree ?nxNoTree ?snfNoTree ?xgNoTree ?xkNoTree ?xdNoTree ?xaNoTree ?xmNoTree ?oxNoColumn ?sxNoColumn ?kxNoColumn ?bxNoColumn ?txNoColumn ?nxNoColumn ?snfNoColumn ?xgNoColumn ?xkNoColumn ?xdNoColumn ?xaNoColumn ?xmNoColumn ?oxNoFit ?sxNoFit ?kxNoFit ?bxNoFit ?txNoFit ?nxNoFit ?snfNoFit ?xgNoFit ?xkNoFit ?xdNoFit ?xaNoFit ?xmNoFit ?nx2NoFit ?oxNoFold ?sxNoFold ?kxNoFold ?bxNoFold ?txNoFold ?nxNoFold ?snfNoFold ?xgNoFold ?xkNoFold ?xdNoFold ?xaNoFold ?xmNoFold ?oxNoBunch ?sxNoBunch ?kxNoBunch ?bxNoBunch ?txNoBunch ?nxNoBunch ?snfNoBunch ?xgNoBunch ?xkNoBunch ?xdNoBunch ?xaNoBunch ?xmNoBunch ?oxNoPaper ?sxNoPaper ?kxNoPaper ?bxNoPaper ?txNoPaper ?nxNoPaper ?snfNoPaper ?xgNoPaper ?xkNoPaper ?xdNoPaper ?xaNoPaper ?xmNoPaper ?oxTooMany ?sxTooMany ?kxTooMany ?bxTooMany ?txTooMany ?nxTooMany ?snfTooMany ?xgTooMany ?xkTooMany ?xdTooMany ?xaTooMany ?xmTooMany ?oxNoPlace ?sxNoPlace ?kxNoPlace ?bxNoPlace ?txNoPlace ?nxNoPlace ?snfNoPlace ?xgNoPlace ?xkNoPlace ?xdNoPlace ?xaNoPlace ?xmNoPlace ?xnNoStretch ?kxNoStretch ?bxNoStretch ?txNoStretch ?snfNoStretch ?xgNoStretch ?xkNoStretch ?xdNoStretch ?xaNoStretch ?xmNoStretch ?xnNoCosts ?kxNoCosts ?bxNoCosts ?txNoCosts ?snfNoCosts ?xgNoCosts ?xkNoCosts ?xdNoCosts ?xaNoCosts ?xmNoCosts ?oxNoName ?sxNoName ?kxNoName ?bxNoName ?txNoName ?nxNoName ?snfNoName ?xgNoName ?xkNoName ?xdNoName ?xaNoName ?xmNoName ?oxNoTurn ?sxNoTurn ?kxNoTurn ?bxNoTurn ?txNoTurn ?nxNoTurn ?snfNoTurn ?xgNoTurn ?xkNoTurn ?xdNoTurn ?xaNoTurn ?xmNoTurn ?xnNothingDone ?kxNothingDone ?bxNothingDone ?txNothingDone ?snfNothingDone ?xgNothingDone ?xkNothingDone ?xdNothingDone ?xaNothingDone ?xmNothingDone ?oxNoText ?sxNoText ?kxNoText ?bxNoText ?txNoText ?nxNoText ?snfNoText ?xgNoText ?xkNoText ?xdNoText ?xaNoText ?xmNoText ?oxNoLine ?sxNoLine ?kxNoLine ?bxNoLine ?txNoLine ?nxNoLine ?snfNoLine ?xgNoLine ?xkNoLine ?xdNoLine ?xaNoLine ?xmNoLine ?bf ?hf ?tf ?zve ?kitB ?kitF ?kitV ?kitN
    (case a__law_well => k_is)
    (case l__law_well => k_is)
    (case o__law_well => k_is)
    (case k__law_well => k_is)
    (case a__law_draw => k_is)
    (case l__law_draw => k_is)
    (case o__law_draw => k_is)
    (case k__law_draw => k_is)
    (case a__law_kinds => k_is)
    (case l__law_kinds => k_is)
    (case o__law_kinds => k_is)
    (case k__law_kinds => k_is)
    (case a__law_by_name => k_is)
    (case l__law_by_name => k_is)
    (case o__law_by_name => k_is)
    (case k__law_by_name => k_is)
    (case a__law_by_place => k_is)
    (case l__law_by_place => k_is)
    (case o__law_by_place => k_is)
    (case k__law_by_place => k_is)
    (case a__law_fields => k_is)
    (case l__law_fields => k_is)
    (case o__law_fields => k_is)
    (case k__law_fields => k_is)
    (case a__law_taken => k_is)
    (case l__law_taken => k_is)
    (case o__law_taken => k_is)
    (case k__law_taken => k_is)
    (case a_law => k_is)
    (case l_law => k_is)
    (case o_law => k_is)
    (case k_law => k_is)
    (case hn => k_is)
    (case ht => k_is)
    (case a_FoldError => k_is)
    (case a_NoColumns => k_is)
    (case a_NoRow => k_is)
    (case a_NoTree => k_is)
    (case a_NoColumn => k_is)
    (case a_NoFit => k_is)
    (case a_NoFold => k_is)
    (case a_NoBunch => k_is)
    (case a_NoPaper => k_is)
    (case a_TooMany => k_is)
    (case a_NoPlace => k_is)
    (case a_NoStretch => k_is)
    (case a_NoCosts => k_is)
    (case a_NoName => k_is)
    (case a_NoTurn => k_is)
    (case a_NothingDone => k_is)
    (case a_NoText => k_is)
    (case a_NoLine => k_is)
    (case a_NoRow___init__ => k_is)
    (case l_NoRow___init__ => k_is)
    (case o_NoRow___init__ => k_is)
    (case k_NoRow___init__ => k_is)
    (case y_NoRow___init__ => k_is)
    (case a_NoTree___init__ => k_is)
    (case l_NoTree___init__ => k_is)
    (case o_NoTree___init__ => k_is)
    (case k_NoTree___init__ => k_is)
    (case y_NoTree___init__ => k_is)
    (case a_NoColumn___init__ => k_is)
    (case l_NoColumn___init__ => k_is)
    (case o_NoColumn___init__ => k_is)
    (case k_NoColumn___init__ => k_is)
    (case y_NoColumn___init__ => k_is)
    (case a_NoFit___init__ => k_is)
    (case l_NoFit___init__ => k_is)
    (case o_NoFit___init__ => k_is)
    (case k_NoFit___init__ => k_is)
    (case y_NoFit___init__ => k_is)
    (case a_NoFold___init__ => k_is)
    (case l_NoFold___init__ => k_is)
    (case o_NoFold___init__ => k_is)
    (case k_NoFold___init__ => k_is)
    (case y_NoFold___init__ => k_is)
    (case a_NoBunch___init__ => k_is)
    (case l_NoBunch___init__ => k_is)
    (case o_NoBunch___init__ => k_is)
    (case k_NoBunch___init__ => k_is)
    (case y_NoBunch___init__ => k_is)
    (case a_NoPaper___init__ => k_is)
    (case l_NoPaper___init__ => k_is)
    (case o_NoPaper___init__ => k_is)
    (case k_NoPaper___init__ => k_is)
    (case y_NoPaper___init__ => k_is)
    (case a_TooMany___init__ => k_is)
    (case l_TooMany___init__ => k_is)
    (case o_TooMany___init__ => k_is)
    (case k_TooMany___init__ => k_is)
    (case y_TooMany___init__ => k_is)
    (case a_NoPlace___init__ => k_is)
    (case l_NoPlace___init__ => k_is)
    (case o_NoPlace___init__ => k_is)
    (case k_NoPlace___init__ => k_is)
    (case y_NoPlace___init__ => k_is)
    (case a_NoName___init__ => k_is)
    (case l_NoName___init__ => k_is)
    (case o_NoName___init__ => k_is)
    (case k_NoName___init__ => k_is)
    (case y_NoName___init__ => k_is)
    (case a_NoTurn___init__ => k_is)
    (case l_NoTurn___init__ => k_is)
    (case o_NoTurn___init__ => k_is)
    (case k_NoTurn___init__ => k_is)
    (case y_NoTurn___init__ => k_is)
    (case a_NoText___init__ => k_is)
    (case l_NoText___init__ => k_is)
    (case o_NoText___init__ => k_is)
    (case k_NoText___init__ => k_is)
    (case y_NoText___init__ => k_is)
    (case a_NoLine___init__ => k_is)
    (case l_NoLine___init__ => k_is)
    (case o_NoLine___init__ => k_is)
    (case k_NoLine___init__ => k_is)
    (case y_NoLine___init__ => k_is)
    (case z_len => k_is)
    (case z_isi => k_is)
    (case z_str => k_is)
    (case z_list => k_is)
    (case z_tuple => k_is)
    (case z_dict => k_is)
    (case z_int => k_is)
    (case z_range => k_is)
    (case z_enum => k_is)
    (case z_all => k_is)
    (case z_any => k_is)
    (case z_max => k_is)
    (case z_sorted => k_is)
    (case xnNoColumns => k_exc)
    (case kxNoColumns => k_is)
    (case bxNoColumns => k_is)
    (case txNoColumns => k_is)
    (case snfNoColumns => k_is)
    (case xgNoColumns => k_is)
    (case xkNoColumns => k_is)
    (case xdNoColumns => k_is)
    (case xaNoColumns => k_is)
    (case xmNoColumns => k_is)
    (case oxNoRow => first | decide +kernel | rfl)
    (case sxNoRow => k_is)
    (case kxNoRow => k_is)
    (case bxNoRow => k_is)
    (case txNoRow => k_is)
    (case nxNoRow => k_is)
    (case snfNoRow => k_is)
    (case xgNoRow => k_is)
    (case xkNoRow => k_is)
    (case xdNoRow => k_is)
    (case xaNoRow => k_is)
    (case xmNoRow => k_is)
    (case oxNoTree => first | decide +kernel | rfl)
    (case sxNoTree => k_is)
    (case kxNoTree => k_is)
    (case bxNoTree => k_is)
    (case txNoTree => k_is)
    (case nxNoTree => k_is)
    (case snfNoTree => k_is)
    (case xgNoTree => k_is)
    (case xkNoTree => k_is)
    (case xdNoTree => k_is)
    (case xaNoTree => k_is)
    (case xmNoTree => k_is)
    (case oxNoColumn => first | decide +kernel | rfl)
    (case sxNoColumn => k_is)
    (case kxNoColumn => k_is)
    (case bxNoColumn => k_is)
    (case txNoColumn => k_is)
    (case nxNoColumn => k_is)
    (case snfNoColumn => k_is)
    (case xgNoColumn => k_is)
    (case xkNoColumn => k_is)
    (case xdNoColumn => k_is)
    (case xaNoColumn => k_is)
    (case xmNoColumn => k_is)
    (case oxNoFit => first | decide +kernel | rfl)
    (case sxNoFit => k_is)
    (case kxNoFit => k_is)
    (case bxNoFit => k_is)
    (case txNoFit => k_is)
    (case nxNoFit => k_is)
    (case snfNoFit => k_is)
    (case xgNoFit => k_is)
    (case xkNoFit => k_is)
    (case xdNoFit => k_is)
    (case xaNoFit => k_is)
    (case xmNoFit => k_is)
    (case nx2NoFit => k_is)
    (case oxNoFold => first | decide +kernel | rfl)
    (case sxNoFold => k_is)
    (case kxNoFold => k_is)
    (case bxNoFold => k_is)
    (case txNoFold => k_is)
    (case nxNoFold => k_is)
    (case snfNoFold => k_is)
    (case xgNoFold => k_is)
    (case xkNoFold => k_is)
    (case xdNoFold => k_is)
    (case xaNoFold => k_is)
    (case xmNoFold => k_is)
    (case oxNoBunch => first | decide +kernel | rfl)
    (case sxNoBunch => k_is)
    (case kxNoBunch => k_is)
    (case bxNoBunch => k_is)
    (case txNoBunch => k_is)
    (case nxNoBunch => k_is)
    (case snfNoBunch => k_is)
    (case xgNoBunch => k_is)
    (case xkNoBunch => k_is)
    (case xdNoBunch => k_is)
    (case xaNoBunch => k_is)
    (case xmNoBunch => k_is)
    (case oxNoPaper => first | decide +kernel | rfl)
    (case sxNoPaper => k_is)
    (case kxNoPaper => k_is)
    (case bxNoPaper => k_is)
    (case txNoPaper => k_is)
    (case nxNoPaper => k_is)
    (case snfNoPaper => k_is)
    (case xgNoPaper => k_is)
    (case xkNoPaper => k_is)
    (case xdNoPaper => k_is)
    (case xaNoPaper => k_is)
    (case xmNoPaper => k_is)
    (case oxTooMany => first | decide +kernel | rfl)
    (case sxTooMany => k_is)
    (case kxTooMany => k_is)
    (case bxTooMany => k_is)
    (case txTooMany => k_is)
    (case nxTooMany => k_is)
    (case snfTooMany => k_is)
    (case xgTooMany => k_is)
    (case xkTooMany => k_is)
    (case xdTooMany => k_is)
    (case xaTooMany => k_is)
    (case xmTooMany => k_is)
    (case oxNoPlace => first | decide +kernel | rfl)
    (case sxNoPlace => k_is)
    (case kxNoPlace => k_is)
    (case bxNoPlace => k_is)
    (case txNoPlace => k_is)
    (case nxNoPlace => k_is)
    (case snfNoPlace => k_is)
    (case xgNoPlace => k_is)
    (case xkNoPlace => k_is)
    (case xdNoPlace => k_is)
    (case xaNoPlace => k_is)
    (case xmNoPlace => k_is)
    (case xnNoStretch => k_exc)
    (case kxNoStretch => k_is)
    (case bxNoStretch => k_is)
    (case txNoStretch => k_is)
    (case snfNoStretch => k_is)
    (case xgNoStretch => k_is)
    (case xkNoStretch => k_is)
    (case xdNoStretch => k_is)
    (case xaNoStretch => k_is)
    (case xmNoStretch => k_is)
    (case xnNoCosts => k_exc)
    (case kxNoCosts => k_is)
    (case bxNoCosts => k_is)
    (case txNoCosts => k_is)
    (case snfNoCosts => k_is)
    (case xgNoCosts => k_is)
    (case xkNoCosts => k_is)
    (case xdNoCosts => k_is)
    (case xaNoCosts => k_is)
    (case xmNoCosts => k_is)
    (case oxNoName => first | decide +kernel | rfl)
    (case sxNoName => k_is)
    (case kxNoName => k_is)
    (case bxNoName => k_is)
    (case txNoName => k_is)
    (case nxNoName => k_is)
    (case snfNoName => k_is)
    (case xgNoName => k_is)
    (case xkNoName => k_is)
    (case xdNoName => k_is)
    (case xaNoName => k_is)
    (case xmNoName => k_is)
    (case oxNoTurn => first | decide +kernel | rfl)
    (case sxNoTurn => k_is)
    (case kxNoTurn => k_is)
    (case bxNoTurn => k_is)
    (case txNoTurn => k_is)
    (case nxNoTurn => k_is)
    (case snfNoTurn => k_is)
    (case xgNoTurn => k_is)
    (case xkNoTurn => k_is)
    (case xdNoTurn => k_is)
    (case xaNoTurn => k_is)
    (case xmNoTurn => k_is)
    (case xnNothingDone => k_exc)
    (case kxNothingDone => k_is)
    (case bxNothingDone => k_is)
    (case txNothingDone => k_is)
    (case snfNothingDone => k_is)
    (case xgNothingDone => k_is)
    (case xkNothingDone => k_is)
    (case xdNothingDone => k_is)
    (case xaNothingDone => k_is)
    (case xmNothingDone => k_is)
    (case oxNoText => first | decide +kernel | rfl)
    (case sxNoText => k_is)
    (case kxNoText => k_is)
    (case bxNoText => k_is)
    (case txNoText => k_is)
    (case nxNoText => k_is)
    (case snfNoText => k_is)
    (case xgNoText => k_is)
    (case xkNoText => k_is)
    (case xdNoText => k_is)
    (case xaNoText => k_is)
    (case xmNoText => k_is)
    (case oxNoLine => first | decide +kernel | rfl)
    (case sxNoLine => k_is)
    (case kxNoLine => k_is)
    (case bxNoLine => k_is)
    (case txNoLine => k_is)
    (case nxNoLine => k_is)
    (case snfNoLine => k_is)
    (case xgNoLine => k_is)
    (case xkNoLine => k_is)
    (case xdNoLine => k_is)
    (case xaNoLine => k_is)
    (case xmNoLine => k_is)
    (case bf => k_is)
    (case hf => k_is)
    (case tf => k_is)
    (case zve => k_is)
    (case kitB => first | decide +kernel | rfl)
    (case kitF => first | decide +kernel | rfl)
    (case kitV => first | decide +kernel | rfl)
    (case kitN => first | decide +kernel | kit_is)

