import PyProof.Rows.All
import Wide.All
import OpenK.AllK
import Wide.FinOn
import HandS.ForMost
import HandS.Exc
import HandS.TryOnly
import HandS.ExcOwn
import HandS.WordsExc
import HandS.IsInst
import HandS.ExcIs
import HandS.DictComp
import HandS.Walk
import HandS.Conv
import HandS.Codes
import HandS.OwnEq
import KE.KExcIs
import HandS.ExcInit
import HandS.ExcField
import HandS.TupSets
import HandS.SortOrd
import HandS.SetBool
import HandS.TupAny
import HandS.Strs
import HandS.Defaults
import PyProof.Rows.Range3
import HandS.FStr
import HandS.Nested
import HandS.Comp
import HandS.Style
import HandS.Deep
import HandS.TupMul
import HandS.MakeKwOnly
import HandS.Ends
import KE.KExcStr
import KE.RegKIsAll
import HandS.MakeKw
import PySem.Challenge.RW_foldbough_k01_tables_made
set_option Elab.async false
set_option linter.all false
set_option maxRecDepth 100000
/-! Mathematics of forests of names told as lists of pairs. -/
namespace TM
open PySem L2
/-- one to eight small letters -/
def NameOk (s : Str) : Prop := 1 ≤ s.length ∧ s.length ≤ 8 ∧ ∀ c ∈ s.cps.toList, 97 ≤ c ∧ c ≤ 122
inductive Fo where
  | nil
  | cons (c : Str) (kids rest : Fo)
abbrev Pr := Str × Option Str
def flat : Fo → Option Str → List Pr
  | .nil, _ => []
  | .cons c k r, u => (c, u) :: (flat k (some c) ++ flat r u)
def names : Fo → List Str
  | .nil => []
  | .cons c k r => c :: (names k ++ names r)
def app : Fo → Fo → Fo
  | .nil, g => g
  | .cons c k r, g => .cons c k (app r g)
/-- the forest beneath u of a list of pairs in which overs stand ahead -/
def mk : List Pr → Option Str → Fo
  | [], _ => .nil
  | (c, o) :: r, u => if o = u then .cons c (mk r (some c)) (mk r u) else mk r u
def ord (ps : List Pr) (u : Option Str) : List Str := names (mk ps u)
theorem ord_nil (u : Option Str) : ord [] u = [] := rfl
theorem ord_cons (c : Str) (o : Option Str) (r : List Pr) (u : Option Str) : ord ((c, o) :: r) u = if o = u then c :: (ord r (some c) ++ ord r u) else ord r u := by
  unfold ord
  show names (if o = u then .cons c (mk r (some c)) (mk r u) else mk r u) = _
  split <;> rfl
theorem flat_names : ∀ (f : Fo) (u : Option Str), (flat f u).map Prod.fst = names f
  | .nil, _ => rfl
  | .cons c k r, u => by
    show c :: ((flat k (some c) ++ flat r u).map Prod.fst) = c :: (names k ++ names r)
    rw [List.map_append, flat_names k, flat_names r]
theorem flat_app : ∀ (f g : Fo) (u : Option Str), flat (app f g) u = flat f u ++ flat g u
  | .nil, _, _ => rfl
  | .cons c k r, g, u => by
    show (c, u) :: (flat k (some c) ++ flat (app r g) u) = (c, u) :: (flat k (some c) ++ flat r u) ++ flat g u
    rw [flat_app r g u, List.cons_append, List.append_assoc]
theorem names_app : ∀ (f g : Fo), names (app f g) = names f ++ names g
  | .nil, _ => rfl
  | .cons c k r, g => by
    show c :: (names k ++ names (app r g)) = c :: (names k ++ names r) ++ names g
    rw [names_app r g, List.cons_append, List.append_assoc]
theorem app_nil : ∀ f : Fo, app f .nil = f
  | .nil => rfl
  | .cons c k r => by show Fo.cons c k (app r .nil) = _; rw [app_nil r]
/-- every over told is none, or a name that is told ahead; names unlike -/
def Valid : List Str → List Pr → Prop
  | _, [] => True
  | seen, (c, o) :: r => c ∉ seen ∧ (∀ x, o = some x → x ∈ seen) ∧ Valid (seen ++ [c]) r
theorem valid_notin : ∀ {ps : List Pr} {seen : List Str} {x : Str}, Valid seen ps → x ∈ seen → x ∉ ps.map Prod.fst
  | [], _, _, _, _ => by simp
  | (c, o) :: r, seen, x, h, hx => by
    obtain ⟨h1, _, h3⟩ := h
    have ih := valid_notin (x := x) h3 (List.mem_append_left _ hx)
    simp only [List.map_cons, List.mem_cons, not_or]
    exact ⟨fun e => h1 (e ▸ hx), ih⟩
theorem valid_nodup : ∀ {ps : List Pr} {seen : List Str}, Valid seen ps → (ps.map Prod.fst).Nodup
  | [], _, _ => by simp
  | (c, o) :: r, seen, h => by
    obtain ⟨_, _, h3⟩ := h
    simp only [List.map_cons, List.nodup_cons]
    exact ⟨valid_notin h3 (by simp), valid_nodup h3⟩
/-- nothing stands beneath a name that is told nowhere as an over -/
theorem mk_none : ∀ {ps : List Pr} {u : Option Str}, (∀ p ∈ ps, p.2 ≠ u) → mk ps u = .nil
  | [], _, _ => rfl
  | (c, o) :: r, u, h => by
    show (if o = u then _ else mk r u) = _
    rw [if_neg (h (c, o) List.mem_cons_self)]
    exact mk_none fun p hp => h p (List.mem_cons_of_mem _ hp)
/-- a forest told in its own order, and what comes behind -/
theorem mk_flat : ∀ (f : Fo) (r : List Pr) (u : Option Str), (names f).Nodup → (∀ x ∈ names f, u ≠ some x) → (∀ p ∈ r, ∀ x ∈ names f, p.2 ≠ some x) →
    mk (flat f u ++ r) u = app f (mk r u) ∧ ∀ v, v ≠ u → (∀ x ∈ names f, v ≠ some x) → mk (flat f u ++ r) v = mk r v
  | .nil, r, u, _, _, _ => ⟨rfl, fun v _ _ => rfl⟩
  | .cons c k s, r, u, hn, hu, hr => by
    have hn' : (c :: (names k ++ names s)).Nodup := hn
    rw [List.nodup_cons, List.nodup_append] at hn'
    obtain ⟨hc, hk, hs, hks⟩ := hn'
    have hck : c ∉ names k := fun z => hc (List.mem_append_left _ z)
    have hcs : c ∉ names s := fun z => hc (List.mem_append_right _ z)
    have mem_k : ∀ x ∈ names k, x ∈ names (Fo.cons c k s) := fun x hx => List.mem_cons_of_mem _ (List.mem_append_left _ hx)
    have mem_s : ∀ x ∈ names s, x ∈ names (Fo.cons c k s) := fun x hx => List.mem_cons_of_mem _ (List.mem_append_right _ hx)
    have mem_c : c ∈ names (Fo.cons c k s) := List.mem_cons_self
    have huc : u ≠ some c := hu c mem_c
    -- the rest behind the kids
    have over_s : ∀ p ∈ flat s u, p.2 = u ∨ ∃ x ∈ names s, p.2 = some x := by
      have gen : ∀ (f : Fo) (u : Option Str), ∀ p ∈ flat f u, p.2 = u ∨ ∃ x ∈ names f, p.2 = some x := by
        intro f
        induction f with
        | nil => intro u p hp; cases hp
        | cons c k r ihk ihr =>
          intro u p hp
          have hp' : p ∈ (c, u) :: (flat k (some c) ++ flat r u) := hp
          rcases List.mem_cons.mp hp' with e | hp'
          · left; rw [e]
          · rcases List.mem_append.mp hp' with hp' | hp'
            · rcases ihk _ p hp' with e | ⟨x, hx, e⟩
              · exact .inr ⟨c, List.mem_cons_self, e⟩
              · exact .inr ⟨x, List.mem_cons_of_mem _ (List.mem_append_left _ hx), e⟩
            · rcases ihr _ p hp' with e | ⟨x, hx, e⟩
              · exact .inl e
              · exact .inr ⟨x, List.mem_cons_of_mem _ (List.mem_append_right _ hx), e⟩
      exact gen s u
    have hR : ∀ p ∈ flat s u ++ r, ∀ x ∈ names k, p.2 ≠ some x := by
      intro p hp x hx e
      rcases List.mem_append.mp hp with hp | hp
      · rcases over_s p hp with e2 | ⟨y, hy, e2⟩
        · exact hu x (mem_k x hx) (e2 ▸ e)
        · rw [e2] at e
          exact hks x hx y hy (Option.some.inj e).symm
      · exact hr p hp x (mem_k x hx) e
    obtain ⟨k1, k2⟩ := mk_flat k (flat s u ++ r) (some c) hk (fun x hx e => hck (Option.some.inj e ▸ hx)) hR
    obtain ⟨s1, s2⟩ := mk_flat s r u hs (fun x hx => hu x (mem_s x hx)) (fun p hp x hx => hr p hp x (mem_s x hx))
    have rc : mk r (some c) = .nil := mk_none fun p hp => hr p hp c mem_c
    have sc : mk (flat s u ++ r) (some c) = .nil := by
      rw [s2 (some c) huc.symm (fun x hx e => hcs (Option.some.inj e ▸ hx)), rc]
    have e0 : flat (Fo.cons c k s) u ++ r = (c, u) :: (flat k (some c) ++ (flat s u ++ r)) := by
      show (c, u) :: (flat k (some c) ++ flat s u) ++ r = _
      rw [List.cons_append, List.append_assoc]
    rw [e0]
    refine ⟨?_, fun v hvu hv => ?_⟩
    · show (if u = u then Fo.cons c (mk (flat k (some c) ++ (flat s u ++ r)) (some c)) (mk (flat k (some c) ++ (flat s u ++ r)) u) else _) = Fo.cons c k (app s (mk r u))
      rw [if_pos rfl, k1, sc, app_nil, k2 u huc (fun x hx => hu x (mem_k x hx)), s1]
    · show (if u = v then _ else mk (flat k (some c) ++ (flat s u ++ r)) v) = _
      rw [if_neg (fun e => hvu e.symm), k2 v (hv c mem_c) (fun x hx => hv x (mem_k x hx)), s2 v hvu (fun x hx => hv x (mem_s x hx))]
theorem mk_own {f : Fo} (hn : (names f).Nodup) : mk (flat f none) none = f := by
  have h := (mk_flat f [] none hn (fun _ _ e => nomatch e) (fun p hp => nomatch hp)).1
  rw [List.append_nil] at h
  rw [h]
  exact app_nil f
theorem mk_two {f g : Fo} (hn : (names (app f g)).Nodup) : mk (flat f none ++ flat g none) none = app f g := by
  rw [← flat_app]
  exact mk_own hn
/-- a forest told in its own order is validly told -/
theorem valid_app : ∀ {ps qs : List Pr} {seen : List Str}, Valid seen ps → Valid (seen ++ ps.map Prod.fst) qs → Valid seen (ps ++ qs)
  | [], qs, seen, _, h => by simpa using h
  | (c, o) :: r, qs, seen, ⟨h1, h2, h3⟩, h => by
    refine ⟨h1, h2, valid_app h3 ?_⟩
    simpa [List.append_assoc] using h
theorem valid_flat : ∀ (f : Fo) (seen : List Str) (u : Option Str), (∀ x, u = some x → x ∈ seen) → (seen ++ names f).Nodup → Valid seen (flat f u)
  | .nil, _, _, _, _ => trivial
  | .cons c k r, seen, u, hu, hn => by
    have hn' : (seen ++ c :: (names k ++ names r)).Nodup := hn
    have e1 : seen ++ c :: (names k ++ names r) = seen ++ [c] ++ names k ++ names r := by simp [List.append_assoc]
    rw [e1] at hn'
    have n1 : (seen ++ [c] ++ names k).Nodup := (List.nodup_append.mp hn').1
    have n2 : (seen ++ [c]).Nodup := (List.nodup_append.mp n1).1
    refine ⟨fun hc => ?_, hu, valid_app (valid_flat k _ (some c) (fun x e => by cases e; simp) n1) ?_⟩
    · have := (List.nodup_append.mp n2).2.2
      exact this c hc c (by simp) rfl
    · rw [flat_names]
      exact valid_flat r _ u (fun x e => List.mem_append_left _ (List.mem_append_left _ (hu x e))) hn'
theorem over_flat : ∀ (f : Fo) (u : Option Str), ∀ p ∈ flat f u, p.2 = u ∨ ∃ x ∈ names f, p.2 = some x := by
  intro f
  induction f with
  | nil => intro u p hp; cases hp
  | cons c k r ihk ihr =>
    intro u p hp
    have hp' : p ∈ (c, u) :: (flat k (some c) ++ flat r u) := hp
    rcases List.mem_cons.mp hp' with e | hp'
    · left; rw [e]
    · rcases List.mem_append.mp hp' with hp' | hp'
      · rcases ihk _ p hp' with e | ⟨x, hx, e⟩
        · exact .inr ⟨c, List.mem_cons_self, e⟩
        · exact .inr ⟨x, List.mem_cons_of_mem _ (List.mem_append_left _ hx), e⟩
      · rcases ihr _ p hp' with e | ⟨x, hx, e⟩
        · exact .inl e
        · exact .inr ⟨x, List.mem_cons_of_mem _ (List.mem_append_right _ hx), e⟩
end TM
namespace TM
open PySem L2
theorem valid_at : ∀ {ps : List Pr} {seen : List Str} {i : Nat} {c : Str} {o : Option Str}, Valid seen ps → ps[i]? = some (c, o) → c ∉ seen ++ (ps.take i).map Prod.fst ∧ ∀ x, o = some x → x ∈ seen ++ (ps.take i).map Prod.fst
  | [], _, _, _, _, _, h => by simp at h
  | (a, b) :: r, seen, 0, c, o, ⟨h1, h2, _⟩, h => by
    simp only [List.getElem?_cons_zero, Option.some.injEq, Prod.mk.injEq] at h
    obtain ⟨rfl, rfl⟩ := h
    simpa using ⟨h1, h2⟩
  | (a, b) :: r, seen, i + 1, c, o, ⟨h1, h2, h3⟩, h => by
    have h' : r[i]? = some (c, o) := by simpa using h
    have ih := valid_at h3 h'
    simpa [List.append_assoc] using ih
theorem valid_take : ∀ {ps : List Pr} {seen : List Str} (i : Nat), Valid seen ps → Valid seen (ps.take i)
  | [], _, i, _ => by simp [Valid]
  | (a, b) :: r, seen, 0, _ => trivial
  | (a, b) :: r, seen, i + 1, ⟨h1, h2, h3⟩ => ⟨h1, h2, valid_take i h3⟩
/-- nothing ahead of a suffix stands right beneath u -/
def Below (ps : List Pr) (u : Option Str) (n : Nat) : Prop := ∃ pre t, ps = pre ++ t ∧ t.length < n ∧ ∀ p ∈ pre, p.2 ≠ u
theorem below_top (ps : List Pr) {n : Nat} (h : ps.length < n) : Below ps none n := ⟨[], ps, rfl, h, fun _ h => nomatch h⟩
/-- the over of a name stands nowhere ahead of it -/
theorem ahead : ∀ {ps : List Pr} {seen : List Str} {x : Str}, Valid seen ps → x ∉ seen → x ∉ ps.map Prod.fst → ∀ p ∈ ps, p.2 ≠ some x
  | [], _, _, _, _, _, p, hp => nomatch hp
  | (a, b) :: r, seen, x, ⟨h1, h2, h3⟩, hs, hx, p, hp => by
    rw [List.map_cons, List.mem_cons, not_or] at hx
    rcases List.mem_cons.mp hp with e | hp
    · rw [e]
      intro e2
      exact hs (h2 x e2)
    · exact ahead h3 (by simp [hs, hx.1]) hx.2 p hp
/-- beneath a column there is only what stands behind it -/
theorem ahead_at {ps : List Pr} {i : Nat} {c : Str} {o : Option Str} (va : Valid [] ps) (h : ps[i]? = some (c, o)) : ∀ p ∈ ps.take (i + 1), p.2 ≠ some c := by
  have hc := (valid_at va h).1
  rw [List.nil_append] at hc
  have e : ps.take (i + 1) = ps.take i ++ [(c, o)] := by rw [List.take_add_one, h]; rfl
  intro p hp
  rw [e] at hp
  rcases List.mem_append.mp hp with hp | hp
  · exact ahead (valid_take i va) (by simp) hc p hp
  · rw [List.mem_singleton.mp hp]
    intro e2
    have h2 := (valid_at va h).2 c e2
    rw [List.nil_append] at h2
    exact hc h2
theorem below_at {ps : List Pr} {i : Nat} {c : Str} {o : Option Str} {n : Nat} (va : Valid [] ps) (h : ps[i]? = some (c, o)) (b : Below ps o (n + 1)) : Below ps (some c) n := by
  obtain ⟨pre, t, e, hl, hp⟩ := b
  have hi : i < ps.length := (List.getElem?_eq_some_iff.mp h).1
  have hpi : pre.length ≤ i := by
    refine Nat.le_of_not_lt fun hlt => ?_
    have : pre[i]? = some (c, o) := by
      rw [e, List.getElem?_append_left hlt] at h
      exact h
    exact hp _ (List.mem_of_getElem? this) rfl
  refine ⟨ps.take (i + 1), ps.drop (i + 1), (List.take_append_drop _ _).symm, ?_, ahead_at va h⟩
  rw [List.length_drop]
  have := congrArg List.length e
  rw [List.length_append] at this
  omega
theorem mk_skip : ∀ {pre t : List Pr} {u : Option Str}, (∀ p ∈ pre, p.2 ≠ u) → mk (pre ++ t) u = mk t u
  | [], _, _, _ => rfl
  | (c, o) :: r, t, u, h => by
    show (if o = u then _ else mk (r ++ t) u) = _
    rw [if_neg (h (c, o) List.mem_cons_self)]
    exact mk_skip fun p hp => h p (List.mem_cons_of_mem _ hp)
/-- the order, told as the program tells it -/
def step (ps : List Pr) (u : Option Str) (p : Pr) : List Str := if p.2 = u then p.1 :: ord ps (some p.1) else []
theorem ord_suffix {ps : List Pr} (va : Valid [] ps) (u : Option Str) : ∀ (t pre : List Pr), ps = pre ++ t → ord t u = t.flatMap (step ps u)
  | [], _, _ => rfl
  | (c, o) :: r, pre, e => by
    have hi : ps[pre.length]? = some (c, o) := by rw [e]; simp
    have h1 : ord ps (some c) = ord r (some c) := by
      have h2 := ahead_at va hi
      have e2 : ps = ps.take (pre.length + 1) ++ r := by
        have e3 : pre ++ (c, o) :: r = (pre ++ [(c, o)]) ++ r := by simp
        have e4 : ps.take (pre.length + 1) = pre ++ [(c, o)] := by
          rw [e, e3, List.take_append_of_le_length (by simp)]
          rw [List.take_of_length_le (by simp)]
        rw [e4, ← e3]
        exact e
      unfold ord
      rw [e2, mk_skip h2]
    have ih := ord_suffix va u r (pre ++ [(c, o)]) (by rw [e]; simp)
    rw [ord_cons, List.flatMap_cons, ← ih]
    unfold step
    rw [h1]
    by_cases ho : o = u
    · simp [ho]
    · simp [ho]
theorem ord_flat {ps : List Pr} (va : Valid [] ps) (u : Option Str) : ord ps u = ps.flatMap (step ps u) := ord_suffix va u ps [] rfl
theorem ord_take {ps : List Pr} {u : Option Str} {i : Nat} {q : Pr} (h : ps[i]? = some q) : (ps.take (i + 1)).flatMap (step ps u) = (ps.take i).flatMap (step ps u) ++ step ps u q := by
  rw [List.take_add_one, h, List.flatMap_append]
  show _ ++ (step ps u q ++ []) = _
  rw [List.append_nil]
/-- the names in the tree's order are the names told -/
theorem pick : ∀ {us : List (Option Str)} {o : Option Str} {A : List Str} {g : Option Str → List Str}, us.Nodup → o ∈ us → (us.flatMap fun u => if o = u then A ++ g u else g u).Perm (A ++ us.flatMap g)
  | [], _, _, _, _, h => nomatch h
  | v :: us, o, A, g, hn, h => by
    rw [List.nodup_cons] at hn
    by_cases e : o = v
    · have hn2 : o ∉ us := e ▸ hn.1
      have e2 : (us.flatMap fun u => if o = u then A ++ g u else g u) = us.flatMap g := by
        clear hn h
        induction us with
        | nil => rfl
        | cons x r ih =>
          rw [List.mem_cons, not_or] at hn2
          rw [List.flatMap_cons, List.flatMap_cons, ih hn2.2, if_neg hn2.1]
      rw [List.flatMap_cons, List.flatMap_cons, e2, if_pos e, List.append_assoc]
    · have h2 : o ∈ us := (List.mem_cons.mp h).resolve_left e
      rw [List.flatMap_cons, List.flatMap_cons, if_neg e]
      have ih := pick (A := A) (g := g) hn.2 h2
      refine ((List.Perm.append_left (g v) ih).trans ?_)
      rw [← List.append_assoc, ← List.append_assoc]
      exact List.Perm.append_right _ List.perm_append_comm
theorem ords_perm : ∀ {ps : List Pr} {seen : List Str}, seen.Nodup → Valid seen ps → ((none :: seen.map some).flatMap (ord ps)).Perm (ps.map Prod.fst)
  | [], seen, _, _ => by
    have : ∀ us : List (Option Str), us.flatMap (ord []) = [] := by
      intro us
      induction us with
      | nil => rfl
      | cons u us ih => rw [List.flatMap_cons, ih]; rfl
    rw [this]
    exact List.Perm.nil
  | (c, o) :: r, seen, hn, ⟨h1, h2, h3⟩ => by
    have hn2 : (seen ++ [c]).Nodup := by
      rw [List.nodup_append]
      refine ⟨hn, by simp, fun a ha b hb => ?_⟩
      rw [List.mem_singleton.mp hb]
      exact fun e => h1 (e ▸ ha)
    have ih := ords_perm hn2 h3
    have hu : (none :: seen.map some : List (Option Str)).Nodup := by
      rw [List.nodup_cons]
      refine ⟨by simp, ?_⟩
      rw [List.nodup_iff_pairwise_ne, List.pairwise_map]
      exact List.Pairwise.imp (fun h e => h (Option.some.inj e)) (List.nodup_iff_pairwise_ne.mp hn)
    have ho : o ∈ (none :: seen.map some : List (Option Str)) := by
      cases o with
      | none => exact List.mem_cons_self
      | some x => exact List.mem_cons_of_mem _ (List.mem_map.mpr ⟨x, h2 x rfl, rfl⟩)
    have e1 : (none :: seen.map some).flatMap (ord ((c, o) :: r)) = (none :: seen.map some).flatMap fun u => if o = u then (c :: ord r (some c)) ++ ord r u else ord r u := by
      congr 1
      funext u
      rw [ord_cons]
      split <;> rfl
    rw [e1]
    refine (pick hu ho).trans ?_
    rw [List.map_cons, List.cons_append]
    refine List.Perm.cons c ?_
    refine List.Perm.trans ?_ ih
    rw [List.map_append, ← List.cons_append, List.flatMap_append]
    have e3 : List.flatMap (ord r) (List.map some [c]) = ord r (some c) := by
      show ord r (some c) ++ [] = _
      rw [List.append_nil]
    rw [e3]
    exact List.perm_append_comm
theorem ord_perm {ps : List Pr} (va : Valid [] ps) : (ord ps none).Perm (ps.map Prod.fst) := by
  have := ords_perm List.nodup_nil va
  simpa using this
theorem ord_nodup {ps : List Pr} (va : Valid [] ps) : (ord ps none).Nodup := (List.Perm.nodup_iff (ord_perm va)).mpr (valid_nodup va)
/-- the pairs in the tree's order are pairs told -/
theorem mk_sub : ∀ {ps : List Pr} {u : Option Str} {p : Pr}, p ∈ flat (mk ps u) u → p ∈ ps
  | [], _, _, h => nomatch h
  | (c, o) :: r, u, p, h => by
    have h' : p ∈ flat (if o = u then .cons c (mk r (some c)) (mk r u) else mk r u) u := h
    by_cases e : o = u
    · rw [if_pos e] at h'
      have h'' : p ∈ (c, u) :: (flat (mk r (some c)) (some c) ++ flat (mk r u) u) := h'
      rcases List.mem_cons.mp h'' with e2 | h2
      · rw [e2, e]
        exact List.mem_cons_self
      · rcases List.mem_append.mp h2 with h2 | h2
        · exact List.mem_cons_of_mem _ (mk_sub h2)
        · exact List.mem_cons_of_mem _ (mk_sub h2)
    · rw [if_neg e] at h'
      exact List.mem_cons_of_mem _ (mk_sub h')
end TM
namespace TM
open PySem L2
theorem flat_le {α β : Type} {f : α → List β} {k : Nat} : ∀ {l : List α}, (∀ a ∈ l, (f a).length ≤ k) → (l.flatMap f).length ≤ k * l.length
  | [], _ => by simp
  | a :: r, h => by
    rw [List.flatMap_cons, List.length_append, List.length_cons, Nat.mul_succ]
    have h1 := h a List.mem_cons_self
    have h2 := flat_le (l := r) fun b hb => h b (List.mem_cons_of_mem _ hb)
    omega
theorem flat_no {ps : List Pr} {c : Str} {o : Option Str} {us : List (Option Str)} (h : o ∉ us) : us.flatMap (ord ((c, o) :: ps)) = us.flatMap (ord ps) := by
  induction us with
  | nil => rfl
  | cons u r ih =>
    rw [List.mem_cons, not_or] at h
    rw [List.flatMap_cons, List.flatMap_cons, ih h.2, ord_cons, if_neg h.1]
theorem ords_le : ∀ {ps : List Pr} {seen : List Str} {us : List (Option Str)}, us.Nodup → Valid seen ps → (∀ x ∈ ps.map Prod.fst, some x ∉ us) → (us.flatMap (ord ps)).length ≤ ps.length
  | [], _, us, _, _, _ => by
    induction us with
    | nil => exact Nat.le_refl _
    | cons u us ih =>
      rw [List.flatMap_cons, List.length_append]
      rename_i h _ _
      have := ih (List.nodup_cons.mp (by assumption)).2 (fun x hx => nomatch hx)
      rw [ord_nil]
      simpa using this
  | (c, o) :: r, seen, us, hu, ⟨h1, h2, h3⟩, hx => by
    by_cases ho : o ∈ us
    · have e1 : us.flatMap (ord ((c, o) :: r)) = us.flatMap fun u => if o = u then (c :: ord r (some c)) ++ ord r u else ord r u := by
        congr 1
        funext u
        rw [ord_cons]
        split <;> rfl
      rw [e1, (pick (A := c :: ord r (some c)) (g := ord r) hu ho).length_eq]
      have hc : some c ∉ us := hx c (by simp)
      have ih := ords_le (us := some c :: us) (List.nodup_cons.mpr ⟨hc, hu⟩) h3 (fun x hx2 h => by
        rcases List.mem_cons.mp h with e | h
        · have := valid_notin h3 (x := c) (by simp)
          exact this (Option.some.inj e ▸ hx2)
        · exact hx x (List.mem_cons_of_mem _ hx2) h)
      rw [List.flatMap_cons, List.length_append] at ih
      simp only [List.length_append, List.length_cons]
      omega
    · rw [flat_no ho]
      have ih := ords_le hu h3 (fun x hx2 => hx x (List.mem_cons_of_mem _ hx2))
      rw [List.length_cons]
      omega
theorem valid_drop : ∀ {ps : List Pr} {seen : List Str} (i : Nat), Valid seen ps → ∃ s, Valid s (ps.drop i)
  | [], seen, i, _ => ⟨seen, by simp [Valid]⟩
  | (a, b) :: r, seen, 0, h => ⟨seen, h⟩
  | (a, b) :: r, seen, i + 1, ⟨_, _, h3⟩ => valid_drop i h3
theorem ord_le {ps : List Pr} (va : Valid [] ps) (u : Option Str) : (ord ps u).length ≤ ps.length := by
  have one : ∀ (qs : List Pr) (s : List Str), Valid s qs → (∀ x ∈ qs.map Prod.fst, u ≠ some x) → (ord qs u).length ≤ qs.length := fun qs s v h => by
    have := ords_le (us := [u]) (by simp) v (fun x hx e => h x hx (List.mem_singleton.mp e).symm)
    simpa using this
  by_cases h : ∃ c, u = some c ∧ c ∈ ps.map Prod.fst
  · obtain ⟨c, rfl, hc⟩ := h
    obtain ⟨⟨c', o⟩, hm, rfl⟩ := List.mem_map.mp hc
    obtain ⟨i, hi, hie⟩ := List.getElem_of_mem hm
    have hq : ps[i]? = some (c', o) := by rw [List.getElem?_eq_getElem hi, hie]
    have e : ord ps (some c') = ord (ps.drop (i + 1)) (some c') := by
      unfold ord
      have := mk_skip (t := ps.drop (i + 1)) (ahead_at va hq)
      rw [List.take_append_drop] at this
      rw [this]
    obtain ⟨s, vs⟩ := valid_drop (i + 1) va
    have hnd := valid_nodup va
    rw [e]
    refine Nat.le_trans (one _ s vs fun x hx e2 => ?_) (by rw [List.length_drop]; omega)
    cases e2
    rw [List.map_drop] at hx
    obtain ⟨j, hj, hje⟩ := List.getElem_of_mem hx
    rw [List.getElem_drop] at hje
    have h1 : (ps.map Prod.fst)[i]'(by simpa using hi) = c' := by rw [List.getElem_map, hie]
    have := (List.getElem_inj hnd).mp (hje.trans h1.symm)
    omega
  · exact one ps [] va fun x hx e => h ⟨x, e, hx⟩
end TM

/-! Where a name stands in a forest: what is above it, what is beneath. -/
namespace TM
open PySem L2
/-- what is above a name, and the forest beneath it -/
def loc : Fo → Str → Option (List Str × Fo)
  | .nil, _ => none
  | .cons d k r, c => if d = c then some ([], k) else match loc k c with
    | some (a, q) => some (d :: a, q)
    | none => loc r c
def tops : Fo → List Str
  | .nil => []
  | .cons c _ r => c :: tops r
theorem loc_names : ∀ {f : Fo} {c : Str}, c ∈ names f → ∃ a q, loc f c = some (a, q)
  | .nil, _, h => nomatch h
  | .cons d k r, c, h => by
    unfold loc
    by_cases e : d = c
    · exact ⟨_, _, if_pos e⟩
    · rw [if_neg e]
      cases hk : loc k c with
      | some p => exact ⟨_, _, rfl⟩
      | none =>
        have h' : c ∈ d :: (names k ++ names r) := h
        rcases List.mem_cons.mp h' with e2 | h2
        · exact absurd e2.symm e
        · rcases List.mem_append.mp h2 with h2 | h2
          · obtain ⟨a, q, e3⟩ := loc_names h2
            rw [hk] at e3
            cases e3
          · exact loc_names h2
theorem loc_mem : ∀ {f : Fo} {c : Str} {a : List Str} {q : Fo}, loc f c = some (a, q) → c ∈ names f
  | .nil, _, _, _, h => by unfold loc at h; cases h
  | .cons d k r, c, a, q, h => by
    unfold loc at h
    show c ∈ d :: (names k ++ names r)
    by_cases e : d = c
    · rw [e]; exact List.mem_cons_self
    · rw [if_neg e] at h
      cases hk : loc k c with
      | some p =>
        obtain ⟨b, p⟩ := p
        exact List.mem_cons_of_mem _ (List.mem_append_left _ (loc_mem hk))
      | none =>
        rw [hk] at h
        exact List.mem_cons_of_mem _ (List.mem_append_right _ (loc_mem h))
theorem loc_none {f : Fo} {c : Str} (h : c ∉ names f) : loc f c = none := by
  cases e : loc f c with
  | none => rfl
  | some p => exact absurd (loc_mem (a := p.1) (q := p.2) e) h
theorem nd_parts {d : Str} {k r : Fo} (h : (names (.cons d k r)).Nodup) : d ∉ names k ∧ d ∉ names r ∧ (names k).Nodup ∧ (names r).Nodup ∧ ∀ x ∈ names k, x ∉ names r := by
  have h' : (d :: (names k ++ names r)).Nodup := h
  rw [List.nodup_cons, List.nodup_append] at h'
  exact ⟨fun z => h'.1 (List.mem_append_left _ z), fun z => h'.1 (List.mem_append_right _ z), h'.2.1, h'.2.2.1, fun x hx hy => h'.2.2.2 x hx x hy rfl⟩
/-- the three ways in which a name stands in a forest -/
theorem loc_cases {d : Str} {k r : Fo} {c : Str} {a : List Str} {q : Fo} (h : loc (.cons d k r) c = some (a, q)) : (d = c ∧ a = [] ∧ q = k) ∨ (d ≠ c ∧ ∃ b, a = d :: b ∧ loc k c = some (b, q)) ∨ (d ≠ c ∧ loc k c = none ∧ loc r c = some (a, q)) := by
  unfold loc at h
  by_cases e : d = c
  · rw [if_pos e] at h
    cases h
    exact .inl ⟨e, rfl, rfl⟩
  · rw [if_neg e] at h
    cases hk : loc k c with
    | some p =>
      obtain ⟨b, p⟩ := p
      rw [hk] at h
      cases h
      exact .inr (.inl ⟨e, b, rfl, rfl⟩)
    | none =>
      rw [hk] at h
      exact .inr (.inr ⟨e, rfl, h⟩)
theorem loc_here {d : Str} {k r : Fo} : loc (.cons d k r) d = some ([], k) := by unfold loc; exact if_pos rfl
theorem loc_in {d c : Str} {k r : Fo} {b : List Str} {q : Fo} (e : d ≠ c) (h : loc k c = some (b, q)) : loc (.cons d k r) c = some (d :: b, q) := by
  unfold loc
  rw [if_neg e, h]
theorem loc_by {d c : Str} {k r : Fo} (e : d ≠ c) (h : loc k c = none) : loc (.cons d k r) c = loc r c := by
  rw [loc.eq_def]
  dsimp only
  rw [if_neg e, h]
theorem loc_sub : ∀ {f : Fo} {c : Str} {a : List Str} {q : Fo}, loc f c = some (a, q) → (a ++ [c]).Sublist (names f)
  | .nil, _, _, _, h => by unfold loc at h; cases h
  | .cons d k r, c, a, q, h => by
    show (a ++ [c]).Sublist (d :: (names k ++ names r))
    rcases loc_cases h with ⟨rfl, rfl, rfl⟩ | ⟨_, b, rfl, g⟩ | ⟨_, _, g⟩
    · exact List.Sublist.cons_cons _ (List.nil_sublist _)
    · exact List.Sublist.cons_cons _ ((loc_sub g).trans (List.sublist_append_left _ _))
    · exact List.Sublist.cons _ ((loc_sub g).trans (List.sublist_append_right _ _))
/-- what is beneath a name stands behind it, in one piece -/
theorem loc_seg : ∀ {f : Fo} {c : Str} {a : List Str} {q : Fo}, loc f c = some (a, q) → ∃ A B, names f = A ++ (c :: names q) ++ B
  | .nil, _, _, _, h => by unfold loc at h; cases h
  | .cons d k r, c, a, q, h => by
    have e0 : names (.cons d k r) = d :: (names k ++ names r) := rfl
    rcases loc_cases h with ⟨rfl, rfl, rfl⟩ | ⟨_, b, rfl, g⟩ | ⟨_, _, g⟩
    · exact ⟨[], names r, rfl⟩
    · obtain ⟨A, B, e⟩ := loc_seg g
      exact ⟨d :: A, B ++ names r, by rw [e0, e]; simp⟩
    · obtain ⟨A, B, e⟩ := loc_seg g
      exact ⟨d :: (names k ++ A), B, by rw [e0, e]; simp⟩
/-- the column right above -/
def lastOr (a : List Str) (u : Option Str) : Option Str := match a.getLast? with
  | some x => some x
  | none => u
theorem lastOr_snoc (a : List Str) (x : Str) (u : Option Str) : lastOr (a ++ [x]) u = some x := by unfold lastOr; rw [List.getLast?_concat]
theorem lastOr_cons (d : Str) (a : List Str) (u : Option Str) : lastOr (d :: a) u = lastOr a (some d) := by
  cases a with
  | nil => rfl
  | cons x r =>
    unfold lastOr
    rw [List.getLast?_cons_cons]
    rw [List.getLast?_eq_some_getLast (by simp)]
theorem loc_flat : ∀ {f : Fo} {c : Str} {a : List Str} {q : Fo} (u : Option Str), loc f c = some (a, q) → (c, lastOr a u) ∈ flat f u
  | .nil, _, _, _, _, h => by unfold loc at h; cases h
  | .cons d k r, c, a, q, u, h => by
    show _ ∈ (d, u) :: (flat k (some d) ++ flat r u)
    rcases loc_cases h with ⟨rfl, rfl, rfl⟩ | ⟨_, b, rfl, g⟩ | ⟨_, _, g⟩
    · exact List.mem_cons_self
    · rw [lastOr_cons]
      exact List.mem_cons_of_mem _ (List.mem_append_left _ (loc_flat (some d) g))
    · exact List.mem_cons_of_mem _ (List.mem_append_right _ (loc_flat u g))
/-- each one above, with what is above it -/
theorem loc_up : ∀ {f : Fo} {c : Str} {a : List Str} {q : Fo}, (names f).Nodup → loc f c = some (a, q) → ∀ (a1 a2 : List Str) (x : Str), a = a1 ++ x :: a2 → ∃ q1, loc f x = some (a1, q1) ∧ c ∈ names q1
  | .nil, _, _, _, _, h => by unfold loc at h; cases h
  | .cons d k r, c, a, q, hn, h => by
    intro a1 a2 x e
    obtain ⟨n1, n2, n3, n4, n5⟩ := nd_parts hn
    rcases loc_cases h with ⟨rfl, rfl, rfl⟩ | ⟨hd, b, rfl, g⟩ | ⟨hd, hk, g⟩
    · simp at e
    · cases a1 with
      | nil =>
        have e' : d :: b = x :: a2 := e
        injection e' with e1 e2
        subst e1
        exact ⟨k, loc_here, loc_mem g⟩
      | cons y a1 =>
        have e' : d :: b = y :: (a1 ++ x :: a2) := e
        injection e' with e1 e2
        subst e1
        obtain ⟨q1, h1, h2⟩ := loc_up n3 g _ _ _ e2
        exact ⟨q1, loc_in (fun z => n1 (z ▸ loc_mem h1)) h1, h2⟩
    · obtain ⟨q1, h1, h2⟩ := loc_up n4 g _ _ _ e
      have hx := loc_mem h1
      exact ⟨q1, (loc_by (fun (z : d = x) => n2 (z ▸ hx)) (loc_none fun z => n5 _ z hx)).trans h1, h2⟩
/-- each one beneath -/
theorem loc_down : ∀ {f : Fo} {c o : Str} {a a2 : List Str} {q q2 : Fo}, (names f).Nodup → loc f c = some (a, q) → loc q o = some (a2, q2) → loc f o = some (a ++ c :: a2, q2)
  | .nil, _, _, _, _, _, _, _, h, _ => by unfold loc at h; cases h
  | .cons d k r, c, o, a, a2, q, q2, hn, h, h2 => by
    obtain ⟨n1, n2, n3, n4, n5⟩ := nd_parts hn
    rcases loc_cases h with ⟨rfl, rfl, rfl⟩ | ⟨hd, b, rfl, g⟩ | ⟨hd, hk, g⟩
    · exact loc_in (fun z => n1 (z ▸ loc_mem h2)) h2
    · have ih := loc_down n3 g h2
      exact loc_in (fun z => n1 (z ▸ loc_mem ih)) ih
    · have ih := loc_down n4 g h2
      have hx := loc_mem ih
      exact (loc_by (fun (z : d = o) => n2 (z ▸ hx)) (loc_none fun z => n5 _ z hx)).trans ih
theorem loc_top : ∀ {f : Fo} {c : Str}, (names f).Nodup → (c ∈ tops f ↔ ∃ q, loc f c = some ([], q))
  | .nil, c, _ => ⟨(fun h => nomatch h), (fun ⟨q, h⟩ => by unfold loc at h; cases h)⟩
  | .cons d k r, c, hn => by
    obtain ⟨n1, n2, n3, n4, n5⟩ := nd_parts hn
    constructor
    · intro h
      have h' : c ∈ d :: tops r := h
      rcases List.mem_cons.mp h' with e | h2
      · subst e
        exact ⟨k, loc_here⟩
      · obtain ⟨q, e⟩ := (loc_top n4).mp h2
        have hx := loc_mem e
        exact ⟨q, (loc_by (fun (z : d = c) => n2 (z ▸ hx)) (loc_none fun z => n5 _ z hx)).trans e⟩
    · rintro ⟨q, h⟩
      show c ∈ d :: tops r
      rcases loc_cases h with ⟨rfl, _, _⟩ | ⟨_, b, e, _⟩ | ⟨_, _, h⟩
      · exact List.mem_cons_self
      · cases e
      · exact List.mem_cons_of_mem _ ((loc_top n4).mpr ⟨q, h⟩)
theorem tops_sub : ∀ f : Fo, (tops f).Sublist (names f)
  | .nil => List.Sublist.slnil
  | .cons d k r => List.Sublist.cons_cons _ ((tops_sub r).trans (List.sublist_append_right _ _))
theorem filter_mem : ∀ {l s : List Str}, l.Nodup → s.Sublist l → (l.filter fun x => decide (x ∈ s)) = s
  | [], s, _, h => by
    cases h
    rfl
  | x :: l, s, hn, h => by
    rw [List.nodup_cons] at hn
    cases h with
    | cons _ h =>
      have hx : x ∉ s := fun z => hn.1 (h.subset z)
      rw [List.filter_cons_of_neg (by simpa using hx)]
      exact filter_mem hn.2 h
    | cons_cons _ h =>
      rename_i s
      rw [List.filter_cons_of_pos (by simp)]
      congr 1
      have e : (l.filter fun y => decide (y ∈ x :: s)) = l.filter fun y => decide (y ∈ s) := by
        refine List.filter_congr fun y hy => ?_
        have : y ≠ x := fun z => hn.1 (z ▸ hy)
        simp [this]
      rw [e]
      exact filter_mem hn.2 h
/-- above and beneath are one thing, told from both ends -/
theorem up_down {f : Fo} {c o : Str} {a a' : List Str} {q q' : Fo} (hn : (names f).Nodup) (hc : loc f c = some (a, q)) (ho : loc f o = some (a', q')) : c ∈ a' ↔ o ∈ names q := by
  constructor
  · intro h
    obtain ⟨a1, a2, e⟩ := List.append_of_mem h
    obtain ⟨q1, h1, h2⟩ := loc_up hn ho _ _ _ e
    rw [hc] at h1
    cases h1
    exact h2
  · intro h
    obtain ⟨a2, q2, h2⟩ := loc_names h
    have := loc_down hn hc h2
    rw [ho] at this
    cases this
    simp
/-- what is right beneath a name -/
theorem kid_iff {f : Fo} {c o : Str} {a a' : List Str} {q q' : Fo} (hn : (names f).Nodup) (hq : (names q).Nodup) (hc : loc f c = some (a, q)) (ho : loc f o = some (a', q')) : a'.getLast? = some c ↔ o ∈ tops q := by
  constructor
  · intro h
    obtain ⟨a1, e⟩ : ∃ a1, a' = a1 ++ [c] := by
      rw [List.getLast?_eq_some_iff] at h
      exact h
    obtain ⟨q1, h1, h2⟩ := loc_up hn ho a1 [] c e
    rw [hc] at h1
    cases h1
    obtain ⟨a2, q2, h3⟩ := loc_names h2
    have h4 := loc_down hn hc h3
    rw [ho] at h4
    obtain ⟨e4, _⟩ := Prod.mk.inj (Option.some.inj h4)
    rw [e] at e4
    have e5 : [c] = c :: a2 := List.append_cancel_left e4
    have e6 : a2 = [] := by
      have := (List.cons.inj e5).2
      exact this.symm
    subst e6
    exact (loc_top hq).mpr ⟨q2, h3⟩
  · intro h
    obtain ⟨q2, h3⟩ := (loc_top hq).mp h
    have h4 := loc_down hn hc h3
    rw [ho] at h4
    obtain ⟨e4, _⟩ := Prod.mk.inj (Option.some.inj h4)
    rw [e4, List.getLast?_concat]
theorem sub_nodup {f : Fo} {c : Str} {a : List Str} {q : Fo} (hn : (names f).Nodup) (h : loc f c = some (a, q)) : (c :: names q).Nodup := by
  obtain ⟨A, B, e⟩ := loc_seg h
  rw [e, List.append_assoc, List.nodup_append] at hn
  exact (List.nodup_append.mp hn.2.1).1
theorem seg_sub {f : Fo} {c : Str} {a : List Str} {q : Fo} (h : loc f c = some (a, q)) : (c :: names q).Sublist (names f) := by
  obtain ⟨A, B, e⟩ := loc_seg h
  rw [e, List.append_assoc]
  exact (List.sublist_append_left _ _).trans (List.sublist_append_right _ _)
/-- the names beneath, child by child -/
def kidsOf (f : Fo) (c : Str) : List Str := match loc f c with
  | some (_, q) => c :: names q
  | none => []
theorem kids_flat : ∀ {q : Fo}, (names q).Nodup → (tops q).flatMap (kidsOf q) = names q
  | .nil, _ => rfl
  | .cons d k r, hn => by
    obtain ⟨n1, n2, n3, n4, n5⟩ := nd_parts hn
    show (d :: tops r).flatMap (kidsOf (.cons d k r)) = d :: (names k ++ names r)
    rw [List.flatMap_cons]
    have e1 : kidsOf (.cons d k r) d = d :: names k := by unfold kidsOf; rw [loc_here]
    have e2 : (tops r).flatMap (kidsOf (.cons d k r)) = (tops r).flatMap (kidsOf r) := by
      have : ∀ l : List Str, (∀ x ∈ l, x ∈ names r) → l.flatMap (kidsOf (.cons d k r)) = l.flatMap (kidsOf r) := by
        intro l
        induction l with
        | nil => intro _; rfl
        | cons x t ih =>
          intro h
          rw [List.flatMap_cons, List.flatMap_cons, ih fun y hy => h y (List.mem_cons_of_mem _ hy)]
          congr 1
          have hx := h x List.mem_cons_self
          unfold kidsOf
          rw [loc_by (fun (z : d = x) => n2 (z ▸ hx)) (loc_none fun z => n5 _ z hx)]
      exact this _ fun x hx => (tops_sub r).subset hx
    rw [e1, e2, kids_flat n4, List.cons_append]
end TM
namespace TM
open PySem L2
theorem perm_eq {α : Type} {R : α → α → Prop} (anti : ∀ a b, R a b → R b a → a = b) : ∀ {l m : List α}, l.Perm m → l.Pairwise R → m.Pairwise R → l = m
  | [], m, h, _, _ => by
    have := h.length_eq
    cases m with
    | nil => rfl
    | cons b m => simp at this
  | a :: l, [], h, _, _ => by
    have := h.length_eq
    simp at this
  | a :: l, b :: m, h, h1, h2 => by
    have hab : a = b := by
      have ha : a ∈ b :: m := h.subset List.mem_cons_self
      have hb : b ∈ a :: l := h.symm.subset List.mem_cons_self
      rcases List.mem_cons.mp ha with e | ha
      · exact e
      · rcases List.mem_cons.mp hb with e | hb
        · exact e.symm
        · exact anti a b ((List.pairwise_cons.mp h1).1 b hb) ((List.pairwise_cons.mp h2).1 a ha)
    subst hab
    rw [perm_eq anti (List.Perm.cons_inv h) (List.pairwise_cons.mp h1).2 (List.pairwise_cons.mp h2).2]
/-- the first i trees of a forest -/
def takeF : Nat → Fo → Fo
  | 0, _ => .nil
  | _ + 1, .nil => .nil
  | i + 1, .cons c k r => .cons c k (takeF i r)
theorem takeF_all : ∀ f : Fo, takeF (tops f).length f = f
  | .nil => rfl
  | .cons c k r => by
    show Fo.cons c k (takeF (tops r).length r) = _
    rw [takeF_all r]
theorem takeF_next : ∀ {f : Fo} {i : Nat} {c : Str}, (names f).Nodup → (tops f)[i]? = some c → ∃ k, loc f c = some ([], k) ∧ takeF (i + 1) f = app (takeF i f) (.cons c k .nil)
  | .nil, i, c, _, h => by simp [tops] at h
  | .cons d k r, 0, c, _, h => by
    have e : d = c := by simpa [tops] using h
    subst e
    exact ⟨k, loc_here, rfl⟩
  | .cons d k r, i + 1, c, hn, h => by
    have h' : (tops r)[i]? = some c := by simpa [tops] using h
    obtain ⟨n1, n2, n3, n4, n5⟩ := nd_parts hn
    obtain ⟨q, h1, h2⟩ := takeF_next n4 h'
    have hx := loc_mem h1
    refine ⟨q, (loc_by (fun (z : d = c) => n2 (z ▸ hx)) (loc_none fun z => n5 _ z hx)).trans h1, ?_⟩
    show Fo.cons d k (takeF (i + 1) r) = Fo.cons d k (app (takeF i r) (.cons c q .nil))
    rw [h2]
theorem takeF_sub : ∀ (f : Fo) (i : Nat), (names (takeF i f)).Sublist (names f)
  | _, 0 => List.nil_sublist _
  | .nil, i + 1 => List.Sublist.slnil
  | .cons c k r, i + 1 => by
    show (c :: (names k ++ names (takeF i r))).Sublist (c :: (names k ++ names r))
    exact List.Sublist.cons_cons _ (List.Sublist.append_left (takeF_sub r i) _)
/-- the pairs of one tree, picked out of a forest's -/
theorem pick_tree : ∀ {f : Fo} {c : Str} {k : Fo}, (names f).Nodup → loc f c = some ([], k) → (flat f none).filter (fun q => decide (q.1 ∈ c :: names k)) = flat (.cons c k .nil) none
  | .nil, _, _, _, h => by unfold loc at h; cases h
  | .cons d k' r, c, k, hn, h => by
    obtain ⟨n1, n2, n3, n4, n5⟩ := nd_parts hn
    have keep : ∀ (l : List Pr), (∀ q ∈ l, q.1 ∈ c :: names k) → l.filter (fun q => decide (q.1 ∈ c :: names k)) = l := fun l hl => List.filter_eq_self.mpr fun q hq => decide_eq_true (hl q hq)
    have drop : ∀ (l : List Pr), (∀ q ∈ l, q.1 ∉ c :: names k) → l.filter (fun q => decide (q.1 ∈ c :: names k)) = [] := fun l hl => List.filter_eq_nil_iff.mpr fun q hq z => hl q hq (of_decide_eq_true z)
    have nm : ∀ {g : Fo} {u : Option Str} {q : Pr}, q ∈ flat g u → q.1 ∈ names g := fun {g u q} hq => by rw [← flat_names g u]; exact List.mem_map.mpr ⟨q, hq, rfl⟩
    show ((d, none) :: (flat k' (some d) ++ flat r none)).filter _ = (c, none) :: (flat k (some c) ++ [])
    rcases loc_cases h with ⟨rfl, _, rfl⟩ | ⟨_, b, e, _⟩ | ⟨hd, hk, g⟩
    · rw [List.filter_cons_of_pos (by simp), List.filter_append, keep (flat k (some d)) fun q hq => List.mem_cons_of_mem _ (nm hq), drop (flat r none) fun q hq z => ?_]
      rcases List.mem_cons.mp z with z | z
      · exact n2 (z ▸ nm hq)
      · exact n5 _ z (nm hq)
    · cases e
    · have hs := seg_sub g
      rw [List.filter_cons_of_neg (by
        intro z
        exact n2 (hs.subset (of_decide_eq_true z))), List.filter_append, drop (flat k' (some d)) fun q hq z => n5 _ (nm hq) (hs.subset z), List.nil_append]
      exact pick_tree n4 g
end TM

set_option maxHeartbeats 2000000
/-! Words of our own, over any row. -/
namespace TX
open PySem L2 PyProof.Rows
/-- the built-in names that the text leaves alone -/
structure Bn (mg : Str → Option Value) : Prop where
  len : mg "len" = none
  isi : mg "isinstance" = none
  str : mg "str" = none
  list : mg "list" = none
  tuple : mg "tuple" = none
  dict : mg "dict" = none
  int : mg "int" = none
  range : mg "range" = none
  enum : mg "enumerate" = none
  all : mg "all" = none
  any : mg "any" = none
  max : mg "max" = none
  sorted : mg "sorted" = none
/-- a def of the module, ready to be called -/
structure Fn (K : PySem.W.Frag) (mg : Str → Option Value) (x : Str) (st : Stmt) (ps : List Str) (f : Addr) (fd : FuncData) : Prop where
  F : Fun K x x st f fd
  g : mg x = some (.ref f)
  b : Binds K fd ps []
/-- all that was tracked but at W is as it was -/
def Sm (W : Addr) (H H' : Hp) : Prop := ∀ b o, b ≠ W → H b = some o → H' b = some o
theorem Sm.rfl' {W : Addr} {H : Hp} : Sm W H H := fun _ _ _ h => h
theorem Sm.trans {W : Addr} {H H1 H2 : Hp} (a : Sm W H H1) (b : Sm W H1 H2) : Sm W H H2 := fun c o n h => b c o n (a c o n h)
theorem Sm.of {W : Addr} {H H' : Hp} (s : Same H H') : Sm W H H' := fun c o _ h => s c o h
theorem Same.new {H : Hp} {p : Addr} {o : HO} (h : H p = none) : Same H (upd H p o) := fun a u e => by rw [upd_ne (ne_of_none e h)]; exact e
theorem Same.new' {H H1 : Hp} {p : Addr} {o : HO} (s : Same H H1) (h : H1 p = none) : Same H (upd H1 p o) := s.trans (Same.new h)
theorem Sm.new {W : Addr} {H H1 : Hp} {p : Addr} {o : HO} (s : Sm W H H1) (h : H1 p = none) : Sm W H (upd H1 p o) := s.trans (.of (Same.new h))
theorem Sm.put {W : Addr} {H H1 : Hp} {o : HO} (s : Sm W H H1) : Sm W H (upd H1 W o) := fun a u n e => by rw [upd_ne n]; exact s a u n e
/-- a well: three ints; n draws may follow -/
def WellAt (n : Nat) (H : Hp) (W : Addr) : Prop := ∃ a b c : Int, H W = some (.lst [.int a, .int b, .int c]) ∧ 0 ≤ b ∧ b < 2147483648 ∧ 0 ≤ c ∧ c + n ≤ 1000000000000
theorem WellAt.mono {n m : Nat} {H : Hp} {W : Addr} (h : WellAt n H W) (hm : m ≤ n) : WellAt m H W := by
  obtain ⟨a, b, c, e, h1, h2, h3, h4⟩ := h
  exact ⟨a, b, c, e, h1, h2, h3, by omega⟩
theorem WellAt.same {n : Nat} {H H' : Hp} {W : Addr} (h : WellAt n H W) (s : Same H H') : WellAt n H' W := by
  obtain ⟨a, b, c, e, r⟩ := h
  exact ⟨a, b, c, s _ _ e, r⟩
theorem WellAt.new {n : Nat} {H : Hp} {W p : Addr} {o : HO} (h : WellAt n H W) (hp : H p = none) : WellAt n (upd H p o) W := h.same (Same.new hp)
theorem WellAt.ne {n : Nat} {H : Hp} {W p : Addr} (h : WellAt n H W) (hp : H p = none) : W ≠ p := by
  obtain ⟨a, b, c, e, r⟩ := h
  exact ne_of_none e hp
/-- a turn's or a test's joint: what is known of the slots and the heap behind -/
theorem two_le : (2 : Nat) ≤ sizeLine := by decide
theorem small100 {n : Nat} (h : n ≤ 1000) : n ≤ sizeLine := Nat.le_trans h (by decide)
end TX
namespace TX
open PySem L2 PyProof.Rows
theorem Same.mut {H H1 : Hp} {p : Addr} {o : HO} (s : Same H H1) (h : H p = none) : Same H (upd H1 p o) := fun a u e => by rw [upd_ne (ne_of_none e h)]; exact s a u e
theorem Sm.mut {W : Addr} {H H1 : Hp} {p : Addr} {o : HO} (s : Sm W H H1) (h : H p = none) : Sm W H (upd H1 p o) := fun a u n e => by rw [upd_ne (ne_of_none e h)]; exact s a u n e
theorem WellAt.upd {n : Nat} {H : Hp} {W p : Addr} {o : HO} (h : WellAt n H W) (hp : W ≠ p) : WellAt n (L2.upd H p o) W := by
  obtain ⟨a, b, c, e, r⟩ := h
  exact ⟨a, b, c, by rw [upd_ne hp]; exact e, r⟩
theorem Sm.free {W : Addr} {H H' : Hp} (e : Sm W H H') {n : Nat} (hW : WellAt n H W) {l : Addr} (h : H' l = Option.none) (hW' : ∃ m, WellAt m H' W) : H l = Option.none := by
  cases q : H l with
  | none => rfl
  | some o =>
    obtain ⟨m, a, b, c, z, _⟩ := hW'
    have : l ≠ W := fun x => by rw [x, z] at h; cases h
    rw [e l o this q] at h
    cases h
/-- signs as texts -/
def S (l : List Nat) : Str := ⟨l.toArray⟩
theorem S_len (l : List Nat) : (S l).length = l.length := by show l.toArray.size = _; rw [List.size_toArray]
theorem S_cps (l : List Nat) : (S l).cps.toList = l := rfl
theorem S_inj {l m : List Nat} (h : S l = S m) : l = m := by
  have := congrArg (fun s : Str => s.cps.toList) h
  exact this
theorem S_eta (s : Str) : s = S s.cps.toList := by
  obtain ⟨⟨l⟩⟩ := s
  rfl
theorem S_app (l m : List Nat) : S l ++ S m = S (l ++ m) := by
  show (⟨l.toArray ++ m.toArray⟩ : Str) = ⟨(l ++ m).toArray⟩
  simp
theorem join_empty : ∀ ys : List (List Nat), Txt.join (S []) (ys.map S) = S ys.flatten := by
  intro ys
  show Builtin.Str.glued (S []) (ys.map S) = _
  rw [StrLaws.glued_eq_join]
  induction ys with
  | nil => rfl
  | cons y r ih =>
    cases r with
    | nil =>
      show S y = S ([y].flatten)
      simp
    | cons z r =>
      show S y ++ S [] ++ Str.join (S []) ((z :: r).map S) = _
      rw [ih, S_app, S_app]
      simp
theorem cutS_S (l : List Nat) (lo hi : Option Int) : cutS (S l) lo hi = S ((l.drop (HT.sIx l.length 0 lo)).take (HT.sIx l.length l.length hi - HT.sIx l.length 0 lo)) := by
  unfold cutS
  rw [S_len]
  rfl
/-- the letters -/
def abc : Str := Str.ofString "abcdefghijklmnopqrstuvwxyz"
theorem abc_eq : abc = S [97, 98, 99, 100, 101, 102, 103, 104, 105, 106, 107, 108, 109, 110, 111, 112, 113, 114, 115, 116, 117, 118, 119, 120, 121, 122] := by decide +kernel
theorem abc_at {j : Nat} (h : j < 26) : atI abc.cps.toList (j : Int) = some (97 + j) := by
  rw [abc_eq]
  refine atI_nat ?_
  rw [S_cps]
  revert j
  decide
theorem abc_len : abc.length ≤ sizeLine := by rw [abc_eq, S_len]; decide
/-- the k-th name of a well's -/
def nmOf (base : List Nat) (spot more bg ap k : Nat) : Str := S (base.take spot ++ (97 + (bg + ap * k) % 26) :: (base.drop spot).take more)
theorem nm_ok {base : List Nat} {spot more bg ap k : Nat} (hb : base.length = 7) (hc : ∀ c ∈ base, 97 ≤ c ∧ c ≤ 122) (hs : spot + more ≤ 7) : TM.NameOk (nmOf base spot more bg ap k) := by
  unfold TM.NameOk nmOf
  rw [S_len, S_cps]
  simp only [List.length_append, List.length_cons, List.length_take, List.length_drop, hb]
  refine ⟨by omega, by omega, fun c h => ?_⟩
  rcases List.mem_append.mp h with h | h
  · exact hc c (List.mem_of_mem_take h)
  · rcases List.mem_cons.mp h with h | h
    · have := Nat.mod_lt (bg + ap * k) (show 26 > 0 by decide)
      omega
    · exact hc c (List.mem_of_mem_drop (List.mem_of_mem_take h))
theorem nm_inj {base : List Nat} {spot more bg ap k k' : Nat} (ha : ap ∈ [1, 3, 5, 7, 9, 11, 15, 17]) (hk : k < 26) (hk' : k' < 26) (h : nmOf base spot more bg ap k = nmOf base spot more bg ap k') : k = k' := by
  have h1 := S_inj h
  have h2 := (List.append_inj h1 rfl).2
  have h3 : 97 + (bg + ap * k) % 26 = 97 + (bg + ap * k') % 26 := (List.cons.inj h2).1
  simp only [List.mem_cons, List.not_mem_nil, or_false] at ha
  rcases ha with e | e | e | e | e | e | e | e <;> subst e <;> omega
theorem nm_nodup {base : List Nat} {spot more bg ap n : Nat} (ha : ap ∈ [1, 3, 5, 7, 9, 11, 15, 17]) (hn : n ≤ 26) : ((List.range n).map (nmOf base spot more bg ap)).Nodup := by
  rw [List.nodup_iff_pairwise_ne, List.pairwise_map]
  refine List.Pairwise.imp_of_mem ?_ (List.nodup_iff_pairwise_ne.mp List.nodup_range)
  intro a b ha' hb' hne e
  exact hne (nm_inj ha (by have := List.mem_range.mp ha'; omega) (by have := List.mem_range.mp hb'; omega) e)
end TX
namespace TX
open PySem L2 PyProof.Rows
theorem sum_signs (cs : List Nat) : (List.map (fun x : Str => x.length) (cs.map fun c => S [c])).sum = cs.length := by
  induction cs with
  | nil => rfl
  | cons c r ih =>
    rw [List.map_cons, List.map_cons, List.sum_cons, ih, S_len, List.length_cons]
    simp
    omega
theorem join_signs (cs : List Nat) : Txt.join (Str.ofString "") (cs.map fun c => S [c]) = S cs := by
  have e1 : Str.ofString "" = S [] := by decide +kernel
  have e2 : cs.map (fun c => S [c]) = (cs.map fun c => [c]).map S := by rw [List.map_map]; rfl
  have e3 : (cs.map fun c => [c]).flatten = cs := by
    clear e2
    induction cs with
    | nil => rfl
    | cons c r ih => rw [List.map_cons, List.flatten_cons, ih]; rfl
  rw [e1, e2, join_empty, e3]
theorem len_empty : (Str.ofString "").length = 0 := by decide +kernel
end TX
namespace TX
open PySem L2 PyProof.Rows
theorem line100 {n : Nat} (h : n ≤ 1000) : n ≤ sizeLine := Nat.le_trans h (by decide)
theorem line100' {n : Nat} (h : n ≤ 1000) : n < sizeLine := Nat.lt_of_le_of_lt h (by decide)
theorem sapp_len (a b : Str) : (a ++ b).length = a.length + b.length := by
  show (a.cps ++ b.cps).size = _
  rw [Array.size_append]
  rfl
end TX
namespace TX
open PySem L2 PyProof.Rows TM
def optV : Option Str → V
  | none => .non
  | some x => .str x
/-- tuples of a name and what stands over it -/
def TupsAt (H : Hp) : List Addr → List Pr → Prop := Paired fun a q => H a = some (.tup [.str q.1, optV q.2])
def PairsAt (H : Hp) (p : Addr) (ps : List Pr) : Prop := ∃ as, H p = some (.lst (as.map V.ref)) ∧ TupsAt H as ps
theorem TupsAt.sm {W : Addr} {H H' : Hp} {as : List Addr} {ps : List Pr} (h : TupsAt H as ps) (s : Sm W H H') (w : ∃ n, WellAt n H W) : TupsAt H' as ps :=
  Paired.mapP h fun a q e => s a _ (by obtain ⟨n, x, y, z, e2, _⟩ := w; exact ne_of e e2 (by intro z; cases z)) e
theorem TupsAt.same {H H' : Hp} {as : List Addr} {ps : List Pr} (h : TupsAt H as ps) (s : Same H H') : TupsAt H' as ps := Paired.mapP h fun a q e => s a _ e
theorem TupsAt.put {H : Hp} {as : List Addr} {ps : List Pr} {p : Addr} {xs : List V} {o : HO} (h : TupsAt H as ps) (hp : H p = some (.lst xs)) : TupsAt (upd H p o) as ps :=
  Paired.mapP h fun a q e => by rw [upd_ne (ne_of e hp (by intro z; cases z))]; exact e
theorem TupsAt.snoc {H : Hp} {as : List Addr} {ps : List Pr} {a : Addr} {q : Pr} (h : TupsAt H as ps) (e : H a = some (.tup [.str q.1, optV q.2])) : TupsAt H (as ++ [a]) (ps ++ [q]) := by
  unfold TupsAt at *
  induction h with
  | nil => exact .cons e .nil
  | cons h _ ih => exact .cons h ih
theorem TupsAt.len {H : Hp} {as : List Addr} {ps : List Pr} (h : TupsAt H as ps) : as.length = ps.length := Paired.length h
theorem PairsAt.same {H H' : Hp} {p : Addr} {ps : List Pr} (h : PairsAt H p ps) (s : Same H H') : PairsAt H' p ps := by
  obtain ⟨as, e, t⟩ := h
  exact ⟨as, s _ _ e, t.same s⟩
theorem PairsAt.sm {W : Addr} {H H' : Hp} {p : Addr} {ps : List Pr} (h : PairsAt H p ps) (s : Sm W H H') (w : ∃ n, WellAt n H W) (hp : p ≠ W) : PairsAt H' p ps := by
  obtain ⟨as, e, t⟩ := h
  exact ⟨as, s _ _ hp e, t.sm s w⟩
end TX
namespace TX
open PySem L2 PyProof.Rows TM
def kvsOf (ps : List Pr) : List (Key × V) := ps.map fun q => ((Sum.inr q.1 : Key), optV q.2)
theorem kvs_none : ∀ {ps : List Pr} {x : Str}, x ∉ ps.map Prod.fst → valV (kvsOf ps) (Sum.inr x : Key) = none
  | [], _, _ => rfl
  | (c, o) :: r, x, h => by
    have hne : ¬ ((Sum.inr c : Key) = Sum.inr x) := fun e => by
      injection e with e
      exact h (by rw [e]; exact List.mem_cons_self)
    show valV (((Sum.inr c : Key), optV o) :: kvsOf r) _ = none
    rw [valV_neg hne]
    exact kvs_none fun hx => h (List.mem_cons_of_mem _ hx)
theorem kvs_some : ∀ {ps : List Pr} {x : Str} {o : Option Str}, (ps.map Prod.fst).Nodup → (x, o) ∈ ps → valV (kvsOf ps) (Sum.inr x : Key) = some (optV o)
  | [], _, _, _, h => nomatch h
  | (c, p) :: r, x, o, hn, h => by
    rw [List.map_cons, List.nodup_cons] at hn
    rcases List.mem_cons.mp h with e | h
    · obtain ⟨rfl, rfl⟩ := Prod.mk.inj e
      exact valV_pos (p := ((Sum.inr x : Key), optV o)) rfl
    · have hne : ¬ ((Sum.inr c : Key) = Sum.inr x) := fun e => by
        injection e with e
        exact hn.1 (by rw [e]; exact List.mem_map.mpr ⟨(x, o), h, rfl⟩)
      show valV (((Sum.inr c : Key), optV p) :: kvsOf r) _ = _
      rw [valV_neg hne]
      exact kvs_some hn.2 h
theorem optV_inj {o o' : Option Str} (h : optV o = optV o') : o = o' := by
  cases o with
  | none =>
    cases o' with
    | none => rfl
    | some y => cases h
  | some x =>
    cases o' with
    | none => cases h
    | some y =>
      have h' : V.str x = V.str y := h
      injection h' with h'
      rw [h']
/-- in a list or in a dict -/
theorem PC.or {X : Cx} {op : CmpOp} {a b : Expr} {t u : TE} (h1 : PC X op a b t) (h2 : PC X op a b u) : PC X op a b (fun σ H Q => t σ H Q ∨ u σ H Q) :=
  ⟨fun pins s σ H Q I h => h.elim (h1.run pins s σ H Q I) (h2.run pins s σ H Q I)⟩
theorem PC.ofR {X : Cx} {op : CmpOp} {a b : Expr} {ta tb : TE} {r : R2} (ho : OpR X (compareOp op) r) (ha : PE X a ta) (hb : PE X b tb) : PC X op a b (tOp r ta tb) :=
  ⟨fun pins s σ H Q I h => thn (ha.run pins s σ H _ I h) fun u s1 ⟨x, H1, I1, rx, h1⟩ => thn (hb.run pins s1 σ H1 _ I1 h1) fun v s2 ⟨y, H2, I2, ry, h2⟩ => ho pins s2 σ H2 x y u v Q I2 rx ry h2⟩
/-- the order of one sign and a letter -/
theorem lt_sign (c d : Nat) : ([c] < [d]) ↔ c < d := by
  constructor
  · intro h
    cases h with
    | rel h => exact h
    | cons h => cases h
  · intro h
    exact List.Lex.rel h
theorem str_a : Str.ofString "a" = S [97] := by decide +kernel
theorem str_z : Str.ofString "z" = S [122] := by decide +kernel
end TX
namespace TX
open PySem L2 PyProof.Rows TM
theorem TupsAt.get {H : Hp} {as : List Addr} {ps : List Pr} (h : TupsAt H as ps) : ∀ {i : Nat} {a : Addr}, as[i]? = some a → ∃ q, ps[i]? = some q ∧ H a = some (.tup [.str q.1, optV q.2]) := by
  unfold TupsAt at h
  induction h with
  | nil => intro i a e; simp at e
  | cons h _ ih =>
    intro i a e
    cases i with
    | zero =>
      simp at e
      subst e
      exact ⟨_, by simp, h⟩
    | succ i =>
      obtain ⟨q, h1, h2⟩ := ih (by simpa using e)
      exact ⟨q, by simpa using h1, h2⟩
theorem kvs_put {ps : List Pr} {c : Str} {o : Option Str} (h : c ∉ ps.map Prod.fst) : putK (kvsOf ps) (Sum.inr c : Key) (optV o) = kvsOf (ps ++ [(c, o)]) := by
  rw [putK_new _ (kvs_none h)]
  unfold kvsOf
  rw [List.map_append]
  rfl
theorem kvs_len (ps : List Pr) : (kvsOf ps).length = ps.length := by unfold kvsOf; rw [List.length_map]
theorem kvs_get {ps : List Pr} {i : Nat} : (kvsOf ps)[i]? = ps[i]?.map fun q => ((Sum.inr q.1 : Key), optV q.2) := by unfold kvsOf; rw [List.getElem?_map]
end TX
namespace TX
open PySem L2 PyProof.Rows TM
/-- a dict comprehension over a walk: Pr by the turn and the heap -/
theorem dc_walk {J : It} {n : Nat} {G : Hp → Prop} {Y : Nat → Hp → V → Hp → Prop} (wk : Walk J n G Y) {tgt : TG} {cond : TT} {key val : TE} {own : List Nat} {slots : L2.St} {Hs : Hp} {Dn : Addr} {Qf : Hp → Prop}
    (Pw : Nat → Hp → Prop) (start : Pw 0 (upd Hs Dn (.dK []))) (good : ∀ i h, i ≤ n → Pw i h → G h)
    (turn : ∀ i v h h', i < n → Pw i h → Y i h v h' → tgt v (wipe slots own) h' fun s2 h2 => wipe s2 own = wipe slots own ∧ cond s2 h2 fun b h3 =>
      (if b = true then (key s2 h3 fun ky h4 => val s2 h4 fun vl h5 => ∃ es kk, ky = kV kk ∧ h5 Dn = some (.dK es) ∧ es.length < sizeLine ∧ Pw (i + 1) (upd h5 Dn (.dK (putK es kk vl)))) else Pw (i + 1) h3))
    (fin : ∀ h, Pw n h → Qf h) :
    ∃ Z : Nat → Nat → Hp → Prop, (∃ m, Z 0 m (upd Hs Dn (.dK []))) ∧ ∀ i m h, Z i m h → (J.stop i h ∧ Qf h) ∨ (J.go i h ∧ ∃ Nx : Hp → Prop, (∀ h', Nx h' → ∃ m', m' < m ∧ Z (i + 1) m' h') ∧
      ∀ v h', J.yld i h v h' → tgt v (wipe slots own) h' fun s2 h2 => wipe s2 own = wipe slots own ∧ cond s2 h2 fun b h3 =>
        (if b = true then (key s2 h3 fun ky h4 => val s2 h4 fun vl h5 => ∃ es kk, ky = kV kk ∧ h5 Dn = some (.dK es) ∧ es.length < sizeLine ∧ Nx (upd h5 Dn (.dK (putK es kk vl)))) else Nx h3)) := by
  refine ⟨fun i m h => i ≤ n ∧ m = n - i ∧ Pw i h, ⟨n, Nat.zero_le _, by simp, start⟩, ?_⟩
  rintro i m h ⟨hi, rfl, pw⟩
  have g := good i h hi pw
  rcases Nat.lt_or_ge i n with hlt | hge
  · exact .inr ⟨wk.goes i h hlt g, Pw (i + 1), fun h' p' => ⟨n - (i + 1), by omega, hlt, rfl, p'⟩, fun v h' y => turn i v h h' hlt pw (wk.yields i h v h' hlt g y)⟩
  · obtain rfl : i = n := by omega
    exact .inl ⟨wk.stops h g, fin h pw⟩
/-- what is asked of a tree's names -/
structure FoOk (f : Fo) : Prop where
  nd : (names f).Nodup
  le : (names f).length ≤ 8
  ok : ∀ x ∈ names f, NameOk x
theorem foOk_mk {ps : List Pr} (va : Valid [] ps) (hl : ps.length ≤ 8) (hn : ∀ x ∈ ps.map Prod.fst, NameOk x) : FoOk (mk ps none) :=
  ⟨ord_nodup va, Nat.le_trans (ord_le va none) hl, fun x hx => hn x ((ord_perm va).mem_iff.mp hx)⟩
theorem kcol : ¬ (("_columns" : Str) = "_over") := by decide +kernel
/-- the attributes of a tree, in the order in which they are stored -/
def tflds (l d : Addr) : List (Str × V) := putF "_over" (.ref d) (putF "_columns" (.ref l) [])
theorem tflds_col (l d : Addr) : (tflds l d).lookup ("_columns" : Str) = some (.ref l) := by
  unfold tflds
  rw [lookup_putF, if_neg kcol, lookup_putF, if_pos rfl]
theorem tflds_over (l d : Addr) : (tflds l d).lookup ("_over" : Str) = some (.ref d) := by
  unfold tflds
  rw [lookup_putF, if_pos rfl]
theorem tflds_no (l d : Addr) {m : Str} (h1 : ¬ m = "_over") (h2 : ¬ m = "_columns") : (tflds l d).lookup m = none := by
  unfold tflds
  rw [lookup_putF, if_neg h1, lookup_putF, if_neg h2]
  rfl
theorem tflds_len (l d : Addr) : (tflds l d).length < 1000 := by
  unfold tflds
  show (if ("_columns" : Str) = "_over" then [(("_columns" : Str), V.ref d)] else (("_columns" : Str), V.ref l) :: putF "_over" (V.ref d) []).length < 1000
  rw [if_neg kcol]
  show 2 < 1000
  decide
/-- a tree stands at p -/
def TreeAt (C : Addr) (H : Hp) (p : Addr) (f : Fo) : Prop := ∃ dx l d, H p = some (.ins C dx (tflds l d)) ∧ H l = some (.lst ((names f).map V.str)) ∧ H d = some (.dK (kvsOf (flat f none)))
theorem TreeAt.same {C : Addr} {H H' : Hp} {p : Addr} {f : Fo} (t : TreeAt C H p f) (s : Same H H') : TreeAt C H' p f := by
  obtain ⟨dx, l, d, h1, h2, h3⟩ := t
  exact ⟨dx, l, d, s _ _ h1, s _ _ h2, s _ _ h3⟩
/-- an own class that isinstance may be asked of -/
structure Ic (K : PySem.W.Frag) (C : Addr) : Prop where
  ha : PySem.W.findIn K (.ref C) "__class__" = some (some (.builtin "object.__class__"))
  hn : PySem.W.specialIn K (.builtin "object.__class__") "__get__" = some (some (.builtin "getset_descriptor.__get__"))
  htk : PySem.W.takesIn K (.builtin "object.__class__") = some true
  hm : PySem.W.mroIn K C (.type "object") = some true
  me : PySem.W.kitOne K (.ref C) (.ref C) = some true
/-- what the top says of the class -/
structure Tc (K : PySem.W.Frag) (mg : Str → Option Value) (C : Addr) : Prop where
  cl : Cls K C
  nC : NoAttr K C "_columns"
  nO : NoAttr K C "_over"
  g : mg "Tree" = some (.ref C)
  ins : Ic K C
end TX
namespace TX
open PySem L2 PyProof.Rows TM
theorem strOk_name {x : Str} (h : NameOk x) : PyData.strOk x = true := by
  unfold PyData.strOk
  rw [Array.all_eq_true']
  intro c hc
  have := h.2.2 c (Array.mem_toList_iff.mpr hc)
  exact decide_eq_true (by omega)
def dS (ns : List Str) : PyData := .list (ns.map .str)
def dO : Option Str → PyData
  | none => .none
  | some x => .str x
def dP (ps : List Pr) : PyData := .list (ps.map fun q => .tuple [.str q.1, dO q.2])
theorem canS : ∀ {ns : List Str}, (∀ x ∈ ns, NameOk x) → PyData.canLayAll0 (ns.map .str) = true
  | [], _ => rfl
  | x :: r, h => by
    rw [List.map_cons]
    unfold PyData.canLayAll0
    rw [show PyData.canLay0 (.str x) = true from strOk_name (h x List.mem_cons_self), canS fun y hy => h y (List.mem_cons_of_mem _ hy)]
    rfl
theorem depS : ∀ (ns : List Str), PyData.depthAll (ns.map .str) = 0
  | [] => rfl
  | x :: r => by
    rw [List.map_cons]
    unfold PyData.depthAll
    rw [depS r]
    rfl
theorem shS {ns : List Str} (h : ∀ x ∈ ns, NameOk x) : SeqAt.shaped (dS ns) = true := by
  unfold SeqAt.shaped dS
  have h1 : PyData.canLay0 (.list (ns.map .str)) = true := by unfold PyData.canLay0; exact canS h
  have h2 : PyData.depth (.list (ns.map .str)) ≤ 64 := by unfold PyData.depth; rw [depS]; decide
  rw [h1, decide_eq_true h2]
  rfl
theorem eqvS : ∀ (ns ms : List Str), PyData.eqvAll (ns.map .str) (ms.map .str) = decide (ns = ms)
  | [], [] => rfl
  | [], _ :: _ => rfl
  | _ :: _, [] => rfl
  | x :: r, y :: t => by
    rw [List.map_cons, List.map_cons]
    unfold PyData.eqvAll PyData.eqv
    rw [eqvS r t]
    by_cases h : x = y <;> by_cases h2 : r = t <;> simp [h, h2]
theorem DpAll_strs {K : PySem.W.Frag} {H : Hp} : ∀ (ns : List Str), DpAll K H (ns.map V.str) (ns.map .str)
  | [] => .nil
  | x :: r => .cons (.str x) (DpAll_strs r)
theorem DpS {K : PySem.W.Frag} {H : Hp} {a : Addr} {ns : List Str} (h : H a = some (.lst (ns.map V.str))) : Dp K H (.ref a) (dS ns) := .lst (.of h) (DpAll_strs ns)
end TX
namespace TX
open PySem L2 PyProof.Rows TM
/-- all names of a list of pairs are names -/
def PsOk (ps : List Pr) : Prop := ∀ q ∈ ps, NameOk q.1 ∧ ∀ x, q.2 = some x → NameOk x
theorem PsOk.flat {f : Fo} (h : FoOk f) : PsOk (flat f none) := fun q hq => by
  refine ⟨h.ok _ ?_, fun x hx => ?_⟩
  · rw [← flat_names f none]
    exact List.mem_map.mpr ⟨q, hq, rfl⟩
  · rcases over_flat f none q hq with e | ⟨y, hy, e⟩
    · rw [e] at hx; cases hx
    · rw [e] at hx
      cases hx
      exact h.ok _ hy
theorem can_pair {q : Pr} (h : NameOk q.1 ∧ ∀ x, q.2 = some x → NameOk x) : PyData.canLay0 (.tuple [.str q.1, dO q.2]) = true := by
  obtain ⟨c, o⟩ := q
  have h1 : PyData.canLay0 (.str c) = true := strOk_name h.1
  have h2 : PyData.canLay0 (dO o) = true := by
    cases o with
    | none => rfl
    | some x => exact strOk_name (h.2 x rfl)
  unfold PyData.canLay0 PyData.canLayAll0 PyData.canLayAll0 PyData.canLayAll0
  rw [h1, h2]
  rfl
theorem canP : ∀ {ps : List Pr}, PsOk ps → PyData.canLayAll0 (ps.map fun q => .tuple [.str q.1, dO q.2]) = true
  | [], _ => rfl
  | x :: r, h => by
    rw [List.map_cons]
    unfold PyData.canLayAll0
    rw [can_pair (h x List.mem_cons_self), canP fun y hy => h y (List.mem_cons_of_mem _ hy)]
    rfl
theorem dep_dO (o : Option Str) : PyData.depth (dO o) = 0 := by cases o <;> rfl
theorem depP : ∀ (ps : List Pr), PyData.depthAll (ps.map fun q => .tuple [.str q.1, dO q.2]) ≤ 1
  | [] => Nat.zero_le _
  | x :: r => by
    rw [List.map_cons]
    unfold PyData.depthAll
    have h1 : PyData.depth (.tuple [.str x.1, dO x.2]) = 1 := by
      unfold PyData.depth PyData.depthAll PyData.depthAll PyData.depthAll
      rw [dep_dO]
      rfl
    have := depP r
    rw [h1]
    omega
theorem shP {ps : List Pr} (h : PsOk ps) : SeqAt.shaped (dP ps) = true := by
  unfold SeqAt.shaped dP
  have h1 : PyData.canLay0 (.list (ps.map fun q => .tuple [.str q.1, dO q.2])) = true := by unfold PyData.canLay0; exact canP h
  have h2 : PyData.depth (.list (ps.map fun q => .tuple [.str q.1, dO q.2])) ≤ 64 := by
    unfold PyData.depth
    have := depP ps
    omega
  rw [h1, decide_eq_true h2]
  rfl
theorem eqv_dO : ∀ (o p : Option Str), PyData.eqv (dO o) (dO p) = decide (o = p)
  | none, none => rfl
  | none, some _ => rfl
  | some _, none => rfl
  | some x, some y => by
    show PyData.eqv (.str x) (.str y) = _
    unfold PyData.eqv
    by_cases h : x = y <;> simp [h]
theorem eqv_pair (q r : Pr) : PyData.eqv (.tuple [.str q.1, dO q.2]) (.tuple [.str r.1, dO r.2]) = decide (q = r) := by
  obtain ⟨a, b⟩ := q
  obtain ⟨c, d⟩ := r
  unfold PyData.eqv PyData.eqvAll PyData.eqvAll PyData.eqvAll
  rw [eqv_dO]
  have : PyData.eqv (.str a) (.str c) = decide (a = c) := by unfold PyData.eqv; by_cases h : a = c <;> simp [h]
  show (PyData.eqv (.str a) (.str c) && (decide (b = d) && true)) = _
  rw [this]
  by_cases h : a = c <;> by_cases h2 : b = d <;> simp [h, h2]
theorem eqvP : ∀ (ps qs : List Pr), PyData.eqvAll (ps.map fun q => .tuple [.str q.1, dO q.2]) (qs.map fun q => .tuple [.str q.1, dO q.2]) = decide (ps = qs)
  | [], [] => rfl
  | [], _ :: _ => rfl
  | _ :: _, [] => rfl
  | x :: r, y :: t => by
    rw [List.map_cons, List.map_cons]
    unfold PyData.eqvAll
    rw [eqvP r t, eqv_pair]
    by_cases h : x = y <;> by_cases h2 : r = t <;> simp [h, h2]
theorem Dp_optV {K : PySem.W.Frag} {H : Hp} : ∀ (o : Option Str), Dp K H (optV o) (dO o)
  | none => .non
  | some x => .str x
theorem DpAll_tups {K : PySem.W.Frag} {H : Hp} {as : List Addr} {ps : List Pr} (h : TupsAt H as ps) : DpAll K H (as.map V.ref) (ps.map fun q => .tuple [.str q.1, dO q.2]) := by
  unfold TupsAt at h
  induction h with
  | nil => exact .nil
  | cons h _ ih => exact .cons (.tup (.of h) (.cons (.str _) (.cons (Dp_optV _) .nil))) ih
theorem PairsAt.dp {K : PySem.W.Frag} {H : Hp} {a : Addr} {ps : List Pr} (h : PairsAt H a ps) : Dp K H (.ref a) (dP ps) := by
  obtain ⟨as, e, t⟩ := h
  exact .lst (.of e) (DpAll_tups t)
theorem eqv_dS (ns ms : List Str) : PyData.eqv (dS ns) (dS ms) = decide (ns = ms) := by
  unfold dS PyData.eqv
  exact eqvS ns ms
theorem eqv_dP (ps qs : List Pr) : PyData.eqv (dP ps) (dP qs) = decide (ps = qs) := by
  unfold dP PyData.eqv
  exact eqvP ps qs
end TX
namespace TX
open PySem L2 PyProof.Rows TM
/-- a method of a class, ready to be called -/
structure Mt (K : PySem.W.Frag) (C : Addr) (m qual : Str) (st : Stmt) (ps : List Str) (f : Addr) (fd : FuncData) : Prop where
  F : Fun K m qual st f fd
  me : Meth K C m f
  b : Binds K fd ps []
theorem TupsAt.app {H : Hp} {as bs : List Addr} {ps qs : List Pr} (h : TupsAt H as ps) (k : TupsAt H bs qs) : TupsAt H (as ++ bs) (ps ++ qs) := by
  unfold TupsAt at *
  induction h with
  | nil => exact k
  | cons h _ ih => exact .cons h ih
/-- an error class of our own that is raised with a text -/
structure Ec (K : PySem.W.Frag) (mg : Str → Option Value) (x : Str) (C : Addr) : Prop where
  ex : PySem.W.excIn K C [.type "ValueError", .type "Exception", .type "BaseException", .type "object"] "ValueError.__new__" = true
  g : mg x = some (.ref C)
  k : PySem.W.keepIn K (.ref C) = true
  b : PySem.W.subIn K (.ref C) (.type "BaseException") = some true
  t : PySem.W.typeIn K (.ref C) = some (.type "type")
theorem FoOk.app {f g : Fo} (hf : FoOk f) (hg : FoOk g) (hd : ∀ x ∈ names f, x ∉ names g) (hl : (names f).length + (names g).length ≤ 8) : FoOk (app f g) := by
  refine ⟨?_, ?_, fun x hx => ?_⟩
  · rw [names_app, List.nodup_append]
    exact ⟨hf.nd, hg.nd, fun a ha b hb e => hd a ha (e ▸ hb)⟩
  · rw [names_app, List.length_append]
    exact hl
  · rw [names_app] at hx
    rcases List.mem_append.mp hx with hx | hx
    · exact hf.ok x hx
    · exact hg.ok x hx
theorem inV_str (x : Str) (ns : List Str) : inV (.str x) (ns.map V.str) = decide (x ∈ ns) := by
  unfold inV
  induction ns with
  | nil => rfl
  | cons y r ih =>
    rw [List.map_cons, List.any_cons, ih]
    show ((y == x) || decide (x ∈ r)) = _
    by_cases h : x = y
    · simp [h]
    · have h' : ¬ y = x := fun e => h e.symm
      simp [h, h']
theorem flat_strs (ns : List Str) : (ns.map V.str).all flatV = true := by
  rw [List.all_map, List.all_eq_true]
  intro x _
  rfl
end TX
namespace TX
open PySem L2 PyProof.Rows TM
theorem merge_kvs : ∀ (qs pre : List Pr), ((pre ++ qs).map Prod.fst).Nodup → mergeK (kvsOf pre) (kvsOf qs) = kvsOf (pre ++ qs)
  | [], pre, _ => by rw [List.append_nil]; rfl
  | (c, o) :: r, pre, h => by
    have hc : c ∉ pre.map Prod.fst := by
      rw [List.map_append, List.nodup_append] at h
      intro hm
      exact h.2.2 c hm c (by simp) rfl
    show mergeK (putK (kvsOf pre) (Sum.inr c : Key) (optV o)) (kvsOf r) = _
    rw [kvs_put hc, merge_kvs r (pre ++ [(c, o)]) (by simpa using h)]
    simp
theorem merge_nil {ps : List Pr} (h : (ps.map Prod.fst).Nodup) : mergeK [] (kvsOf ps) = kvsOf ps := by
  have := merge_kvs ps [] (by simpa using h)
  rw [List.nil_append] at this
  exact this
theorem kvs_isSome {ps : List Pr} (h : (ps.map Prod.fst).Nodup) (x : Str) : (valV (kvsOf ps) (Sum.inr x : Key)).isSome = decide (x ∈ ps.map Prod.fst) := by
  by_cases hx : x ∈ ps.map Prod.fst
  · obtain ⟨⟨x', o⟩, hm, rfl⟩ := List.mem_map.mp hx
    rw [kvs_some h hm, decide_eq_true hx]
    rfl
  · rw [kvs_none hx, decide_eq_false hx]
    rfl
theorem cut_strs (ns : List Str) (lo hi : Option Int) : ∃ ms : List Str, cutV (ns.map V.str) lo hi = ms.map V.str ∧ ms.Sublist ns ∧ ms.length ≤ HT.sIx ns.length ns.length hi - HT.sIx ns.length 0 lo := by
  refine ⟨(ns.drop (HT.sIx ns.length 0 lo)).take (HT.sIx ns.length ns.length hi - HT.sIx ns.length 0 lo), ?_, ?_, ?_⟩
  · unfold cutV
    rw [List.length_map, List.map_take, List.map_drop]
  · exact (List.take_sublist _ _).trans (List.drop_sublist _ _)
  · rw [List.length_take]
    exact Nat.min_le_left _ _
/-- dict(pairs) -/
def rDP (K : PySem.W.Frag) : List V → Hp → VK → Prop := fun vs H Q => ∃ (L : Addr) (as : List Addr) (es : List (Key × V)), vs = [.ref L] ∧ SqL K H L (as.map V.ref) ∧
  Paired (fun a e => SqT K H a [kV e.1, e.2]) as es ∧ ∀ d, H d = none → Q (.ref d) (upd H d (.dK (mergeK [] es)))
theorem call_dP {X : Cx} (hc : X.calm = true) : CallR X (.type "dict") (rDP X.K) := call_dictP hc
theorem pairs_es {K : PySem.W.Frag} {H : Hp} {as : List Addr} {ps : List Pr} (h : TupsAt H as ps) : Paired (fun a (e : Key × V) => SqT K H a [kV e.1, e.2]) as (kvsOf ps) := by
  unfold TupsAt at h
  induction h with
  | nil => exact .nil
  | cons h _ ih => exact .cons (.of h) ih
theorem PairsAt.nil {H : Hp} {p : Addr} (h : H p = some (.lst [])) : PairsAt H p [] := ⟨[], h, .nil⟩
theorem ord_len {ps : List Pr} (va : Valid [] ps) : (names (mk ps none)).length = ps.length := by
  have := (ord_perm va).length_eq
  rw [List.length_map] at this
  exact this
theorem foOk_nil : FoOk .nil := ⟨List.nodup_nil, Nat.zero_le _, fun _ h => nomatch h⟩
theorem PairsAt.app {H H' : Hp} {a b p : Addr} {ps qs : List Pr} {as bs : List Addr} (h : TupsAt H as ps) (k : TupsAt H bs qs) (s : Same H H') (e : H' p = some (.lst (as.map V.ref ++ bs.map V.ref))) : PairsAt H' p (ps ++ qs) :=
  ⟨as ++ bs, by rw [e, List.map_append], (h.app k).same s⟩
theorem PsOk.app {ps qs : List Pr} (h : PsOk ps) (k : PsOk qs) : PsOk (ps ++ qs) := fun q hq => (List.mem_append.mp hq).elim (h q) (k q)
/-- [pairs, pairs] -/
theorem sh2 {ps qs : List Pr} (h : PsOk ps) (k : PsOk qs) : SeqAt.shaped (.list [dP ps, dP qs]) = true := by
  unfold SeqAt.shaped
  have a1 : PyData.canLay0 (dP ps) = true := (Bool.and_eq_true_iff.mp (shP h)).1
  have a2 : PyData.canLay0 (dP qs) = true := (Bool.and_eq_true_iff.mp (shP k)).1
  have b1 : PyData.depth (dP ps) ≤ 2 := by unfold dP PyData.depth; have := depP ps; omega
  have b2 : PyData.depth (dP qs) ≤ 2 := by unfold dP PyData.depth; have := depP qs; omega
  have h1 : PyData.canLay0 (.list [dP ps, dP qs]) = true := by
    unfold PyData.canLay0 PyData.canLayAll0 PyData.canLayAll0 PyData.canLayAll0
    rw [a1, a2]
    rfl
  have h2 : PyData.depth (.list [dP ps, dP qs]) ≤ 64 := by
    unfold PyData.depth PyData.depthAll PyData.depthAll PyData.depthAll
    omega
  rw [h1, decide_eq_true h2]
  rfl
theorem eqv_refl2 (ps qs : List Pr) : PyData.eqv (.list [dP ps, dP qs]) (.list [dP ps, dP qs]) = true := by
  unfold PyData.eqv PyData.eqvAll PyData.eqvAll PyData.eqvAll
  rw [eqv_dP, eqv_dP, decide_eq_true rfl, decide_eq_true rfl]
  rfl
theorem Dp2 {K : PySem.W.Frag} {H : Hp} {p a b : Addr} {ps qs : List Pr} (h : H p = some (.lst [.ref a, .ref b])) (ha : PairsAt H a ps) (hb : PairsAt H b qs) : Dp K H (.ref p) (.list [dP ps, dP qs]) :=
  .lst (.of h) (.cons ha.dp (.cons hb.dp .nil))
end TX
namespace TX
open PySem L2 PyProof.Rows TM
theorem optV_ne_none {o : Option Str} : decide (optV o = .non) = o.isNone := by
  cases o with
  | none => rfl
  | some x => rfl
/-- the over of a name, found in the dict -/
theorem over_get {f : Fo} (ok : FoOk f) {c : Str} {a : List Str} {q : Fo} (h : loc f c = some (a, q)) : valV (kvsOf (flat f none)) (Sum.inr c : Key) = some (optV (lastOr a none)) :=
  kvs_some (by rw [flat_names]; exact ok.nd) (loc_flat none h)
end TX
namespace TX
open PySem L2 PyProof.Rows TM
/-- an expression that is v whatever is asked behind, and only makes objects -/
def Ee (te : TE) (s : L2.St) (H : Hp) (v : V) : Prop := ∀ h, Same H h → ∀ Q : VK, (∀ h', Same h h' → Q v h') → te s h Q
def Et (tt : TT) (s : L2.St) (H : Hp) (b : Bool) : Prop := ∀ h, Same H h → ∀ Q : Bool → Hp → Prop, (∀ h', Same h h' → Q b h') → tt s h Q
theorem et_yes {s : L2.St} {H : Hp} : Et tYes s H true := fun h _ Q q => q h (fun _ _ e => e)
theorem ee_var {i : Nat} {s : L2.St} {H : Hp} {v : V} (e : s[i]? = some (some v)) : Ee (tVar i) s H v := fun h _ Q q => ⟨v, e, q h (fun _ _ e => e)⟩
/-- [e for x in l if t], the items of the list l -/
theorem lc_all {K : PySem.W.Frag} {l : Addr} {i : Nat} {tt : TT} {te : TE} {s : L2.St} {H : Hp} {xs : List V} {g : V → V} {p : V → Bool} {Q : VK} {ti : TE} (hi : ti s H fun v h => v = .ref l ∧ Same H h) (mono : ∀ Q1 Q2 : VK, (∀ v h, Q1 v h → Q2 v h) → ti s H Q1 → ti s H Q2)
    (hl : SqL K H l xs) (hn : xs.length ≤ 1000) (ht : ∀ x ∈ xs, ∀ h, Same H h → Et tt ((wipe s [i]).set i (some x)) h (p x)) (he : ∀ x ∈ xs, p x = true → ∀ h, Same H h → Ee te ((wipe s [i]).set i (some x)) h (g x))
    (q : ∀ L h, Same H h → H L = none → h L = some (.lst ((xs.filter p).map g)) → Q (.ref L) h) : tLc (iList K ti) (gName i) tt te [i] s H Q := by
  refine mono _ _ (fun v H1 => ?_) hi
  rintro ⟨rfl, s1⟩
  refine ⟨l, rfl, ⟨xs, s1.seq hl⟩, fun D nD => ?_⟩
  refine lc_it (walk_list (xs := xs)) (fun j h => h D = some (.lst (((xs.take j).filter p).map g)) ∧ Same H1 h) ⟨upd_same, Same.new nD⟩ (fun j h _ ⟨_, s2⟩ => s2.seq (s1.seq hl)) ?_ ?_
  · rintro j x h h' hj ⟨e, s2⟩ ⟨rfl, hx⟩
    have hm : x ∈ xs := List.mem_of_getElem? hx
    have htk : xs.take (j + 1) = xs.take j ++ [x] := by rw [List.take_add_one, hx]; rfl
    have s3 := s1.trans s2
    refine ⟨?_, ?_⟩
    · show (((wipe s [i]).set i (some x)).set i none) = wipe s [i]
      show (((s.set i none).set i (some x)).set i none) = s.set i none
      rw [List.set_set, List.set_set]
    refine ht x hm h' s3 h' (fun _ _ e => e) _ fun h4 s4 => ?_
    have e4 := s4 _ _ e
    cases hp : p x with
    | true =>
      refine he x hm hp h4 (s3.trans s4) h4 (fun _ _ e => e) _ fun h5 s5 => ?_
      refine ⟨_, s5 _ _ e4, ?_, ?_, Same.mut ((s2.trans s4).trans s5) nD⟩
      · rw [List.length_map]
        have h1 := List.length_filter_le p (xs.take j)
        rw [List.length_take] at h1
        exact line100' (by omega)
      · rw [upd_same, htk, List.filter_append, List.filter_cons_of_pos hp, List.map_append]
        rfl
    | false =>
      refine ⟨?_, s2.trans s4⟩
      rw [htk, List.filter_append, List.filter_cons_of_neg (by rw [hp]; exact Bool.false_ne_true), List.filter_nil, List.append_nil]
      exact e4
  · rintro h ⟨e, s2⟩
    rw [List.take_length] at e
    exact q D h (s1.trans s2) (s1.free nD) e
theorem mono_var {i : Nat} {s : L2.St} {H : Hp} : ∀ Q1 Q2 : VK, (∀ v h, Q1 v h → Q2 v h) → tVar i s H Q1 → tVar i s H Q2 := fun Q1 Q2 k ⟨v, e, h⟩ => ⟨v, e, k v H h⟩
theorem mono_fld {K : PySem.W.Frag} {i : Nat} {f : Str} {s : L2.St} {H : Hp} : ∀ Q1 Q2 : VK, (∀ v h, Q1 v h → Q2 v h) → tFld K (tVar i) f s H Q1 → tFld K (tVar i) f s H Q2 :=
  fun Q1 Q2 k ⟨v, e, a, C, dx, fs, w, h1, h2, h3, h4, h5, h⟩ => ⟨v, e, a, C, dx, fs, w, h1, h2, h3, h4, h5, k w H h⟩
theorem filter_strs (ns : List Str) (p : Str → Bool) (r : V → Bool) (h : ∀ n ∈ ns, r (.str n) = p n) : (ns.map V.str).filter r = (ns.filter p).map V.str := by
  induction ns with
  | nil => rfl
  | cons n t ih =>
    rw [List.map_cons, List.filter_cons, List.filter_cons, h n List.mem_cons_self, ih fun m hm => h m (List.mem_cons_of_mem _ hm)]
    cases p n <;> rfl
end TX
namespace TX
open PySem L2 PyProof.Rows TM
/-- an if whose test is false, whatever was made -/
theorem sq_no {tc : TT} {t B : TS} {D : Ends} {s : L2.St} {H : Hp} (h : Et tc s H false) (k : ∀ h', Same H h' → B D s h') : tSeq (tIfS tc t tNext) B D s H := h H (fun _ _ e => e) _ k
theorem et_or {t u : TT} {s : L2.St} {H : Hp} (h : Et t s H false) (k : ∀ h', Same H h' → Et u s h' false) : Et (tOr t u) s H false := fun h1 s1 Q q =>
  h h1 s1 _ fun h2 s2 => k h2 (s1.trans s2) h2 (fun _ _ e => e) Q fun h3 s3 => q h3 (s2.trans s3)
theorem kids_take {q : Fo} {ks : List Str} {i : Nat} {c : Str} (h : ks[i]? = some c) : (ks.take (i + 1)).flatMap (kidsOf q) = (ks.take i).flatMap (kidsOf q) ++ kidsOf q c := by
  rw [List.take_add_one, h, List.flatMap_append]
  show _ ++ (kidsOf q c ++ []) = _
  rw [List.append_nil]
theorem bool_data (bs : List Bool) : SeqAt.shaped (.list (bs.map PyData.bool)) = true := by
  have h1 : PyData.canLayAll0 (bs.map PyData.bool) = true := by
    induction bs with
    | nil => rfl
    | cons b r ih => rw [List.map_cons]; unfold PyData.canLayAll0; rw [ih]; rfl
  have h2 : PyData.depthAll (bs.map PyData.bool) = 0 := by
    clear h1
    induction bs with
    | nil => rfl
    | cons b r ih => rw [List.map_cons]; unfold PyData.depthAll; rw [ih]; rfl
  unfold SeqAt.shaped
  have a1 : PyData.canLay0 (.list (bs.map PyData.bool)) = true := by unfold PyData.canLay0; exact h1
  have a2 : PyData.depth (.list (bs.map PyData.bool)) ≤ 64 := by unfold PyData.depth; rw [h2]; decide
  rw [a1, decide_eq_true a2]
  rfl
theorem bool_refl (bs : List Bool) : PyData.eqv (.list (bs.map PyData.bool)) (.list (bs.map PyData.bool)) = true := by
  unfold PyData.eqv
  induction bs with
  | nil => rfl
  | cons b r ih =>
    rw [List.map_cons]
    unfold PyData.eqvAll
    rw [ih]
    show (b == b && true) = true
    simp
theorem Dp_bools {K : PySem.W.Frag} {H : Hp} {a : Addr} {bs : List Bool} (h : H a = some (.lst (bs.map V.bl))) : Dp K H (.ref a) (.list (bs.map PyData.bool)) := by
  refine .lst (.of h) ?_
  clear h
  induction bs with
  | nil => exact .nil
  | cons b r ih => exact .cons (.bl b) ih
theorem filter_yes {xs : List V} : xs.filter (fun _ => true) = xs := by
  induction xs with
  | nil => rfl
  | cons x r ih => rw [List.filter_cons_of_pos rfl, ih]
theorem dec_strs (n : Str) (ks : List Str) : decide (V.str n ∈ ks.map V.str) = decide (n ∈ ks) := by
  by_cases hm : n ∈ ks
  · rw [decide_eq_true hm, decide_eq_true (List.mem_map.mpr ⟨n, hm, rfl⟩)]
  · rw [decide_eq_false hm, decide_eq_false]
    intro z
    obtain ⟨m, hm2, e2⟩ := List.mem_map.mp z
    exact hm (V.str.inj e2 ▸ hm2)
theorem same_rfl {H : Hp} : Same H H := fun _ _ e => e
end TX
namespace TX
open PySem L2 PyProof.Rows TM
theorem lt_anti : ∀ {a b : List Nat}, PySem.Spec.ltCps a b = false → PySem.Spec.ltCps b a = false → a = b
  | [], [], _, _ => rfl
  | [], _ :: _, h, _ => by cases h
  | _ :: _, [], _, h => by cases h
  | x :: a, y :: b, h1, h2 => by
    have g1 : (decide (x < y) || (x == y && PySem.Spec.ltCps a b)) = false := h1
    have g2 : (decide (y < x) || (y == x && PySem.Spec.ltCps b a)) = false := h2
    have e : x = y := by
      have a1 : ¬ x < y := fun z => by rw [decide_eq_true z] at g1; cases g1
      have a2 : ¬ y < x := fun z => by rw [decide_eq_true z] at g2; cases g2
      omega
    subst e
    simp at g1 g2
    rw [lt_anti g1 g2]
theorem lt_trans' : ∀ {a b c : List Nat}, PySem.Spec.ltCps b a = false → PySem.Spec.ltCps c b = false → PySem.Spec.ltCps c a = false
  | [], _, [], _, _ => rfl
  | [], [], _ :: _, _, h => rfl
  | [], _ :: _, _ :: _, _, _ => rfl
  | _ :: _, [], _, h, _ => by cases h
  | x :: a, y :: b, [], _, h => by cases h
  | x :: a, y :: b, z :: c, h1, h2 => by
    have g1 : (decide (y < x) || (y == x && PySem.Spec.ltCps b a)) = false := h1
    have g2 : (decide (z < y) || (z == y && PySem.Spec.ltCps c b)) = false := h2
    show (decide (z < x) || (z == x && PySem.Spec.ltCps c a)) = false
    have a1 : ¬ y < x := fun w => by rw [decide_eq_true w] at g1; cases g1
    have a2 : ¬ z < y := fun w => by rw [decide_eq_true w] at g2; cases g2
    have a3 : ¬ z < x := by omega
    rw [decide_eq_false a3, Bool.false_or]
    by_cases e : z = x
    · have e1 : y = x := by omega
      subst e
      subst e1
      simp at g1 g2
      rw [lt_trans' g1 g2]
      simp
    · have : (z == x) = false := by simpa using e
      rw [this]
      rfl
theorem sorted_pair : ∀ {l : List Str}, PyProof.Rows.sortedS l = true → l.Pairwise fun a b => PySem.Spec.ltCps b.cps.toList a.cps.toList = false
  | [], _ => List.Pairwise.nil
  | [x], _ => List.pairwise_singleton _ _
  | x :: y :: r, h => by
    have h' : (!PySem.Spec.ltCps y.cps.toList x.cps.toList && PyProof.Rows.risingS y r) = true := h
    rw [Bool.and_eq_true] at h'
    have ih : (y :: r).Pairwise fun a b => PySem.Spec.ltCps b.cps.toList a.cps.toList = false := sorted_pair h'.2
    have h1 : PySem.Spec.ltCps y.cps.toList x.cps.toList = false := by simpa using h'.1
    refine List.pairwise_cons.mpr ⟨fun z hz => ?_, ih⟩
    rcases List.mem_cons.mp hz with e | hz
    · rw [e]
      exact h1
    · exact lt_trans' h1 ((List.pairwise_cons.mp ih).1 z hz)
theorem sorted_same {l m : List Str} (h : l.Perm m) (h1 : PyProof.Rows.sortedS l = true) (h2 : PyProof.Rows.sortedS m = true) : l = m := by
  refine perm_eq (fun a b r1 r2 => ?_) h (sorted_pair h1) (sorted_pair h2)
  rw [S_eta a, S_eta b, lt_anti r2 r1]
theorem mono_c {v : V} {s : L2.St} {H : Hp} : ∀ Q1 Q2 : VK, (∀ v h, Q1 v h → Q2 v h) → tC v s H Q1 → tC v s H Q2 := fun _ _ k h => k _ _ h
end TX

set_option maxHeartbeats 2000000
/-! Rules of our own: the length of an own instance; isinstance of a caught error, one class or several. -/
namespace TY
open PySem L2 PyProof.Rows TX
section
variable {X : Cx}
/-- len(o) by an own __len__ -/
def rLenO (C : Addr) (sp : Sp) (E : XK) : List V → Hp → VK → Prop := fun xs H Q => ∃ a dx fs, xs = [.ref a] ∧ H a = some (.ins C dx fs) ∧ sp [.ref a] H (fun v H' => ∃ k : Nat, v = .int k ∧ k ≤ 1000000 ∧ Q (.int k) H') E
theorem call_lenO {CX : CXT} {C f : Addr} {fd : FuncData} {ps : List Str} {sp : Sp} {E : XK} {n : Nat} (F : FnOk X.prog X.w X.K X.mg X.base CX n f fd ps sp) (hs : PySem.W.findIn X.K (.ref C) "__len__" = some (some (.ref f)))
    (hf : PySem.W.isFn X.K (.ref f) = true) (hb : Binds X.K fd ps []) (hx : Passes CX X E) (hr : Room (n + 1) X.A) : CallR X (.builtin "len") (rLenO C sp E) := by
  intro pins s σ H xs us Q I r h
  obtain ⟨a, dx, fs, rfl, ha, hsp⟩ := h
  obtain ⟨u, rfl, rx⟩ := vals1 r
  cases rx
  obtain ⟨mA, J, _⟩ := ins_get I.hok ha
  obtain ⟨od, J, _⟩ := J.look
  obtain ⟨m, hF⟩ := I.fr
  refine PySem.W.len_K hF I.ok.mod.kin J hs hf ?_
  have e0 : Env0 X.prog X.w X.K X.mg X.base X.A.in1 X.stack s H := by
    have e := I.env0
    exact ⟨e.frames, e.mod, e.bs, e.bsz, e.funs, e.frf, e.hok, e.bare⟩
  have hl := F.len _ _ _ _ hsp
  refine wpAny_call (codeAny_mono (F.run X.A.in1 X.stack s H ⟨[.ref a], []⟩ [.ref a] [.ref a] _ E hr.in1 e0 (by
    have := hb s [.ref a] I.kIn (by simpa using hl)
    simpa using this) (.cons rfl .nil) hsp) fun r s' hq => ?_)
  cases r with
  | error e => exact hx pins σ H s e s' I hq
  | ok fl =>
    cases fl with
    | ret u =>
      obtain ⟨z, H', I', rz, k, ez, hk, q⟩ := I.after hq
      subst ez
      obtain ⟨t, rfl⟩ := rz
      show PySem.W.LenBack _ (.int (k : Int) t) s'
      exact ⟨by omega, ⟨.int k, H', I'.tok _, ⟨_, rfl⟩, q⟩⟩
    | next => exact False.elim hq
    | brk => exact False.elim hq
    | cont => exact False.elim hq
/-- isinstance of the error that the suite holds: one class, or a tuple of classes that was just laid -/
def rIsX (K : PySem.W.Frag) (a : Addr) (cls : Value) (d : Option Addr) : List V → Hp → VK → Prop := fun xs H Q => ∃ (D : Addr) (c : V) (b : Bool), cls = .ref D ∧ d = none ∧ ExcC K D ∧ xs = [.ref a, c] ∧
  ((∃ cv, ClsV c cv ∧ PySem.W.kitOne K (.ref D) cv = some b) ∨ (∃ tp cs us, c = .ref tp ∧ H tp = some (.tup cs) ∧ Paired ClsV cs us ∧ PySem.W.kitAny K (.ref D) us = some b)) ∧ Q (.bl b) H
theorem call_isX {a : Addr} {oe : Obj} {cls : Value} {d : Option Addr} {pn : List (Addr × Obj)} (hz : Zc cls d oe) (hf : ∃ vs, oe.data = .fields vs) : CallR (X.suite a ((a, oe) :: pn)) (.builtin "isinstance") (rIsX X.K a cls d) := by
  intro pins s σ H xs us Q I r h
  obtain ⟨D, c, b, rfl, rfl, C, rfl, hc, q⟩ := h
  obtain ⟨u1, u2, rfl, r1, r2⟩ := vals2 r
  cases r1
  obtain ⟨hget, _⟩ := I.pin (a, oe) (List.mem_append.mpr (.inl List.mem_cons_self))
  obtain ⟨vs, hv⟩ := hf
  have J : PySem.W.InstAt s.heap a oe D none := by
    obtain ⟨oc, od, oda, osl⟩ := oe
    obtain ⟨h1, h2⟩ := hz
    dsimp only at h1 h2 hv
    subst h1 h2 hv
    exact ⟨hget, rfl, rfl, trivial⟩
  have Z := PySem.W.handS_kitx_exc (x := a) (ox := oe) C.hg C.hk C.hs C.hd C.ha C.hn C.ht C.hm
  rcases hc with ⟨cv, hcv, e⟩ | ⟨tp, cs, ws, rfl, hT, k, e⟩
  · have e2 := hcv.eq r2
    subst e2
    exact PySem.W.kia_one Z I.kIn J e (fun z => nomatch z) fun tk => ⟨.bl b, H, I.kept (t' := tk) fun _ _ z => z, rfl, q⟩
  · cases (show u2 = Value.ref tp from r2)
    obtain ⟨_, its, rv, o, h1, h2, n, h3⟩ := (show ObjOk X.prog X.w H s.heap tp (.tup cs) from I.hok tp _ hT)
    have e3 := ClsV.all k rv
    subst e3
    obtain ⟨oc, od, dt, sl⟩ := o
    simp only at h2 h3
    subst h2 h3
    exact PySem.W.kia_tup Z I.kIn J h1 e (fun z => nomatch z) fun tk => ⟨.bl b, H, I.kept (t' := tk) fun _ _ z => z, rfl, q⟩
end
end TY

set_option maxHeartbeats 2000000
/-! Rules of our own: a made instance whose __init__ may raise; isinstance of a caught error that has a dict; two lists of the same items. -/
namespace TY
open PySem L2 PyProof.Rows TX
section
variable {X : Cx} {CX : CXT} {k : Nat} {f C : Addr} {fd : FuncData} {ps : List Str} {sp : Sp} {E : L2.St → XK} {x : Str} {p pos : Pos} {e : Expr} {es : List Expr} {t : TA}
theorem run_makeS {pins : List (Addr × Obj)} {σ : L2.St} {H : Hp} {s : Shared} {Q : VK} {us : List Value} {vs : List V} (M : Mk X.K C f) (F : FnOk X.prog X.w X.K X.mg X.base CX k f fd ps sp) (hr : Room (k + 1) X.A) (hb : Binds X.K fd ps [])
    (hx : PassesAt CX X σ (E σ)) (I : Inv X pins σ H s) (r : Vals vs us)
    (h : ∀ x dx, H x = none → H dx = none → dx ≠ x → sp (.ref x :: vs) (upd (upd H dx (.own x)) x (.ins C dx [])) (fun v H2 => v = .non ∧ Q (.ref x) H2) (E σ)) :
    wpAny (model X.prog X.w) X.A (call (.ref C) us) (EP X pins σ Q) X.xe s := by
  have hq := h (s.heap.objs.size + 1) s.heap.objs.size (I.hok.fresh (Nat.le_succ _)) (I.hok.fresh (Nat.le_refl _)) (Nat.ne_of_lt (Nat.lt_succ_self _))
  have I2 := Inv.made (C := C) I
  have r2 : Vals (V.ref (s.heap.objs.size + 1) :: vs) (Value.ref (s.heap.objs.size + 1) :: us) := .cons rfl r
  have hl : (Value.ref (s.heap.objs.size + 1) :: us).length = ps.length := by
    have e := r2.length
    rw [F.len _ _ _ _ hq] at e
    exact e.symm
  have b := hb _ (Value.ref (s.heap.objs.size + 1) :: us) I2.kIn (by rw [List.append_nil]; exact hl)
  rw [List.append_nil] at b
  refine wpAny_call (make_map (f := f) I.kIn M.makes M.init (beq_iff_eq.mp M.fn) (codeAny_mono (F.run _ X.stack _ _ ⟨Value.ref (s.heap.objs.size + 1) :: us, []⟩ (Value.ref (s.heap.objs.size + 1) :: us) _ _ (E σ) (hr.make C us [])
    (I2.env0.make C us []) b r2 hq) fun r s' hq' => ?_))
  cases r with
  | error e => exact hx pins _ _ e s' I2 hq'
  | ok fl =>
    cases fl with
    | ret u =>
      obtain ⟨v, H', I3, rv, ev, q3⟩ := I2.after hq'
      subst ev
      exact ⟨rv, ⟨V.ref (s.heap.objs.size + 1), H', I3, rfl, q3⟩⟩
    | next => exact False.elim hq'
    | brk => exact False.elim hq'
    | cont => exact False.elim hq'
/-- C(..), whose __init__ may raise -/
def tMakeS (C : Addr) (sp : Sp) (E : L2.St → XK) (t : TA) : TE := fun σ H Q => t σ H fun vs H1 => ∀ x dx, H1 x = none → H1 dx = none → dx ≠ x →
  sp (.ref x :: vs) (upd (upd H1 dx (.own x)) x (.ins C dx [])) (fun v H2 => v = .non ∧ Q (.ref x) H2) (E σ)
theorem pe_makeS (M : Mk X.K C f) (F : FnOk X.prog X.w X.K X.mg X.base CX k f fd ps sp) (hr : Room (k + 1) X.A) (hg : Gl X x) (hm : X.mg x = some (.ref C)) (hb : Binds X.K fd ps []) (hx : ∀ σ, PassesAt CX X σ (E σ))
    (ha : PA X (e :: es) t) (hdb : (x == ("__debug__" : Str)) = false := by decide) (he : starEach (e :: es) X.env = (false, eval e X.env) :: starEach es X.env := by rfl) (hpl : (backTo pos (starEach es X.env)).any (·.1) = false := by rfl) :
    PE X (.Call (.Name x p) (e :: es) [] pos) (tMakeS C sp E t) := by
  refine ⟨fun pins s σ H Q I h => ?_⟩
  refine wpAny_Call_Name_kw (ld_glob I hg hm ?_ hdb)
  refine PySem.W.callWith_K (h₀ := X.base) I.ok.mod.kin M.kp (thn (ha.run pos pins s σ H _ I h) fun us s1 ⟨vs, H1, I1, r, q⟩ => ⟨I1.kIn, ?_⟩) he hpl
  exact run_makeS M F hr hb (hx σ) I1 r q
/-- isinstance of the error that the suite holds, which has a dict -/
def rIsXd (K : PySem.W.Frag) (a : Addr) (cls : Value) (d : Option Addr) : List V → Hp → VK → Prop := fun xs H Q => ∃ (D : Addr) (c : V) (b : Bool), cls = .ref D ∧ ExcC K D ∧ (∃ (dd : Addr) (fs : List (Str × V)), d = some dd ∧ H dd = some (.xd fs)) ∧ xs = [.ref a, c] ∧
  ((∃ cv, ClsV c cv ∧ PySem.W.kitOne K (.ref D) cv = some b) ∨ (∃ tp cs us, c = .ref tp ∧ H tp = some (.tup cs) ∧ Paired ClsV cs us ∧ PySem.W.kitAny K (.ref D) us = some b)) ∧ Q (.bl b) H
theorem call_isXd {a : Addr} {oe : Obj} {cls : Value} {d : Option Addr} {pn : List (Addr × Obj)} (hz : Zc cls d oe) (hf : ∃ vs, oe.data = .fields vs) : CallR (X.suite a ((a, oe) :: pn)) (.builtin "isinstance") (rIsXd X.K a cls d) := by
  intro pins s σ H xs us Q I r h
  obtain ⟨D, c, b, rfl, C, ⟨dd, fs, rfl, hdd⟩, rfl, hc, q⟩ := h
  obtain ⟨u1, u2, rfl, r1, r2⟩ := vals2 r
  cases r1
  obtain ⟨hget, _⟩ := I.pin (a, oe) (List.mem_append.mpr (.inl List.mem_cons_self))
  obtain ⟨vs, hv⟩ := hf
  have hx : ObjOk X.prog X.w H s.heap dd (.xd fs) := I.hok dd _ hdd
  obtain ⟨mA, hns, hr⟩ := hx
  obtain ⟨od, ho, hl⟩ := lookIn_ns hns
  have J : PySem.W.InstAt s.heap a oe D (some od) := ⟨hget, hz.1, by unfold PySem.W.notCls; rw [hv] <;> rfl, by rw [hz.2]; exact ho⟩
  have hcl : (PySem.W.clsIn X.K D).isSome = true := by
    obtain ⟨cd, hc', _⟩ := PySem.W.any_some C.hd
    rw [hc']
    rfl
  have Z := PySem.W.kitx_exc (x := a) (ox := oe) (od := some od) hcl C.hg C.hk C.hs C.ha C.hn C.ht C.hm
  rcases hc with ⟨cv, hcv, e⟩ | ⟨tp, cs, ws, rfl, hT, k, e⟩
  · have e2 := hcv.eq r2
    subst e2
    exact PySem.W.kia_one Z I.kIn J e (fun z => nomatch z) fun tk => ⟨.bl b, H, I.kept (t' := tk) fun _ _ z => z, rfl, q⟩
  · cases (show u2 = Value.ref tp from r2)
    obtain ⟨_, its, rv, o, h1, h2, n, h3⟩ := (show ObjOk X.prog X.w H s.heap tp (.tup cs) from I.hok tp _ hT)
    have e3 := ClsV.all k rv
    subst e3
    obtain ⟨oc, od', dt, sl⟩ := o
    simp only at h2 h3
    subst h2 h3
    exact PySem.W.kia_tup Z I.kIn J h1 e (fun z => nomatch z) fun tk => ⟨.bl b, H, I.kept (t' := tk) fun _ _ z => z, rfl, q⟩
/-- two lists of the same items: != is False -/
def itemV : V → Bool
  | .non => true
  | .bl _ => true
  | .int _ => true
  | .str _ => true
  | .ref _ => true
  | _ => false
theorem eqAt_item {A : Around} {s : Shared} {x : V} {u v : Value} (rx : RelV x u) (ry : RelV x v) (h : itemV x = true) : SeqAt.EqAt A s u v true := by
  cases x with
  | ref a =>
    cases (show u = Value.ref a from rx)
    cases (show v = Value.ref a from ry)
    intro prog w E Q hq
    unfold eqBool
    refine wpAny_holding ?_
    refine wpAny_ite_split (fun _ => ?_) (fun hab => absurd (by simp) hab)
    wp_walk
    exact hq
  | non => exact (eqAt_V rx ry rfl rfl : _)
  | bl b => have q := eqAt_V (A := A) (s := s) rx ry rfl rfl; rw [show eqV (.bl b) (.bl b) = true by simp [eqV]] at q; exact q
  | int i => have q := eqAt_V (A := A) (s := s) rx ry rfl rfl; rw [show eqV (.int i) (.int i) = true by simp [eqV]] at q; exact q
  | str z => have q := eqAt_V (A := A) (s := s) rx ry rfl rfl; rw [show eqV (.str z) (.str z) = true by simp [eqV]] at q; exact q
  | _ => cases h
def rNeSame (K : PySem.W.Frag) : R2 := fun x y H Q => ∃ a b xs, x = .ref a ∧ y = .ref b ∧ SqL K H a xs ∧ SqL K H b xs ∧ xs.all itemV = true ∧ Q (.bl false) H
theorem op_neSame (hu : X.A.units < cLine) : OpR X (compareOp .NotEq) (rNeSame X.K) := by
  intro pins s σ H x y v u Q I rx ry h
  obtain ⟨a, b, xs, rfl, rfl, ha, hb, hi, q⟩ := h
  cases rx
  cases ry
  obtain ⟨its, r, hl, _⟩ := I.list ha
  obtain ⟨its2, r2, hl2, _⟩ := I.list hb
  have hsz : its.toArray.size = its2.toArray.size := by rw [List.size_toArray, List.size_toArray, ← r.length, ← r2.length]
  have he : ∀ j (h1 : j < its.toArray.size) (h2 : j < its2.toArray.size), SeqAt.EqAt X.A.in1 s its.toArray[j] its2.toArray[j] ((fun _ => true) j) := by
    intro j h1 h2
    have k1 : j < xs.length := by rw [r.length]; simpa using h1
    obtain ⟨u1, e1, r1⟩ := r.get (List.getElem?_eq_getElem k1)
    obtain ⟨u2, e2, r3⟩ := r2.get (List.getElem?_eq_getElem k1)
    have g1 : its.toArray[j] = u1 := by
      have h1' : j < its.length := by simpa using h1
      rw [List.getElem?_eq_getElem h1'] at e1
      simpa using Option.some.inj e1
    have g2 : its2.toArray[j] = u2 := by
      have h2' : j < its2.length := by simpa using h2
      rw [List.getElem?_eq_getElem h2'] at e2
      simpa using Option.some.inj e2
    rw [g1, g2]
    exact eqAt_item r1 r3 (List.all_eq_true.mp hi _ (List.getElem_mem k1))
  have z := SeqAt.RcNeAt.lists hl.isList hl2.isList hsz hu he
  have e : (List.range its.toArray.size).all (fun _ => true) = true := by simp
  rw [e] at z
  exact z X.prog X.w X.xe _ ⟨.bl false, H, I, rfl, q⟩
/-- a list == [] -/
def rEqNil (K : PySem.W.Frag) : R2 := fun x y H Q => ∃ a b xs, x = .ref a ∧ y = .ref b ∧ SqL K H a xs ∧ SqL K H b [] ∧ Q (.bl xs.isEmpty) H
theorem op_eqNil (hu : X.A.units < cLine) : OpR X (compareOp .Eq) (rEqNil X.K) := by
  intro pins s σ H x y v u Q I rx ry h
  obtain ⟨a, b, xs, rfl, rfl, ha, hb, q⟩ := h
  cases rx
  cases ry
  obtain ⟨its, r, hl, _⟩ := I.list ha
  obtain ⟨its2, r2, hl2, _⟩ := I.list hb
  have h2 : its2 = [] := by
    cases r2
    rfl
  subst h2
  cases xs with
  | nil =>
    cases r
    have z := SeqAt.RcAt.lists (e := fun _ => true) hl.isList hl2.isList rfl hu (fun j h1 h2 => absurd h1 (by simp))
    exact z X.prog X.w X.xe _ ⟨.bl true, H, I, rfl, q⟩
  | cons z zs =>
    have hsz : (its.toArray.size != ([] : List Value).toArray.size) = true := by
      have : its.length = (z :: zs).length := r.length.symm
      simp [this]
    have z := SeqAt.RcAt.lists_lengths hl.isList hl2.isList hsz hu
    exact z X.prog X.w X.xe _ ⟨.bl false, H, I, rfl, q⟩
/-- one sign of a text -/
theorem found_sign (x : Str) (c : Nat) : (!(Builtin.Str.occurrences x ⟨#[c]⟩ 0 x.length 1).isEmpty) = decide (c ∈ x.cps.toList) := StrLaws.found_one x c
end
end TY

set_option maxHeartbeats 2000000
/-! Rules of our own: sets of rows (tuples of ints, below 64): made by a comprehension, sorted whatever the ints. -/
namespace TB
open PySem L2 PyProof.Rows
/-! ### the order of rows -/
def ltI : List Int → List Int → Bool
  | [], [] => false
  | [], _ :: _ => true
  | _ :: _, [] => false
  | x :: a, y :: b => if x = y then ltI a b else decide (x < y)
theorem ltI_asym : ∀ {a b : List Int}, ltI a b = true → ltI b a = false
  | [], [], h => by cases h
  | [], _ :: _, _ => rfl
  | _ :: _, [], h => by cases h
  | x :: a, y :: b, h => by
    unfold ltI at h ⊢
    by_cases e : x = y
    · subst e
      rw [if_pos rfl] at h ⊢
      exact ltI_asym h
    · rw [if_neg e] at h
      rw [if_neg (fun z => e z.symm)]
      have := of_decide_eq_true h
      exact decide_eq_false (by omega)
theorem ltI_anti : ∀ {a b : List Int}, ltI a b = false → ltI b a = false → a = b
  | [], [], _, _ => rfl
  | [], _ :: _, h, _ => by cases h
  | _ :: _, [], _, h => by cases h
  | x :: a, y :: b, h, k => by
    unfold ltI at h k
    by_cases e : x = y
    · subst e
      rw [if_pos rfl] at h k
      rw [ltI_anti h k]
    · rw [if_neg e] at h
      rw [if_neg (fun z => e z.symm)] at k
      have h1 := of_decide_eq_false h
      have h2 := of_decide_eq_false k
      omega
theorem ltI_le : ∀ {a b c : List Int}, ltI b a = false → ltI c b = false → ltI c a = false
  | [], [], [], _, _ => rfl
  | [], [], _ :: _, _, h => by cases h <;> rfl
  | [], _ :: _, [], h, _ => by first | rfl | cases h
  | [], _ :: _, _ :: _, h, _ => by first | rfl | cases h
  | _ :: _, [], _, h, _ => by cases h
  | _ :: _, _ :: _, [], _, h => by cases h
  | x :: a, y :: b, z :: c, h, k => by
    unfold ltI at h k ⊢
    by_cases e : y = x
    · subst e
      rw [if_pos rfl] at h
      by_cases e2 : z = y
      · subst e2
        rw [if_pos rfl] at k ⊢
        exact ltI_le h k
      · rw [if_neg e2] at k ⊢
        exact k
    · rw [if_neg e] at h
      have h1 := of_decide_eq_false h
      by_cases e2 : z = y
      · subst e2
        rw [if_neg e]
        exact h
      · rw [if_neg e2] at k
        have h2 := of_decide_eq_false k
        rw [if_neg (by omega)]
        exact decide_eq_false (by omega)
theorem ltI_swo {α : Type} (k : α → List Int) : SrtO.Swo fun v u => ltI (k v) (k u) := ⟨fun _ _ => ltI_asym, fun _ _ _ => ltI_le⟩
/-! ### rows held against one another by the sort -/
theorem lex_all {prog : Program} {w : World} {A : Around} {s : Shared} {Q : Bool → Shared → Prop} : ∀ {xs ys : List Value} {ns ms : List Int} {i : Nat} {fin : Bool}, IntsAre xs ns → IntsAre ys ms → (ns.length = ms.length → fin = false) → ns.length = ms.length → Q (ltI ns ms) s →
    W.KatLex prog w A true fin Q (xs.zip ys) i s := by
  intro xs ys ns ms i fin h
  induction h generalizing ys ms i with
  | nil =>
    intro k hf hl q
    cases k with
    | nil =>
      have e := hf hl
      subst e
      exact W.kat_nil q
    | cons n t k => cases hl
  | @cons n t vs ns h ih =>
    intro k hf hl q
    cases k with
    | nil => cases hl
    | @cons m u ws ms k =>
      have hl' : ns.length = ms.length := by simpa using hl
      refine W.kat_cons (SeqAt.EqAt.int_int n t m u prog w _ _ ?_)
      refine W.kat_go (fun e => ?_) fun e => ?_
      · have e : n = m := by simpa using e
        subst e
        refine W.kat_yes (ih k (fun _ => hf hl) hl' ?_)
        have : ltI (n :: ns) (n :: ms) = ltI ns ms := by conv => lhs; unfold ltI; rw [if_pos rfl]
        rwa [this] at q
      · have e : ¬ n = m := by simpa using e
        have : ltI (n :: ns) (m :: ms) = decide (n < m) := by unfold ltI; rw [if_neg e]
        rw [this] at q
        refine W.kat_no ?_
        by_cases hi : i = 0
        · subst hi
          exact oneLt_int q
        · have : (true && i == 0) = false := by simp [hi]
          rw [this]
          exact W.kat_one _ _ (lt_int q)
theorem tups_cmp {prog : Program} {w : World} {A : Around} {s : Shared} {vs : List Value} {k : Value → List Int} {d : Nat} (hk : ∀ v ∈ vs, TS.TupInts s.heap v (k v) ∧ (k v).length = d) : SrtO.Cmp prog w A s (tuples' true) (fun p => p.1 ∈ vs) (SrtO.lt2 fun v u => ltI (k v) (k u)) := by
  intro p q hp hq
  obtain ⟨⟨a, xs, ea, ⟨o, ho, hc, n, hd⟩, ia⟩, la⟩ := hk p.1 hp
  obtain ⟨⟨b, ys, eb, ⟨o', ho', hc', n', hd'⟩, ib⟩, lb⟩ := hk q.1 hq
  have l1 : xs.size = d := by
    have : ∀ {xs ns}, IntsAre xs ns → xs.length = ns.length := fun h => by induction h <;> simp_all
    rw [← la, ← this ia, Array.length_toList]
  have l2 : ys.size = d := by
    have : ∀ {xs ns}, IntsAre xs ns → xs.length = ns.length := fun h => by induction h <;> simp_all
    rw [← lb, ← this ib, Array.length_toList]
  rw [ea, eb]
  refine W.kat_lt ho hd ho' hd' (lex_all ia ib (fun _ => by rw [l1, l2]; simp) (by rw [la, lb]) ⟨rfl, ?_⟩)
  show ltI _ _ = ltI (k p.1) (k q.1)
  rw [ea, eb]
theorem firsts {h : Heap} {k : Value → List Int} : ∀ {vs : List Value}, (∀ v ∈ vs, TS.TupInts h v (k v) ∧ k v ≠ []) → ∃ fs : List Value, W.KatTups h vs fs ∧ fs.length = vs.length ∧ ∀ f ∈ fs, ∃ x t, f = Value.int x t
  | [], _ => ⟨[], by first | trivial | exact .nil | rfl, rfl, fun _ h => nomatch h⟩
  | v :: vs, hv => by
    obtain ⟨fs, h1, h2, h3⟩ := firsts fun u hu => hv u (List.mem_cons_of_mem _ hu)
    obtain ⟨⟨a, xs, ea, ⟨o, ho, hc, n, hd⟩, ia⟩, ne⟩ := hv v List.mem_cons_self
    generalize hns : k v = ns at ia ne
    generalize hl : xs.toList = l at ia
    cases ia with
    | nil => exact absurd rfl ne
    | @cons m t l' ns' ia =>
      subst ea
      refine ⟨.int m t :: fs, W.KatTups.cons ho hc hd ?_ h1, by rw [List.length_cons, List.length_cons, h2], fun f hf => ?_⟩
      · rw [← Array.getElem?_toList, hl]
        rfl
      · rcases List.mem_cons.mp hf with e | hf
        · exact ⟨m, t, e⟩
        · exact h3 f hf
theorem tupInts_keep {h h' : Heap} {v : Value} {ns : List Int} (t : TS.TupInts h v ns) (keep : ∀ b o, h.get? b = some o → o.cls = .type "tuple" → h'.get? b = some o) : TS.TupInts h' v ns := by
  obtain ⟨a, xs, ea, ⟨o, ho, hc, n, hd⟩, ia⟩ := t
  exact ⟨a, xs, ea, ⟨o, keep _ _ ho hc, hc, n, hd⟩, ia⟩
theorem rows_sortable {prog : Program} {w : World} {A : Around} {s : Shared} {a : Addr} {vs : List Value} {k : Value → List Int} {d : Nat} (h0 : 0 < vs.length) (hk : ∀ v ∈ vs, TS.TupInts s.heap v (k v) ∧ (k v).length = d) (hne : ∀ v ∈ vs, k v ≠ [])
    (ha : ∀ o, s.heap.get? a = some o → o.cls ≠ .type "tuple") : SrtO.SortableO prog w A s a vs fun v u => ltI (k v) (k u) := by
  intro h' keep
  have hk' : ∀ v ∈ vs, TS.TupInts h' v (k v) ∧ (k v).length = d := fun v hv => ⟨tupInts_keep (hk v hv).1 fun b o e hc => keep b o (fun z => ha o (z ▸ e) hc) e, (hk v hv).2⟩
  obtain ⟨fs, h1, h2, h3⟩ := firsts fun v hv => ⟨(hk' v hv).1, hne v hv⟩
  refine ⟨tuples' true, fun Q E hq => ?_, tups_cmp hk'⟩
  refine W.kat_kind (T := .type "int") h1 (by omega) (fun f hf => ?_) (by rfl) ?_
  · obtain ⟨x, t, rfl⟩ := h3 f hf
    exact W.Looks.now
  · have e : (Value.type "int" != Value.type "tuple") = true := by decide +kernel
    rw [e]
    exact hq
/-! ### a set of rows sorted -/
/-- what stands at an address -/
theorem rowsV {P : Program} {w : World} {h : Heap} {L : List (Addr × List Int)} (nd : (L.map (·.2)).Nodup) (tup : ∀ p ∈ L, L2.IsT P w h p.2 p.1) : ∃ k : Value → List Int, ∀ p ∈ L, k (.ref p.1) = p.2 := by
  refine ⟨fun v => match v with
    | .ref a => (match L.find? fun p => p.1 == a with
      | some p => p.2
      | none => [])
    | _ => [], fun p hp => ?_⟩
  show (match L.find? fun q => q.1 == p.1 with | some q => q.2 | none => []) = p.2
  cases hf : L.find? fun q => q.1 == p.1 with
  | none =>
    have := List.find?_eq_none.mp hf p hp
    simp at this
  | some q =>
    have hq := List.mem_of_find?_eq_some hf
    have he : q.1 = p.1 := by simpa using List.find?_some hf
    have a1 := tup q hq
    rw [he] at a1
    exact IsTupleKey.inj a1 (tup p hp)
theorem sorted_rows {P : Program} {w : World} {A : Around} {E : Value → Shared → Prop} {s : Shared} {a : Addr} {L : List (Addr × List Int)} {es : Array (Int × Value)} {ep : Nat} {t : SetTable} {Q : Value → Shared → Prop} {d : Nat}
    (R : SetTR P w s.heap a L es ep t) (hh : A.handled = none) (hd : ∀ p ∈ L, p.2.length = d)
    (hQ : ∀ (s' : Shared) (p : Nat) (out : Array Value) (c : Nat) (L' : List (Addr × List Int)), (∀ b o, s.heap.get? b = some o → s'.heap.get? b = some o) → s'.gens = s.gens → s'.os = s.os → s.heap.objs.size ≤ p →
      s'.heap.get? p = some (seqObj "list" out c) → out.toList = L'.map (fun q => Value.ref q.1) → L'.Perm L → L'.Pairwise (fun q r => ltI r.2 q.2 = false) → Q (.ref p) s') :
    wpAny (model P w) A (call (.builtin "sorted") [.ref a]) Q E s := by
  obtain ⟨o, ho, hex, hdat⟩ := R.ob
  have hsz := R.size
  have hfew := R.few
  obtain ⟨k, hk⟩ := rowsV R.nd R.tup
  refine Calls.call_function_entry kind_sorted plain_sorted entry_sorted (args_sorted1 (.ref a)) ?_
  refine wpAny_bind (wpAny_pure (wpAny_bind (collect_set hh ⟨o, ho, ⟨hex.1, hdat⟩⟩ R.fits (Nat.lt_of_lt_of_le (by omega) (by decide : 64 ≤ scanBound)) R.tab.ris R.led fun s1 vs k1 hz g1 o1 pm => ?_)))
  have hes : es.toList.map (·.2) = L.map fun q => Value.ref q.1 := by
    rw [R.rows]
    show ((L.map fun p => (thash P w p.2, Value.ref p.1)).map (·.2)) = _
    rw [List.map_map]
    rfl
  rw [hes] at pm
  have hvl : vs.length < 64 := by
    rw [pm.length_eq, List.length_map]
    exact hfew
  refine wpAny_bind (wpAny_newList ?_)
  have hoL := Heap.get?_push_size s1.heap (o := seqObj "list" vs.toArray 0) rfl
  have tk : ∀ q ∈ L, TS.TupInts (s1.heap.push (seqObj "list" vs.toArray 0)) (.ref q.1) q.2 := fun q hq =>
    tupInts_of (isT_keep (R.tup q hq) fun b u e => Heap.get?_push_of_some (seqObj "list" vs.toArray 0) (k1 b u e))
  have of_vs : ∀ v ∈ vs, ∃ q ∈ L, v = .ref q.1 := fun v hv => by
    obtain ⟨q, hq, e⟩ := List.mem_map.mp (pm.mem_iff.mp hv)
    exact ⟨q, hq, e.symm⟩
  have hkv : ∀ v ∈ vs, TS.TupInts (s1.heap.push (seqObj "list" vs.toArray 0)) v (k v) ∧ (k v).length = d := fun v hv => by
    obtain ⟨q, hq, rfl⟩ := of_vs v hv
    rw [hk q hq]
    exact ⟨tk q hq, hd q hq⟩
  refine wpAny_bind (wpAny_holding ?_)
  have ord : ∀ {l : List Value}, (∀ v ∈ l, ∃ q ∈ L, v = .ref q.1) → ∃ L1 : List (Addr × List Int), l = L1.map (fun q => Value.ref q.1) ∧ ∀ q ∈ L1, q ∈ L := by
    intro l
    induction l with
    | nil => exact fun _ => ⟨[], rfl, fun _ h => nomatch h⟩
    | cons v r ih =>
      intro hv
      obtain ⟨q, hq, e⟩ := hv v List.mem_cons_self
      obtain ⟨L1, e1, hs⟩ := ih fun u hu => hv u (List.mem_cons_of_mem _ hu)
      exact ⟨q :: L1, by rw [List.map_cons, e, e1], fun z hz => (List.mem_cons.mp hz).elim (fun e => e ▸ hq) (hs z)⟩
  have one : ∀ q ∈ L, ∀ r ∈ L, q.1 = r.1 → q = r := fun q hq r hr e => by
    have a1 := R.tup q hq
    rw [e] at a1
    exact Prod.ext e (IsTupleKey.inj a1 (R.tup r hr))
  have perm_of : ∀ {L1 : List (Addr × List Int)}, (∀ q ∈ L1, q ∈ L) → (L1.map fun q => Value.ref q.1).Perm (L.map fun q => Value.ref q.1) → L1.Perm L := by
    intro L1 hs p1
    have nL := nodup_of_map R.nd
    have nref : (L.map fun q => Value.ref q.1).Nodup := List.pairwise_map.mpr (List.Pairwise.imp_of_mem (fun {q r} hq hr hne e => hne (one q hq r hr (Value.ref.inj e))) nL)
    have n1 : L1.Nodup := nodup_of_map ((List.Perm.nodup_iff p1).mpr nref)
    refine (List.perm_ext_iff_of_nodup n1 nL).mpr fun q => ⟨hs q, fun hq => ?_⟩
    obtain ⟨r, hr, e⟩ := List.mem_map.mp (p1.mem_iff.mpr (List.mem_map.mpr ⟨q, hq, rfl⟩))
    rw [← one r (hs r hr) q hq (Value.ref.inj e)]
    exact hr
  have cmp2 : ∀ {L1 : List (Addr × List Int)} {out : List Value}, out = L1.map (fun q => Value.ref q.1) → (∀ q ∈ L1, q ∈ L) → SrtO.Srtd (fun v u => ltI (k v) (k u)) out → L1.Pairwise fun q r => ltI r.2 q.2 = false := by
    intro L1 out e hs h
    rw [e] at h
    refine List.Pairwise.imp_of_mem (fun {q r} hq hr z => ?_) (List.pairwise_map.mp h)
    have z : ltI (k (.ref r.1)) (k (.ref q.1)) = false := z
    rwa [hk q (hs q hq), hk r (hs r hr)] at z
  refine wpAny_call_entry slot_list_sort ⟨_, hoL, rfl⟩ entry_list_sort ?_ (args_list_sort _)
  refine SrtO.list_sort_ord (ltI_swo k) hoL (Nat.le_trans (Nat.le_of_lt hvl) (by decide)) (fun h2 => rows_sortable (by omega) hkv (fun v hv e => ?_) fun o e => ?_) fun out hs st => ?_
  · -- unlike rows of no values can't be two
    have d0 : d = 0 := by rw [← (hkv v hv).2, e]; rfl
    obtain ⟨L1, e1, h1⟩ := ord of_vs
    have pL := perm_of h1 (e1 ▸ pm)
    have nd1 : (L1.map (·.2)).Nodup := (List.Perm.nodup_iff (pL.map _)).mpr R.nd
    rw [e1, List.length_map] at h2
    match L1, h2, nd1, h1 with
    | q :: r :: _, _, nd1, h1 =>
      rw [List.map_cons, List.map_cons, List.nodup_cons] at nd1
      have eq : q.2 = [] := List.length_eq_zero_iff.mp (by rw [hd q (h1 q List.mem_cons_self), d0])
      have er : r.2 = [] := List.length_eq_zero_iff.mp (by rw [hd r (h1 r (List.mem_cons_of_mem _ List.mem_cons_self)), d0])
      exact absurd (by rw [eq, er]; exact List.mem_cons_self) nd1.1
  · rw [hoL] at e
    cases e
    show Value.type "list" ≠ Value.type "tuple"
    decide +kernel
  · obtain ⟨L', e', hs'⟩ := ord (l := out) fun v hv => of_vs v (st.perm.mem_iff.mp hv)
    obtain ⟨c, hc⟩ := sortedHeap_at (out := out.toArray) hoL
    refine ⟨_, rfl, wpAny_pure ⟨_, rfl, ?_⟩⟩
    refine hQ _ s1.heap.objs.size out.toArray c L' (fun b u e => ?_) g1 o1 hz hc e' (perm_of hs' (e' ▸ st.perm.trans pm)) (cmp2 e' hs' hs)
    have hb := k1 b u e
    have hlt := Heap.lt_size hb
    show (sortedHeap (s1.heap.push (seqObj "list" vs.toArray 0)) s1.heap.objs.size vs out.toArray).get? b = some u
    rw [sortedHeap_old (Nat.ne_of_lt hlt) (by rw [Heap.size_push]; exact Nat.lt_succ_of_lt hlt)]
    exact Heap.get?_push_of_some _ hb
/-- sorted(rows), a set of rows -/
def rSortedS (K : W.Frag) (P : Program) (w : World) : List V → Hp → VK → Prop := fun vs H Q => ∃ a L d, vs = [.ref a] ∧ H a = some (SetTO P w a L) ∧ (∀ p ∈ L, SqT K H p.1 (p.2.map V.int)) ∧ (∀ p ∈ L, p.2.length = d) ∧
  ∀ (L' : List (Addr × List Int)) (p : Addr), L'.Perm L → (L'.map (·.2)).Nodup → L'.length < 64 → L'.Pairwise (fun q r => ltI r.2 q.2 = false) → H p = none → Q (.ref p) (upd H p (.lst (L'.map fun q => V.ref q.1)))
theorem cr_sortedS {X : Cx} (hc : X.calm = true) : CallR X (.builtin "sorted") (rSortedS X.K X.prog X.w) := by
  intro pins s σ H vs us Q I r h
  obtain ⟨a, L, d, rfl, ha, hk, hd, q⟩ := h
  have R0 : SetT0 X.prog X.w s.heap a L := (I.hok a _ ha).1
  obtain ⟨es, ep, t, R⟩ := R0.full fun p hp => I.isT (hk p hp)
  rw [Vals.ref1 r]
  refine sorted_rows R (I.ok.hd hc) hd fun s' p out c L' k g o hp hg hout pm pw => ?_
  have hfew : L'.length < 64 := by rw [pm.length_eq]; exact R.few
  have hn : H p = none := HOk.fresh I.hok hp
  have hv : Vals (L'.map fun q => V.ref q.1) out.toList := by rw [hout]; exact vals_of_refs L'
  have hlen : (L'.map fun q => V.ref q.1).length ≤ sizeLine := by rw [List.length_map]; exact TX.line100 (by omega)
  have J : Inv X pins σ (upd H p (.lst (L'.map fun q => V.ref q.1))) { heap := s'.heap, gens := s'.gens, drawn := s'.drawn, toks := s'.toks, os := s.os } := by
    refine Inv.call (ch := []) I (Un.laid k hp hn) (HOk.laid I.hok k hp ⟨hlen, _, c, hv, hg⟩) ?_ ?_
    · rw [g]
      exact I.bare
    · exact fun x z => nomatch z
  have e : s' = { heap := s'.heap, gens := s'.gens, drawn := s'.drawn, toks := s'.toks, os := s.os } := by
    cases s'
    cases s
    cases o
    rfl
  rw [e]
  exact ⟨.ref p, _, J, rfl, q L' p pm ((List.Perm.nodup_iff (pm.map _)).mpr R.nd) hfew pw hn⟩
/-! ### a row put into a set -/
theorem add_row {P : Program} {w : World} {A : Around} {E : Value → Shared → Prop} {s : Shared} {a : Addr} {L : List (Addr × List Int)} {es : Array (Int × Value)} {ep : Nat} {t : SetTable} {x : Addr} {k : List Int} {Q : Value → Shared → Prop}
    (R : SetTR P w s.heap a L es ep t) (hx : L2.IsT P w s.heap k x) (hu : A.units + 1 < cLine) (hl : L.length + 1 < 64)
    (hQ : ∀ (h' : Heap) (tk : Nat) (L' : List (Addr × List Int)) (es' : Array (Int × Value)) (ep' : Nat) (t' : SetTable), Heap.SameBut a s.heap h' → SetTR P w h' a L' es' ep' t' →
      (k ∈ L.map (·.2) → L' = L) → (k ∉ L.map (·.2) → L'.Perm ((x, k) :: L)) → Q .none { heap := h', gens := s.gens, drawn := s.drawn, toks := tk, os := s.os }) :
    wpAny (model P w) A (call (.builtin "set.add") [.ref a, .ref x]) Q E s := by
  obtain ⟨o, ho, hex, hd⟩ := id R.ob
  refine wpAny_call_entry F.slot_set_add ⟨o, ho, hex.1⟩ F.entry_set_add ?_ (F.args_set_add_2 _ _)
  show wpAny _ _ ((do let y ← setAdd a (.ref x); ret .none : Sem Fin)) _ _ _
  refine wpAny_bind (wpAny_holding (wpAny_bind (wpAny_pyHash_tuple hu hx ?_)))
  refine add_at (s := { heap := s.heap, gens := s.gens, drawn := s.drawn, toks := s.toks + (k.length + 1), os := s.os }) R hx hu hl fun b h' L' es' ep' t' sb R' h1 h2 => ?_
  exact wpAny_pure ⟨_, rfl, hQ h' _ L' es' ep' t' sb R' h1 h2⟩
theorem addT_ok {X : Cx} {pins : List (Addr × Obj)} {σ : L2.St} {H : Hp} {s : Shared} {E : Value → Shared → Prop} {D x : Addr} {L : List (Addr × List Int)} {k : List Int} {Q : Value → Shared → Prop} (hu : X.A.units + 1 < cLine) (I : Inv X pins σ H s)
    (hD : H D = some (SetTO X.prog X.w D L)) (hk : ∀ p ∈ L, SqT X.K H p.1 (p.2.map V.int)) (hx : SqT X.K H x (k.map V.int)) (room : L.length + 1 < 64)
    (h : ∀ (s' : Shared) (L' : List (Addr × List Int)), (k ∈ L.map (·.2) → L' = L) → (k ∉ L.map (·.2) → L'.Perm ((x, k) :: L)) → Inv X pins σ (upd H D (SetTO X.prog X.w D L')) s' → Q .none s') :
    wpAny (model X.prog X.w) X.A (call (.builtin "set.add") [.ref D, .ref x]) Q E s := by
  have R0 : SetT0 X.prog X.w s.heap D L := (I.hok D _ hD).1
  obtain ⟨es, ep, t, R⟩ := R0.full fun p hp => I.isT (hk p hp)
  refine add_row R (I.isT hx) hu room fun h' tk L' es' ep' t' sb R' h1 h2 => ?_
  refine h _ L' h1 h2 (Inv.write (e := D) I ?_ (.inl rfl) (fun b u hb hu => (sb.2 b hb).trans hu) ?_ (setTO_new R'.t0))
  · rw [hD]
    trivial
  · obtain ⟨o, ho, _⟩ := R'.ob
    exact ⟨o, ho⟩
/-! ### {row for .. in ..} -/
def tScT (K : W.Frag) (P : Program) (w : World) (wi : TI) (g : TG) (tt : TT) (te : TE) (vs : List Nat) : TE := fun σ H Q => wi σ H fun J H1 => ∀ D, H1 D = none → ∃ Wt : Nat → Nat → Hp → Prop, (∃ m, Wt 0 m (upd H1 D (SetTO P w D []))) ∧
  ∀ i m H, Wt i m H → (J.stop i H ∧ Q (.ref D) H) ∨ (J.go i H ∧ ∃ Nx : Hp → Prop, (∀ H', Nx H' → ∃ m', m' < m ∧ Wt (i + 1) m' H') ∧ ∀ x H', J.yld i H x H' → g x (wipe σ vs) H' fun σ2 H2 => wipe σ2 vs = wipe σ vs ∧
    tt σ2 H2 fun b H3 => if b = true then te σ2 H3 fun y H4 => ∃ (t : Addr) (k : List Int) (L : List (Addr × List Int)), y = .ref t ∧ SqT K H4 t (k.map V.int) ∧ H4 D = some (SetTO P w D L) ∧ (∀ p ∈ L, SqT K H4 p.1 (p.2.map V.int)) ∧ L.length + 1 < 64 ∧
      ∀ L' : List (Addr × List Int), (k ∈ L.map (·.2) → L' = L) → (k ∉ L.map (·.2) → L'.Perm ((t, k) :: L)) → Nx (upd H4 D (SetTO P w D L')) else Nx H3)
theorem sc_rows {X : Cx} {pins : List (Addr × Obj)} {s : Shared} {σ : L2.St} {H : Hp} {Q : VK} {elt tg iter : Expr} {ifs : List Expr} {scope : Scope} {own : List (Str × Nat)} {pos pos' : Pos} {wi : TI} {g : TG} {tt : TT} {te : TE} {use : Option (Value → Sem Unit)} {Qf : Value → Shared → Prop}
    (hu : X.A.units + 1 < cLine) (hc : X.calm = true) (hN : X.N.Nodup) (I : L2.Inv X pins σ H s) (hi : PI X tg iter wi) (ok : BlkOk X.N X.env.scope scope own)
    (hg : ∀ (s : Shared) (H : Hp) (C : Addr) (cl : List (Str × Addr)) (fp : List Addr), PG (X.blk s H scope (compEnvC scope cl C X.env) fp) tg g)
    (ht : ∀ (s : Shared) (H : Hp) (C : Addr) (cl : List (Str × Addr)) (fp : List Addr), PTs (X.blk s H scope (compEnvC scope cl C X.env) fp) ifs tt)
    (he : ∀ (s : Shared) (H : Hp) (C : Addr) (cl : List (Str × Addr)) (fp : List Addr), PE (X.blk s H scope (compEnvC scope cl C X.env) fp) elt te)
    (hs : ∀ x : Value, foldedSetIterable iter X.env x = pure x) (h : tScT X.K X.prog X.w wi g tt te (own.map (·.2)) σ H Q)
    (hRR : ∀ (D C : Addr) (s' : Shared) (m : Str → Option Value) (H' : Hp), L2.Inv X pins σ H' s' → Q (.ref D) H' → s'.heap.Ns C m → FpOk X pins H' C → compPost (model X.prog X.w) X.A X.xe use Qf (.ref D) C (.ok .next) s') :
    wpAny (model X.prog X.w) X.A (comprehension (elt.SetComp [⟨tg, iter, ifs, 0⟩] scope pos) scope X.env pos' (newSet (.type "set")) false (eval iter X.env) use) Qf X.xe s := by
  have hfree : ∀ y ∈ scope.names, y.2 = .free → ∃ c, List.lookup y.1 X.env.cells = some c := fun y hy e => (ok.free y hy e).elim (fun k => I.ok.has _ (.inl k)) fun k => I.ok.has _ (.inr k)
  refine wpAny_comprehension_free rfl hs (closure_ok hfree) ok.kind (fun y hy e => by rw [ok.uniq y hy, e]) ?_
  refine thn (hi.run pins s σ H _ I h) fun xv s1 hx => thn hx fun itv s2 h2 => ?_
  obtain ⟨it, fp, tn, J, H2, rfl, I2, T, st2, f2, q⟩ := h2
  refine PpSet.newSet_ok (newEnv_comp ?_)
  have hDn : H2 s2.heap.objs.size = none := HOk.fresh I2.hok (Nat.le_refl _)
  obtain ⟨Wt, ⟨m0, w0⟩, turn⟩ := q _ hDn
  have I3 : L2.Inv X pins σ (upd H2 s2.heap.objs.size (SetTO X.prog X.w s2.heap.objs.size [])) { heap := s2.heap.push { cls := .type "set", data := .set #[] 0 (SetTable.fresh 0 0 !X.w.params.followText "set-order") }, gens := s2.gens, drawn := s2.drawn, toks := s2.toks, os := s2.os } :=
    Inv.laid I2 (fun b o e => Heap.get?_push_of_some _ e) (Nat.le_refl _) (setTO_new (setTR_fresh (Heap.get?_push_size _ rfl)).t0)
  have sz : ∀ b ∈ fp, b < s2.heap.objs.size := fun b hb => by
    obtain ⟨o, e, _⟩ := T.obj 0 s2.heap st2 b hb
    exact Heap.lt_size e
  have k3 : ∀ (b : Addr) (o : Obj), s2.heap.get? b = some o → (s2.heap.push { cls := .type "set", data := .set #[] 0 (SetTable.fresh 0 0 !X.w.params.followText "set-order") }).get? b = some o := fun b o e => Heap.get?_push_of_some _ e
  have z3 : (s2.heap.push { cls := .type "set", data := .set #[] 0 (SetTable.fresh 0 0 !X.w.params.followText "set-order") }).objs.size = s2.heap.objs.size + 1 := Heap.size_push _ _
  generalize hs3 : ({ heap := s2.heap.push { cls := .type "set", data := .set #[] 0 (SetTable.fresh 0 0 !X.w.params.followText "set-order") }, gens := s2.gens, drawn := s2.drawn, toks := s2.toks, os := s2.os } : Shared) = s3 at I3 ⊢
  have k3' : ∀ (b : Addr) (o : Obj), s2.heap.get? b = some o → s3.heap.get? b = some o := by rw [← hs3]; exact k3
  have z3' : s3.heap.objs.size = s2.heap.objs.size + 1 := by rw [← hs3]; exact z3
  have f3 : ∀ b ∈ fp, FpOk X pins (upd H2 s2.heap.objs.size (SetTO X.prog X.w s2.heap.objs.size [])) b ∧ b < s3.heap.objs.size := fun b hb =>
    ⟨⟨by rw [upd_ne (Nat.ne_of_lt (sz b hb))]; exact (f2 b hb).1, (f2 b hb).2⟩, by rw [z3']; exact Nat.lt_succ_of_lt (sz b hb)⟩
  have st3 : tn 0 s3.heap := T.keep 0 _ _ st2 fun b _ o e => k3' b o e
  have I4 := block_start I3 ok hN f3
  have pg := hg s3 (upd H2 s2.heap.objs.size (SetTO X.prog X.w s2.heap.objs.size [])) s3.heap.objs.size (cellsFrom (s3.heap.objs.size + 1) scope.names (cloFrom X.env.cells scope.names [])) fp
  have pt := ht s3 (upd H2 s2.heap.objs.size (SetTO X.prog X.w s2.heap.objs.size [])) s3.heap.objs.size (cellsFrom (s3.heap.objs.size + 1) scope.names (cloFrom X.env.cells scope.names [])) fp
  have pe := he s3 (upd H2 s2.heap.objs.size (SetTO X.prog X.w s2.heap.objs.size [])) s3.heap.objs.size (cellsFrom (s3.heap.objs.size + 1) scope.names (cloFrom X.env.cells scope.names [])) fp
  show codeAny _ _ (Code.compStart _ 0 _ _ (compEnvC scope (cellsFrom (s3.heap.objs.size + 1) scope.names (cloFrom X.env.cells scope.names [])) s3.heap.objs.size X.env)) (compPost (model X.prog X.w) X.A X.xe use Qf (.ref s2.heap.objs.size) s3.heap.objs.size) _
  have cL : (compEnvC scope (cellsFrom (s3.heap.objs.size + 1) scope.names (cloFrom X.env.cells scope.names [])) s3.heap.objs.size X.env).locals = s3.heap.objs.size := rfl
  have hs4 : ∀ (b : Addr) (o : Obj), s3.heap.get? b = some o → (pushCells (s3.heap.push { cls := .type "dict", data := .dict #[] }) scope.names).get? b = some o := fun b o e => pushCells_keeps scope.names _ b o (Heap.get?_push_of_some _ e)
  generalize hce : compEnvC scope (cellsFrom (s3.heap.objs.size + 1) scope.names (cloFrom X.env.cells scope.names [])) s3.heap.objs.size X.env = ce at I4 pg pt pe cL ⊢
  have st4 : tn 0 (pushCells (s3.heap.push { cls := .type "dict", data := .dict #[] }) scope.names) := T.keep 0 _ _ st3 fun b _ o e => hs4 b o e
  have nfp : ∀ b ∈ fp, upd H2 s2.heap.objs.size (SetTO X.prog X.w s2.heap.objs.size []) b = none := fun b hb => (f3 b hb).1.1
  generalize upd H2 s2.heap.objs.size (SetTO X.prog X.w s2.heap.objs.size []) = H3 at w0 I3 f3 I4 pg pt pe nfp
  generalize hs4' : ({ heap := pushCells (s3.heap.push { cls := .type "dict", data := .dict #[] }) scope.names, gens := s3.gens, drawn := s3.drawn, toks := s3.toks, os := s3.os } : Shared) = s4 at I4 ⊢
  have st4' : tn 0 s4.heap := by rw [← hs4']; exact st4
  have stat : ∀ {σ' : L2.St} {H' : Hp} {s' : Shared}, L2.Inv (X.blk s3 H3 scope ce fp) [] σ' H' s' → (∀ b ∈ fp, H' b = none) → ∀ b ∈ fp, FpOk (X.blk s3 H3 scope ce fp) [] H' b := fun I' hn b hb =>
    ⟨hn b hb, (I'.ok.exf b hb).1, I'.ok.exfs b hb, .inl hb, (I'.ok.exf b hb).2, fun p hp => by simp [Cx.blk] at hp⟩
  have loop : codeAny (model X.prog X.w) X.A (Code.compLoop (elt.SetComp [⟨tg, iter, ifs, 0⟩] scope pos) 0 (.ref it) (.ref s2.heap.objs.size) ce) (compPost (model X.prog X.w) X.A X.xe use Qf (.ref s2.heap.objs.size) s3.heap.objs.size) s4 := by
    refine PpSet.compLoopS_any (fun n s' => ∃ i H', L2.Inv (X.blk s3 H3 scope ce fp) [] (wipe σ (own.map (·.2))) H' s' ∧ tn i s'.heap ∧ (∀ b ∈ fp, H' b = none) ∧ Wt i n H') ?_ m0 ⟨0, H3, I4, st4', nfp, w0⟩
    rintro n s5 ⟨i, H5, I5, st5, n5, w5⟩
    rcases turn i n H5 w5 with ⟨stop, qq⟩ | ⟨go, Nx, hNx, step⟩
    · refine thnF (T.done (X.blk s3 H3 scope ce fp) rfl rfl rfl hc i [] s5 _ H5 _ I5 (stat I5 n5) st5 stop) fun r s6 x => ?_
      obtain ⟨rfl, I6⟩ := x
      have I7 : L2.Inv X pins σ H5 s6 := Inv.call' (ch := fp) I3 I6.os I6.base I6.hok I6.bare fun b hb => ⟨(f3 b hb).1.2.2.2.1, (f3 b hb).1.2.1, (f3 b hb).1.2.2.2.2.1, (f3 b hb).1.2.2.2.2.2⟩
      have nC : H5 s3.heap.objs.size = none := by
        have z : H5 ce.locals = none := I6.free
        rwa [cL] at z
      obtain ⟨m, hn, _⟩ := I6.loc
      have hn : s6.heap.Ns ce.locals m := hn
      rw [cL] at hn
      exact hRR _ _ s6 m H5 I7 qq hn (I3.fpOk (Nat.le_refl _) nC)
    · refine thnF (T.item (X.blk s3 H3 scope ce fp) rfl rfl rfl hc i [] s5 _ H5 _ I5 (stat I5 n5) st5 go) fun r s6 x => ?_
      obtain ⟨u, rfl, h6⟩ := x
      refine thnF h6 fun _ s7 x => ?_
      obtain ⟨x, H7, I7, r7, y7, st7, n7⟩ := x
      have I7' := I7.pinned (stat I7 n7) (T.obj _ _ st7)
      refine thnF (pg.run _ s7 _ H7 x u _ I7' r7 (step x H7 y7)) fun _ s8 x => ?_
      obtain ⟨σ8, H8, I8, hw8, q8⟩ := x
      refine thnF (pt.run _ s8 σ8 H8 _ I8 q8) fun b s9 x => ?_
      obtain ⟨H9, I9, q9⟩ := x
      have fin : ∀ {s' : Shared} {H' : Hp}, L2.Inv (X.blk s3 H3 scope ce fp) ([] ++ pinsAt fp s7.heap) σ8 H' s' → Nx H' → ∃ m, m < n ∧ ∃ i H', L2.Inv (X.blk s3 H3 scope ce fp) [] (wipe σ (own.map (·.2))) H' s' ∧ tn i s'.heap ∧ (∀ b ∈ fp, H' b = none) ∧ Wt i m H' := by
        intro s' H' I' nx
        obtain ⟨m', hm, w'⟩ := hNx H' nx
        have pin' : ∀ b ∈ fp, ∀ o, s7.heap.get? b = some o → s'.heap.get? b = some o ∧ H' b = none := fun b hb o e => by
          have z := I'.pin (b, o) (List.mem_append_right _ (List.mem_append_right _ (mem_pinsAt hb e)))
          exact ⟨z.1, z.2.1⟩
        have hl : (wipe σ (own.map (·.2))).length = σ8.length := by
          rw [← hw8, wipe_length]
        refine ⟨m', hm, i + 1, H', I'.unpinned.weak hl (fun j v e => (wipe_some (hw8 ▸ e)).1), T.keep _ _ _ st7 (fun b hb o e => (pin' b hb o e).1), fun b hb => ?_, w'⟩
        obtain ⟨o, e, _⟩ := T.obj _ _ st7 b hb
        exact (pin' b hb o e).2
      cases b with
      | false =>
        rw [if_neg Bool.false_ne_true] at q9 ⊢
        exact fin I9 q9
      | true =>
        rw [if_pos rfl] at q9 ⊢
        refine thnF (pe.run _ s9 σ8 H9 _ I9 q9) fun z s10 x => ?_
        obtain ⟨y, H10, I10, ry, tt', k, L, rfl, hk, hD, hL, room, nx⟩ := x
        cases (show z = Value.ref tt' from ry)
        exact addT_ok (X := X.blk s3 H3 scope ce fp) hu I10 hD hL hk room fun s' L' h1 h2 I' => fin I' (nx L' h1 h2)
  exact PpSet.codeAny_compStart_set loop (T.self _ 0 _ _ _ st4' loop)
theorem pe_scT {X : Cx} {elt tg iter : Expr} {ifs : List Expr} {scope : Scope} {own : List (Str × Nat)} {pos : Pos} {wi : TI} {g : TG} {tt : TT} {te : TE} (hu : X.A.units + 1 < cLine) (hc : X.calm = true) (hN : X.N.Nodup) (hi : PI X tg iter wi) (ok : BlkOk X.N X.env.scope scope own)
    (hg : ∀ (s : Shared) (H : Hp) (C : Addr) (cl : List (Str × Addr)) (fp : List Addr), PG (X.blk s H scope (compEnvC scope cl C X.env) fp) tg g)
    (ht : ∀ (s : Shared) (H : Hp) (C : Addr) (cl : List (Str × Addr)) (fp : List Addr), PTs (X.blk s H scope (compEnvC scope cl C X.env) fp) ifs tt)
    (he : ∀ (s : Shared) (H : Hp) (C : Addr) (cl : List (Str × Addr)) (fp : List Addr), PE (X.blk s H scope (compEnvC scope cl C X.env) fp) elt te)
    (hs : ∀ x : Value, foldedSetIterable iter X.env x = pure x := by intros; rfl) : PE X (elt.SetComp [⟨tg, iter, ifs, 0⟩] scope pos) (tScT X.K X.prog X.w wi g tt te (own.map (·.2))) :=
  ⟨fun pins s σ H Q I h => by
    rw [PpSet.eval_SetComp]
    refine sc_rows hu hc hN I hi ok hg ht he hs h fun D C s' m H' I' q hn f => ?_
    obtain ⟨f0, f1, f2, f3, f4, f5⟩ := f
    exact ⟨m, hn, fun h'' sb => ⟨.ref D, H', Inv.turned I' (fun b o hb e => (sb.2 b hb).trans e) f0 f1 f3 f4 f5, rfl, q⟩⟩⟩
/-- a set of rows, the things walked one by one -/
theorem sc_walk {K : W.Frag} {P : Program} {w : World} {J : It} {n : Nat} {G : Hp → Prop} {Y : Nat → Hp → V → Hp → Prop} (wk : Walk J n G Y) {tgt : TG} {cond : TT} {te : TE} {own : List Nat} {slots : L2.St} {Hs : Hp} {D : Addr} {Qf : Hp → Prop}
    (Pw : Nat → Hp → Prop) (start : Pw 0 (upd Hs D (SetTO P w D []))) (good : ∀ i h, i ≤ n → Pw i h → G h)
    (turn : ∀ i v h h', i < n → Pw i h → Y i h v h' → tgt v (wipe slots own) h' fun s2 h2 => wipe s2 own = wipe slots own ∧ cond s2 h2 fun b h3 =>
      (if b = true then te s2 h3 fun y h4 => ∃ (t : Addr) (k : List Int) (L : List (Addr × List Int)), y = .ref t ∧ SqT K h4 t (k.map V.int) ∧ h4 D = some (SetTO P w D L) ∧ (∀ p ∈ L, SqT K h4 p.1 (p.2.map V.int)) ∧ L.length + 1 < 64 ∧
        ∀ L' : List (Addr × List Int), (k ∈ L.map (·.2) → L' = L) → (k ∉ L.map (·.2) → L'.Perm ((t, k) :: L)) → Pw (i + 1) (upd h4 D (SetTO P w D L')) else Pw (i + 1) h3))
    (fin : ∀ h, Pw n h → Qf h) :
    ∃ Wt : Nat → Nat → Hp → Prop, (∃ m, Wt 0 m (upd Hs D (SetTO P w D []))) ∧ ∀ i m h, Wt i m h → (J.stop i h ∧ Qf h) ∨ (J.go i h ∧ ∃ Nx : Hp → Prop, (∀ h', Nx h' → ∃ m', m' < m ∧ Wt (i + 1) m' h') ∧
      ∀ v h', J.yld i h v h' → tgt v (wipe slots own) h' fun s2 h2 => wipe s2 own = wipe slots own ∧ cond s2 h2 fun b h3 =>
        if b = true then te s2 h3 fun y h4 => ∃ (t : Addr) (k : List Int) (L : List (Addr × List Int)), y = .ref t ∧ SqT K h4 t (k.map V.int) ∧ h4 D = some (SetTO P w D L) ∧ (∀ p ∈ L, SqT K h4 p.1 (p.2.map V.int)) ∧ L.length + 1 < 64 ∧
          ∀ L' : List (Addr × List Int), (k ∈ L.map (·.2) → L' = L) → (k ∉ L.map (·.2) → L'.Perm ((t, k) :: L)) → Nx (upd h4 D (SetTO P w D L')) else Nx h3) := by
  refine ⟨fun i m h => i ≤ n ∧ m = n - i ∧ Pw i h, ⟨n, Nat.zero_le _, by simp, start⟩, ?_⟩
  rintro i m h ⟨hi, rfl, pw⟩
  have g := good i h hi pw
  rcases Nat.lt_or_ge i n with hlt | hge
  · exact .inr ⟨wk.goes i h hlt g, Pw (i + 1), fun h' p' => ⟨n - (i + 1), by omega, hlt, rfl, p'⟩, fun v h' y => turn i v h h' hlt pw (wk.yields i h v h' hlt g y)⟩
  · obtain rfl : i = n := by omega
    exact .inl ⟨wk.stops h g, fin h pw⟩
end TB

set_option maxHeartbeats 1000000
/-! Tuples: slices and sums of any kind read once; rows of whole numbers. -/
namespace TW
open PySem L2 PyProof.Rows TX
section
variable {K : PySem.W.Frag}
theorem cutV_whole {xs : List V} {lo hi : Option Int} (h : HT.sIx xs.length 0 lo = 0 ∧ HT.sIx xs.length xs.length hi = xs.length) : cutV xs lo hi = xs := by
  unfold cutV
  rw [h.1, h.2]
  simp
/-- t[lo:hi] -/
theorem sl_both {xs : List V} {lo hi : Option Int} {a : Addr} {H : Hp} {Q : VK} (h : H a = some (.tup xs)) (q : ∀ p H', Same H H' → H' p = some (.tup (cutV xs lo hi)) → Q (.ref p) H') : rSlA K (.ref a) lo hi H Q := by
  refine ⟨a, xs, rfl, .of h, fun w => q a H same_rfl ?_, fun _ p np => q p _ (Same.new np) upd_same⟩
  rw [h, cutV_whole w]
/-- t + u -/
theorem cat_both {xs ys : List V} {a b : Addr} {H : Hp} {Q : VK} (h : H a = some (.tup xs)) (k : H b = some (.tup ys)) (hl : xs.length + ys.length ≤ 1000) (q : ∀ p H', Same H H' → H' p = some (.tup (xs ++ ys)) → Q (.ref p) H') : rCatA K (.ref a) (.ref b) H Q := by
  refine ⟨a, b, xs, ys, rfl, rfl, .of h, .of k, line100 hl, fun e => ?_, fun _ e => ?_, fun _ _ p np => q p _ (Same.new np) upd_same⟩
  · subst e
    exact q b H same_rfl k
  · subst e
    refine q a H same_rfl ?_
    rw [h, List.append_nil]
theorem cut_take {xs : List V} {n : Nat} : cutV xs none (some (n : Int)) = xs.take n := by
  unfold cutV
  rw [HT.sIx_none, HT.sIx_nat, List.drop_zero, Nat.sub_zero]
  rcases Nat.le_total n xs.length with h | h
  · rw [Nat.min_eq_left h]
  · rw [Nat.min_eq_right h, List.take_of_length_le h, List.take_of_length_le (Nat.le_refl _)]
theorem cut_drop {xs : List V} {n : Nat} : cutV xs (some (n : Int)) none = xs.drop n := by
  unfold cutV
  rw [HT.sIx_none, HT.sIx_nat]
  rcases Nat.le_total n xs.length with h | h
  · rw [Nat.min_eq_left h, List.take_of_length_le (by rw [List.length_drop]; omega)]
  · rw [Nat.min_eq_right h, List.drop_of_length_le h, List.drop_of_length_le (Nat.le_refl _), List.take_nil]
theorem cut_mid {xs : List V} {n m : Nat} : cutV xs (some (n : Int)) (some (m : Int)) = (xs.drop n).take (m - n) := by
  unfold cutV
  rw [HT.sIx_nat, HT.sIx_nat]
  rcases Nat.le_total n xs.length with h | h
  · rw [Nat.min_eq_left h]
    rcases Nat.le_total m xs.length with h2 | h2
    · rw [Nat.min_eq_left h2]
    · rw [Nat.min_eq_right h2, List.take_of_length_le (Nat.le_of_eq List.length_drop), List.take_of_length_le (by rw [List.length_drop]; omega)]
  · rw [Nat.min_eq_right h, List.drop_of_length_le h, List.drop_of_length_le (Nat.le_refl _)]
    simp
end
/-- what a draw leaves as it was -/
theorem well_strs {H : Hp} {W l : Addr} {ns : List Str} (w : ∃ n, WellAt n H W) (h : H l = some (.lst (ns.map V.str))) : l ≠ W := by
  rintro rfl
  obtain ⟨n, a, b, c, e, _⟩ := w
  rw [h] at e
  cases ns with
  | nil => cases e
  | cons x r =>
    have e2 := Option.some.inj e
    injection e2 with e3
    rw [List.map_cons] at e3
    injection e3 with e4 _
    cases e4
theorem well_no {H : Hp} {W l : Addr} {o : HO} (w : ∃ n, WellAt n H W) (h : H l = some o) (k : ∀ xs, o ≠ .lst xs) : l ≠ W := by
  rintro rfl
  obtain ⟨n, a, b, c, e, _⟩ := w
  rw [h] at e
  exact k _ (Option.some.inj e)
theorem _root_.TX.TreeAt.sm {C W : Addr} {H H' : Hp} {p : Addr} {f : TM.Fo} (t : TreeAt C H p f) (s : Sm W H H') (w : ∃ n, WellAt n H W) : TreeAt C H' p f := by
  obtain ⟨dx, l, d, h1, h2, h3⟩ := t
  exact ⟨dx, l, d, s _ _ (well_no w h1 fun _ z => by cases z) h1, s _ _ (well_strs w h2) h2, s _ _ (well_no w h3 fun _ z => by cases z) h3⟩
theorem tup_sm {W : Addr} {H H' : Hp} {p : Addr} {xs : List V} (h : H p = some (.tup xs)) (s : Sm W H H') (w : ∃ n, WellAt n H W) : H' p = some (.tup xs) := s _ _ (well_no w h fun _ z => by cases z) h
/-- a whole number -/
def wholeV : V → Bool
  | .int _ => true
  | _ => false
/-- a value that no memory is asked for -/
def plainV : V → Bool
  | .int _ => true
  | .bl _ => true
  | .non => true
  | .str _ => true
  | _ => false
def numV : V → Bool
  | .int _ => true
  | .bl _ => true
  | _ => false
def truthV : V → Bool
  | .bl _ => true
  | _ => false
theorem whole_num (v : V) : wholeV v = (numV v && !truthV v) := by cases v <;> rfl
theorem plain_ty {K : PySem.W.Frag} {H : Hp} {v : V} (h : plainV v = true) : ∃ t, TyOf K H v (.type t) ∧ kitB t "int" = some (numV v) ∧ kitB t "bool" = some (truthV v) := by
  cases v with
  | int i => exact ⟨_, .int i, (by decide +kernel : kitB "int" "int" = some true), (by decide +kernel : kitB "int" "bool" = some false)⟩
  | bl b => exact ⟨_, .bl b, (by decide +kernel : kitB "bool" "int" = some true), (by decide +kernel : kitB "bool" "bool" = some true)⟩
  | non => exact ⟨_, .non, (by decide +kernel : kitB "NoneType" "int" = some false), (by decide +kernel : kitB "NoneType" "bool" = some false)⟩
  | str s => exact ⟨_, .str s, (by decide +kernel : kitB "str" "int" = some false), (by decide +kernel : kitB "str" "bool" = some false)⟩
  | _ => cases h
/-- a thing that may be a row of so many values; whether it is one -/
def RowLike (H : Hp) (v : V) (many : Nat) (b : Bool) : Prop :=
  (∃ a xs, v = .ref a ∧ H a = some (.tup xs) ∧ xs.length ≤ 100 ∧ xs.all plainV = true ∧ b = (decide (xs.length = many) && xs.all wholeV)) ∨
  (b = false ∧ (v = .non ∨ (∃ s, v = .str s) ∨ (∃ i, v = .int i) ∨ ∃ a xs, v = .ref a ∧ H a = some (.lst xs)))
theorem RowLike.same {H H' : Hp} {v : V} {many : Nat} {b : Bool} (h : RowLike H v many b) (s : Same H H') : RowLike H' v many b := by
  rcases h with ⟨a, xs, e1, e2, e3⟩ | ⟨e1, e2 | e2 | e2 | ⟨a, xs, e2, e3⟩⟩
  · exact .inl ⟨a, xs, e1, s _ _ e2, e3⟩
  · exact .inr ⟨e1, .inl e2⟩
  · exact .inr ⟨e1, .inr (.inl e2)⟩
  · exact .inr ⟨e1, .inr (.inr (.inl e2))⟩
  · exact .inr ⟨e1, .inr (.inr (.inr ⟨a, xs, e2, s _ _ e3⟩))⟩
/-- a row of whole numbers -/
theorem row_like {H : Hp} {a : Addr} {xs : List V} {n : Nat} (h : H a = some (.tup xs)) (hl : xs.length = n) (hn : n ≤ 100) (hw : xs.all wholeV = true) : RowLike H (.ref a) n true := by
  refine .inl ⟨a, xs, rfl, h, by omega, ?_, ?_⟩
  · rw [List.all_eq_true] at hw ⊢
    intro x hx
    have := hw x hx
    cases x <;> first | rfl | cases this
  · rw [decide_eq_true hl, hw]
    rfl
theorem row_of {H : Hp} {v : V} {n : Nat} (h : RowLike H v n true) : ∃ a xs, v = .ref a ∧ H a = some (.tup xs) ∧ xs.length = n ∧ xs.all wholeV = true := by
  rcases h with ⟨a, xs, e1, e2, e3, e4, e5⟩ | ⟨e1, _⟩
  · have := e5.symm
    rw [Bool.and_eq_true, decide_eq_true_iff] at this
    exact ⟨a, xs, e1, e2, this.1, this.2⟩
  · cases e1
end TW
namespace TM
open PySem L2
/-- beneath a name there is its part of the forest -/
theorem mk_loc : ∀ {t : List Pr} {seen : List Str} {u : Option Str} {c : Str} {a : List Str} {k : Fo}, Valid seen t → (∀ x, u = some x → x ∈ seen) → loc (mk t u) c = some (a, k) → mk t (some c) = k
  | [], _, u, c, a, k, _, _, h => by
    have h' : loc Fo.nil c = some (a, k) := h
    unfold loc at h'
    cases h'
  | (d, o) :: r, seen, u, c, a, k, ⟨h1, h2, h3⟩, hu, h => by
    have hin : ∀ {v : Option Str} {a' : List Str} {k' : Fo}, loc (mk r v) c = some (a', k') → c ∈ r.map Prod.fst := fun {v a' k'} g => by
      have := loc_mem g
      rw [← flat_names _ v] at this
      obtain ⟨p, hp, rfl⟩ := List.mem_map.mp this
      exact List.mem_map.mpr ⟨p, mk_sub hp, rfl⟩
    have out : c ∈ r.map Prod.fst → o ≠ some c := fun hc e => valid_notin h3 (List.mem_append_left _ (h2 c e)) hc
    have skip : o ≠ some c → mk ((d, o) :: r) (some c) = mk r (some c) := fun e => if_neg e
    by_cases ho : o = u
    · have e0 : mk ((d, o) :: r) u = .cons d (mk r (some d)) (mk r u) := if_pos ho
      rw [e0] at h
      rcases loc_cases h with ⟨rfl, rfl, rfl⟩ | ⟨_, b, rfl, g⟩ | ⟨_, _, g⟩
      · exact skip fun e => h1 (h2 d e)
      · rw [skip (out (hin g))]
        exact mk_loc h3 (fun x e => by cases e; simp) g
      · rw [skip (out (hin g))]
        exact mk_loc h3 (fun x e => List.mem_append_left _ (hu x e)) g
    · have e0 : mk ((d, o) :: r) u = mk r u := if_neg ho
      rw [e0] at h
      rw [skip (out (hin h))]
      exact mk_loc h3 (fun x e => List.mem_append_left _ (hu x e)) h
theorem ord_loc {ps : List Pr} {c : Str} {a : List Str} {k : Fo} (va : Valid [] ps) (h : loc (mk ps none) c = some (a, k)) : ord ps (some c) = names k := by
  unfold ord
  rw [mk_loc (u := none) va (fun _ e => by cases e) h]
end TM

set_option maxHeartbeats 1000000
/-! Things as data: equal to themselves. -/
namespace TD
open PySem L2 PyProof.Rows TX TW
/-- a plain value as data -/
def dV : V → PyData
  | .int i => .int i
  | .bl b => .bool b
  | .str s => .str s
  | _ => .none
theorem Dp_plain {K : PySem.W.Frag} {H : Hp} {v : V} (h : plainV v = true) : Dp K H v (dV v) := by
  cases v with
  | int i => exact .int i
  | bl b => exact .bl b
  | str s => exact .str s
  | non => exact .non
  | _ => cases h
theorem DpAll_plain {K : PySem.W.Frag} {H : Hp} : ∀ {xs : List V}, xs.all plainV = true → DpAll K H xs (xs.map dV)
  | [], _ => .nil
  | x :: r, h => by
    rw [List.all_cons, Bool.and_eq_true] at h
    exact .cons (Dp_plain h.1) (DpAll_plain h.2)
theorem Dp_tup {K : PySem.W.Frag} {H : Hp} {a : Addr} {xs : List V} (h : H a = some (.tup xs)) (p : xs.all plainV = true) : Dp K H (.ref a) (.tuple (xs.map dV)) := .tup (.of h) (DpAll_plain p)
theorem whole_plain {xs : List V} (h : xs.all wholeV = true) : xs.all plainV = true := by
  rw [List.all_eq_true] at h ⊢
  intro x hx
  have := h x hx
  cases x <;> first | rfl | cases this
/-- whole numbers alone -/
theorem can_whole {xs : List V} (h : xs.all wholeV = true) : PyData.canLayAll0 (xs.map dV) = true := by
  induction xs with
  | nil => rfl
  | cons x r ih =>
    rw [List.all_cons, Bool.and_eq_true] at h
    rw [List.map_cons]
    unfold PyData.canLayAll0
    rw [ih h.2]
    cases x <;> first | rfl | cases h.1
theorem dep_plain (xs : List V) : PyData.depthAll (xs.map dV) = 0 := by
  induction xs with
  | nil => rfl
  | cons x r ih =>
    rw [List.map_cons]
    unfold PyData.depthAll
    rw [ih]
    cases x <;> rfl
theorem can_tup {xs : List V} (h : xs.all wholeV = true) : PyData.canLay0 (.tuple (xs.map dV)) = true := by unfold PyData.canLay0; exact can_whole h
theorem dep_tup (xs : List V) : PyData.depth (.tuple (xs.map dV)) = 1 := by unfold PyData.depth; rw [dep_plain]
theorem shaped_of {d : PyData} (h : PyData.canLay0 d = true) (k : PyData.depth d ≤ 64) : SeqAt.shaped d = true := by
  unfold SeqAt.shaped
  rw [h, decide_eq_true k]
  rfl
theorem can2 {a b : PyData} (h : PyData.canLay0 a = true) (k : PyData.canLay0 b = true) : PyData.canLay0 (.tuple [a, b]) = true := by
  unfold PyData.canLay0 PyData.canLayAll0 PyData.canLayAll0 PyData.canLayAll0
  rw [h, k]
  rfl
theorem dep2 (a b : PyData) : PyData.depth (.tuple [a, b]) = 1 + max (PyData.depth a) (PyData.depth b) := by
  show PyData.depthAll [a, b] + 1 = _
  show max (PyData.depth a) (max (PyData.depth b) 0) + 1 = _
  omega
theorem canL {xs : List PyData} (h : ∀ x ∈ xs, PyData.canLay0 x = true) : PyData.canLay0 (.list xs) = true := by
  unfold PyData.canLay0
  induction xs with
  | nil => rfl
  | cons x r ih =>
    unfold PyData.canLayAll0
    rw [h x List.mem_cons_self, ih fun y hy => h y (List.mem_cons_of_mem _ hy)]
    rfl
theorem depL {xs : List PyData} {n : Nat} (h : ∀ x ∈ xs, PyData.depth x ≤ n) : PyData.depth (.list xs) ≤ n + 1 := by
  have : PyData.depthAll xs ≤ n := by
    induction xs with
    | nil => exact Nat.zero_le _
    | cons x r ih =>
      unfold PyData.depthAll
      have h1 := h x List.mem_cons_self
      have h2 := ih fun y hy => h y (List.mem_cons_of_mem _ hy)
      omega
  unfold PyData.depth
  omega
theorem eqv_same {d e : PyData} (h : PyData.canLay0 d = true) (k : d = e) : PyData.eqv d e = true := by
  subst k
  exact SeqAt.eqv_refl d h
end TD

set_option maxHeartbeats 2000000
/-! Rows, each once, rising; where tables stand. -/
namespace TG
open PySem L2 PyProof.Rows TX TB TD TW
theorem ltI_irr (a : List Int) : ltI a a = false := by
  cases h : ltI a a with
  | false => rfl
  | true => rw [ltI_asym h] at h; cases h
theorem ltI_trans {a b c : List Int} (h : ltI a b = true) (k : ltI b c = true) : ltI a c = true := by
  cases e : ltI a c with
  | true => rfl
  | false =>
    have := ltI_le (ltI_asym k) e
    rw [h] at this
    cases this
abbrev Rise (l : List (List Int)) : Prop := l.Pairwise fun a b => ltI a b = true
theorem Rise.nodup {l : List (List Int)} (h : Rise l) : l.Nodup := h.imp fun {a b} z e => by rw [e, ltI_irr] at z; cases z
theorem rise_of {l : List (List Int)} (n : l.Nodup) (h : l.Pairwise fun a b => ltI b a = false) : Rise l := by
  refine List.Pairwise.imp₂ (R := fun a b => a ≠ b) (S := fun a b => ltI b a = false) (fun a b hne hb => ?_) n h
  cases e : ltI a b with
  | true => rfl
  | false => exact absurd (ltI_anti e hb) hne
theorem rise_unique : ∀ {l m : List (List Int)}, Rise l → Rise m → (∀ x, x ∈ l ↔ x ∈ m) → l = m := by
  intro l m hl hm h
  refine TM.perm_eq (R := fun a b => ltI a b = true) (fun a b h1 h2 => ?_) ((List.perm_ext_iff_of_nodup hl.nodup hm.nodup).mpr h) hl hm
  rw [ltI_asym h1] at h2
  cases h2
def ins (x : List Int) : List (List Int) → List (List Int)
  | [] => [x]
  | y :: l => if x = y then y :: l else if ltI x y = true then x :: y :: l else y :: ins x l
theorem mem_ins {x z : List Int} : ∀ {l : List (List Int)}, z ∈ ins x l ↔ z = x ∨ z ∈ l
  | [] => by simp [ins]
  | y :: l => by
    unfold ins
    by_cases e : x = y
    · rw [if_pos e]
      subst e
      simp
    · rw [if_neg e]
      by_cases h : ltI x y = true
      · rw [if_pos h]
        simp
      · rw [if_neg h, List.mem_cons, mem_ins (l := l), List.mem_cons]
        constructor
        · rintro (h | h | h)
          · exact .inr (.inl h)
          · exact .inl h
          · exact .inr (.inr h)
        · rintro (h | h | h)
          · exact .inr (.inl h)
          · exact .inl h
          · exact .inr (.inr h)
theorem rise_ins {x : List Int} : ∀ {l : List (List Int)}, Rise l → Rise (ins x l)
  | [], _ => List.pairwise_singleton _ _
  | y :: l, h => by
    unfold ins
    have h' := List.pairwise_cons.mp h
    by_cases e : x = y
    · rw [if_pos e]
      exact h
    · rw [if_neg e]
      by_cases k : ltI x y = true
      · rw [if_pos k]
        refine List.pairwise_cons.mpr ⟨fun z hz => ?_, h⟩
        rcases List.mem_cons.mp hz with e | hz
        · rw [e]
          exact k
        · exact ltI_trans k (h'.1 z hz)
      · rw [if_neg k]
        refine List.pairwise_cons.mpr ⟨fun z hz => ?_, rise_ins h'.2⟩
        rcases mem_ins.mp hz with e2 | hz
        · rw [e2]
          cases k2 : ltI y x with
          | true => rfl
          | false => exact absurd (ltI_anti (by simpa using k) k2) e
        · exact h'.1 z hz
/-- rows, each once, rising -/
def norm (rs : List (List Int)) : List (List Int) := rs.foldr ins []
theorem mem_norm {rs : List (List Int)} {x : List Int} : x ∈ norm rs ↔ x ∈ rs := by
  unfold norm
  induction rs with
  | nil => simp
  | cons r rs ih => rw [List.foldr_cons, mem_ins, ih, List.mem_cons]
theorem rise_norm (rs : List (List Int)) : Rise (norm rs) := by
  unfold norm
  induction rs with
  | nil => exact List.Pairwise.nil
  | cons r rs ih => exact rise_ins ih
theorem norm_of {l rs : List (List Int)} (h : Rise l) (k : ∀ x, x ∈ l ↔ x ∈ rs) : l = norm rs := rise_unique h (rise_norm rs) fun x => (k x).trans mem_norm.symm
theorem norm_len (rs : List (List Int)) : (norm rs).length ≤ rs.length := by
  unfold norm
  have : ∀ (x : List Int) (l : List (List Int)), (ins x l).length ≤ l.length + 1 := by
    intro x l
    induction l with
    | nil => exact Nat.le_refl _
    | cons y l ih =>
      unfold ins
      split
      · exact Nat.le_succ _
      · split
        · exact Nat.le_refl _
        · rw [List.length_cons, List.length_cons]
          omega
  induction rs with
  | nil => exact Nat.le_refl _
  | cons r rs ih =>
    rw [List.foldr_cons, List.length_cons]
    have := this r (rs.foldr ins [])
    omega
theorem norm_filter (rs : List (List Int)) (p : List Int → Bool) : (norm rs).filter p = norm (rs.filter p) := norm_of ((rise_norm rs).filter p) fun x => by rw [List.mem_filter, List.mem_filter, mem_norm]
theorem norm_idem {l : List (List Int)} (h : Rise l) : norm l = l := (norm_of h fun _ => Iff.rfl).symm
theorem norm_norm (rs : List (List Int)) : norm (norm rs) = norm rs := norm_idem (rise_norm rs)
/-! ### where rows stand -/
abbrev RowsAt (H : Hp) : List Addr → List (List Int) → Prop := Paired fun a r => H a = some (.tup (r.map V.int))
theorem RowsAt.same {H H' : Hp} {as : List Addr} {rs : List (List Int)} (h : RowsAt H as rs) (s : Same H H') : RowsAt H' as rs := Paired.mapP h fun a q e => s a _ e
theorem RowsAt.put {H : Hp} {as : List Addr} {rs : List (List Int)} {p : Addr} {xs : List V} {o : HO} (h : RowsAt H as rs) (hp : H p = some (.lst xs)) : RowsAt (upd H p o) as rs :=
  Paired.mapP h fun a q e => by rw [upd_ne (ne_of e hp (by intro z; cases z))]; exact e
theorem RowsAt.sm {W : Addr} {H H' : Hp} {as : List Addr} {rs : List (List Int)} (h : RowsAt H as rs) (s : Sm W H H') (w : ∃ n, WellAt n H W) : RowsAt H' as rs := Paired.mapP h fun a q e => tup_sm e s w
theorem RowsAt.len {H : Hp} {as : List Addr} {rs : List (List Int)} (h : RowsAt H as rs) : as.length = rs.length := Paired.length h
theorem pr_snoc {α β : Type} {R : α → β → Prop} {as : List α} {bs : List β} {a : α} {b : β} (h : Paired R as bs) (r : R a b) : Paired R (as ++ [a]) (bs ++ [b]) := by
  induction h with
  | nil => exact .cons r .nil
  | cons h _ ih => exact .cons h ih
theorem pr_at {α β : Type} {R : α → β → Prop} {as : List α} {bs : List β} (h : Paired R as bs) : ∀ {i : Nat} {a : α}, as[i]? = some a → ∃ b, bs[i]? = some b ∧ R a b := by
  induction h with
  | nil => intro i a h; simp at h
  | cons hd _ ih =>
    intro i a h
    cases i with
    | zero =>
      rw [List.getElem?_cons_zero] at h
      cases h
      exact ⟨_, rfl, hd⟩
    | succ i => exact ih (by simpa using h)
theorem pr_by {α β : Type} {R : α → β → Prop} {as : List α} {bs : List β} (h : Paired R as bs) : ∀ {i : Nat} {b : β}, bs[i]? = some b → ∃ a, as[i]? = some a ∧ R a b := by
  induction h with
  | nil => intro i a h; simp at h
  | cons hd _ ih =>
    intro i a h
    cases i with
    | zero =>
      rw [List.getElem?_cons_zero] at h
      cases h
      exact ⟨_, rfl, hd⟩
    | succ i => exact ih (by simpa using h)
theorem pr_app {α β : Type} {R : α → β → Prop} {as as' : List α} {bs bs' : List β} (h : Paired R as bs) (k : Paired R as' bs') : Paired R (as ++ as') (bs ++ bs') := by
  induction h with
  | nil => exact k
  | cons h _ ih => exact .cons h ih
theorem pr_zip {α β : Type} {R : α → β → Prop} {as : List α} {bs : List β} (h : Paired R as bs) : ∀ p ∈ as.zip bs, R p.1 p.2 := by
  induction h with
  | nil => intro p hp; cases hp
  | cons hd _ ih =>
    intro p hp
    rcases List.mem_cons.mp hp with e | hp
    · rw [e]
      exact hd
    · exact ih p hp
theorem zip_fst {α β : Type} : ∀ {as : List α} {bs : List β}, as.length = bs.length → (as.zip bs).map (·.1) = as ∧ (as.zip bs).map (·.2) = bs
  | [], [], _ => ⟨rfl, rfl⟩
  | [], _ :: _, h => by cases h
  | _ :: _, [], h => by cases h
  | a :: as, b :: bs, h => by
    have := zip_fst (as := as) (bs := bs) (by simpa using h)
    rw [List.zip_cons_cons, List.map_cons, List.map_cons, this.1, this.2]
    exact ⟨rfl, rfl⟩
theorem of_zip {H : Hp} {L : List (Addr × List Int)} (h : ∀ p ∈ L, H p.1 = some (.tup (p.2.map V.int))) : RowsAt H (L.map (·.1)) (L.map (·.2)) := by
  induction L with
  | nil => exact .nil
  | cons p L ih => exact .cons (h p List.mem_cons_self) (ih fun q hq => h q (List.mem_cons_of_mem _ hq))
/-! ### rows as data -/
def dR (rs : List (List Int)) : PyData := .list (rs.map fun r => .tuple ((r.map V.int).map dV))
theorem whole_ints (r : List Int) : (r.map V.int).all wholeV = true := by
  rw [List.all_eq_true]
  intro v hv
  obtain ⟨i, _, rfl⟩ := List.mem_map.mp hv
  rfl
theorem DpRow {K : PySem.W.Frag} {H : Hp} {a : Addr} {r : List Int} (h : H a = some (.tup (r.map V.int))) : Dp K H (.ref a) (.tuple ((r.map V.int).map dV)) := Dp_tup h (whole_plain (whole_ints r))
theorem DpRows {K : PySem.W.Frag} {H : Hp} {a : Addr} {as : List Addr} {rs : List (List Int)} (h : H a = some (.lst (as.map V.ref))) (k : RowsAt H as rs) : Dp K H (.ref a) (dR rs) := by
  refine .lst (.of h) ?_
  clear h
  induction k with
  | nil => exact .nil
  | cons h _ ih => exact .cons (DpRow h) ih
theorem canRows (rs : List (List Int)) : PyData.canLay0 (dR rs) = true := canL fun d hd => by
  obtain ⟨r, _, rfl⟩ := List.mem_map.mp hd
  exact can_tup (whole_ints r)
theorem shRows (rs : List (List Int)) : SeqAt.shaped (dR rs) = true := by
  refine shaped_of (canRows rs) ?_
  have : PyData.depth (dR rs) ≤ 1 + 1 := depL fun d hd => by
    obtain ⟨r, _, rfl⟩ := List.mem_map.mp hd
    rw [dep_tup]
    exact Nat.le_refl _
  omega
theorem eqv_ints : ∀ (r q : List Int), PyData.eqvAll ((r.map V.int).map dV) ((q.map V.int).map dV) = decide (r = q)
  | [], [] => rfl
  | [], _ :: _ => rfl
  | _ :: _, [] => rfl
  | x :: r, y :: q => by
    rw [List.map_cons, List.map_cons, List.map_cons, List.map_cons]
    unfold PyData.eqvAll
    rw [eqv_ints r q]
    have : PyData.eqv (dV (V.int x)) (dV (V.int y)) = decide (x = y) := by
      show PyData.eqv (.int x) (.int y) = _
      unfold PyData.eqv
      by_cases h : x = y <;> simp [h]
    rw [this]
    by_cases h : x = y <;> by_cases h2 : r = q <;> simp [h, h2]
theorem eqv_row (r q : List Int) : PyData.eqv (.tuple ((r.map V.int).map dV)) (.tuple ((q.map V.int).map dV)) = decide (r = q) := by
  unfold PyData.eqv
  exact eqv_ints r q
theorem eqv_dR (rs qs : List (List Int)) : PyData.eqv (dR rs) (dR qs) = decide (rs = qs) := by
  unfold dR PyData.eqv
  induction rs generalizing qs with
  | nil => cases qs <;> rfl
  | cons r rs ih =>
    cases qs with
    | nil => rfl
    | cons q qs =>
      rw [List.map_cons, List.map_cons]
      unfold PyData.eqvAll
      rw [ih qs, eqv_row]
      by_cases h : r = q <;> by_cases h2 : rs = qs <;> simp [h, h2]
/-! ### where tables stand -/
def bflds (l r : Addr) : List (Str × V) := putF "_rows" (.ref r) (putF "_columns" (.ref l) [])
theorem kbc : ¬ (("_columns" : Str) = "_rows") := by decide +kernel
theorem bflds_col (l r : Addr) : (bflds l r).lookup ("_columns" : Str) = some (.ref l) := by
  unfold bflds
  rw [lookup_putF, if_neg kbc, lookup_putF, if_pos rfl]
theorem bflds_rows (l r : Addr) : (bflds l r).lookup ("_rows" : Str) = some (.ref r) := by
  unfold bflds
  rw [lookup_putF, if_pos rfl]
theorem bflds_no (l r : Addr) {m : Str} (h1 : ¬ m = "_rows") (h2 : ¬ m = "_columns") : (bflds l r).lookup m = none := by
  unfold bflds
  rw [lookup_putF, if_neg h1, lookup_putF, if_neg h2]
  rfl
/-- unlike names, not too many -/
structure Cs (cs : List Str) : Prop where
  nd : cs.Nodup
  le : cs.length ≤ 8
  ok : ∀ x ∈ cs, TM.NameOk x
/-- a table of these columns and rows -/
def TabAt (C : Addr) (H : Hp) (p : Addr) (cs : List Str) (rs : List (List Int)) : Prop := ∃ dx l r as, H p = some (.ins C dx (bflds l r)) ∧ H l = some (.lst (cs.map V.str)) ∧ H r = some (.lst (as.map V.ref)) ∧ RowsAt H as rs
theorem TabAt.same {C : Addr} {H H' : Hp} {p : Addr} {cs : List Str} {rs : List (List Int)} (t : TabAt C H p cs rs) (s : Same H H') : TabAt C H' p cs rs := by
  obtain ⟨dx, l, r, as, h1, h2, h3, h4⟩ := t
  exact ⟨dx, l, r, as, s _ _ h1, s _ _ h2, s _ _ h3, h4.same s⟩
/-- the class of tables -/
structure Bc (K : PySem.W.Frag) (mg : Str → Option Value) (C : Addr) : Prop where
  cl : Cls K C
  nC : NoAttr K C "_columns"
  nR : NoAttr K C "_rows"
  g : mg "Table" = some (.ref C)
  ins : Ic K C
end TG

/-! Sets of some thousands of things: what their tables' mathematics is. -/
namespace TBA
open PySem L2 PyProof.Rows
/-! ### i -> 5 i + 1 goes through all of a power of two -/
def geo : Nat → Nat
  | 0 => 0
  | k + 1 => geo k * 5 + 1
theorem geo_four : ∀ k, geo k * 4 + 1 = 5 ^ k
  | 0 => rfl
  | k + 1 => by
    have := geo_four k
    rw [Nat.pow_succ, ← this]
    show (geo k * 5 + 1) * 4 + 1 = _
    omega
theorem geo_add (a : Nat) : ∀ b, geo (a + b) = geo a * 5 ^ b + geo b
  | 0 => by simp [geo]
  | b + 1 => by
    show geo (a + b) * 5 + 1 = geo a * 5 ^ (b + 1) + (geo b * 5 + 1)
    rw [geo_add a b, Nat.pow_succ, Nat.add_mul, ← Nat.mul_assoc]
    omega
theorem geo_par : ∀ d, geo d % 2 = d % 2
  | 0 => rfl
  | d + 1 => by
    have := geo_par d
    show (geo d * 5 + 1) % 2 = (d + 1) % 2
    omega
theorem five_mod (e : Nat) : 5 ^ e % 4 = 1 := by
  rw [← geo_four]
  omega
theorem cop_odd (n q : Nat) : Nat.Coprime (2 ^ n) (2 * q + 1) := by
  refine Nat.Coprime.pow_left n ?_
  show Nat.gcd 2 (2 * q + 1) = 1
  rw [Nat.gcd_rec, show (2 * q + 1) % 2 = 1 by omega]
  rfl
theorem geo_dvd : ∀ n d, 2 ^ n ∣ geo d → 2 ^ n ∣ d
  | 0, d, _ => by simp
  | n + 1, d, h => by
    have h2 : geo d % 2 = 0 := Nat.mod_eq_zero_of_dvd (Nat.dvd_trans ⟨2 ^ n, by rw [Nat.pow_succ, Nat.mul_comm]⟩ h)
    obtain ⟨e, rfl⟩ : ∃ e, d = e + e := ⟨d / 2, by have := geo_par d; omega⟩
    obtain ⟨q, hq⟩ : ∃ q, 5 ^ e + 1 = 2 * (2 * q + 1) := ⟨5 ^ e / 4, by have := five_mod e; omega⟩
    have e1 : geo (e + e) = 2 * (geo e * (2 * q + 1)) := by
      have : geo e * 5 ^ e + geo e = geo e * (5 ^ e + 1) := by rw [Nat.mul_add, Nat.mul_one]
      rw [geo_add, this, hq, Nat.mul_left_comm]
    rw [e1, Nat.pow_succ, Nat.mul_comm] at h
    have h3 := Nat.dvd_of_mul_dvd_mul_left (by decide) h
    obtain ⟨c, hc⟩ := geo_dvd n e ((cop_odd n q).dvd_of_dvd_mul_right h3)
    exact ⟨c, by rw [Nat.pow_succ, Nat.mul_right_comm, ← hc]; omega⟩
/-- the masks: a power of two less one, no more than 8191 -/
def PowM (m : Nat) : Prop := ∃ n, 3 ≤ n ∧ n ≤ 13 ∧ m + 1 = 2 ^ n
theorem PowM.le {m : Nat} (h : PowM m) : m ≤ 8191 := by
  obtain ⟨n, _, h2, e⟩ := h
  have := Nat.pow_le_pow_right (n := 2) (by decide) h2
  omega
theorem PowM.odd {m : Nat} (h : PowM m) : m % 2 = 1 := by
  obtain ⟨n, h1, _, e⟩ := h
  obtain ⟨k, rfl⟩ : ∃ k, n = k + 1 := ⟨n - 1, by omega⟩
  rw [Nat.pow_succ] at e
  omega
theorem lcg_form (m i : Nat) (hi : i ≤ m) : ∀ k, lcgI m i k = (i * 5 ^ k + geo k) % (m + 1)
  | 0 => by
    show i = (i * 1 + 0) % (m + 1)
    rw [Nat.mul_one, Nat.add_zero, Nat.mod_eq_of_lt (Nat.lt_succ_of_le hi)]
  | k + 1 => by
    show (lcgI m i k * 5 + 1) % (m + 1) = _
    rw [lcg_form m i hi k, Nat.add_mod, Nat.mul_mod, Nat.mod_mod, ← Nat.mul_mod, ← Nat.add_mod]
    congr 1
    show _ = i * 5 ^ (k + 1) + (geo k * 5 + 1)
    rw [Nat.pow_succ, Nat.add_mul, Nat.mul_assoc]
    omega
theorem lcg_le (m i : Nat) (hi : i ≤ m) : ∀ k, lcgI m i k ≤ m
  | 0 => hi
  | _ + 1 => Nat.le_of_lt_succ (Nat.mod_lt _ (Nat.succ_pos _))
theorem lcg_then (m i k : Nat) : ∀ d, lcgI m i (k + d) = lcgI m (lcgI m i k) d
  | 0 => rfl
  | d + 1 => by
    show (lcgI m i (k + d) * 5 + 1) % (m + 1) = _
    rw [lcg_then m i k d]
    rfl
theorem lcg_unlike {m : Nat} (hm : PowM m) {x : Nat} (hx : x ≤ m) {d : Nat} (h0 : 0 < d) (hd : d ≤ m) : lcgI m x d ≠ x := by
  intro e
  obtain ⟨n, _, _, hp⟩ := hm
  rw [lcg_form m x hx] at e
  have e4 : x * 5 ^ d + geo d = x + geo d * (2 * (2 * x) + 1) := by
    rw [← geo_four d, Nat.mul_add, Nat.mul_add, Nat.mul_one, Nat.mul_one]
    have a1 : x * (geo d * 4) = 4 * (x * geo d) := by rw [← Nat.mul_assoc, Nat.mul_comm]
    have a2 : geo d * (2 * (2 * x)) = 4 * (x * geo d) := by rw [← Nat.mul_assoc 2 2 x, Nat.mul_left_comm, Nat.mul_comm (geo d) x]
    rw [a1, a2]
    omega
  have e5 : (x + geo d * (2 * (2 * x) + 1)) % (m + 1) = x % (m + 1) := by rw [← e4, e, Nat.mod_eq_of_lt (Nat.lt_succ_of_le hx)]
  have e6 := Nat.sub_mod_eq_zero_of_mod_eq e5
  rw [Nat.add_sub_cancel_left] at e6
  have e7 : 2 ^ n ∣ geo d * (2 * (2 * x) + 1) := by rw [← hp]; exact Nat.dvd_of_mod_eq_zero e6
  have e8 := geo_dvd n d ((cop_odd n _).dvd_of_dvd_mul_right e7)
  have := Nat.le_of_dvd h0 e8
  omega
theorem lcg_meets {m : Nat} (hm : PowM m) {i j : Nat} (hi : i ≤ m) (hj : j ≤ m) : ∃ k, k ≤ m ∧ lcgI m i k = j := by
  by_cases c : j ∈ (List.range (m + 1)).map (lcgI m i)
  · obtain ⟨k, hk, e⟩ := List.mem_map.mp c
    exact ⟨k, Nat.le_of_lt_succ (List.mem_range.mp hk), e⟩
  · exfalso
    have q := nat_nodup_len (j :: (List.range (m + 1)).map (lcgI m i)) (List.range (m + 1)) (List.nodup_cons.mpr ⟨c, ?_⟩) fun x hx => ?_
    · rw [List.length_cons, List.length_map, List.length_range] at q
      omega
    · refine List.pairwise_map.mpr (List.Pairwise.imp_of_mem (fun {a b} _ hb hlt e => ?_) List.pairwise_lt_range)
      obtain ⟨d, rfl⟩ : ∃ d, b = a + d := ⟨b - a, by omega⟩
      rw [lcg_then] at e
      exact lcg_unlike hm (lcg_le m i hi a) (by omega) (by have := List.mem_range.mp hb; omega) e.symm
    · rcases List.mem_cons.mp hx with e | hx
      · exact List.mem_range.mpr (by omega)
      · obtain ⟨k, _, e⟩ := List.mem_map.mp hx
        have := lcg_le m i hi k
        exact List.mem_range.mpr (by omega)
/-! ### the way of a search meets all places -/
theorem runs_meet {m : Nat} (hm : PowM m) (h : Int) {j : Nat} (hj : j ≤ m) : ∃ n, n ≤ m + 12 ∧ runI m (SetTable.bits h) n = j := by
  obtain ⟨k, hk, e⟩ := lcg_meets hm (runI_le m (SetTable.bits h) 12) hj
  exact ⟨12 + k, by omega, (runI_tail (bits_lt h) k).trans e⟩
theorem way_meets {m : Nat} (hm : PowM m) (h : Int) {j : Nat} (hj : j ≤ m) : ∃ k, k < 10 * SetTable.turns m ∧ way m h k = j := by
  obtain ⟨n, hn, e⟩ := runs_meet hm h hj
  obtain ⟨k, hk, e2⟩ := run_nth m (SetTable.bits h) n
  refine ⟨k, ?_, (congrArg SetTable.Probe.j e2).trans e⟩
  unfold SetTable.turns
  omega
theorem way_in (m : Nat) (h : Int) (k : Nat) : way m h k ≤ m := by
  have hi : SetTable.bits h % (m + 1) ≤ m := Nat.le_of_lt_succ (Nat.mod_lt _ (Nat.succ_pos _))
  have r := runEnd_bd hi
  have q := nth_in (m := m) k (runAt m (SetTable.bits h % (m + 1)) (SetTable.bits h)) (by
    show SetTable.bits h % (m + 1) + (SetTable.runEnd m (SetTable.bits h % (m + 1)) - SetTable.bits h % (m + 1)) ≤ m
    omega)
  show (nth m (runAt m (SetTable.bits h % (m + 1)) (SetTable.bits h)) k).j ≤ m
  omega
/-! ### tables -/
/-- from a hash one comes to the place, through taken ones -/
def Way (t : SetTable) (h : Int) (j : Nat) : Prop := ∃ k, way t.mask h k = j ∧ ∀ c, c < k → way t.mask h c ∈ t.place.toList
structure Tab (t : SetTable) (hs : List Int) : Prop where
  up : Ris t.place.toList
  nod : t.dummies = #[]
  len : t.place.size = hs.length
  pow : PowM t.mask
  low : ∀ x ∈ t.place.toList, x ≤ t.mask
  ways : ∀ (i : Nat) (h : Int) (j : Nat), hs[i]? = some h → t.place.toList[i]? = some j → Way t h j
theorem Tab.plen {t : SetTable} {hs : List Int} (T : Tab t hs) : t.place.toList.length = hs.length := Array.length_toList.trans T.len
/-- the first place on the way that isn't taken -/
theorem Tab.first {t : SetTable} {hs : List Int} (T : Tab t hs) (hl : hs.length ≤ t.mask) (h : Int) : ∃ K, K < 10 * SetTable.turns t.mask ∧ way t.mask h K ∉ t.place.toList ∧ ∀ c, c < K → way t.mask h c ∈ t.place.toList := by
  obtain ⟨j, hj, hn⟩ := st_missing t.place.toList (t.mask + 1) (by rw [T.plen]; omega)
  obtain ⟨k, hk, e⟩ := way_meets T.pow h (Nat.le_of_lt_succ hj)
  obtain ⟨K, h1, h2, h3⟩ := st_least (p := fun k => way t.mask h k ∉ t.place.toList) k (e ▸ hn)
  exact ⟨K, Nat.lt_of_le_of_lt h1 hk, h2, fun c hc => Classical.byContradiction (h3 c hc)⟩
theorem Tab.ahead {t : SetTable} {hs : List Int} (T : Tab t hs) {h : Int} {K i j : Nat} (hK : way t.mask h K ∉ t.place.toList) (hi : hs[i]? = some h) (hj : t.place.toList[i]? = some j) : ∃ k, k < K ∧ way t.mask h k = j := by
  obtain ⟨k, e, hb⟩ := T.ways i h j hi hj
  refine ⟨k, ?_, e⟩
  apply Classical.byContradiction
  intro c
  rcases Nat.lt_or_eq_of_le (Nat.le_of_not_lt c) with d | d
  · exact hK (hb K d)
  · rw [d, e] at hK
    exact hK (List.mem_of_getElem? hj)
theorem Tab.put {t : SetTable} {hs : List Int} (T : Tab t hs) {h : Int} {K j p : Nat} (hj : j = way t.mask h K) (hp : p = SetTable.below t.place j) (hK : j ∉ t.place.toList) (hb : ∀ c, c < K → way t.mask h c ∈ t.place.toList) :
    p ≤ hs.length ∧ Tab (t.put j).1 (hs.take p ++ h :: hs.drop p) ∧ (t.put j).1.fill = hs.length + 1 := by
  obtain ⟨c1, _, _⟩ := below_cut T.up j
  rw [← hp] at c1
  have pl : p ≤ t.place.toList.length := by rw [Array.length_toList]; exact c1
  have ph : p ≤ hs.length := by rw [← T.len]; exact c1
  have new : t.place[SetTable.below t.place j]? ≠ some j := fun e => hK (List.mem_of_getElem? (by rw [Array.getElem?_toList]; exact e))
  have pp : (t.put j).1.place.toList = t.place.toList.take p ++ j :: t.place.toList.drop p := by rw [hp]; exact put_place t j
  have sz : (t.put j).1.place.size = hs.length + 1 := by rw [← Array.length_toList, pp, len_ins _ pl, T.plen]
  have more : ∀ {x : Nat}, x ∈ t.place.toList → x ∈ (t.put j).1.place.toList := fun {x} hx => by rw [pp]; exact L2.mem_ins.2 (.inr hx)
  have stay : ∀ {g : Int} {y : Nat}, Way t g y → Way (t.put j).1 g y := fun ⟨k, e, z⟩ => ⟨k, e, fun c hc => more (z c hc)⟩
  refine ⟨ph, ⟨ris_insert T.up new, put_dm T.nod j, by rw [len_ins _ ph]; exact sz, T.pow, fun x hx => ?_, fun i g y h1 h2 => ?_⟩, ?_⟩
  · rw [pp] at hx
    rcases L2.mem_ins.1 hx with rfl | z
    · rw [hj]
      exact way_in _ _ _
    · exact T.low x z
  · rw [tins_get hs ph] at h1
    rw [pp, tins_get _ pl] at h2
    by_cases c : i < p
    · rw [if_pos c] at h1 h2
      exact stay (T.ways i g y h1 h2)
    · rw [if_neg c] at h1 h2
      by_cases d : i = p
      · rw [if_pos d] at h1 h2
        cases h1
        cases h2
        exact ⟨K, hj.symm, fun c hc => more (hb c hc)⟩
      · rw [if_neg d] at h1 h2
        exact stay (T.ways (i - 1) g y h1 h2)
  · show (t.put j).1.place.size + (t.put j).1.dummies.size = hs.length + 1
    rw [sz, put_dm T.nod j]
    rfl
/-! ### laid anew -/
theorem free_meets {m : Nat} (hm : PowM m) (owner : Array (Option Nat)) (h : Int) {j : Nat} (hj : j ≤ m) (hf : oAt owner j = none) :
    ∃ K, SetTable.layClean.free m owner (SetTable.turns m) (SetTable.bits h % (m + 1)) (SetTable.bits h) = some (way m h K) ∧ oAt owner (way m h K) = none ∧ ∀ c, c < K → oAt owner (way m h c) ≠ none := by
  obtain ⟨n, hn, e⟩ := runs_meet hm h hj
  generalize ho : off m (SetTable.bits h % (m + 1)) (SetTable.bits h) n = o
  have hw : way m h o = j := by
    rw [← ho]
    show SetTable.Probe.j (nth m _ (off m _ _ n)) = j
    rw [nth_off, itL_run]
    exact e
  obtain ⟨K, k1, k2, k3⟩ := st_least (p := fun k => oAt owner (way m h k) = none) o (by show oAt owner (way m h o) = none; rw [hw]; exact hf)
  refine ⟨K, free_spec m owner (SetTable.turns m) n _ _ K (by unfold SetTable.turns; omega) (by rw [ho]; exact k1) (fun c hc => ?_) ?_, k2, k3⟩
  · cases z : oAt owner (nth m (runAt m (SetTable.bits h % (m + 1)) (SetTable.bits h)) c).j with
    | none => exact absurd z (k3 c hc)
    | some _ => rfl
  · have q : oAt owner (way m h K) = none := k2
    exact Option.isNone_iff_eq_none.mpr q
theorem own_more {m : Nat} (hm : PowM m) {done : List Int} {owner : Array (Option Nat)} (W : Own m done owner) (hl : done.length ≤ m) (h : Int) :
    ∃ j, SetTable.layClean.free m owner (SetTable.turns m) (SetTable.bits h % (m + 1)) (SetTable.bits h) = some j ∧ Own m (done ++ [h]) (owner.setIfInBounds j (some done.length)) := by
  obtain ⟨ps, lp, hin⟩ := W.ps
  obtain ⟨j0, h0, n0⟩ := st_missing ps (m + 1) (by omega)
  have hj0 : oAt owner j0 = none := Classical.byContradiction fun z => n0 (hin j0 (Nat.le_of_lt_succ h0) z)
  obtain ⟨K, e1, e2, e3⟩ := free_meets hm owner h (Nat.le_of_lt_succ h0) hj0
  generalize hy : way m h K = y at e1 e2
  have ym : y ≤ m := hy ▸ way_in m h K
  have self := oAt_set_self (some done.length) (show y < owner.size by rw [W.sz]; omega)
  have mono : ∀ {i : Nat}, oAt owner i ≠ none → oAt (owner.setIfInBounds y (some done.length)) i ≠ none := fun {i} hi => by
    by_cases c : i = y
    · rw [c, self]
      exact fun e => nomatch e
    · rwa [oAt_set_ne _ c]
  refine ⟨y, e1, ⟨?_, fun j k hj e => ?_, fun k hk => ?_, y :: ps, ?_, fun j hj e => ?_⟩⟩
  · rw [Array.size_setIfInBounds]
    exact W.sz
  · by_cases c : j = y
    · rw [c, self] at e
      cases e
      exact ⟨h, K, by simp, hy.trans c.symm, fun c hc => mono (e3 c hc)⟩
    · rw [oAt_set_ne _ c] at e
      obtain ⟨g, K', a1, a2, a3⟩ := W.at_ j k hj e
      exact ⟨g, K', (List.getElem?_append_left (List.getElem?_eq_some_iff.mp a1).1).trans a1, a2, fun c hc => mono (a3 c hc)⟩
  · by_cases c : k = done.length
    · exact ⟨y, ym, by rw [self, c]⟩
    · obtain ⟨j, hj, e⟩ := W.all k (by simp at hk; omega)
      exact ⟨j, hj, by rw [oAt_set_ne _ (fun z => by rw [z, e2] at e; cases e)]; exact e⟩
  · simp [lp]
  · by_cases c : j = y
    · exact c ▸ List.mem_cons_self
    · rw [oAt_set_ne _ c] at e
      exact List.mem_cons_of_mem _ (hin j hj e)
theorem lay_all {m : Nat} (hm : PowM m) : ∀ (rest done : List Int) (owner : Array (Option Nat)), Own m done owner → done.length + rest.length ≤ m →
    ∃ o2, rest.foldl (stepF m) (some (owner, done.length)) = some (o2, (done ++ rest).length) ∧ Own m (done ++ rest) o2
  | [], done, owner, W, _ => ⟨owner, by simp, by simpa using W⟩
  | h :: rest, done, owner, W, hl => by
    rw [List.length_cons] at hl
    obtain ⟨j, e, W'⟩ := own_more hm W (by omega) h
    have e1 : (done ++ [h]).length = done.length + 1 := by simp
    obtain ⟨o2, f, W2⟩ := lay_all hm rest (done ++ [h]) _ W' (by omega)
    have e2 : done ++ [h] ++ rest = done ++ h :: rest := by simp
    rw [e2] at f W2
    rw [e1] at f
    exact ⟨o2, by rw [List.foldl_cons, stepF_some e]; exact f, W2⟩
theorem laid_clean {m : Nat} (hm : PowM m) {hs : Array Int} (hn : hs.size ≤ m) : ∃ owner, SetTable.layClean m hs = some owner ∧ Own m hs.toList owner := by
  obtain ⟨owner, f, W⟩ := lay_all hm hs.toList [] _ (Own.init m) (by simpa using hn)
  rw [List.nil_append] at W f
  refine ⟨owner, ?_, W⟩
  rw [layClean_eq]
  exact congrArg (Option.map (·.1)) f
theorem laid_anew (t : SetTable) {hs : Array Int} {wanted M : Nat} (hw : SetTable.sizeAbove wanted - 1 = M) (hM : PowM M) (hn : hs.size ≤ M) :
    ∃ t2 order, t.relaid hs wanted = some (t2, order) ∧ order.toList.Perm (List.range hs.size) ∧ Tab t2 (order.toList.map fun i => hs.getD i 0) ∧ t2.mask = M ∧ t2.led = t.led ∧ t2.plain = t.plain := by
  obtain ⟨owner, e, W⟩ := laid_clean hM hn
  have hr : t.relaid hs wanted = some (tabOf t M owner, ((liveOf M owner).map (·.2)).toArray) := by
    rw [relaid_eq, hw, e]
    rfl
  obtain ⟨r1, r2⟩ := ris_live (fun j => owner.getD j none) (List.range (M + 1)) List.pairwise_lt_range
  have r1 : Ris ((liveOf M owner).map (·.1)) := r1
  have r2 : ∀ x ∈ (liveOf M owner).map (·.1), x ∈ List.range (M + 1) := r2
  have hz : hs.toList.length = hs.size := rfl
  have all : ∀ k, k < hs.size → k ∈ (liveOf M owner).map (·.2) := fun k hk => by
    obtain ⟨j, b1, b2⟩ := W.all k hk
    exact List.mem_map.mpr ⟨(j, k), (mem_live W.sz).2 ⟨b1, b2⟩, rfl⟩
  have len : (liveOf M owner).length = hs.size := by
    obtain ⟨ps, p1, p2⟩ := W.ps
    have nd : ((liveOf M owner).map (·.1)).Nodup := List.Pairwise.imp (fun h => Nat.ne_of_lt h) r1
    have a := nat_nodup_len ((liveOf M owner).map (·.1)) ps nd fun x hx => by
      obtain ⟨⟨y, k⟩, hq, rfl⟩ := List.mem_map.mp hx
      obtain ⟨b1, b2⟩ := (mem_live W.sz).1 hq
      exact p2 y b1 (by rw [b2]; exact fun z => nomatch z)
    have b := nat_nodup_len (List.range hs.size) ((liveOf M owner).map (·.2)) List.nodup_range fun k hk => all k (List.mem_range.mp hk)
    rw [List.length_map, p1] at a
    rw [List.length_map, List.length_range] at b
    omega
  refine ⟨tabOf t M owner, _, hr, perm_range hs.size _ ?_ all, ⟨r1, rfl, ?_, hM, fun x hx => Nat.le_of_lt_succ (List.mem_range.mp (r2 x hx)), fun i h j h1 h2 => ?_⟩, rfl, rfl, rfl⟩
  · show ((liveOf M owner).map (·.2)).length = hs.size
    rw [List.length_map]
    exact len
  · show ((liveOf M owner).map (·.1)).toArray.size = (((liveOf M owner).map (·.2)).map fun i => hs.getD i 0).length
    simp
  · have h1 : (((liveOf M owner).map (·.2)).map fun i => hs.getD i 0)[i]? = some h := h1
    have h2 : ((liveOf M owner).map (·.1))[i]? = some j := h2
    rw [List.map_map, List.getElem?_map] at h1
    rw [List.getElem?_map] at h2
    obtain ⟨⟨y, k⟩, hq, rfl⟩ := Option.map_eq_some_iff.mp h2
    rw [hq] at h1
    obtain ⟨b1, b2⟩ := (mem_live W.sz).1 (List.mem_of_getElem? hq)
    obtain ⟨g, K, a1, a2, a3⟩ := W.at_ y k b1 b2
    have e0 : hs.getD k 0 = g := by rw [Array.getD_eq_getD_getElem?, ← Array.getElem?_toList, a1]; rfl
    have e1 : g = h := e0.symm.trans (Option.some.inj h1)
    subst e1
    refine ⟨K, a2, fun c hc => ?_⟩
    show way M g c ∈ (liveOf M owner).map (·.1)
    cases z : oAt owner (way M g c) with
    | none => exact absurd z (a3 c hc)
    | some k2 => exact List.mem_map.mpr ⟨(way M g c, k2), (mem_live W.sz).2 ⟨way_in M g c, z⟩, rfl⟩
/-! ### how great the next one is -/
theorem above_go : ∀ (fuel size n w : Nat), size = 2 ^ n → w < 2 ^ (n + fuel) → ∃ k, n ≤ k ∧ SetTable.sizeAbove.go w fuel size = 2 ^ k ∧ w < 2 ^ k ∧ (k = n ∨ 2 ^ k ≤ 2 * w)
  | 0, size, n, w, e, h => ⟨n, Nat.le_refl _, by unfold SetTable.sizeAbove.go; exact e, h, .inl rfl⟩
  | f + 1, size, n, w, e, h => by
    unfold SetTable.sizeAbove.go
    by_cases c : size ≤ w
    · rw [if_pos c]
      obtain ⟨k, h1, h2, h3, h4⟩ := above_go f (size * 2) (n + 1) w (by rw [e, Nat.pow_succ]) (by rw [show n + 1 + f = n + (f + 1) by omega]; exact h)
      refine ⟨k, by omega, h2, h3, .inr ?_⟩
      rcases h4 with rfl | h4
      · rw [Nat.pow_succ, ← e]
        omega
      · exact h4
    · rw [if_neg c]
      exact ⟨n, Nat.le_refl _, e, by omega, .inl rfl⟩
theorem above_size {w : Nat} (h : w < 2 ^ 67) : ∃ k, 3 ≤ k ∧ SetTable.sizeAbove w = 2 ^ k ∧ w < 2 ^ k ∧ (k = 3 ∨ 2 ^ k ≤ 2 * w) := above_go 64 8 3 w rfl h
/-- a table that is too full, of fewer than two thousand things, is laid anew large enough -/
theorem next_mask {u m : Nat} (hu : u < 2000) (hm : PowM m) (hf : 3 * m ≤ u * 5) (hb : (u - 1) * 5 < m * 3) : ∃ M, SetTable.sizeAbove (SetTable.grown u) - 1 = M ∧ PowM M ∧ SetTable.sizeAbove (SetTable.grown u) ≤ 8192 ∧ u * 5 < M * 3 := by
  have hg : SetTable.grown u = u * 4 := by
    unfold SetTable.grown
    rw [if_neg (by omega)]
  obtain ⟨k, k1, k2, k3, k4⟩ := above_size (w := u * 4) (by have : (2 : Nat) ^ 67 = 147573952589676412928 := by decide
                                                            omega)
  obtain ⟨n, n1, n2, n3⟩ := hm
  have hm2 : m ≤ 2047 := by
    apply Classical.byContradiction
    intro c
    have : 12 ≤ n := by
      apply Classical.byContradiction
      intro d
      have := Nat.pow_le_pow_right (n := 2) (by decide) (show n ≤ 11 by omega)
      omega
    have := Nat.pow_le_pow_right (n := 2) (by decide) this
    omega
  have k13 : k ≤ 13 := by
    rcases k4 with rfl | k4
    · omega
    · apply Classical.byContradiction
      intro c
      have := Nat.pow_le_pow_right (n := 2) (by decide) (show 14 ≤ k by omega)
      omega
  rw [hg, k2]
  have p13 := Nat.pow_le_pow_right (n := 2) (by decide) k13
  exact ⟨2 ^ k - 1, rfl, ⟨k, k1, k13, by omega⟩, by omega, by omega⟩
end TBA

set_option maxHeartbeats 2000000
/-! Sets of fewer than two thousand things of a kind (tuples of whole numbers, nested ones): search, put in, laid anew. -/
namespace TBS
open PySem PySem.Spec L2 PyProof.Rows TBA
/-- a kind of things by which sets and dicts are kept -/
structure Kd (P : Program) (w : World) (K : Type) [DecidableEq K] where
  hk : HeapKind P w K
  rm : ∀ A : Around, A.units + 16 < cLine → hk.room A
  tup : ∀ {h : Heap} {k : K} {a : Addr}, hk.is h k a → ∃ o, h.get? a = some o ∧ o.cls = .type "tuple"
  keep : ∀ {h h' : Heap} {k : K} {a : Addr}, hk.is h k a → (∀ b o, h.get? b = some o → o.cls = .type "tuple" → h'.get? b = some o) → hk.is h' k a
  ofc : ∀ {A : Around} {E : Value → Shared → Prop} {s : Shared} {k : K} {b : Addr} {Q : Bool → Shared → Prop}, hk.is s.heap k b → Q false s → wpAny (model P w) A (ofAClassStatement 8 (.ref b)) Q E s
  byv : ∀ {A : Around} {E : Value → Shared → Prop} {s : Shared} {k : K} {b : Addr} {Q : Bool → Shared → Prop}, hk.is s.heap k b → Q true s → wpAny (model P w) A (hashByValue 8 (.ref b)) Q E s
section
variable {P : Program} {w : World} {K : Type} [DecidableEq K] (kd : Kd P w K)
def ents (L : List (Addr × K)) : List (Int × Value) := L.map fun p => (kd.hk.hash p.2, Value.ref p.1)
structure SetB (h : Heap) (a : Addr) (L : List (Addr × K)) (es : Array (Int × Value)) (ep : Nat) (t : SetTable) : Prop where
  obj : ∃ o, h.get? a = some o ∧ o.ExactSet ∧ o.data = .set es ep t
  ens : es.toList = ents kd L
  tab : Tab t (L.map fun p => kd.hk.hash p.2)
  one : (L.map (·.2)).Nodup
  are : ∀ p ∈ L, kd.hk.is h p.2 p.1
  pln : t.plain = true
  ldg : w.params.followText "set-order" = true ∨ t.led = true
  gap : L.length * 5 < t.mask * 3
  low : L.length < 2000
end
section
variable {P : Program} {w : World} {K : Type} [DecidableEq K] {kd : Kd P w K} {A : Around} {E : Value → Shared → Prop} {s : Shared} {a : Addr} {L : List (Addr × K)} {es : Array (Int × Value)} {ep : Nat} {t : SetTable}
theorem ents_len {L : List (Addr × K)} {es : Array (Int × Value)} (e : es.toList = ents kd L) : es.size = L.length := by
  rw [← Array.length_toList, e]
  exact List.length_map _
theorem SetB.size {h : Heap} (S : SetB kd h a L es ep t) : es.size = L.length := ents_len S.ens
theorem fits_of {n : Nat} {hs : List Int} (T : Tab t hs) (e : hs.length = n) (l : n ≤ t.mask) : t.fits n = true := by
  unfold SetTable.fits SetTable.fill
  rw [T.nod, T.len, e, Bool.and_eq_true, beq_iff_eq, decide_eq_true_eq]
  exact ⟨rfl, l⟩
theorem SetB.fits {h : Heap} (S : SetB kd h a L es ep t) : t.fits es.size = true := fits_of S.tab (by rw [List.length_map, S.size]) (by have := S.gap; rw [S.size]; omega)
theorem SetB.ent {h : Heap} (S : SetB kd h a L es ep t) {i : Nat} {p : Addr × K} (e : L[i]? = some p) : es[i]? = some (kd.hk.hash p.2, Value.ref p.1) := by
  rw [← Array.getElem?_toList, S.ens]
  unfold ents
  rw [List.getElem?_map, e]
  rfl
theorem SetB.stays {h : Heap} (S : SetB kd h a L es ep t) : ¬ t.gaveWay = true := by
  unfold SetTable.gaveWay
  rw [S.tab.pow.odd]
  decide
/-- what is asked of the things on the way can't be seen -/
theorem seen_none {x : Addr} {k : K} {Q : Bool → Shared → Prop} (hx : kd.hk.is s.heap k x) {ys : List Value} (hy : ∀ y ∈ ys, ∃ k' c, y = Value.ref c ∧ kd.hk.is s.heap k' c) (q : Q false s) :
    wpAny (model P w) A (searchCouldBeSeen (.ref x) ys) Q E s := by
  unfold searchCouldBeSeen
  refine wpAny_bind (wpAny_forIn_list _ (fun left r s1 => r.1 = none ∧ s1 = s ∧ ∀ y ∈ left, ∃ k' c, y = Value.ref c ∧ kd.hk.is s.heap k' c) _ ?_ ?_ _ _ ⟨rfl, rfl, hy⟩)
  · rintro v left r s1 ⟨e, rfl, al⟩
    obtain ⟨k', c, rfl, hc⟩ := al v List.mem_cons_self
    have al2 : ∀ y ∈ left, ∃ k' c, y = Value.ref c ∧ kd.hk.is s1.heap k' c := fun u hu => al u (List.mem_cons_of_mem _ hu)
    dsimp only
    by_cases hv : (x == c || (carriedByValue (.ref x) && carriedByValue (.ref c))) = true
    · exact wp_if_pos hv (wpAny_pure ⟨rfl, rfl, al2⟩)
    · refine wp_if_neg hv (wpAny_bind (kd.hk.quiet hx ?_))
      simp only [Bool.not_true, Bool.false_eq_true, if_false]
      refine wpAny_bind (kd.hk.quiet hc ?_)
      simp only [Bool.not_true, Bool.false_eq_true, if_false]
      refine wpAny_bind (kd.ofc hx ?_)
      simp only [Bool.false_eq_true, if_false]
      refine wpAny_bind (kd.ofc hc ?_)
      simp only [Bool.false_eq_true, if_false]
      exact wpAny_pure ⟨rfl, rfl, al2⟩
  · rintro ⟨r1, r2⟩ s1 ⟨e, rfl, _⟩
    cases (show r1 = none from e)
    exact wpAny_pure q
abbrev begin_ (m : Nat) (h : Int) : SetTable.Probe := runAt m (SetTable.bits h % (m + 1)) (SetTable.bits h)
theorem nth_dummy (m : Nat) : ∀ (n : Nat) (p : SetTable.Probe), p.dummy = none → (nth m p n).dummy = none
  | 0, _, h => h
  | n + 1, p, h => nth_dummy m n (adv m p) (by unfold adv; split <;> exact h)
/-- the search of one that is to be put in, from the c-th step on -/
theorem seek (S : SetB kd s.heap a L es ep t) {x : Addr} {k : K} {g : Int} (hg : kd.hk.hash k = g) (hx : kd.hk.is s.heap k x) (hr : kd.hk.room A) {F : Nat} (hF : F < 10 * SetTable.turns t.mask)
    (free : way t.mask g F ∉ t.place.toList) (full : ∀ c, c < F → way t.mask g c ∈ t.place.toList) {Q : SetFound → Shared → Prop}
    (yes : k ∈ L.map (·.2) → Q (.there none) s) (no : k ∉ L.map (·.2) → Q (.free (way t.mask g F) false) s) :
    ∀ (f c : Nat) (from_ : Option SetTable.Probe), from_.getD (t.probeStart g) = nth t.mask (begin_ t.mask g) c → c ≤ F → F - c < f →
      (∀ (i : Nat) p, L[i]? = some p → p.2 = k → ∃ d, c ≤ d ∧ d < F ∧ t.place.toList[i]? = some (way t.mask g d)) → wpAny (model P w) A (setSearchFrom a (.ref x) g true f from_) Q E s
  | 0, _, _, _, _, hf, _ => absurd hf (Nat.not_lt_zero _)
  | f + 1, c, from_, e0, hc, hf, still => by
    obtain ⟨o, ho, hex, hd⟩ := S.obj
    rw [setSearchFrom_succ]
    refine wpAny_bind (wpAny_setState_of ho hd S.fits ?_)
    dsimp only
    refine wp_if_neg S.stays ?_
    try refine wpAny_bind (wpAny_pure ?_)
    have on : ∀ d, nth t.mask (nth t.mask (begin_ t.mask g) c) d = nth t.mask (begin_ t.mask g) (c + d) := fun d => (nth_add t.mask c _ d).symm
    have onj : ∀ d, (nth t.mask (nth t.mask (begin_ t.mask g) c) d).j = way t.mask g (c + d) := fun d => congrArg SetTable.Probe.j (on d)
    have hashes : ∀ (i : Nat) p, L[i]? = some p → (es[i]?.map (·.1)).getD 0 = kd.hk.hash p.2 := fun i p hp => by rw [S.ent hp]; rfl
    rcases go_spec t S.tab.up S.tab.nod (fun i => (es[i]?.map (·.1)).getD 0) g (10 * SetTable.turns t.mask) (F - c) _ (nth_dummy t.mask c (begin_ t.mask g) rfl) (by omega) (fun d hd' => by rw [onj]; exact full _ (by omega)) (by rw [onj, show c + (F - c) = F by omega]; exact free)
      with ⟨d, i, d1, d2, d3, d4, d5⟩ | ⟨d4, d5⟩
    · -- one of this hash
      have pr : t.probe (fun i => (es[i]?.map (·.1)).getD 0) g (from_.getD (t.probeStart g)) = some (.candidate (way t.mask g (c + d)) i (nth t.mask (begin_ t.mask g) (c + (d + 1)))) := by
        rw [e0, ← onj, ← on]
        exact d5
      rw [pr]
      dsimp only
      rw [onj] at d2
      have il : i < L.length := by
        have h1 : i < t.place.toList.length := (List.getElem?_eq_some_iff.mp d2).1
        rwa [S.tab.plen, List.length_map] at h1
      obtain ⟨p, hp⟩ : ∃ p, L[i]? = some p := ⟨_, List.getElem?_eq_getElem il⟩
      have pm : p ∈ L := List.mem_of_getElem? hp
      have sl : t.slot (way t.mask g (c + d)) = .live i := slot_live S.tab.up d2
      have onward : wpAny (model P w) A (searchRest a (.ref x) g true f es t (way t.mask g (c + d)) i (nth t.mask (begin_ t.mask g) (c + (d + 1)))) Q E s := by
        unfold searchRest
        rw [S.ent hp]
        dsimp only
        refine wpAny_bind (wpAny_holding (kd.hk.eqBool hr (S.are p pm) hx ?_))
        refine wpAny_bind (wpAny_setState_of ho hd S.fits ?_)
        dsimp only
        by_cases same : p.2 = k
        · exact wp_if_pos (by simp [same]) (wpAny_pure (yes (List.mem_map.mpr ⟨p, pm, same⟩)))
        · refine wp_if_neg (by simp [same]) ?_
          try refine wpAny_bind (wpAny_pure ?_)
          rw [sameMem]
          dsimp only
          simp only [if_true, sl, S.ent hp]
          refine wpAny_bind (wpAny_isSame_ref_self (wpAny_bind (wpAny_pure ?_)))
          simp only [if_true]
          refine wp_if_neg (by simp [same]) (seek S hg hx hr hF free full yes no f (c + (d + 1)) _ rfl (by omega) (by omega) fun j q hq hk => ?_)
          obtain ⟨b, b1, b2, b3⟩ := still j q hq hk
          refine ⟨b, ?_, b2, b3⟩
          apply Classical.byContradiction
          intro lt
          rcases Nat.lt_or_ge b (c + d) with z | z
          · refine d4 (b - c) j (by omega) (by rw [onj, show c + (b - c) = b by omega]; exact b3) ?_
            exact (hashes j q hq).trans (by rw [hk, hg])
          · obtain rfl : b = c + d := by omega
            have s2 := slot_live S.tab.up b3
            rw [sl] at s2
            cases s2
            rw [hp] at hq
            cases hq
            exact same hk
      by_cases hl : t.led = true
      · refine wp_if_neg (by simp [hl]) ?_
        try refine wpAny_bind (wpAny_pure ?_)
        exact onward
      · refine wp_if_pos (by simp [hl]) (wpAny_bind (seen_none hx (fun y hy => ?_) ?_))
        · obtain ⟨e, he, ee⟩ := List.mem_map.mp hy
          have h1 : e ∈ es ∧ e.1 = g := by simpa using he
          have h2 : e ∈ es.toList := by simpa using h1.1
          rw [S.ens] at h2
          obtain ⟨q, hq, rfl⟩ := List.mem_map.mp h2
          exact ⟨q.2, q.1, ee.symm, S.are q hq⟩
        · refine wp_if_neg (by decide) ?_
          try refine wpAny_bind (wpAny_pure ?_)
          exact onward
    · -- an empty place
      have pr : t.probe (fun i => (es[i]?.map (·.1)).getD 0) g (from_.getD (t.probeStart g)) = some (.empty (way t.mask g F) none) := by
        have : way t.mask g F = (nth t.mask (nth t.mask (begin_ t.mask g) c) (F - c)).j := by rw [onj, show c + (F - c) = F by omega]
        rw [e0, this]
        exact d5
      rw [pr]
      dsimp only
      refine wpAny_pure (no fun hm => ?_)
      obtain ⟨q, hq, hk⟩ := List.mem_map.mp hm
      obtain ⟨j, hj⟩ := List.mem_iff_getElem?.mp hq
      obtain ⟨b, b1, b2, b3⟩ := still j q hj hk
      exact d4 (b - c) j (by omega) (by rw [onj, show c + (b - c) = b by omega]; exact b3) ((hashes j q hj).trans (by rw [hk, hg]))
theorem sought (S : SetB kd s.heap a L es ep t) {x : Addr} {k : K} {g : Int} (hg : kd.hk.hash k = g) (hx : kd.hk.is s.heap k x) (hr : kd.hk.room A) {Q : SetFound → Shared → Prop} (yes : k ∈ L.map (·.2) → Q (.there none) s)
    (no : ∀ F, k ∉ L.map (·.2) → way t.mask g F ∉ t.place.toList → (∀ c, c < F → way t.mask g c ∈ t.place.toList) → Q (.free (way t.mask g F) false) s) : wpAny (model P w) A (setSearch a (.ref x) g true) Q E s := by
  have gap := S.gap
  obtain ⟨F, h1, h2, h3⟩ := S.tab.first (by rw [List.length_map]; omega) g
  have ml := S.tab.pow.le
  have big : F < 100000 := by
    unfold SetTable.turns at h1
    omega
  unfold setSearch
  refine seek S hg hx hr h1 h2 h3 yes (fun n => no F n h2 h3) 100000 0 none rfl (Nat.zero_le _) (by omega) fun i p hp hk => ?_
  have il : i < t.place.toList.length := by
    rw [S.tab.plen, List.length_map]
    exact (List.getElem?_eq_some_iff.mp hp).1
  obtain ⟨d, d1, d2⟩ := S.tab.ahead h2 (h := g) (i := i) (by rw [List.getElem?_map, hp, ← hg, ← hk]; rfl) (List.getElem?_eq_getElem il)
  exact ⟨d, Nat.zero_le _, d1, by rw [d2, List.getElem?_eq_getElem il]⟩
/-- a thing isn't the set -/
theorem is_but {h h' : Heap} {k : K} {b : Addr} {o : Obj} (hb : kd.hk.is h k b) (ho : h.get? a = some o) (hx : o.ExactSet) (hs : Heap.SameBut a h h') : kd.hk.is h' k b := by
  refine kd.keep hb fun c u e ec => ?_
  have ne : c ≠ a := by
    rintro rfl
    rw [ho] at e
    cases e
    have : Value.type "set" = .type "tuple" := hx.1.symm.trans ec
    injection this with z
    exact absurd z (by decide)
  exact (hs.2 c ne).trans e
theorem ents_put (L : List (Addr × K)) (p : Nat) (x : Addr × K) : ents kd (L.take p ++ x :: L.drop p) = (ents kd L).take p ++ (kd.hk.hash x.2, Value.ref x.1) :: (ents kd L).drop p := by
  unfold ents
  rw [List.map_append, List.map_cons, List.map_take, List.map_drop]
/-- the entries in another order -/
theorem ents_order (L : List (Addr × K)) (es : Array (Int × Value)) (order : Array Nat) (e : es.toList = ents kd L) (hp : order.toList.Perm (List.range L.length)) :
    ∃ L2, (order.filterMap (es[·]?)).toList = ents kd L2 ∧ L2.Perm L ∧ (L2.map fun p => kd.hk.hash p.2) = order.toList.map fun i => (es.map (·.1)).getD i 0 := by
  have sz := ents_len e
  have at_ : ∀ i (h : i < L.length), es[i]? = some (kd.hk.hash (L[i]).2, Value.ref (L[i]).1) := fun i h => by
    rw [← Array.getElem?_toList, e]
    unfold ents
    rw [List.getElem?_map, List.getElem?_eq_getElem h]
    rfl
  have key : ∀ l : List Nat, (∀ i ∈ l, i < L.length) → ∃ L2 : List (Addr × K), l.filterMap (fun i => es[i]?) = ents kd L2 ∧ L2 = l.filterMap (fun i => L[i]?) ∧ (L2.map fun p => kd.hk.hash p.2) = l.map fun i => (es.map (·.1)).getD i 0 := by
    intro l
    induction l with
    | nil => exact fun _ => ⟨[], rfl, rfl, rfl⟩
    | cons i l ih =>
      intro hl
      have hi := hl i List.mem_cons_self
      obtain ⟨L2, e1, e2, e3⟩ := ih fun j hj => hl j (List.mem_cons_of_mem _ hj)
      refine ⟨L[i] :: L2, by rw [List.filterMap_cons_some (at_ i hi), e1]; rfl, by rw [List.filterMap_cons_some (List.getElem?_eq_getElem hi), e2], ?_⟩
      rw [List.map_cons, List.map_cons, e3]
      congr 1
      have : (es.map (·.1))[i]? = some (kd.hk.hash (L[i]).2) := by rw [Array.getElem?_map, at_ i hi]; rfl
      simp [Array.getD_eq_getD_getElem?, this]
  obtain ⟨L2, e1, e2, e3⟩ := key order.toList fun i hi => List.mem_range.mp (hp.mem_iff.mp hi)
  have whole : ∀ n, n ≤ L.length → (List.range n).filterMap (fun i => L[i]?) = L.take n := by
    intro n
    induction n with
    | zero => exact fun _ => rfl
    | succ n ih =>
      intro hn
      rw [List.range_succ, List.filterMap_append, ih (Nat.le_of_lt hn), List.take_succ, List.getElem?_eq_getElem hn, List.filterMap_cons_some (List.getElem?_eq_getElem hn)]
      rfl
  refine ⟨L2, by simpa using e1, ?_, e3⟩
  have pm := hp.filterMap fun i => L[i]?
  rwa [whole _ (Nat.le_refl _), List.take_length, ← e2] at pm
/-- a table too full, laid anew -/
theorem relay {o : Obj} (ho : s.heap.get? a = some o) (hex : o.ExactSet) (hd : o.data = .set es ep t) (ee : es.toList = ents kd L) (T : Tab t (L.map fun p => kd.hk.hash p.2)) (ml : L.length ≤ t.mask) (one : (L.map (·.2)).Nodup)
    (are : ∀ p ∈ L, kd.hk.is s.heap p.2 p.1) (pl : t.plain = true) (ld : w.params.followText "set-order" = true ∨ t.led = true) (low : L.length < 2000) {wanted M : Nat} (hw : SetTable.sizeAbove wanted - 1 = M) (hM : PowM M)
    (hs : SetTable.sizeAbove wanted ≤ 8192) (gap : L.length * 5 < M * 3) {Q : Unit → Shared → Prop} (q : ∀ h' L' es' ep' t', Heap.SameBut a s.heap h' → SetB kd h' a L' es' ep' t' → L'.Perm L → Q () { s with heap := h' }) :
    wpAny (model P w) A (setRelay a wanted) Q E s := by
  have sz := ents_len ee
  obtain ⟨t2, order, e, hp, T2, em, el, ep2⟩ := laid_anew t (hs := es.map (·.1)) (wanted := wanted) hw hM (by rw [Array.size_map, sz]; omega)
  rw [Array.size_map, sz] at hp
  obtain ⟨L2, r1, r2, r3⟩ := ents_order L es order ee hp
  rw [← r3] at T2
  have sz2 : (order.filterMap (es[·]?)).size = es.size := by rw [ents_len r1, r2.length_eq, sz]
  have w8 : (8192 : Nat) ≤ sizeLine := by rw [sizeLine_eq]; omega
  rw [setRelay_eq]
  refine wpAny_bind (wpAny_setState_of ho hd (fits_of T (by rw [List.length_map, sz]) (by rw [sz]; exact ml)) ?_)
  dsimp only
  refine wp_if_neg (by omega) ?_
  try refine wpAny_bind (wpAny_pure ?_)
  rw [e]
  dsimp only
  refine wpAny_bind (wp_if_neg (by rw [sz2]; simp) ?_)
  try refine wpAny_bind (wpAny_pure ?_)
  refine wpAny_pure ?_
  dsimp only
  have sb : Heap.SameBut a s.heap (s.heap.update a (Obj.putSet (order.filterMap (es[·]?)) t2)) := Heap.SameBut.update ..
  exact wpAny_storeSet_of ho hd (q _ L2 _ (ep + 1) t2 sb ⟨⟨_, store_at ho hd, hex, rfl⟩, r1, T2, (r2.map (·.2)).nodup_iff.mpr one, fun p hpm => is_but (are p (r2.mem_iff.mp hpm)) ho hex sb, ep2.trans pl, by rw [el]; exact ld, by rw [r2.length_eq, em]; exact gap,
    by rw [r2.length_eq]; exact low⟩ r2) (by rw [sz2, sz]; omega)
/-- one put in -/
theorem put_in (S : SetB kd s.heap a L es ep t) {x : Addr} {k : K} (hx : kd.hk.is s.heap k x) (hr : kd.hk.room A) (hl : L.length + 1 < 2000) {Q : Bool → Shared → Prop}
    (q : ∀ b h' L' es' ep' t', Heap.SameBut a s.heap h' → SetB kd h' a L' es' ep' t' → (k ∈ L.map (·.2) → L' = L) → (k ∉ L.map (·.2) → L'.Perm ((x, k) :: L)) → Q b { s with heap := h' }) :
    wpAny (model P w) A (setAddHashed a (.ref x) (kd.hk.hash k)) Q E s := by
  obtain ⟨o, ho, hex, hd⟩ := S.obj
  have sz := S.size
  have gap := S.gap
  unfold setAddHashed
  refine wpAny_holding ?_
  rw [show (100000 : Nat) = 99999 + 1 from rfl, setAddHashedIn_succ]
  refine wpAny_bind (wpAny_setState_of ho hd S.fits ?_)
  dsimp only
  refine wp_if_neg (by simp [byScan, Value.scannable]) ?_
  try refine wpAny_bind (wpAny_pure ?_)
  refine wpAny_bind (sought S rfl hx hr (fun hm => ?_) fun F hm free full => ?_)
  · exact wpAny_pure (q false s.heap L es ep t (Heap.SameBut.refl a s.heap) S (fun _ => rfl) fun z => absurd hm z)
  · dsimp only
    refine wpAny_bind (wpAny_setState_of ho hd S.fits ?_)
    dsimp only
    obtain ⟨p, hp⟩ : ∃ p, p = SetTable.below t.place (way t.mask (kd.hk.hash k) F) := ⟨_, rfl⟩
    obtain ⟨pl, T1, fill⟩ := S.tab.put rfl hp free full
    have p1 : (t.put (way t.mask (kd.hk.hash k) F)).1.plain = true := S.pln
    have l1 : (t.put (way t.mask (kd.hk.hash k) F)).1.led = t.led := rfl
    have m1 : (t.put (way t.mask (kd.hk.hash k) F)).1.mask = t.mask := rfl
    have q1 : (t.put (way t.mask (kd.hk.hash k) F)).2 = p := hp.symm
    generalize t.put (way t.mask (kd.hk.hash k) F) = tp at T1 fill p1 l1 m1 q1 ⊢
    obtain ⟨t1, p'⟩ := tp
    cases (show p' = p from q1)
    dsimp only at T1 fill p1 l1 m1 ⊢
    first
      | (refine wpAny_bind ?_; refine wp_if_pos p1 ?_; refine kd.byv hx ?_)
      | refine wp_if_pos p1 (wpAny_bind (kd.byv hx ?_))
    simp only [if_true]
    have ee : (SetTable.insertAt es p (kd.hk.hash k, Value.ref x)).toList = ents kd (L.take p ++ (x, k) :: L.drop p) := by rw [SetTable.toList_insertAt, ents_put, S.ens]
    have pm := put_perm L p (x, k)
    have len : (L.take p ++ (x, k) :: L.drop p).length = L.length + 1 := pm.length_eq
    have T2 : Tab t1 ((L.take p ++ (x, k) :: L.drop p).map fun p => kd.hk.hash p.2) := by
      rw [List.map_append, List.map_cons, List.map_take, List.map_drop]
      exact T1
    have one : ((L.take p ++ (x, k) :: L.drop p).map (·.2)).Nodup := (pm.map (·.2)).nodup_iff.mpr (List.nodup_cons.mpr ⟨hm, S.one⟩)
    generalize L.take p ++ (x, k) :: L.drop p = L1 at ee pm len T2 one
    generalize SetTable.insertAt es p (kd.hk.hash k, Value.ref x) = es1 at ee ⊢
    have s1 := ents_len ee
    refine wpAny_bind (wpAny_storeSet_of ho hd ?_ (by rw [s1, len, sizeLine_eq]; omega))
    have sb : Heap.SameBut a s.heap (s.heap.update a (Obj.putSet es1 t1)) := Heap.SameBut.update ..
    have ho1 := store_at (es' := es1) (t' := t1) ho hd
    generalize s.heap.update a (Obj.putSet es1 t1) = h1 at sb ho1 ⊢
    have are : ∀ p ∈ L1, kd.hk.is h1 p.2 p.1 := fun p hp => by
      rcases List.mem_cons.mp (pm.mem_iff.mp hp) with rfl | hp
      · exact is_but hx ho hex sb
      · exact is_but (S.are p hp) ho hex sb
    have ld : w.params.followText "set-order" = true ∨ t1.led = true := by rw [l1]; exact S.ldg
    have fl : t1.tooFull = decide ((L.length + 1) * 5 ≥ t.mask * 3) := by
      unfold SetTable.tooFull
      rw [fill, List.length_map, m1]
    by_cases hf : t1.tooFull = true
    · first
        | (refine wpAny_bind ?_; refine wp_if_pos (by simp [hf]) ?_)
        | (refine wp_if_pos (by simp [hf]) ?_; refine wpAny_bind ?_)
      rw [fl, decide_eq_true_eq] at hf
      rw [sz]
      obtain ⟨M, n1, n2, n3, n4⟩ := next_mask (u := L.length + 1) hl S.tab.pow (by omega) (by omega)
      have ml := S.tab.pow
      have m7 : 7 ≤ t.mask := by
        obtain ⟨n, h3, _, e⟩ := ml
        have := Nat.pow_le_pow_right (n := 2) (by decide) h3
        omega
      exact relay (s := { s with heap := h1 }) ho1 hex rfl ee T2 (by rw [len, m1]; omega) one are p1 ld (by rw [len]; exact hl) n1 n2 n3 (by rw [len]; exact n4) fun h2 L2 es2 ep2 t2 sb2 S2 pm2 =>
        wpAny_pure (q true h2 L2 es2 ep2 t2 (sb.trans sb2) S2 (fun z => absurd z hm) fun _ => pm2.trans pm)
    · first
        | refine wp_if_neg (by simp [hf]) ?_
        | (refine wpAny_bind ?_; refine wp_if_neg (by simp [hf]) ?_; refine wpAny_pure ?_)
      rw [fl, decide_eq_true_eq] at hf
      exact wpAny_pure (q true h1 L1 es1 (ep + 1) t1 sb ⟨⟨_, ho1, hex, rfl⟩, ee, T2, one, are, p1, ld, by rw [len, m1]; omega, by rw [len]; exact hl⟩ (fun z => absurd z hm) fun _ => pm)
theorem SetB.stay {h h' : Heap} (S : SetB kd h a L es ep t) (k : ∀ b o, h.get? b = some o → h'.get? b = some o) : SetB kd h' a L es ep t := by
  obtain ⟨o, ho, r⟩ := S.obj
  exact ⟨⟨o, k a o ho, r⟩, S.ens, S.tab, S.one, fun p hp => kd.keep (S.are p hp) fun b u e _ => k b u e, S.pln, S.ldg, S.gap, S.low⟩
/-- a new set -/
theorem set_new {h : Heap} (ho : h.get? a = some { cls := .type "set", dict := none, data := .set #[] 0 (.fresh 0 0 (!w.params.followText "set-order")) }) : SetB kd h a [] #[] 0 (.fresh 0 0 (!w.params.followText "set-order")) where
  obj := ⟨_, ho, ⟨rfl, rfl, rfl⟩, rfl⟩
  ens := rfl
  tab := ⟨List.Pairwise.nil, rfl, rfl, ⟨3, by decide, by decide, rfl⟩, fun x hx => (by cases hx), fun i h j hi => (by simp at hi)⟩
  one := List.nodup_nil
  are := fun p hp => (by cases hp)
  pln := rfl
  ldg := by
    show _ ∨ (!w.params.followText "set-order") = true
    cases w.params.followText "set-order" <;> simp
  gap := by show 0 * 5 < 7 * 3; decide
  low := by show 0 < 2000; decide
end
end TBS

set_option maxHeartbeats 3200000
/-! set(xs), xs a list of fewer than two thousand things of a kind. -/
namespace TBU
open PySem PySem.Spec L2 PyProof.Rows TBA TBS
section
variable {K : Type}
/-- what was got of the first i things -/
structure Had (ks : List (Addr × K)) (i : Nat) (L : List (Addr × K)) : Prop where
  from_ : ∀ p ∈ L, p ∈ ks.take i
  each : ∀ p ∈ ks.take i, p.2 ∈ L.map (·.2)
  many : L.length ≤ i
theorem Had.step {ks L L' : List (Addr × K)} {i : Nat} {x : Addr × K} (g : Had ks i L) (h : ks[i]? = some x) (old : x.2 ∈ L.map (·.2) → L' = L) (new : x.2 ∉ L.map (·.2) → L'.Perm (x :: L)) : Had ks (i + 1) L' := by
  have e := take_next h
  by_cases c : x.2 ∈ L.map (·.2)
  · rw [old c]
    refine ⟨fun p hp => by rw [e]; exact List.mem_append_left _ (g.from_ p hp), fun p hp => ?_, Nat.le_succ_of_le g.many⟩
    rw [e] at hp
    rcases List.mem_append.mp hp with z | z
    · exact g.each p z
    · rw [List.mem_singleton.mp z]
      exact c
  · have pm := new c
    refine ⟨fun p hp => ?_, fun p hp => (pm.map (·.2)).mem_iff.mpr ?_, by rw [pm.length_eq]; exact Nat.succ_le_succ g.many⟩
    · rw [e]
      rcases List.mem_cons.mp (pm.mem_iff.mp hp) with z | z
      · exact List.mem_append_right _ (List.mem_singleton.mpr z)
      · exact List.mem_append_left _ (g.from_ p z)
    · rw [e] at hp
      rcases List.mem_append.mp hp with z | z
      · exact List.mem_cons_of_mem _ (g.each p z)
      · rw [List.mem_singleton.mp z]
        exact List.mem_cons_self
end
section
variable {P : Program} {w : World} {K : Type} [DecidableEq K] {kd : Kd P w K} {A : Around} {E : Value → Shared → Prop} {s : Shared}
/-- each of what is walked is put in -/
theorem put_all {I : Addr} {fp wr : List Addr} {G : Array GenState → Array GenState → Prop} {n : Nat} {Pv : Nat → Value → Prop} {St : Nat → Shared → Prop} {R : Result → Shared → Prop} (W : WalksS P w A.in1 I fp wr G n Pv St)
    (D : Addr) (hD : D ∉ fp) (ks : List (Addr × K)) (hn : n = ks.length) (low : ks.length < 2000) (val : ∀ i v, Pv i v → ∃ p, ks[i]? = some p ∧ v = .ref p.1) (h0 : Heap) (are : ∀ p ∈ ks, kd.hk.is h0 p.2 p.1) (nD : h0.get? D = none)
    (nw : ∀ b ∈ wr, h0.get? b = none) (hr : kd.hk.room A.in1) :
    ∀ (k i : Nat) (s : Shared), n - i = k → i ≤ n → St i s → (∀ b o, h0.get? b = some o → s.heap.get? b = some o) → (∃ L es ep t, SetB kd s.heap D L es ep t ∧ Had ks i L) →
      (∀ s' L es ep t, Moved (D :: wr) G s s' → SetB kd s'.heap D L es ep t → Had ks n L → (∀ b o, h0.get? b = some o → s'.heap.get? b = some o) → R (.ok (.ret .none)) s') →
      codeAny (model P w) A (.builtin "set.update.loop" ⟨[.ref D, .ref I], []⟩) R s := by
  have Dw : D ∉ wr := fun z => hD (W.sub _ z)
  have up : ∀ b ∈ wr, b ∈ D :: wr := fun b hb => List.mem_cons_of_mem _ hb
  have onM : ∀ {s s' : Shared}, Moved wr G s s' → (∀ b o, h0.get? b = some o → s.heap.get? b = some o) → ∀ b o, h0.get? b = some o → s'.heap.get? b = some o := fun m kp b o e => m.heap b o (fun hb => by rw [nw b hb] at e; cases e) (kp b o e)
  have setM : ∀ {s s' : Shared} {L : List (Addr × K)} {es ep t} {i : Nat}, Moved wr G s s' → (∀ b o, h0.get? b = some o → s.heap.get? b = some o) → SetB kd s.heap D L es ep t → Had ks i L → SetB kd s'.heap D L es ep t := by
    intro s s' L es ep t i m kp S g
    obtain ⟨o, ho, r⟩ := S.obj
    exact ⟨⟨o, m.heap D o Dw ho, r⟩, S.ens, S.tab, S.one, fun p hp => kd.keep (are p (List.mem_of_mem_take (g.from_ p hp))) fun b u e _ => onM m kp b u e, S.pln, S.ldg, S.gap, S.low⟩
  intro k
  induction k with
  | zero =>
    intro i s hk hi st kp ⟨L, es, ep, t, S, g⟩ q
    obtain rfl : i = n := by omega
    refine codeAny_builtin F.entry_set_update_loop ?_
    rw [Around.under_plainId F.plain_set_update_loop _]
    show wpAny _ A.in1 (pyNext (.ref I) >>= _) _ _ s
    refine wpAny_bind (W.done s _ _ st fun s2 m => ?_)
    show wpAny _ A.in1 (ret Value.none) _ _ s2
    exact wpAny_pure (q s2 L es ep t (m.mono up) (setM m kp S g) g (onM m kp))
  | succ k ih =>
    intro i s hk hi st kp ⟨L, es, ep, t, S, g⟩ q
    have lt : i < n := by omega
    refine codeAny_builtin F.entry_set_update_loop ?_
    rw [Around.under_plainId F.plain_set_update_loop _]
    show wpAny _ A.in1 (pyNext (.ref I) >>= _) _ _ s
    refine wpAny_bind (W.item i s _ _ lt st fun v s2 hP st2 m => ?_)
    obtain ⟨p, hp, rfl⟩ := val i v hP
    have kp2 := onM m kp
    have hx : kd.hk.is s2.heap p.2 p.1 := kd.keep (are p (List.mem_of_getElem? hp)) fun b u e _ => kp2 b u e
    show wpAny _ A.in1 (holding [Value.ref p.1] (setAdd D (.ref p.1)) >>= _) _ _ s2
    refine wpAny_bind (wpAny_holding ?_)
    unfold setAdd
    refine wpAny_holding (wpAny_bind (kd.hk.pyHash hr hx ?_))
    have S1 : SetB kd s2.heap D L es ep t := setM m kp S g
    refine put_in (kd := kd) (s := { s2 with toks := s2.toks + kd.hk.draws p.2 }) S1 hx hr (by have := g.many; omega) fun b h' L' es' ep' t' sb S2 c1 c2 => ?_
    have kp3 : ∀ b o, h0.get? b = some o → h'.get? b = some o := fun b o e => (sb.2 b (fun z => by rw [z, nD] at e; cases e)).trans (kp2 b o e)
    refine wpAny_pure ⟨plainId_quiet F.plain_set_update_loop _, ih (i + 1) _ (by omega) lt (W.frame _ s2 _ _ st2 (Nat.le_add_right _ _) fun b hb o e => ?_) kp3 ⟨L', es', ep', t', S2, g.step hp c1 c2⟩ fun s3 L2 es2 ep2 t2 m3 S3 g3 kp4 => ?_⟩
    · exact (sb.2 b (fun z : b = D => hD (z ▸ hb))).trans e
    · refine q s3 L2 es2 ep2 t2 (Moved.trans W.gtrans ((m.mono up).then_heap (Nat.le_add_right _ _) fun b o hb e => ?_) m3) S3 g3 kp4
      exact (sb.2 b (fun z : b = D => hb (z ▸ List.mem_cons_self))).trans e
abbrev newO (w : World) : Obj := { cls := .type "set", dict := none, data := .set #[] 0 (.fresh 0 0 (!w.params.followText "set-order")) }
set_option maxRecDepth 100000 in
/-- set(xs) -/
theorem set_of {l : Addr} {items : Array Value} (ks : List (Addr × K)) {Q : Value → Shared → Prop} (hh : A.handled = none) (hl : s.heap.IsList l items) (ei : items.toList = ks.map fun p => Value.ref p.1)
    (are : ∀ p ∈ ks, kd.hk.is s.heap p.2 p.1) (low : ks.length < 2000) (hu : A.units + 24 < cLine)
    (q : ∀ (h' : Heap) (tk : Nat) L es ep t, SetB kd h' s.heap.objs.size L es ep t → Had ks ks.length L → (∀ b o, s.heap.get? b = some o → h'.get? b = some o) → Q (.ref s.heap.objs.size) { s with heap := h', toks := tk }) :
    wpAny (model P w) A (call (.type "set") [.ref l]) Q E s := by
  have isz : items.size = ks.length := by
    have := congrArg List.length ei
    rwa [Array.length_toList, List.length_map] at this
  obtain ⟨c, tl, hmro⟩ := F.called_set.mro
  have hmade := F.called_set.made
  have hsub := F.called_set.sub
  refine wpAny_call (codeAny_of_tree ?_)
  show wpAny _ _ (callAny (.type "set") _) _ _ _
  refine wpAny_pure ⟨Code.quiet_builtin _ (by decide +kernel), codeAny_builtin F.entry_type_call ?_⟩
  rw [Around.under_plain (weight_type_call_type "set" [.ref l] []) rfl]
  have h1 := F.called_set.notType
  have h2 := F.called_set.canCreate
  have hct := F.typeCall_set_1 (.ref l)
  repeat (any_goals (first | assumption | wp_step))

  refine codeAny_mono (code_set_led1 (.ref l) (E := E) (Q₁ := fun obj s₁ => obj = .ref s.heap.objs.size ∧ s₁ = { s with heap := s.heap.push (newO w) }) ⟨rfl, rfl⟩) fun r s₁ hr => ?_
  cases r with
  | error e => exact hr
  | ok fl =>
    cases fl with
    | ret obj =>
      obtain ⟨rfl, rfl⟩ := hr
      have hS : (s.heap.push (newO w)).get? s.heap.objs.size = some (newO w) := Heap.get?_push_size _ rfl
      have hT : Shared.TypeIs { s with heap := s.heap.push (newO w) } (.ref s.heap.objs.size) "set" := ⟨_, hS, rfl⟩
      have hli := F.called_set.init.lookup
      have hbi := F.called_set.init.bind (.ref s.heap.objs.size)
      repeat (any_goals (first | assumption | wp_step))

      refine codeAny_mono (codeAny_call_builtin (R := wants (fun r s₂ => r = .none ∧ ∃ h' tk L es ep t, s₂ = { s with heap := h', toks := tk } ∧ SetB kd h' s.heap.objs.size L es ep t ∧ Had ks ks.length L ∧
          (∀ b o, s.heap.get? b = some o → h'.get? b = some o)) E) F.called_set.init.plain F.entry_set_init (check_set_init_1 hT ?_)) fun r₂ s₂ hr₂ => ?_
      · obtain ⟨⟨ocls, odict, odata, oslots⟩, hol, hcl, nl, hdl⟩ := hl
        simp only at hcl hdl
        subst hcl hdl
        have hol' : (s.heap.push (newO w)).get? l = some { cls := .type "list", dict := odict, data := .seq items nl, slots := oslots } := Heap.get?_push_of_some _ hol
        have hsls := F.sub_list_set
        have hslf := F.sub_list_frozenset
        have hne : (Value.type "list" == Value.type "dict") = false := by decide
        have hl1 : (s.heap.push (newO w)).IsList l items := ⟨_, hol', rfl, nl, rfl⟩
        unfold Builtin.«set.__init__» noKeywords Builtin.Frozenset.updateFrom
        generalize hPI : pyIter = PI
        wp_walk
        subst hPI

        refine wpAny_pyIter_list hl1 (wpAny_bind (wpAny_runValue ?_))
        have lS : l < s.heap.objs.size := Heap.lt_size hol
        have hh3 : A.in1.in1.in1.handled = none := by simp [hh]
        have z1 : (s.heap.push (newO w)).objs.size = s.heap.objs.size + 1 := Heap.size_push ..
        have neI : l ≠ (s.heap.push (newO w)).objs.size := by
          rw [z1]
          exact Nat.ne_of_lt (Nat.lt_succ_of_lt lS)
        have outf : s.heap.objs.size ∉ [(s.heap.push (newO w)).objs.size, l] := by
          rw [z1]
          simp only [List.mem_cons, List.not_mem_nil, or_false, not_or]
          exact ⟨Nat.ne_of_lt (Nat.lt_succ_self _), Nat.ne_of_gt lS⟩
        have val : ∀ (i : Nat) (v : Value), items[i]? = some v → ∃ p, ks[i]? = some p ∧ v = .ref p.1 := fun i v hv => by
          have z : items.toList[i]? = some v := by rw [Array.getElem?_toList]; exact hv
          rw [ei, List.getElem?_map] at z
          obtain ⟨p, e1, e2⟩ := Option.map_eq_some_iff.mp z
          exact ⟨p, e1, e2.symm⟩
        have none_of : ∀ b, s.heap.objs.size ≤ b → s.heap.get? b = none := fun b hb => by
          cases z : s.heap.get? b with
          | none => rfl
          | some o => exact absurd (Nat.lt_of_lt_of_le (Heap.lt_size z) hb) (Nat.lt_irrefl _)
        refine put_all (kd := kd) ((Walks.list hh3 _ l neI items).toS) s.heap.objs.size outf ks isz low val s.heap are (none_of _ (Nat.le_refl _)) (fun b hb => none_of b (by
            rw [List.mem_singleton.mp hb, z1]
            exact Nat.le_succ _)) (kd.rm _ (by show A.units + 1 + 1 + 1 + 16 < cLine; omega)) (items.size - 0) 0 _ (by omega) (Nat.zero_le _)
          ⟨⟨_, Heap.get?_push_size _ rfl, rfl, rfl⟩, (hl1.push _)⟩ (fun b o e => Heap.get?_push_of_some _ (Heap.get?_push_of_some _ e)) ?first ?last
        case first => exact ⟨[], #[], 0, _, set_new (Heap.get?_push_of_some _ hS), ⟨fun p h => (by cases h), fun p h => (by simp at h), Nat.le_refl _⟩⟩
        case last =>
          intro s' L es ep t hm S' g' kp
          obtain ⟨h', g2, d', tk', os'⟩ := s'
          cases (show g2 = s.gens from hm.gens)
          cases (show d' = s.drawn from hm.drawn)
          cases (show os' = s.os from hm.os)
          show wpAny _ _ _ _ _ _
          refine wpAny_pure ?_
          show wpAny _ _ (ret Value.none) _ _ _
          rw [isz] at g'
          exact wpAny_pure ⟨rfl, h', tk', L, es, ep, t, rfl, S', g', kp⟩

      · cases r₂ with
        | error e => exact hr₂
        | ok fl₂ =>
          cases fl₂ with
          | ret r =>
            obtain ⟨rfl, h', tk, L, es, ep, t, rfl, S', g', k'⟩ := hr₂
            repeat (any_goals (first | assumption | wp_step))
            exact q _ _ _ _ _ _ S' g' k'
          | _ => exact hr₂.elim
    | _ => exact hr.elim
end
end TBU

set_option maxHeartbeats 3200000
/-! Rules of our own: sets of fewer than two thousand things of a kind. -/
namespace TBH
open PySem L2 PyProof.Rows TB TBS TBU
/-- rows: tuples of whole numbers -/
def kdI (P : Program) (w : World) : Kd P w (List Int) where
  hk := TK P w
  rm := fun A h => (show A.units < cLine by omega)
  tup := fun ⟨o, _, _, ho, hc, _⟩ => ⟨o, ho, hc⟩
  keep := fun ⟨o, its, n, ho, hc, r⟩ k => ⟨o, its, n, k _ o ho hc, hc, r⟩
  ofc := fun h q => ofAClass_tup h q
  byv := fun h q => hashBy_tup h q
/-- the set at an address, without the things themselves -/
structure SetB0 {P : Program} {w : World} {κ : Type} [DecidableEq κ] (kd : Kd P w κ) (h : Heap) (a : Addr) (L : List (Addr × κ)) : Prop where
  ex : ∃ (es : Array (Int × Value)) (ep : Nat) (t : SetTable), (∃ o, h.get? a = some o ∧ o.ExactSet ∧ o.data = .set es ep t) ∧ es.toList = ents kd L ∧ TBA.Tab t (L.map fun p => kd.hk.hash p.2) ∧ (L.map (·.2)).Nodup ∧ t.plain = true ∧
    (w.params.followText "set-order" = true ∨ t.led = true) ∧ L.length * 5 < t.mask * 3 ∧ L.length < 2000
def SetKO {P : Program} {w : World} {κ : Type} [DecidableEq κ] (kd : Kd P w κ) (a : Addr) (L : List (Addr × κ)) : HO := .ext fun h => SetB0 kd h a L
section
variable {P : Program} {w : World} {κ : Type} [DecidableEq κ] {kd : Kd P w κ} {h : Heap} {a : Addr} {L : List (Addr × κ)}
theorem less {es : Array (Int × Value)} {ep : Nat} {t : SetTable} (R : SetB kd h a L es ep t) : SetB0 kd h a L := ⟨es, ep, t, R.obj, R.ens, R.tab, R.one, R.pln, R.ldg, R.gap, R.low⟩
theorem SetB0.whole (R : SetB0 kd h a L) (ht : ∀ p ∈ L, kd.hk.is h p.2 p.1) : ∃ es ep t, SetB kd h a L es ep t := by
  obtain ⟨es, ep, t, h1, h2, h3, h4, h5, h6, h7, h8⟩ := R.ex
  exact ⟨es, ep, t, h1, h2, h3, h4, ht, h5, h6, h7, h8⟩
theorem setKO_ok {H : Hp} (R : SetB0 kd h a L) : ObjOk P w H h a (SetKO kd a L) := by
  obtain ⟨es, ep, t, ⟨o, ho, r⟩, z⟩ := id R.ex
  refine ⟨R, ⟨o, ho⟩, fun h1 h2 p k => ?_⟩
  obtain ⟨es', ep', t', ⟨o', ho', r'⟩, z'⟩ := SetB0.ex p
  exact ⟨es', ep', t', ⟨o', k o' ho', r'⟩, z'⟩
end
/-- a kind as the hand layer sees it -/
structure KH (K : W.Frag) (P : Program) (w : World) (κ : Type) [DecidableEq κ] where
  kd : Kd P w κ
  at_ : Hp → κ → Addr → Prop
  ok : ∀ {X : Cx} {pins : List (Addr × Obj)} {σ : L2.St} {H : Hp} {s : Shared} {k : κ} {b : Addr}, X.K = K → X.prog = P → X.w = w → Inv X pins σ H s → at_ H k b → kd.hk.is s.heap k b
def khI (K : W.Frag) (P : Program) (w : World) : KH K P w (List Int) where
  kd := kdI P w
  at_ := fun H k b => SqT K H b (k.map V.int)
  ok := by
    intro X pins σ H s k b e1 e2 e3 I h
    subst e1 e2 e3
    exact I.isT h
theorem refs_mapG {κ : Type} : ∀ {ks : List (Addr × κ)} {us : List Value}, Vals (ks.map fun p => V.ref p.1) us → us = ks.map fun p => Value.ref p.1
  | [], _, .nil => rfl
  | p :: ks, _, .cons r t => by
    cases r
    rw [refs_mapG t]
    rfl
/-- set(xs) -/
def rSetK {K : W.Frag} {P : Program} {w : World} {κ : Type} [DecidableEq κ] (kh : KH K P w κ) : List V → Hp → VK → Prop := fun xs H Q => ∃ (l : Addr) (ks : List (Addr × κ)), xs = [V.ref l] ∧ SqL K H l (ks.map fun p => V.ref p.1) ∧ (∀ p ∈ ks, kh.at_ H p.2 p.1) ∧ ks.length < 2000 ∧
  ∀ a L, H a = none → (∀ p ∈ L, p ∈ ks) → (∀ p ∈ ks, p.2 ∈ L.map (·.2)) → (L.map (·.2)).Nodup → Q (.ref a) (upd H a (SetKO kh.kd a L))
theorem cr_setK {X : Cx} {κ : Type} [DecidableEq κ] (kh : KH X.K X.prog X.w κ) (hc : X.calm = true) (hu : X.A.units + 64 < cLine) : CallR X (.type "set") (rSetK kh) := by
  intro pins s σ H xs us Q I r h
  obtain ⟨l, ks, rfl, hl, hk, hf, q⟩ := h
  rw [Vals.ref1 r]
  obtain ⟨its, rv, pl, hz⟩ := I.list hl
  have hn : H s.heap.objs.size = none := HOk.fresh I.hok (Nat.le_refl _)
  refine set_of (kd := kh.kd) ks (I.ok.hd hc) pl.isList (by simpa using refs_mapG rv) (fun p hp => kh.ok rfl rfl rfl I (hk p hp)) hf (by omega) fun h' tk L es ep t R g k => ?_
  refine ⟨.ref s.heap.objs.size, upd H s.heap.objs.size (SetKO kh.kd s.heap.objs.size L), I.laid (t' := tk) k (Nat.le_refl _) (setKO_ok (less R)), rfl, q _ L hn (fun p hp => List.mem_of_mem_take (g.from_ p hp)) (fun p hp => g.each p (by rw [List.take_length]; exact hp)) R.one⟩
theorem sorted_rowsB {P : Program} {w : World} {A : Around} {E : Value → Shared → Prop} {s : Shared} {a : Addr} {L : List (Addr × List Int)} {es : Array (Int × Value)} {ep : Nat} {t : SetTable} {Q : Value → Shared → Prop} {d : Nat}
    (R : SetB (kdI P w) s.heap a L es ep t) (hh : A.handled = none) (hd : ∀ p ∈ L, p.2.length = d)
    (hQ : ∀ (s' : Shared) (p : Nat) (out : Array Value) (c : Nat) (L' : List (Addr × List Int)), (∀ b o, s.heap.get? b = some o → s'.heap.get? b = some o) → s'.gens = s.gens → s'.os = s.os → s.heap.objs.size ≤ p →
      s'.heap.get? p = some (seqObj "list" out c) → out.toList = L'.map (fun q => Value.ref q.1) → L'.Perm L → L'.Pairwise (fun q r => ltI r.2 q.2 = false) → Q (.ref p) s') :
    wpAny (model P w) A (call (.builtin "sorted") [.ref a]) Q E s := by
  obtain ⟨o, ho, hex, hdat⟩ := R.obj
  have hsz := R.size
  have hfew := R.low
  obtain ⟨k, hk⟩ := rowsV R.one R.are
  refine Calls.call_function_entry kind_sorted plain_sorted entry_sorted (args_sorted1 (.ref a)) ?_
  refine wpAny_bind (wpAny_pure (wpAny_bind (collect_set hh ⟨o, ho, ⟨hex.1, hdat⟩⟩ R.fits (Nat.lt_of_lt_of_le (by omega) (by decide : 2000 ≤ scanBound)) R.tab.up R.ldg fun s1 vs k1 hz g1 o1 pm => ?_)))
  have hes : es.toList.map (·.2) = L.map fun q => Value.ref q.1 := by
    rw [R.ens]
    unfold ents
    rw [List.map_map]
    rfl
  rw [hes] at pm
  have hvl : vs.length < 2000 := by
    rw [pm.length_eq, List.length_map]
    exact hfew
  refine wpAny_bind (wpAny_newList ?_)
  have hoL := Heap.get?_push_size s1.heap (o := seqObj "list" vs.toArray 0) rfl
  have tk : ∀ q ∈ L, TS.TupInts (s1.heap.push (seqObj "list" vs.toArray 0)) (.ref q.1) q.2 := fun q hq =>
    tupInts_of (isT_keep (R.are q hq) fun b u e => Heap.get?_push_of_some (seqObj "list" vs.toArray 0) (k1 b u e))
  have of_vs : ∀ v ∈ vs, ∃ q ∈ L, v = .ref q.1 := fun v hv => by
    obtain ⟨q, hq, e⟩ := List.mem_map.mp (pm.mem_iff.mp hv)
    exact ⟨q, hq, e.symm⟩
  have hkv : ∀ v ∈ vs, TS.TupInts (s1.heap.push (seqObj "list" vs.toArray 0)) v (k v) ∧ (k v).length = d := fun v hv => by
    obtain ⟨q, hq, rfl⟩ := of_vs v hv
    rw [hk q hq]
    exact ⟨tk q hq, hd q hq⟩
  refine wpAny_bind (wpAny_holding ?_)
  have ord : ∀ {l : List Value}, (∀ v ∈ l, ∃ q ∈ L, v = .ref q.1) → ∃ L1 : List (Addr × List Int), l = L1.map (fun q => Value.ref q.1) ∧ ∀ q ∈ L1, q ∈ L := by
    intro l
    induction l with
    | nil => exact fun _ => ⟨[], rfl, fun _ h => nomatch h⟩
    | cons v r ih =>
      intro hv
      obtain ⟨q, hq, e⟩ := hv v List.mem_cons_self
      obtain ⟨L1, e1, hs⟩ := ih fun u hu => hv u (List.mem_cons_of_mem _ hu)
      exact ⟨q :: L1, by rw [List.map_cons, e, e1], fun z hz => (List.mem_cons.mp hz).elim (fun e => e ▸ hq) (hs z)⟩
  have one : ∀ q ∈ L, ∀ r ∈ L, q.1 = r.1 → q = r := fun q hq r hr e => by
    have a1 := R.are q hq
    rw [e] at a1
    exact Prod.ext e (IsTupleKey.inj a1 (R.are r hr))
  have perm_of : ∀ {L1 : List (Addr × List Int)}, (∀ q ∈ L1, q ∈ L) → (L1.map fun q => Value.ref q.1).Perm (L.map fun q => Value.ref q.1) → L1.Perm L := by
    intro L1 hs p1
    have nL := nodup_of_map R.one
    have nref : (L.map fun q => Value.ref q.1).Nodup := List.pairwise_map.mpr (List.Pairwise.imp_of_mem (fun {q r} hq hr hne e => hne (one q hq r hr (Value.ref.inj e))) nL)
    have n1 : L1.Nodup := nodup_of_map ((List.Perm.nodup_iff p1).mpr nref)
    refine (List.perm_ext_iff_of_nodup n1 nL).mpr fun q => ⟨hs q, fun hq => ?_⟩
    obtain ⟨r, hr, e⟩ := List.mem_map.mp (p1.mem_iff.mpr (List.mem_map.mpr ⟨q, hq, rfl⟩))
    rw [← one r (hs r hr) q hq (Value.ref.inj e)]
    exact hr
  have cmp2 : ∀ {L1 : List (Addr × List Int)} {out : List Value}, out = L1.map (fun q => Value.ref q.1) → (∀ q ∈ L1, q ∈ L) → SrtO.Srtd (fun v u => ltI (k v) (k u)) out → L1.Pairwise fun q r => ltI r.2 q.2 = false := by
    intro L1 out e hs h
    rw [e] at h
    refine List.Pairwise.imp_of_mem (fun {q r} hq hr z => ?_) (List.pairwise_map.mp h)
    have z : ltI (k (.ref r.1)) (k (.ref q.1)) = false := z
    rwa [hk q (hs q hq), hk r (hs r hr)] at z
  refine wpAny_call_entry slot_list_sort ⟨_, hoL, rfl⟩ entry_list_sort ?_ (args_list_sort _)
  refine SrtO.list_sort_ord (ltI_swo k) hoL (Nat.le_trans (Nat.le_of_lt hvl) (by rw [sizeLine_eq]; decide)) (fun h2 => rows_sortable (by omega) hkv (fun v hv e => ?_) fun o e => ?_) fun out hs st => ?_
  · -- unlike rows of no values can't be two
    have d0 : d = 0 := by rw [← (hkv v hv).2, e]; rfl
    obtain ⟨L1, e1, h1⟩ := ord of_vs
    have pL := perm_of h1 (e1 ▸ pm)
    have nd1 : (L1.map (·.2)).Nodup := (List.Perm.nodup_iff (pL.map _)).mpr R.one
    rw [e1, List.length_map] at h2
    match L1, h2, nd1, h1 with
    | q :: r :: _, _, nd1, h1 =>
      rw [List.map_cons, List.map_cons, List.nodup_cons] at nd1
      have eq : q.2 = [] := List.length_eq_zero_iff.mp (by rw [hd q (h1 q List.mem_cons_self), d0])
      have er : r.2 = [] := List.length_eq_zero_iff.mp (by rw [hd r (h1 r (List.mem_cons_of_mem _ List.mem_cons_self)), d0])
      exact absurd (by rw [eq, er]; exact List.mem_cons_self) nd1.1
  · rw [hoL] at e
    cases e
    show Value.type "list" ≠ Value.type "tuple"
    decide +kernel
  · obtain ⟨L', e', hs'⟩ := ord (l := out) fun v hv => of_vs v (st.perm.mem_iff.mp hv)
    obtain ⟨c, hc⟩ := sortedHeap_at (out := out.toArray) hoL
    refine ⟨_, rfl, wpAny_pure ⟨_, rfl, ?_⟩⟩
    refine hQ _ s1.heap.objs.size out.toArray c L' (fun b u e => ?_) g1 o1 hz hc e' (perm_of hs' (e' ▸ st.perm.trans pm)) (cmp2 e' hs' hs)
    have hb := k1 b u e
    have hlt := Heap.lt_size hb
    show (sortedHeap (s1.heap.push (seqObj "list" vs.toArray 0)) s1.heap.objs.size vs out.toArray).get? b = some u
    rw [sortedHeap_old (Nat.ne_of_lt hlt) (by rw [Heap.size_push]; exact Nat.lt_succ_of_lt hlt)]
    exact Heap.get?_push_of_some _ hb
/-- sorted(rows), a set of rows -/
def rSortB (K : W.Frag) (P : Program) (w : World) : List V → Hp → VK → Prop := fun vs H Q => ∃ a L d, vs = [.ref a] ∧ H a = some (SetKO (kdI P w) a L) ∧ (∀ p ∈ L, SqT K H p.1 (p.2.map V.int)) ∧ (∀ p ∈ L, p.2.length = d) ∧
  ∀ (L' : List (Addr × List Int)) (p : Addr), L'.Perm L → (L'.map (·.2)).Nodup → L'.length < 2000 → L'.Pairwise (fun q r => ltI r.2 q.2 = false) → H p = none → Q (.ref p) (upd H p (.lst (L'.map fun q => V.ref q.1)))
theorem cr_sortB {X : Cx} (hc : X.calm = true) : CallR X (.builtin "sorted") (rSortB X.K X.prog X.w) := by
  intro pins s σ H vs us Q I r h
  obtain ⟨a, L, d, rfl, ha, hk, hd, q⟩ := h
  have R0 : SetB0 (kdI X.prog X.w) s.heap a L := (I.hok a _ ha).1
  obtain ⟨es, ep, t, R⟩ := R0.whole fun p hp => I.isT (hk p hp)
  rw [Vals.ref1 r]
  refine sorted_rowsB R (I.ok.hd hc) hd fun s' p out c L' k g o hp hg hout pm pw => ?_
  have hfew : L'.length < 2000 := by rw [pm.length_eq]; exact R.low
  have hn : H p = none := HOk.fresh I.hok hp
  have hv : Vals (L'.map fun q => V.ref q.1) out.toList := by rw [hout]; exact vals_of_refs L'
  have hlen : (L'.map fun q => V.ref q.1).length ≤ sizeLine := by rw [List.length_map, sizeLine_eq]; omega
  have J : Inv X pins σ (upd H p (.lst (L'.map fun q => V.ref q.1))) { heap := s'.heap, gens := s'.gens, drawn := s'.drawn, toks := s'.toks, os := s.os } := by
    refine Inv.call (ch := []) I (Un.laid k hp hn) (HOk.laid I.hok k hp ⟨hlen, _, c, hv, hg⟩) ?_ fun x z => nomatch z
    rw [g]
    exact I.bare
  have e : s' = { heap := s'.heap, gens := s'.gens, drawn := s'.drawn, toks := s'.toks, os := s.os } := by
    cases s'
    cases s
    cases o
    rfl
  rw [e]
  exact ⟨.ref p, _, J, rfl, q L' p pm ((List.Perm.nodup_iff (pm.map _)).mpr R.one) hfew pw hn⟩
/-! ### one put into a set -/
theorem add_K {P : Program} {w : World} {κ : Type} [DecidableEq κ] {kd : Kd P w κ} {A : Around} {E : Value → Shared → Prop} {s : Shared} {a : Addr} {L : List (Addr × κ)} {es : Array (Int × Value)} {ep : Nat} {t : SetTable} {x : Addr} {k : κ} {Q : Value → Shared → Prop}
    (R : SetB kd s.heap a L es ep t) (hx : kd.hk.is s.heap k x) (hu : A.units + 24 < cLine) (hl : L.length + 1 < 2000)
    (hQ : ∀ (h' : Heap) (tk : Nat) (L' : List (Addr × κ)) (es' : Array (Int × Value)) (ep' : Nat) (t' : SetTable), Heap.SameBut a s.heap h' → SetB kd h' a L' es' ep' t' →
      (k ∈ L.map (·.2) → L' = L) → (k ∉ L.map (·.2) → L'.Perm ((x, k) :: L)) → Q .none { heap := h', gens := s.gens, drawn := s.drawn, toks := tk, os := s.os }) :
    wpAny (model P w) A (call (.builtin "set.add") [.ref a, .ref x]) Q E s := by
  obtain ⟨o, ho, hex, hd⟩ := id R.obj
  have hr : kd.hk.room A.in1 := kd.rm _ (by show A.units + 1 + 16 < cLine; omega)
  refine wpAny_call_entry F.slot_set_add ⟨o, ho, hex.1⟩ F.entry_set_add ?_ (F.args_set_add_2 _ _)
  show wpAny _ _ ((do let y ← setAdd a (.ref x); ret .none : Sem Fin)) _ _ _
  refine wpAny_bind (wpAny_holding (wpAny_bind (kd.hk.pyHash hr hx ?_)))
  refine put_in (kd := kd) (s := { heap := s.heap, gens := s.gens, drawn := s.drawn, toks := s.toks + kd.hk.draws k, os := s.os }) R hx hr hl fun b h' L' es' ep' t' sb R' h1 h2 => ?_
  exact wpAny_pure ⟨_, rfl, hQ h' _ L' es' ep' t' sb R' h1 h2⟩
theorem addK_ok {X : Cx} {κ : Type} [DecidableEq κ] {K : W.Frag} {P : Program} {w : World} {kh : KH K P w κ} (e1 : X.K = K) (e2 : X.prog = P) (e3 : X.w = w) {pins : List (Addr × Obj)} {σ : L2.St} {H : Hp} {s : Shared} {E : Value → Shared → Prop} {D x : Addr} {L : List (Addr × κ)} {k : κ} {Q : Value → Shared → Prop} (hu : X.A.units + 24 < cLine) (I : Inv X pins σ H s)
    (hD : H D = some (SetKO kh.kd D L)) (hk : ∀ p ∈ L, kh.at_ H p.2 p.1) (hx : kh.at_ H k x) (room : L.length + 1 < 2000)
    (h : ∀ (s' : Shared) (L' : List (Addr × κ)), (k ∈ L.map (·.2) → L' = L) → (k ∉ L.map (·.2) → L'.Perm ((x, k) :: L)) → Inv X pins σ (upd H D (SetKO kh.kd D L')) s' → Q .none s') :
    wpAny (model X.prog X.w) X.A (call (.builtin "set.add") [.ref D, .ref x]) Q E s := by
  subst e2 e3
  have R0 : SetB0 kh.kd s.heap D L := (I.hok D _ hD).1
  obtain ⟨es, ep, t, R⟩ := R0.whole fun p hp => kh.ok e1 rfl rfl I (hk p hp)
  refine add_K R (kh.ok e1 rfl rfl I hx) hu room fun h' tk L' es' ep' t' sb R' h1 h2 => ?_
  refine h _ L' h1 h2 (Inv.write (e := D) I ?_ (.inl rfl) (fun b u hb hu => (sb.2 b hb).trans hu) ?_ (setKO_ok (less R')))
  · rw [hD]
    trivial
  · obtain ⟨o, ho, _⟩ := R'.obj
    exact ⟨o, ho⟩
/-! ### {row for .. in ..} -/
def tScK {K : W.Frag} {P : Program} {w : World} {κ : Type} [DecidableEq κ] (kh : KH K P w κ) (wi : TI) (g : TG) (tt : TT) (te : TE) (vs : List Nat) : TE := fun σ H Q => wi σ H fun J H1 => ∀ D, H1 D = none → ∃ Wt : Nat → Nat → Hp → Prop, (∃ m, Wt 0 m (upd H1 D (SetKO kh.kd D []))) ∧
  ∀ i m H, Wt i m H → (J.stop i H ∧ Q (.ref D) H) ∨ (J.go i H ∧ ∃ Nx : Hp → Prop, (∀ H', Nx H' → ∃ m', m' < m ∧ Wt (i + 1) m' H') ∧ ∀ x H', J.yld i H x H' → g x (wipe σ vs) H' fun σ2 H2 => wipe σ2 vs = wipe σ vs ∧
    tt σ2 H2 fun b H3 => if b = true then te σ2 H3 fun y H4 => ∃ (t : Addr) (k : κ) (L : List (Addr × κ)), y = .ref t ∧ kh.at_ H4 k t ∧ H4 D = some (SetKO kh.kd D L) ∧ (∀ p ∈ L, kh.at_ H4 p.2 p.1) ∧ L.length + 1 < 2000 ∧
      ∀ L' : List (Addr × κ), (k ∈ L.map (·.2) → L' = L) → (k ∉ L.map (·.2) → L'.Perm ((t, k) :: L)) → Nx (upd H4 D (SetKO kh.kd D L')) else Nx H3)
theorem sc_K {X : Cx} {κ : Type} [DecidableEq κ] (kh : KH X.K X.prog X.w κ) {pins : List (Addr × Obj)} {s : Shared} {σ : L2.St} {H : Hp} {Q : VK} {elt tg iter : Expr} {ifs : List Expr} {scope : Scope} {own : List (Str × Nat)} {pos pos' : Pos} {wi : TI} {g : TG} {tt : TT} {te : TE} {use : Option (Value → Sem Unit)} {Qf : Value → Shared → Prop}
    (hu : X.A.units + 24 < cLine) (hc : X.calm = true) (hN : X.N.Nodup) (I : L2.Inv X pins σ H s) (hi : PI X tg iter wi) (ok : BlkOk X.N X.env.scope scope own)
    (hg : ∀ (s : Shared) (H : Hp) (C : Addr) (cl : List (Str × Addr)) (fp : List Addr), PG (X.blk s H scope (compEnvC scope cl C X.env) fp) tg g)
    (ht : ∀ (s : Shared) (H : Hp) (C : Addr) (cl : List (Str × Addr)) (fp : List Addr), PTs (X.blk s H scope (compEnvC scope cl C X.env) fp) ifs tt)
    (he : ∀ (s : Shared) (H : Hp) (C : Addr) (cl : List (Str × Addr)) (fp : List Addr), PE (X.blk s H scope (compEnvC scope cl C X.env) fp) elt te)
    (hs : ∀ x : Value, foldedSetIterable iter X.env x = pure x) (h : tScK kh wi g tt te (own.map (·.2)) σ H Q)
    (hRR : ∀ (D C : Addr) (s' : Shared) (m : Str → Option Value) (H' : Hp), L2.Inv X pins σ H' s' → Q (.ref D) H' → s'.heap.Ns C m → FpOk X pins H' C → compPost (model X.prog X.w) X.A X.xe use Qf (.ref D) C (.ok .next) s') :
    wpAny (model X.prog X.w) X.A (comprehension (elt.SetComp [⟨tg, iter, ifs, 0⟩] scope pos) scope X.env pos' (newSet (.type "set")) false (eval iter X.env) use) Qf X.xe s := by
  have hfree : ∀ y ∈ scope.names, y.2 = .free → ∃ c, List.lookup y.1 X.env.cells = some c := fun y hy e => (ok.free y hy e).elim (fun k => I.ok.has _ (.inl k)) fun k => I.ok.has _ (.inr k)
  refine wpAny_comprehension_free rfl hs (closure_ok hfree) ok.kind (fun y hy e => by rw [ok.uniq y hy, e]) ?_
  refine thn (hi.run pins s σ H _ I h) fun xv s1 hx => thn hx fun itv s2 h2 => ?_
  obtain ⟨it, fp, tn, J, H2, rfl, I2, T, st2, f2, q⟩ := h2
  refine PpSet.newSet_ok (newEnv_comp ?_)
  have hDn : H2 s2.heap.objs.size = none := HOk.fresh I2.hok (Nat.le_refl _)
  obtain ⟨Wt, ⟨m0, w0⟩, turn⟩ := q _ hDn
  have I3 : L2.Inv X pins σ (upd H2 s2.heap.objs.size (SetKO kh.kd s2.heap.objs.size [])) { heap := s2.heap.push { cls := .type "set", data := .set #[] 0 (SetTable.fresh 0 0 !X.w.params.followText "set-order") }, gens := s2.gens, drawn := s2.drawn, toks := s2.toks, os := s2.os } :=
    Inv.laid I2 (fun b o e => Heap.get?_push_of_some _ e) (Nat.le_refl _) (setKO_ok (less (set_new (Heap.get?_push_size _ rfl))))
  have sz : ∀ b ∈ fp, b < s2.heap.objs.size := fun b hb => by
    obtain ⟨o, e, _⟩ := T.obj 0 s2.heap st2 b hb
    exact Heap.lt_size e
  have k3 : ∀ (b : Addr) (o : Obj), s2.heap.get? b = some o → (s2.heap.push { cls := .type "set", data := .set #[] 0 (SetTable.fresh 0 0 !X.w.params.followText "set-order") }).get? b = some o := fun b o e => Heap.get?_push_of_some _ e
  have z3 : (s2.heap.push { cls := .type "set", data := .set #[] 0 (SetTable.fresh 0 0 !X.w.params.followText "set-order") }).objs.size = s2.heap.objs.size + 1 := Heap.size_push _ _
  generalize hs3 : ({ heap := s2.heap.push { cls := .type "set", data := .set #[] 0 (SetTable.fresh 0 0 !X.w.params.followText "set-order") }, gens := s2.gens, drawn := s2.drawn, toks := s2.toks, os := s2.os } : Shared) = s3 at I3 ⊢
  have k3' : ∀ (b : Addr) (o : Obj), s2.heap.get? b = some o → s3.heap.get? b = some o := by rw [← hs3]; exact k3
  have z3' : s3.heap.objs.size = s2.heap.objs.size + 1 := by rw [← hs3]; exact z3
  have f3 : ∀ b ∈ fp, FpOk X pins (upd H2 s2.heap.objs.size (SetKO kh.kd s2.heap.objs.size [])) b ∧ b < s3.heap.objs.size := fun b hb =>
    ⟨⟨by rw [upd_ne (Nat.ne_of_lt (sz b hb))]; exact (f2 b hb).1, (f2 b hb).2⟩, by rw [z3']; exact Nat.lt_succ_of_lt (sz b hb)⟩
  have st3 : tn 0 s3.heap := T.keep 0 _ _ st2 fun b _ o e => k3' b o e
  have I4 := block_start I3 ok hN f3
  have pg := hg s3 (upd H2 s2.heap.objs.size (SetKO kh.kd s2.heap.objs.size [])) s3.heap.objs.size (cellsFrom (s3.heap.objs.size + 1) scope.names (cloFrom X.env.cells scope.names [])) fp
  have pt := ht s3 (upd H2 s2.heap.objs.size (SetKO kh.kd s2.heap.objs.size [])) s3.heap.objs.size (cellsFrom (s3.heap.objs.size + 1) scope.names (cloFrom X.env.cells scope.names [])) fp
  have pe := he s3 (upd H2 s2.heap.objs.size (SetKO kh.kd s2.heap.objs.size [])) s3.heap.objs.size (cellsFrom (s3.heap.objs.size + 1) scope.names (cloFrom X.env.cells scope.names [])) fp
  show codeAny _ _ (Code.compStart _ 0 _ _ (compEnvC scope (cellsFrom (s3.heap.objs.size + 1) scope.names (cloFrom X.env.cells scope.names [])) s3.heap.objs.size X.env)) (compPost (model X.prog X.w) X.A X.xe use Qf (.ref s2.heap.objs.size) s3.heap.objs.size) _
  have cL : (compEnvC scope (cellsFrom (s3.heap.objs.size + 1) scope.names (cloFrom X.env.cells scope.names [])) s3.heap.objs.size X.env).locals = s3.heap.objs.size := rfl
  have hs4 : ∀ (b : Addr) (o : Obj), s3.heap.get? b = some o → (pushCells (s3.heap.push { cls := .type "dict", data := .dict #[] }) scope.names).get? b = some o := fun b o e => pushCells_keeps scope.names _ b o (Heap.get?_push_of_some _ e)
  generalize hce : compEnvC scope (cellsFrom (s3.heap.objs.size + 1) scope.names (cloFrom X.env.cells scope.names [])) s3.heap.objs.size X.env = ce at I4 pg pt pe cL ⊢
  have st4 : tn 0 (pushCells (s3.heap.push { cls := .type "dict", data := .dict #[] }) scope.names) := T.keep 0 _ _ st3 fun b _ o e => hs4 b o e
  have nfp : ∀ b ∈ fp, upd H2 s2.heap.objs.size (SetKO kh.kd s2.heap.objs.size []) b = none := fun b hb => (f3 b hb).1.1
  generalize upd H2 s2.heap.objs.size (SetKO kh.kd s2.heap.objs.size []) = H3 at w0 I3 f3 I4 pg pt pe nfp
  generalize hs4' : ({ heap := pushCells (s3.heap.push { cls := .type "dict", data := .dict #[] }) scope.names, gens := s3.gens, drawn := s3.drawn, toks := s3.toks, os := s3.os } : Shared) = s4 at I4 ⊢
  have st4' : tn 0 s4.heap := by rw [← hs4']; exact st4
  have stat : ∀ {σ' : L2.St} {H' : Hp} {s' : Shared}, L2.Inv (X.blk s3 H3 scope ce fp) [] σ' H' s' → (∀ b ∈ fp, H' b = none) → ∀ b ∈ fp, FpOk (X.blk s3 H3 scope ce fp) [] H' b := fun I' hn b hb =>
    ⟨hn b hb, (I'.ok.exf b hb).1, I'.ok.exfs b hb, .inl hb, (I'.ok.exf b hb).2, fun p hp => by simp [Cx.blk] at hp⟩
  have loop : codeAny (model X.prog X.w) X.A (Code.compLoop (elt.SetComp [⟨tg, iter, ifs, 0⟩] scope pos) 0 (.ref it) (.ref s2.heap.objs.size) ce) (compPost (model X.prog X.w) X.A X.xe use Qf (.ref s2.heap.objs.size) s3.heap.objs.size) s4 := by
    refine PpSet.compLoopS_any (fun n s' => ∃ i H', L2.Inv (X.blk s3 H3 scope ce fp) [] (wipe σ (own.map (·.2))) H' s' ∧ tn i s'.heap ∧ (∀ b ∈ fp, H' b = none) ∧ Wt i n H') ?_ m0 ⟨0, H3, I4, st4', nfp, w0⟩
    rintro n s5 ⟨i, H5, I5, st5, n5, w5⟩
    rcases turn i n H5 w5 with ⟨stop, qq⟩ | ⟨go, Nx, hNx, step⟩
    · refine thnF (T.done (X.blk s3 H3 scope ce fp) rfl rfl rfl hc i [] s5 _ H5 _ I5 (stat I5 n5) st5 stop) fun r s6 x => ?_
      obtain ⟨rfl, I6⟩ := x
      have I7 : L2.Inv X pins σ H5 s6 := Inv.call' (ch := fp) I3 I6.os I6.base I6.hok I6.bare fun b hb => ⟨(f3 b hb).1.2.2.2.1, (f3 b hb).1.2.1, (f3 b hb).1.2.2.2.2.1, (f3 b hb).1.2.2.2.2.2⟩
      have nC : H5 s3.heap.objs.size = none := by
        have z : H5 ce.locals = none := I6.free
        rwa [cL] at z
      obtain ⟨m, hn, _⟩ := I6.loc
      have hn : s6.heap.Ns ce.locals m := hn
      rw [cL] at hn
      exact hRR _ _ s6 m H5 I7 qq hn (I3.fpOk (Nat.le_refl _) nC)
    · refine thnF (T.item (X.blk s3 H3 scope ce fp) rfl rfl rfl hc i [] s5 _ H5 _ I5 (stat I5 n5) st5 go) fun r s6 x => ?_
      obtain ⟨u, rfl, h6⟩ := x
      refine thnF h6 fun _ s7 x => ?_
      obtain ⟨x, H7, I7, r7, y7, st7, n7⟩ := x
      have I7' := I7.pinned (stat I7 n7) (T.obj _ _ st7)
      refine thnF (pg.run _ s7 _ H7 x u _ I7' r7 (step x H7 y7)) fun _ s8 x => ?_
      obtain ⟨σ8, H8, I8, hw8, q8⟩ := x
      refine thnF (pt.run _ s8 σ8 H8 _ I8 q8) fun b s9 x => ?_
      obtain ⟨H9, I9, q9⟩ := x
      have fin : ∀ {s' : Shared} {H' : Hp}, L2.Inv (X.blk s3 H3 scope ce fp) ([] ++ pinsAt fp s7.heap) σ8 H' s' → Nx H' → ∃ m, m < n ∧ ∃ i H', L2.Inv (X.blk s3 H3 scope ce fp) [] (wipe σ (own.map (·.2))) H' s' ∧ tn i s'.heap ∧ (∀ b ∈ fp, H' b = none) ∧ Wt i m H' := by
        intro s' H' I' nx
        obtain ⟨m', hm, w'⟩ := hNx H' nx
        have pin' : ∀ b ∈ fp, ∀ o, s7.heap.get? b = some o → s'.heap.get? b = some o ∧ H' b = none := fun b hb o e => by
          have z := I'.pin (b, o) (List.mem_append_right _ (List.mem_append_right _ (mem_pinsAt hb e)))
          exact ⟨z.1, z.2.1⟩
        have hl : (wipe σ (own.map (·.2))).length = σ8.length := by
          rw [← hw8, wipe_length]
        refine ⟨m', hm, i + 1, H', I'.unpinned.weak hl (fun j v e => (wipe_some (hw8 ▸ e)).1), T.keep _ _ _ st7 (fun b hb o e => (pin' b hb o e).1), fun b hb => ?_, w'⟩
        obtain ⟨o, e, _⟩ := T.obj _ _ st7 b hb
        exact (pin' b hb o e).2
      cases b with
      | false =>
        rw [if_neg Bool.false_ne_true] at q9 ⊢
        exact fin I9 q9
      | true =>
        rw [if_pos rfl] at q9 ⊢
        refine thnF (pe.run _ s9 σ8 H9 _ I9 q9) fun z s10 x => ?_
        obtain ⟨y, H10, I10, ry, tt', k, L, rfl, hk, hD, hL, room, nx⟩ := x
        cases (show z = Value.ref tt' from ry)
        exact addK_ok (X := X.blk s3 H3 scope ce fp) (kh := kh) rfl rfl rfl hu I10 hD hL hk room fun s' L' h1 h2 I' => fin I' (nx L' h1 h2)
  exact PpSet.codeAny_compStart_set loop (T.self _ 0 _ _ _ st4' loop)
theorem pe_scK {X : Cx} {κ : Type} [DecidableEq κ] (kh : KH X.K X.prog X.w κ) {elt tg iter : Expr} {ifs : List Expr} {scope : Scope} {own : List (Str × Nat)} {pos : Pos} {wi : TI} {g : TG} {tt : TT} {te : TE} (hu : X.A.units + 24 < cLine) (hc : X.calm = true) (hN : X.N.Nodup) (hi : PI X tg iter wi) (ok : BlkOk X.N X.env.scope scope own)
    (hg : ∀ (s : Shared) (H : Hp) (C : Addr) (cl : List (Str × Addr)) (fp : List Addr), PG (X.blk s H scope (compEnvC scope cl C X.env) fp) tg g)
    (ht : ∀ (s : Shared) (H : Hp) (C : Addr) (cl : List (Str × Addr)) (fp : List Addr), PTs (X.blk s H scope (compEnvC scope cl C X.env) fp) ifs tt)
    (he : ∀ (s : Shared) (H : Hp) (C : Addr) (cl : List (Str × Addr)) (fp : List Addr), PE (X.blk s H scope (compEnvC scope cl C X.env) fp) elt te)
    (hs : ∀ x : Value, foldedSetIterable iter X.env x = pure x := by intros; rfl) : PE X (elt.SetComp [⟨tg, iter, ifs, 0⟩] scope pos) (tScK kh wi g tt te (own.map (·.2))) :=
  ⟨fun pins s σ H Q I h => by
    rw [PpSet.eval_SetComp]
    refine sc_K kh hu hc hN I hi ok hg ht he hs h fun D C s' m H' I' q hn f => ?_
    obtain ⟨f0, f1, f2, f3, f4, f5⟩ := f
    exact ⟨m, hn, fun h'' sb => ⟨.ref D, H', Inv.turned I' (fun b o hb e => (sb.2 b hb).trans e) f0 f1 f3 f4 f5, rfl, q⟩⟩⟩
/-- a set of rows, the things walked one by one -/
theorem sc_walkK {K : W.Frag} {P : Program} {w : World} {κ : Type} [DecidableEq κ] (kh : KH K P w κ) {J : It} {n : Nat} {G : Hp → Prop} {Y : Nat → Hp → V → Hp → Prop} (wk : Walk J n G Y) {tgt : TG} {cond : TT} {te : TE} {own : List Nat} {slots : L2.St} {Hs : Hp} {D : Addr} {Qf : Hp → Prop}
    (Pw : Nat → Hp → Prop) (start : Pw 0 (upd Hs D (SetKO kh.kd D []))) (good : ∀ i h, i ≤ n → Pw i h → G h)
    (turn : ∀ i v h h', i < n → Pw i h → Y i h v h' → tgt v (wipe slots own) h' fun s2 h2 => wipe s2 own = wipe slots own ∧ cond s2 h2 fun b h3 =>
      (if b = true then te s2 h3 fun y h4 => ∃ (t : Addr) (k : κ) (L : List (Addr × κ)), y = .ref t ∧ kh.at_ h4 k t ∧ h4 D = some (SetKO kh.kd D L) ∧ (∀ p ∈ L, kh.at_ h4 p.2 p.1) ∧ L.length + 1 < 2000 ∧
        ∀ L' : List (Addr × κ), (k ∈ L.map (·.2) → L' = L) → (k ∉ L.map (·.2) → L'.Perm ((t, k) :: L)) → Pw (i + 1) (upd h4 D (SetKO kh.kd D L')) else Pw (i + 1) h3))
    (fin : ∀ h, Pw n h → Qf h) :
    ∃ Wt : Nat → Nat → Hp → Prop, (∃ m, Wt 0 m (upd Hs D (SetKO kh.kd D []))) ∧ ∀ i m h, Wt i m h → (J.stop i h ∧ Qf h) ∨ (J.go i h ∧ ∃ Nx : Hp → Prop, (∀ h', Nx h' → ∃ m', m' < m ∧ Wt (i + 1) m' h') ∧
      ∀ v h', J.yld i h v h' → tgt v (wipe slots own) h' fun s2 h2 => wipe s2 own = wipe slots own ∧ cond s2 h2 fun b h3 =>
        if b = true then te s2 h3 fun y h4 => ∃ (t : Addr) (k : κ) (L : List (Addr × κ)), y = .ref t ∧ kh.at_ h4 k t ∧ h4 D = some (SetKO kh.kd D L) ∧ (∀ p ∈ L, kh.at_ h4 p.2 p.1) ∧ L.length + 1 < 2000 ∧
          ∀ L' : List (Addr × κ), (k ∈ L.map (·.2) → L' = L) → (k ∉ L.map (·.2) → L'.Perm ((t, k) :: L)) → Nx (upd h4 D (SetKO kh.kd D L')) else Nx h3) := by
  refine ⟨fun i m h => i ≤ n ∧ m = n - i ∧ Pw i h, ⟨n, Nat.zero_le _, by simp, start⟩, ?_⟩
  rintro i m h ⟨hi, rfl, pw⟩
  have g := good i h hi pw
  rcases Nat.lt_or_ge i n with hlt | hge
  · exact .inr ⟨wk.goes i h hlt g, Pw (i + 1), fun h' p' => ⟨n - (i + 1), by omega, hlt, rfl, p'⟩, fun v h' y => turn i v h h' hlt pw (wk.yields i h v h' hlt g y)⟩
  · obtain rfl : i = n := by omega
    exact .inl ⟨wk.stops h g, fin h pw⟩
end TBH

namespace T01
open PySem L2
def top (i : Nat) : Stmt := PySem.Challenge.pw_foldbough_k01_tables_made.main.body.getD i (.Pass ⟨0, 0, 0, 0⟩)
abbrev s_norow : Stmt := inClass (top 4) 0
abbrev s_is_whole : Stmt := top 9
abbrev s_is_name : Stmt := top 10
abbrev s_are : Stmt := top 11
abbrev s_is_row : Stmt := top 12
abbrev s_binit : Stmt := inClass (top 14) 0
abbrev s_bcolumns : Stmt := inClass (top 14) 1
abbrev s_brows : Stmt := inClass (top 14) 2
abbrev s_bhas : Stmt := inClass (top 14) 3
abbrev s_bcheck : Stmt := inClass (top 14) 7
abbrev s_blen : Stmt := inClass (top 14) 8
abbrev s_beq : Stmt := inClass (top 14) 9
abbrev s_bstr : Stmt := inClass (top 14) 10
abbrev s_cc : Stmt := top 15
abbrev s_sorted : Stmt := top 16
abbrev s_well : Stmt := top 20
abbrev s_draw : Stmt := top 21
abbrev s_names : Stmt := top 22
abbrev s_base : Stmt := top 23
abbrev s_lines : Stmt := top 24
abbrev s_tells : Stmt := top 25
abbrev s_right : Stmt := top 26
abbrev s_law : Stmt := top 27
end T01

set_option maxHeartbeats 1000000
local macro_rules | `(tactic| walk_at "z") => `(tactic| ((try dsimp only); first | assumption | omega | decide | (simp only [List.length_cons, List.length_nil]; first | decide | omega)))
namespace T01
open PySem L2 PyProof.Rows TX
section
variable {P : Program} {w : World} {K : PySem.W.Frag} {mg : Str → Option Value} {base : Heap}
theorem sc_well : FnScope ["_law_cell", "_law_k"] ["_law_cell", "_law_k"] (defScope s_well) := ⟨rfl, rfl, rfl, by decide +kernel, rfl, by decide +kernel, by decide +kernel⟩
def sp_well : Sp := fun vs H Q _ => ∃ (cell k : Int), vs = [.int cell, .int k] ∧ 0 ≤ k ∧ k ≤ 1000 ∧ ∀ H' p, Same H H' → H p = none → WellAt 100000 H' p → Q (.ref p) H'
theorem ok_well {f : Addr} {fd : FuncData} (F : Fn K mg "_law_well" s_well ["_law_cell", "_law_k"] f fd) (B : Bn mg) : FnOk P w K mg base CX0 1 f fd ["_law_cell", "_law_k"] sp_well := by
  refine F.F.ok sc_well (fun vs H Q E h => ?_) (fun cdv A outer s H vs Q E hr h => ?_)
  · obtain ⟨cell, k, rfl, _⟩ := h
    rfl
  · obtain ⟨cell, k, rfl, h0, h1, q⟩ := h
    refine ⟨_, pss_one (ps_ret (pe_lst (pa_cons (pe_op op_mul (pv 0) (pe_callTy call_int1 (by rfl) B.int boot_int (pa_cons (pe_cmpR op_ge (pv 0) (pe_op op_pow pe_int pe_int) (nomark _)) pa_nil)))
      (pa_cons (pe_op op_mod (pe_op op_add (pe_op op_mod (pv 0) pe_int) (pe_op op_mul pe_int (pv 1))) pe_int) (pa_cons pe_int pa_nil))))), ?_⟩
    refine ⟨_, rfl, _, rfl, _, _, rfl, rfl, ⟨by decide, by decide, by decide⟩, _, _, rfl, rfl, .inr ⟨_, rfl, _, _, rfl, rfl, .inr (by split <;> decide), ?_⟩⟩
    refine ⟨_, rfl, _, _, rfl, rfl, by walk_at "z", _, rfl, _, _, rfl, rfl, .inl (by decide), _, _, rfl, rfl, _, _, rfl, rfl, by walk_at "z", by walk_at "z", fun p hp => ?_⟩
    refine q _ p (Same.new hp) hp ⟨_, _, _, upd_same, ?_, ?_, by decide, by decide⟩
    · exact Int.emod_nonneg _ (by decide)
    · have := Int.emod_lt_of_pos (cell % 2147483647 + 104729 * k) (show (0 : Int) < 2147483647 by decide)
      omega
theorem sc_draw : FnScope ["_law_well_here", "_law_top", "_law_found", "_law_prime", "_law_twist"] ["_law_well_here", "_law_top"] (defScope s_draw) := ⟨rfl, rfl, rfl, by decide +kernel, rfl, by decide +kernel, by decide +kernel⟩
/-- a draw: one below top; the well may be drawn from once less -/
def sp_draw : Sp := fun vs H Q _ => ∃ (W : Addr) (t n : Nat), vs = [.ref W, .int t] ∧ 0 < t ∧ t < 1073741824 ∧ WellAt (n + 1) H W ∧ ∀ (H' : Hp) (r : Nat), r < t → Sm W H H' → WellAt n H' W → Q (.int r) H'
theorem ok_draw {f : Addr} {fd : FuncData} (F : Fn K mg "_law_draw" s_draw ["_law_well_here", "_law_top"] f fd) : FnOk P w K mg base CX0 1 f fd ["_law_well_here", "_law_top"] sp_draw := by
  refine F.F.ok sc_draw (fun vs H Q E h => ?_) (fun cdv A outer s H vs Q E hr h => ?_)
  · obtain ⟨W, t, n, rfl, _⟩ := h
    rfl
  · obtain ⟨W, t, n, rfl, h0, h1, ⟨a, b, c, hW, b0, b1, c0, c1⟩, q⟩ := h
    have hu := hu_of hr
    have t0 : (0 : Int) < (t : Int) := by omega
    have aI0 : ∀ x y z : V, atI [x, y, z] (0 : Int) = some x := fun _ _ _ => rfl
    have aI1 : ∀ x y z : V, atI [x, y, z] (1 : Int) = some y := fun _ _ _ => rfl
    have aI2 : ∀ x y z : V, atI [x, y, z] (2 : Int) = some z := fun _ _ _ => rfl
    refine ⟨_, pss_cons (ps_if (pt_cmpR op_gt (pe_ix ix_list (pv 0) pe_int (fun _ _ => rfl)) pe_int (nomark _))
        (pss_cons (ps_set (i := 2) sc_draw.nd rfl (Or.inl rfl) (pe_op op_mod (pe_ix ix_list (pv 0) pe_int (fun _ _ => rfl)) (pv 1)))
        (pss_cons (ps_asg (pe_op op_fdiv (pe_ix ix_list (pv 0) pe_int (fun _ _ => rfl)) (pv 1)) (pg_sub (pv 0) pe_int set_list))
        (pss_one (ps_ret (pv 2))))) pss_nil)
      (pss_cons (ps_asg (pe_op op_add (pe_ix ix_list (pv 0) pe_int (fun _ _ => rfl)) pe_int) (pg_sub (pv 0) pe_int set_list))
      (pss_cons (ps_set (i := 3) sc_draw.nd rfl (Or.inl rfl) (pe_ix ix_list (pe_lst (pa_cons pe_int (pa_cons pe_int (pa_cons pe_int (pa_cons pe_int (pa_cons pe_int pa_nil))))))
          (pe_op op_mod (pe_ix ix_list (pv 0) pe_int (fun _ _ => rfl)) pe_int) (fun _ _ => rfl)))
      (pss_cons (ps_set (i := 4) sc_draw.nd rfl (Or.inl rfl) (pe_op op_mod (pe_op op_pow (pe_op op_add (pe_op op_add (pe_ix ix_list (pv 0) pe_int (fun _ _ => rfl)) (pe_op op_mul pe_int (pe_ix ix_list (pv 0) pe_int (fun _ _ => rfl)))) pe_int) pe_int) (pv 3)))
      (pss_cons (ps_set (i := 4) sc_draw.nd rfl (Or.inl rfl) (pe_op op_mod (pe_op op_mul (pe_op op_add (pv 4) (pe_ix ix_list (pv 0) pe_int (fun _ _ => rfl))) (pe_op op_add (pe_op op_fdiv (pv 4) pe_int) pe_int)) (pv 3)))
      (pss_one (ps_ret (pe_op op_mod (pe_op op_fdiv (pv 4) pe_int) (pv 1)))))))), ?_⟩
    refine ⟨_, rfl, W, _, _, _, rfl, rfl, .of hW, aI0 _ _ _, _, _, rfl, rfl, _, rfl, ite2 (fun ha => ?_) (fun ha => ?_)⟩
    · refine ⟨_, rfl, W, _, _, _, rfl, rfl, .of hW, aI0 _ _ _, _, rfl, _, _, rfl, rfl, by walk_at "z", ?_⟩
      refine ⟨_, rfl, W, _, _, _, rfl, rfl, .of hW, aI0 _ _ _, _, rfl, _, _, rfl, rfl, by constructor <;> omega, ?_⟩
      refine ⟨_, rfl, W, _, _, 0, rfl, rfl, hW, rfl, _, rfl, ?_⟩
      have hm := Int.emod_nonneg a (show (t : Int) ≠ 0 by omega)
      have hl := Int.emod_lt_of_pos a t0
      have e : a % (t : Int) = ((a % (t : Int)).toNat : Int) := by omega
      show Q (.int (a % (t : Int))) _
      rw [e]
      exact q _ _ (by omega) (Sm.put .rfl') ⟨_, _, _, upd_same, b0, b1, c0, by omega⟩
    · refine ⟨_, rfl, W, _, _, _, rfl, rfl, .of hW, aI2 _ _ _, _, _, rfl, rfl, ?_⟩
      refine ⟨_, rfl, W, _, _, 2, rfl, rfl, hW, rfl, ?_⟩
      refine ⟨by decide, fun p np => ?_⟩
      have nW : W ≠ p := ne_of_none upd_same np
      have hW1 : ∀ o, upd (upd H W (.lst [.int a, .int b, .int (c + 1)])) p o W = some (.lst [.int a, .int b, .int (c + 1)]) := fun o => by rw [upd_ne nW, upd_same]
      refine ⟨_, rfl, W, _, _, _, rfl, rfl, .of (hW1 _), aI2 _ _ _, _, _, rfl, rfl, by walk_at "z", ?_⟩
      obtain ⟨pr, hpr, p0, p1⟩ : ∃ pr : Int, atI [V.int 2147483629, V.int 2147483587, V.int 2147483579, V.int 2147483563, V.int 2147483549] ((c + 1) % 5) = some (V.int pr) ∧ 1 ≤ pr ∧ pr < 2147483648 := by
        have h5 := Int.emod_nonneg (c + 1) (show (5 : Int) ≠ 0 by decide)
        have h6 := Int.emod_lt_of_pos (c + 1) (show (0 : Int) < 5 by decide)
        have : (c + 1) % 5 = 0 ∨ (c + 1) % 5 = 1 ∨ (c + 1) % 5 = 2 ∨ (c + 1) % 5 = 3 ∨ (c + 1) % 5 = 4 := by omega
        rcases this with e | e | e | e | e <;> rw [e]
        · exact ⟨2147483629, rfl, by decide, by decide⟩
        · exact ⟨2147483587, rfl, by decide, by decide⟩
        · exact ⟨2147483579, rfl, by decide, by decide⟩
        · exact ⟨2147483563, rfl, by decide, by decide⟩
        · exact ⟨2147483549, rfl, by decide, by decide⟩
      refine ⟨p, _, _, _, rfl, rfl, .of upd_same, hpr, ?_⟩
      refine ⟨_, rfl, W, _, _, _, rfl, rfl, .of (hW1 _), aI1 _ _ _, _, rfl, W, _, _, _, rfl, rfl, .of (hW1 _), aI2 _ _ _, _, _, rfl, rfl, .inl (by decide), ?_⟩
      refine ⟨_, _, rfl, rfl, _, _, rfl, rfl, _, _, rfl, rfl, ⟨by decide, by decide, by omega⟩, _, rfl, _, _, rfl, rfl, by walk_at "z", ?_⟩
      -- the twist, below the prime
      dsimp only
      generalize hx : (b + 6701 * (c + 1) + 3) ^ Int.toNat 5 % pr = x
      have x0 : 0 ≤ x := by rw [← hx]; exact Int.emod_nonneg _ (by omega)
      have x1 : x < pr := by rw [← hx]; exact Int.emod_lt_of_pos _ (by omega)
      refine ⟨_, rfl, _, rfl, W, _, _, _, rfl, rfl, .of (hW1 _), aI2 _ _ _, _, _, rfl, rfl, _, rfl, _, _, rfl, rfl, ⟨by decide, by decide⟩, _, _, rfl, rfl, _, _, rfl, rfl, .inr ?_, _, rfl, _, _, rfl, rfl, by walk_at "z", ?_⟩
      · have := Int.ediv_le_self 1013 x0
        have := Int.ediv_nonneg x0 (show (0 : Int) ≤ 1013 by decide)
        try dsimp only
        omega
      dsimp only
      generalize hy : (x + (c + 1)) * (x / 1013 + 40693) % pr = y
      have y0 : 0 ≤ y := by rw [← hy]; exact Int.emod_nonneg _ (by omega)
      refine ⟨_, rfl, _, _, rfl, rfl, ⟨by decide, by decide⟩, _, rfl, _, _, rfl, rfl, by walk_at "z", ?_⟩
      have hm := Int.emod_nonneg (y / 11) (show (t : Int) ≠ 0 by omega)
      have hl := Int.emod_lt_of_pos (y / 11) t0
      have e : y / 11 % (t : Int) = ((y / 11 % (t : Int)).toNat : Int) := by omega
      show Q (.int (y / 11 % (t : Int))) _
      rw [e]
      refine q _ _ (by omega) (Sm.new (Sm.put .rfl') np) ⟨_, _, _, hW1 _, b0, b1, by omega, by omega⟩
end
end T01

set_option maxHeartbeats 1000000
local macro_rules | `(tactic| walk_at "z") => `(tactic| ((try dsimp only); first | assumption | omega | decide | (simp only [List.length_cons, List.length_nil]; first | decide | omega)))
namespace T01
open PySem L2 PyProof.Rows TX
section
variable {P : Program} {w : World} {K : PySem.W.Frag} {mg : Str → Option Value} {base : Heap}
abbrev N_names : List Str := ["_law_well_here", "_law_count", "_law_letters", "_law_begin", "_law_apart", "_law_base_here", "_law_spot", "_law_more", "_law_found", "_law_k", "_law_letter"]
theorem sc_names : FnScope N_names ["_law_well_here", "_law_count"] (defScope s_names) := ⟨rfl, rfl, rfl, by decide +kernel, rfl, by decide +kernel, by decide +kernel⟩
/-- names: as many unlike names as are asked for, up to 26 -/
def sp_names : Sp := fun vs H Q _ => ∃ (W : Addr) (t n : Nat), vs = [.ref W, .int t] ∧ t ≤ 26 ∧ WellAt (n + 11) H W ∧
  ∀ (H' : Hp) (p : Addr) (ns : List Str), Sm W H H' → WellAt n H' W → H p = none → p ≠ W → H' p = some (.lst (ns.map V.str)) → ns.length = t → ns.Nodup → (∀ s ∈ ns, TM.NameOk s) → Q (.ref p) H'
theorem ok_names {f fD : Addr} {fd fdD : FuncData} (F : Fn K mg "_law_names" s_names ["_law_well_here", "_law_count"] f fd) (B : Bn mg) (D : Fn K mg "_law_draw" s_draw ["_law_well_here", "_law_top"] fD fdD) :
    FnOk P w K mg base CX0 2 f fd ["_law_well_here", "_law_count"] sp_names := by
  have GD : FnOk P w K mg base CX0 1 fD fdD ["_law_well_here", "_law_top"] sp_draw := ok_draw D
  refine F.F.ok sc_names (fun vs H Q E h => ?_) (fun cdv A outer s H vs Q E hr h => ?_)
  · obtain ⟨W, t, n, rfl, _⟩ := h
    rfl
  · obtain ⟨W, t, n, rfl, h0, hW, q⟩ := h
    have hu := hu_of hr
    refine ⟨_, pss_cons (ps_set (i := 2) sc_names.nd rfl (Or.inr rfl) pe_str)
      (pss_cons (ps_set (i := 3) sc_names.nd rfl (Or.inl rfl) (pe_call GD hr rfl D.g D.F.kp D.b .nil pass0 (pa_cons (pv 0) (pa_cons pe_int pa_nil))))
      (pss_cons (ps_set (i := 4) sc_names.nd rfl (Or.inl rfl) (pe_ix ix_list (pe_lst (pa_cons pe_int (pa_cons pe_int (pa_cons pe_int (pa_cons pe_int (pa_cons pe_int (pa_cons pe_int (pa_cons pe_int (pa_cons pe_int pa_nil)))))))))
          (pe_call GD hr rfl D.g D.F.kp D.b .nil pass0 (pa_cons (pv 0) (pa_cons pe_int pa_nil))) (fun _ _ => rfl)))
      (pss_cons (ps_set (i := 5) sc_names.nd rfl (Or.inl rfl) (pe_join pe_str (pe_lc (own := [("_law_k", 9)]) (g := gName 9) (tt := tYes) rfl sc_names.nd (pi_range1 rfl B.range (pa_cons pe_int pa_nil)) (blkOk_by (N := N_names) (sc := defScope s_names) (by decide +kernel))
          (fun _ _ _ _ _ => pg_name (i := 9) sc_names.nd rfl (Or.inl rfl)) (fun _ _ _ _ _ => pts_nil)
          (fun _ _ _ _ _ => pe_ix ix_str (pv 2) (pe_call GD hr rfl D.g D.F.kp D.b .nil pass0 (pa_cons (pv 0) (pa_cons pe_int pa_nil))) (fun _ _ => rfl)))))
      (pss_cons (ps_set (i := 6) sc_names.nd rfl (Or.inl rfl) (pe_call GD hr rfl D.g D.F.kp D.b .nil pass0 (pa_cons (pv 0) (pa_cons pe_int pa_nil))))
      (pss_cons (ps_set (i := 7) sc_names.nd rfl (Or.inl rfl) (pe_call GD hr rfl D.g D.F.kp D.b .nil pass0 (pa_cons (pv 0) (pa_cons (pe_op op_sub pe_int (pv 6)) pa_nil))))
      (pss_cons (ps_set (i := 8) sc_names.nd rfl (Or.inl rfl) (pe_lst pa_nil))
      (pss_cons (ps_for PassesOwn.never rfl (pi_range1 rfl B.range (pa_cons (pv 1) pa_nil)) (pg_name (i := 9) sc_names.nd rfl (Or.inl rfl))
        (pss_cons (ps_set (i := 10) sc_names.nd rfl (Or.inl rfl) (pe_ix ix_str (pv 2) (pe_op op_mod (pe_op op_add (pv 3) (pe_op op_mul (pv 4) (pv 9))) pe_int) (fun _ _ => rfl)))
        (pss_one (ps_expr (pe_bm PySem.F.plainAttrs_list PySem.F.slot_list_append PySem.F.type_list_append mt_append (pv 8)
          (pa_cons (pe_op op_add_str (pe_op op_add_str (pe_slice sl_str (pv 5) po_none (po_some (pv 6))) (pv 10)) (pe_slice sl_str (pv 5) (po_some (pv 6)) (po_some (pe_op op_add (pv 6) (pv 7))))) pa_nil))))))
      (pss_one (ps_ret (pv 8)))))))))), ?_⟩
    refine ⟨_, rfl, W, 26, n + 10, rfl, by decide, by decide, hW, fun H1 bg hbg s1 w1 => ?_⟩
    -- apart
    refine ⟨by decide, fun p1 n1 => ?_⟩
    have w1' : WellAt (n + 10) (upd H1 p1 (.lst [.int 1, .int 3, .int 5, .int 7, .int 9, .int 11, .int 15, .int 17])) W := w1.new n1
    have pW1 : p1 ≠ W := (w1.ne n1).symm
    refine ⟨_, rfl, W, 8, n + 9, rfl, by decide, by decide, w1', fun H2 j hj s2 w2 => ?_⟩
    have e2 : H2 p1 = some (.lst [.int 1, .int 3, .int 5, .int 7, .int 9, .int 11, .int 15, .int 17]) := s2 _ _ pW1 upd_same
    obtain ⟨ap, hap, hap2⟩ : ∃ ap : Nat, ap ∈ [1, 3, 5, 7, 9, 11, 15, 17] ∧ atI [V.int 1, .int 3, .int 5, .int 7, .int 9, .int 11, .int 15, .int 17] (j : Int) = some (V.int (ap : Int)) := by
      have : j = 0 ∨ j = 1 ∨ j = 2 ∨ j = 3 ∨ j = 4 ∨ j = 5 ∨ j = 6 ∨ j = 7 := by omega
      rcases this with e | e | e | e | e | e | e | e <;> subst e
      · exact ⟨1, by decide, rfl⟩
      · exact ⟨3, by decide, rfl⟩
      · exact ⟨5, by decide, rfl⟩
      · exact ⟨7, by decide, rfl⟩
      · exact ⟨9, by decide, rfl⟩
      · exact ⟨11, by decide, rfl⟩
      · exact ⟨15, by decide, rfl⟩
      · exact ⟨17, by decide, rfl⟩
    refine ⟨p1, _, _, _, rfl, rfl, .of e2, hap2, ?_⟩
    have sm2 : Sm W H H2 := (s1.new n1).trans s2
    -- base
    refine ⟨⟨_, rfl⟩, 7, rfl, by decide, by decide, fun L nL => ?_⟩
    refine lc_it (walk_range (lo := 0) (n := (7 : Int).toNat)) (fun i H' => ∃ cs : List Nat, H' L = some (.lst (cs.map fun c => V.str (S [c]))) ∧ cs.length = i ∧ (∀ c ∈ cs, 97 ≤ c ∧ c ≤ 122) ∧ Sm W H2 H' ∧ WellAt (n + 2 + (7 - i)) H' W)
      ⟨[], upd_same, rfl, by simp, Sm.new .rfl' nL, w2.new nL⟩ (fun _ _ _ _ => trivial) ?_ ?_
    · rintro i x H3 H3' hi ⟨cs, eL, hcs, hc, s3, w3⟩ ⟨rfl, rfl⟩
      have hi7 : i < 7 := hi
      refine ⟨rfl, ?_⟩
      refine ⟨_, rfl, _, rfl, W, 26, n + 2 + (7 - (i + 1)), rfl, by decide, by decide, w3.mono (by omega), fun H4 c hc4 s4 w4 => ?_⟩
      have LW : L ≠ W := (w2.ne nL).symm
      refine ⟨_, _, _, rfl, rfl, abc_len, abc_at hc4, _, s4 _ _ LW eL, ?_, cs ++ [97 + c], ?_, ?_, ?_, ?_, ?_⟩
      · rw [List.length_map, hcs]
        exact Nat.lt_trans hi7 (by decide)
      · rw [upd_same, List.map_append]
        rfl
      · rw [List.length_append, hcs]
        rfl
      · intro x hx
        rcases List.mem_append.mp hx with hx | hx
        · exact hc x hx
        · rw [List.mem_singleton.mp hx]
          omega
      · exact (s3.trans s4).mut nL
      · exact w4.upd LW.symm
    · rintro H3 ⟨cs, eL, hcs, hc, s3, w3⟩
      refine ⟨_, L, cs.map (fun c => S [c]), rfl, rfl, .inl (.of (by rw [eL, List.map_map]; rfl)), ?_, ?_⟩
      · have e7 : cs.length = 7 := hcs
        rw [List.length_map, sum_signs, e7, len_empty]
        decide
      rw [join_signs]
      have sm3 : Sm W H H3 := sm2.trans s3
      have hcs7 : cs.length = 7 := hcs
      have w3' : WellAt (n + 2) H3 W := w3.mono (by omega)
      -- spot, more
      refine ⟨_, rfl, W, 8, n + 1, rfl, by decide, by decide, w3', fun H4 sp hsp s4 w4 => ?_⟩
      refine ⟨_, rfl, _, rfl, _, _, rfl, rfl, W, 8 - sp, n, ?_, by omega, by omega, w4, fun H5 mo hmo s5 w5 => ?_⟩
      · show [V.ref W, V.int (8 - (sp : Int))] = [V.ref W, V.int ((8 - sp : Nat) : Int)]
        rw [show ((8 - sp : Nat) : Int) = 8 - (sp : Int) by omega]
      have sm5 : Sm W H H5 := (sm3.trans s4).trans s5
      -- found = []
      refine ⟨by decide, fun p np => ?_⟩
      have npH : H p = none := sm5.free hW np ⟨n, w5⟩
      have pW : p ≠ W := (w5.ne np).symm
      refine ⟨_, rfl, (t : Int), rfl, by omega, by omega, ?_⟩
      rw [show ((t : Int)).toNat = t by omega]
      refine for_range (lo := 0) (n := t) (fun i σ H' => ∃ v1 v2 : Option V, σ = [some (.ref W), some (.int t), some (.str abc), some (.int bg), some (.int ap), some (.str (S cs)), some (.int sp), some (.int mo), some (.ref p), v1, v2] ∧
          H' p = some (.lst (((List.range i).map (nmOf cs sp mo bg ap)).map V.str)) ∧ Sm W H5 H' ∧ WellAt n H' W)
        ⟨none, none, rfl, upd_same, Sm.new .rfl' np, w5.new np⟩ ?_ ?_
      · rintro i σ H6 hi ⟨v1, v2, rfl, e6, s6, w6⟩
        have hm : (bg + ap * i) % 26 < 26 := Nat.mod_lt _ (by decide)
        have ez : ((bg : Int) + (ap : Int) * (0 + (i : Int))) % 26 = (((bg + ap * i) % 26 : Nat) : Int) := by
          rw [Int.zero_add]
          omega
        have hap17 : ap ≤ 17 := by
          simp only [List.mem_cons, List.not_mem_nil, or_false] at hap
          omega
        refine ⟨_, rfl, _, rfl, _, rfl, _, rfl, _, _, rfl, rfl, .inl ⟨by omega, by omega⟩, _, _, rfl, rfl, _, _, rfl, rfl, by walk_at "z", ?_⟩
        refine ⟨_, _, _, rfl, rfl, abc_len, by rw [ez]; exact abc_at hm, ?_⟩
        have hcut1 : (cutS (S cs) none (some (sp : Int))) = S (cs.take sp) := by
          rw [cutS_S, hcs7, HT.sIx_none, HT.sIx_nat, List.drop_zero, Nat.min_eq_left (by omega), Nat.sub_zero]
        have hcut2 : (cutS (S cs) (some (sp : Int)) (some ((sp : Int) + (mo : Int)))) = S ((cs.drop sp).take mo) := by
          rw [show ((sp : Int) + (mo : Int)) = ((sp + mo : Nat) : Int) by omega, cutS_S, hcs7, HT.sIx_nat, HT.sIx_nat, Nat.min_eq_left (by omega), Nat.min_eq_left (by omega), Nat.add_sub_cancel_left]
        have hl7 : (S cs).length ≤ sizeLine := by rw [S_len, hcs7]; decide
        have hL : ∀ m : List Nat, m.length ≤ 100 → m.length ≤ sizeLine := fun m h => Nat.le_trans h (by decide)
        refine ⟨_, rfl, .inl ⟨rfl, _, .inl (.inl e6)⟩, _, rfl, _, rfl, _, rfl, _, rfl, hl7, _, rfl, _, _, rfl, rfl, ?_, _, rfl, _, rfl, _, rfl, _, rfl, _, rfl, _, _, rfl, rfl, _, rfl, _, rfl, hl7, _, _, rfl, rfl, ?_, _, _, _, rfl, rfl, e6, ?_, _, _, rfl, ?_, ?_, ?_⟩
        · rw [hcut1, S_len]
          refine line100 ?_
          have : (cs.take sp).length ≤ 7 := by rw [List.length_take, hcs7]; omega
          show _ + 1 ≤ 1000
          omega
        · rw [hcut1, hcut2, sapp_len, S_len, S_len]
          refine line100 ?_
          have h1 : (cs.take sp).length ≤ 7 := by rw [List.length_take, hcs7]; omega
          have h2 : ((cs.drop sp).take mo).length ≤ 7 := by rw [List.length_take, List.length_drop, hcs7]; omega
          show _ + 1 + _ ≤ 1000
          omega
        · rw [List.length_map, List.length_map, List.length_range]
          exact line100' (by omega)
        · rw [upd_same, hcut1, hcut2, List.range_succ, List.map_append, List.map_append]
          have : S (cs.take sp) ++ (⟨#[97 + (bg + ap * i) % 26]⟩ : Str) ++ S ((cs.drop sp).take mo) = nmOf cs sp mo bg ap i := by
            show S (cs.take sp) ++ S [97 + (bg + ap * i) % 26] ++ S ((cs.drop sp).take mo) = _
            rw [S_app, S_app]
            unfold nmOf
            rw [List.append_assoc]
            rfl
          rw [this]
          rfl
        · exact s6.mut np
        · exact w6.upd pW.symm
      · rintro σ H6 ⟨v1, v2, rfl, e6, s6, w6⟩
        refine ⟨_, rfl, q H6 p ((List.range t).map (nmOf cs sp mo bg ap)) (sm5.trans s6) w6 npH pW e6 (by simp) (nm_nodup hap h0) ?_⟩
        intro s hs
        obtain ⟨k, _, rfl⟩ := List.mem_map.mp hs
        exact nm_ok hcs7 hc (by omega)
end
end T01

set_option maxHeartbeats 2000000
/-! Rules of our own: != of an instance whose class has an own __eq__ alone; == of one, whatever it says. -/
namespace TY
open PySem L2 PyProof.Rows TX
section
variable {prog : Program} {w : World} {A : Around} {E : Value → Shared → Prop} {s : Shared} {K : PySem.W.Frag} {x C f : Addr} {ox : Obj} {od : Option Obj} {b tb : Value}
theorem ifBound_B {M : Model} {id : String} {name : Str} {args : List Value} {Q : Option Value → Shared → Prop} (X : K.In s.heap) (I : PySem.W.InstAt s.heap x ox C od) (hs : PySem.W.findIn K (.ref C) name = some (some (.builtin id)))
    (hb : ∀ self, bindSpecial (.builtin id) self = pure (.builtin id, [self])) (h : wpAny M A (call (.builtin id) (.ref x :: args)) (fun v => Q (some v)) E s) : wpAny M A (callSpecialIfBound? (.ref x) name args) Q E s := by
  simp only [callSpecialIfBound?, bindSpecialIfBound?]
  refine wpAny_holding (wpAny_bind (wpAny_bind (wpAny_bind (I.type.here ((PySem.W.looks_findIn X hs).here ?_)))))
  refine wpAny_bind (wpAny_askSetting (wpAny_ite ?_))
  have fin : wpAny M A (call (.builtin id) ([.ref x] ++ args) >>= fun v => pure (some v)) Q E s := wpAny_bind (wpAny_mono h (fun v s' h' => wpAny_pure h') fun _ _ h' => h')
  rw [hb]
  split
  · exact wpAny_bind (wpAny_pure (wpAny_pure (by exact fin)))
  · exact wpAny_tryCatch (wpAny_bind (wpAny_pure (wpAny_pure (by exact fin))))
theorem objNe_own (hu : A.units < cLine) (X : K.In s.heap) (I : PySem.W.InstAt s.heap x ox C od) (hs : PySem.W.findIn K (.ref C) "__eq__" = some (some (.ref f))) (hf : PySem.W.isFn K (.ref f) = true) {Q : Fin → Shared → Prop}
    (h : wpAny (model prog w) A (call (.ref f) [.ref x, b]) (fun v s' => ∃ r, v = .bool r ∧ Q (.done (.ret (.bool (!r)))) s') E s) : wpAny (model prog w) A (Builtin.«object.__ne__» ⟨[.ref x, b], []⟩) Q E s := by
  have step : ∀ {Q' : Option Value → Shared → Prop}, (∀ r s', Q (.done (.ret (.bool (!r)))) s' → Q' (some (.bool r)) s') → wpAny (model prog w) A (callSpecialIfBound? (.ref x) "__eq__" [b]) Q' E s := fun hq =>
    PySem.W.ifBound_K X I hs hf (wpAny_mono h (fun v s' ⟨r, e, q⟩ => by subst e; exact hq r s' q) fun _ _ e => e)
  unfold Builtin.«object.__ne__»
  repeat (first | with_reducible refine wpAny_cRoomFor hu ?_ | with_reducible refine step (fun r s' q => ?_) | wp_step)
  exact q
theorem looks_obj {M : Model} (X : K.In s.heap) (I : PySem.W.InstAt s.heap x ox C od) (hm : PySem.W.mroIn K C (.type "object") = some true) : PySem.W.Looks M s.heap (isInstance (.ref x) (.type "object")) true := I.type.andThen (PySem.W.looks_mroIn X hm)
/-- x != b, the class having an own __eq__ alone -/
theorem ne_own {Q : Value → Shared → Prop} (hu : A.units + 1 < cLine) (X : K.In s.heap) (I : PySem.W.InstAt s.heap x ox C od) (hm : PySem.W.mroIn K C (.type "object") = some true) (hb : PySem.W.Looks (model prog w) s.heap (typeOf b) tb) (hn : PySem.W.notFirst K C tb = true)
    (hne : PySem.W.findIn K (.ref C) "__ne__" = some (some (.builtin "object.__ne__"))) (hs : PySem.W.findIn K (.ref C) "__eq__" = some (some (.ref f))) (hf : PySem.W.isFn K (.ref f) = true)
    (h : wpAny (model prog w) A.in1 (call (.ref f) [.ref x, b]) (fun v s' => ∃ r, v = .bool r ∧ Q (.bool (!r)) s') E s) : wpAny (model prog w) A (richCompare .NotEq (.ref x) b) Q E s := by
  have one : wpAny (model prog w) A (tryCompare (.ref x) (cmpInfo .NotEq).2.1 b) (fun r s' => ∃ v, r = some v ∧ Q v s') E s := by
    unfold tryCompare
    refine wpAny_bind (ifBound_B X I hne F.slot_tuple_iterator_ne.bind (wpAny_call (codeAny_call_builtin F.slot_tuple_iterator_ne.plain F.cmpEntry_ne ?_)))
    refine @PySem.W.check_slot (model prog w) _ _ s "object.__ne__" "object" "__ne__" (.ref x) [b] [] _ F.cmpKind_ne F.cmpSplit_ne (looks_obj X I hm) (F.cmpArgs_ne _ _) ?_
    refine objNe_own (by show A.in1.units < cLine; have : A.in1.units = A.units + 1 := rfl; omega) X I hs hf (wpAny_mono h (fun v s' ⟨r, e, q⟩ => ⟨r, e, ?_⟩) fun _ _ e => e)
    exact wpAny_pure ⟨_, rfl, q⟩
  unfold richCompare
  simp only [oneThing_ref]
  refine wpAny_holding (wpAny_bind (wpAny_cRoomFor (Nat.lt_of_succ_lt hu) ?_))
  refine wpAny_bind (I.type.here (wpAny_bind (hb.here ?_)))
  split
  · rename_i q
    have e : PySem.W.subIn K tb (.ref C) = some false := by
      rcases Bool.or_eq_true_iff.mp hn with e | e
      · rw [beq_iff_eq.mp e] at q; simp at q
      · exact beq_iff_eq.mp e
    refine wpAny_bind ((PySem.W.looks_subIn X e).here ?_)
    simp only [Bool.false_eq_true, if_false]
    refine wpAny_bind (wpAny_mono one (fun r s' z => ?_) fun _ _ e => e)
    obtain ⟨v, rfl, hq⟩ := z
    exact wpAny_pure hq
  · refine wpAny_bind (wpAny_pure ?_)
    simp only [Bool.false_eq_true, if_false]
    refine wpAny_bind (wpAny_mono one (fun r s' z => ?_) fun _ _ e => e)
    obtain ⟨v, rfl, hq⟩ := z
    exact wpAny_pure hq
end
/-! ### as expressions -/
section
variable {X : Cx} {CX : CXT} {n : Nat} {C f : Addr} {fd : FuncData} {ps : List Str} {sp : Sp} {E : XK}
/-- x == y and x != y by an own __eq__ -/
def rOwnEq (K : PySem.W.Frag) (C : Addr) (sp : Sp) (E : XK) (neg : Bool) : R2 := fun x y H Q => ∃ (a dx : Addr) (fs : List (Str × V)) (t : Value), x = .ref a ∧ H a = some (.ins C dx fs) ∧ TyX K H y t ∧ PySem.W.notFirst K C t = true ∧
  sp [x, y] H (fun v H' => ∃ r, v = .bl r ∧ Q (.bl (if neg = true then !r else r)) H') E
theorem run_own {A : Around} {pins : List (Addr × Obj)} {s : Shared} {σ : L2.St} {H : Hp} {x y : V} {v u : Value} {Q : VK} (F : FnOk X.prog X.w X.K X.mg X.base CX n f fd ps sp) (hb : Binds X.K fd ps []) (hx : Passes CX X E) (hr : Room n A) (hf : A.frames = X.A.frames)
    (I : Inv X pins σ H s) (rx : RelV x v) (ry : RelV y u) (h : sp [x, y] H Q E) : wpAny (model X.prog X.w) A (call (.ref f) [v, u]) (EP X pins σ Q) X.xe s := by
  have e0 : Env0 X.prog X.w X.K X.mg X.base A X.stack s H := by
    have e := I.env0
    exact ⟨by rw [hf]; exact e.frames, e.mod, e.bs, e.bsz, e.funs, e.frf, e.hok, e.bare⟩
  have hl := F.len _ _ _ _ h
  have r2 : Vals [x, y] [v, u] := .cons rx (.cons ry .nil)
  refine wpAny_call (codeAny_mono (F.run A X.stack s H ⟨[v, u], []⟩ [v, u] [x, y] _ E hr e0 (by
    have := hb s [v, u] I.kIn (by simpa using hl)
    simpa using this) r2 h) fun r s' hq => ?_)
  cases r with
  | error e => exact hx pins σ H s e s' I hq
  | ok fl =>
    cases fl with
    | ret w => exact I.after hq
    | next => exact False.elim hq
    | brk => exact False.elim hq
    | cont => exact False.elim hq
theorem op_eqOwn (F : FnOk X.prog X.w X.K X.mg X.base CX n f fd ps sp) (hs : PySem.W.findIn X.K (.ref C) "__eq__" = some (some (.ref f))) (hf : PySem.W.isFn X.K (.ref f) = true) (hb : Binds X.K fd ps []) (hx : Passes CX X E) (hr : Room n X.A) :
    OpR X (compareOp .Eq) (rOwnEq X.K C sp E false) := by
  intro pins s σ H x y v u Q I rx ry h
  obtain ⟨a, dx, fs, t, rfl, ha, ty, hn, q⟩ := h
  cases (show v = Value.ref a from rx)
  obtain ⟨mA, J, _⟩ := ins_get I.hok ha
  obtain ⟨od, J, _⟩ := J.look
  obtain ⟨P, Z, p, _⟩ := kit_of I ry ty
  obtain ⟨m, hF⟩ := I.fr
  refine PySem.W.cmp_ofEq (PySem.W.cmp_K (op := .Eq) (tb := t) hr.units0 hF I.ok.mod.kin J (Z.ty _ _ I.kIn p) hn hs hf ?_)
  refine wpAny_mono (run_own F hb hx hr rfl I rx ry q) (fun w s' z => ?_) fun _ _ e => e
  obtain ⟨z', H', I', rz, r, ez, qz⟩ := z
  subst ez
  cases (show w = Value.bool r from rz)
  exact ⟨.bl r, H', I', rfl, qz⟩
theorem op_neOwn (F : FnOk X.prog X.w X.K X.mg X.base CX n f fd ps sp) (hm : PySem.W.mroIn X.K C (.type "object") = some true) (hne : PySem.W.findIn X.K (.ref C) "__ne__" = some (some (.builtin "object.__ne__")))
    (hs : PySem.W.findIn X.K (.ref C) "__eq__" = some (some (.ref f))) (hf : PySem.W.isFn X.K (.ref f) = true) (hb : Binds X.K fd ps []) (hx : Passes CX X E) (hr : Room (n + 1) X.A) : OpR X (compareOp .NotEq) (rOwnEq X.K C sp E true) := by
  intro pins s σ H x y v u Q I rx ry h
  obtain ⟨a, dx, fs, t, rfl, ha, ty, hn, q⟩ := h
  cases (show v = Value.ref a from rx)
  obtain ⟨mA, J, _⟩ := ins_get I.hok ha
  obtain ⟨od, J, _⟩ := J.look
  obtain ⟨P, Z, p, _⟩ := kit_of I ry ty
  have hr1 : Room n X.A.in1 := hr.in1
  have hu : X.A.units + 1 < cLine := by
    have := hr1.units0
    exact this
  refine PySem.W.cmp_ofNotEq (ne_own hu I.kIn J hm (Z.ty _ _ I.kIn p) hn hne hs hf ?_)
  refine wpAny_mono (run_own F hb hx hr1 rfl I rx ry q) (fun w s' z => ?_) fun _ _ e => e
  obtain ⟨z', H', I', rz, r, ez, qz⟩ := z
  subst ez
  cases (show w = Value.bool r from rz)
  exact ⟨r, rfl, .bl (!r), H', I', rfl, qz⟩
end
end TY

set_option maxHeartbeats 4000000
/-! A rule of our own: len(set(xs)) of texts, some alike or not. -/
namespace TUD
open PySem PySem.Spec PyProof.Rows SS
section
variable {prog : Program} {w : World} {A : Around} {R : Result → Shared → Prop} {I : Addr} {fp wr : List Addr} {G : Array GenState → Array GenState → Prop} {n : Nat} {P : Nat → Value → Prop} {St : Nat → Shared → Prop}
/-- the texts met ahead of the i-th -/
def met (ks : Nat → Str) (i : Nat) (k : Str) : Bool := ((List.range i).map ks).any (· == k)
/-- how many unlike ones ahead of the i-th -/
def cnt (ks : Nat → Str) : Nat → Nat
  | 0 => 0
  | i + 1 => if met ks i (ks i) = true then cnt ks i else cnt ks i + 1
theorem cnt_le (ks : Nat → Str) : ∀ i, cnt ks i ≤ i
  | 0 => Nat.le_refl _
  | i + 1 => by
    have := cnt_le ks i
    unfold cnt
    split <;> omega
theorem met_new {ks : Nat → Str} {i : Nat} (hd : ∀ j, j < i → ks j ≠ ks i) : met ks i (ks i) = false := by
  unfold met
  rw [List.any_eq_false]
  intro y hy
  obtain ⟨j, hj, rfl⟩ := List.mem_map.mp hy
  simpa using hd j (List.mem_range.mp hj)
theorem met_next {ks : Nat → Str} {i : Nat} (k : Str) : (met ks i k || decide (k = ks i)) = met ks (i + 1) k := by
  unfold met
  rw [List.range_succ, List.map_append, List.any_append]
  have e : decide (k = ks i) = ([i].map ks).any (· == k) := by
    by_cases h : k = ks i
    · rw [decide_eq_true h, h]
      simp
    · rw [decide_eq_false h]
      have : (ks i == k) = false := by simpa using fun z => h z.symm
      simp [this]
  rw [e]
theorem loopD (Wk : WalksS prog w A.in1 I fp wr G n P St) (S : Addr) (nS : S ∉ fp) (ks : Nat → Str) (hb : n + 1 < scanBound) (hv : ∀ i v, P i v → ∃ t, v = .str (ks i) t) :
    ∀ (m i : Nat) (s : Shared), n - i = m → i ≤ n → St i s → s.heap.SetOf (PySem.strKind prog w) S (met ks i) (cnt ks i) →
      (∀ s', Moved (S :: wr) G s s' → s'.heap.SetOf (PySem.strKind prog w) S (met ks n) (cnt ks n) → R (.ok (.ret .none)) s') → codeAny (model prog w) A (.builtin "set.update.loop" ⟨[.ref S, .ref I], []⟩) R s := by
  have nW : S ∉ wr := fun z => nS (Wk.sub _ z)
  have up : ∀ b ∈ wr, b ∈ S :: wr := fun b z => List.mem_cons_of_mem _ z
  have keep : ∀ {s s' : Shared} {i : Nat}, Moved wr G s s' → s.heap.SetOf (PySem.strKind prog w) S (met ks i) (cnt ks i) → s'.heap.SetOf (PySem.strKind prog w) S (met ks i) (cnt ks i) := fun mv h => by
    obtain ⟨o, es, ep, t, ho, r⟩ := h
    exact ⟨o, es, ep, t, mv.heap S _ nW ho, r⟩
  intro m
  induction m with
  | zero =>
    intro i s hm hi hst hS hR
    obtain rfl : i = n := by omega
    refine codeAny_builtin PyProof.Rows.F.entry_set_update_loop ?_
    rw [Around.under_plainId PyProof.Rows.F.plain_set_update_loop _]
    show wpAny _ A.in1 (pyNext (.ref I) >>= _) _ _ s
    refine wpAny_bind (Wk.done s _ _ hst fun s' mv => ?_)
    show wpAny _ A.in1 (ret Value.none) _ _ s'
    exact wpAny_pure (hR s' (mv.mono up) (keep mv hS))
  | succ m ih =>
    intro i s hm hi hst hS hR
    have hlt : i < n := by omega
    refine codeAny_builtin PyProof.Rows.F.entry_set_update_loop ?_
    rw [Around.under_plainId PyProof.Rows.F.plain_set_update_loop _]
    show wpAny _ A.in1 (pyNext (.ref I) >>= _) _ _ s
    refine wpAny_bind (Wk.item i s _ _ hlt hst fun v s' hP hst' mv => ?_)
    obtain ⟨t, rfl⟩ := hv i v hP
    have h1 := keep mv hS
    show wpAny _ A.in1 (holding [Value.str (ks i) t] (setAdd S (.str (ks i) t)) >>= _) _ _ s'
    refine wpAny_bind (wpAny_holding ?_)
    unfold setAdd
    refine wpAny_holding ?_
    refine wpAny_bind ((PySem.strKind prog w).pyHash (k := ks i) (strKind_is _ _ _ _) ?_)
    refine wpAny_setAddHashed_of (knd := PySem.strKind prog w) (s := { s' with toks := s'.toks + 1 }) (strKind_is _ _ _ _) rfl h1 (by have := cnt_le ks i; omega) fun h' hsb h2 => ?_
    have h3 : h'.SetOf (PySem.strKind prog w) S (met ks (i + 1)) (cnt ks (i + 1)) := SetOf_congr h2 (fun k => met_next k) rfl
    refine wpAny_pure ⟨plainId_quiet PyProof.Rows.F.plain_set_update_loop _, ih (i + 1) _ (by omega) hlt (Wk.frame _ s' _ _ hst' (Nat.le_succ _) fun b hb o e => ?_) h3 fun s2 m2 h4 => ?_⟩
    · exact (hsb.2 b fun z => nS (z ▸ hb)).trans e
    · exact hR s2 (Moved.trans Wk.gtrans ((mv.mono up).then_heap (Nat.le_succ _) fun b o hb e => (hsb.2 b fun z => hb (by rw [z]; exact List.mem_cons_self)).trans e) m2) h4
end
section
variable {prog : Program} {w : World} {A : Around} {E : Value → Shared → Prop} {s : Shared}
/-- a set that was just begun -/
abbrev bare (led : Bool) : Obj := { cls := .type "set", dict := none, data := .set #[] 0 (.fresh 0 0 led) }
set_option maxHeartbeats 3200000 in
theorem set_texts {l : Addr} {items : Array Value} {xs : List Str} {Q : Value → Shared → Prop} (hh : A.handled = none) (hl : s.heap.IsList l items) (hi : PyProof.Rows.StrsAre items.toList xs) (h64 : xs.length < 64)
    (h : ∀ (h' : Heap) (tk : Nat), h'.SetOf (PySem.strKind prog w) s.heap.objs.size (met (fun i => xs.getD i Str.empty) items.size) (cnt (fun i => xs.getD i Str.empty) items.size) → (∀ b o, b < s.heap.objs.size → s.heap.get? b = some o → h'.get? b = some o) → Q (.ref s.heap.objs.size) { s with heap := h', toks := tk }) :
    wpAny (model prog w) A (call (.type "set") [.ref l]) Q E s := by
  obtain ⟨c, tl, hmro⟩ := PySem.F.called_set.mro
  have g1 := PySem.F.called_set.made
  have g2 := PySem.F.called_set.sub
  have g3 := PySem.F.called_set.notType
  have g4 := PySem.F.called_set.canCreate
  have g5 := PySem.F.typeCall_set_1 (.ref l)
  refine wpAny_call (codeAny_of_tree ?_)
  show wpAny _ _ (callAny (.type "set") _) _ _ _
  refine wpAny_pure ⟨Code.quiet_builtin _ (by decide +kernel), codeAny_builtin PySem.F.entry_type_call ?_⟩
  rw [Around.under_plain (weight_type_call_type "set" [.ref l] []) rfl]
  repeat (any_goals (first | assumption | wp_step))
  refine codeAny_mono (code_set_new_1 (.ref l) (E := E) (Q₁ := fun u s1 => ∃ led : Bool, u = .ref s.heap.objs.size ∧ s1 = { s with heap := s.heap.push (bare led) }) fun led => ⟨led, rfl, rfl⟩) fun r s1 hr => ?_
  cases r with
  | error e => exact hr
  | ok fl =>
   cases fl with
   | ret u =>
    obtain ⟨led, rfl, rfl⟩ := hr
    have at0 : (s.heap.push (bare led)).get? s.heap.objs.size = some (bare led) := Heap.get?_push_size _ rfl
    have ty0 : Shared.TypeIs { s with heap := s.heap.push (bare led) } (.ref s.heap.objs.size) "set" := ⟨_, at0, rfl⟩
    have g6 := PySem.F.called_set.init.lookup
    have g7 := PySem.F.called_set.init.bind (.ref s.heap.objs.size)
    repeat (any_goals (first | assumption | wp_step))
    refine codeAny_mono (codeAny_call_builtin (R := wants (fun r s2 => r = .none ∧ ∃ h' tk, s2 = { s with heap := h', toks := tk } ∧ h'.SetOf (PySem.strKind prog w) s.heap.objs.size (met (fun i => xs.getD i Str.empty) items.size) (cnt (fun i => xs.getD i Str.empty) items.size) ∧
        (∀ b o, b < s.heap.objs.size → s.heap.get? b = some o → h'.get? b = some o)) E) PySem.F.called_set.init.plain PySem.F.entry_set_init (check_set_init_1 ty0 ?_)) fun r2 s2 hr2 => ?_
    · obtain ⟨ol, hol, hcl, nl, hdl⟩ := hl
      obtain ⟨oc, od, odata, osl⟩ := ol
      simp only at hcl hdl
      subst hcl hdl
      have at1 : (s.heap.push (bare led)).get? l = some { cls := .type "list", dict := od, data := .seq items nl, slots := osl } := Heap.get?_push_of_some _ hol
      have g8 := PySem.F.sub_list_set
      have g9 := PySem.F.sub_list_frozenset
      have g10 : (Value.type "list" == Value.type "dict") = false := by decide
      have il : (s.heap.push (bare led)).IsList l items := ⟨_, at1, rfl, nl, rfl⟩
      unfold Builtin.«set.__init__» noKeywords Builtin.Frozenset.updateFrom
      generalize hPI : pyIter = PI
      wp_walk
      subst hPI
      refine wpAny_pyIter_list il ?_
      refine wpAny_bind (wpAny_runValue ?_)
      have lS : l < s.heap.objs.size := Heap.lt_size hol
      have sz : (s.heap.push (bare led)).objs.size = s.heap.objs.size + 1 := Heap.size_push _ _
      have hn3 : A.in1.in1.in1.handled = none := by simp [hh]
      have lI : l ≠ (s.heap.push (bare led)).objs.size := by
        rw [sz]
        exact Nat.ne_of_lt (Nat.lt_succ_of_lt lS)
      have nS : s.heap.objs.size ∉ [(s.heap.push (bare led)).objs.size, l] := by
        rw [sz]
        simp only [List.mem_cons, List.not_mem_nil, or_false, not_or]
        exact ⟨Nat.ne_of_lt (Nat.lt_succ_self _), Nat.ne_of_gt lS⟩
      have hsz : xs.length = items.size := by rw [← StrsAre.len_eq hi, Array.length_toList]
      have hv : ∀ (i : Nat) (v : Value), items[i]? = some v → ∃ t, v = .str (xs.getD i Str.empty) t := fun i v e => strs_at hi i v (by rw [Array.getElem?_toList]; exact e)
      refine loopD ((Walks.list hn3 _ l lI items).toS) s.heap.objs.size nS (fun i => xs.getD i Str.empty) (by unfold scanBound; omega) hv (items.size - 0) 0 _ (by omega) (Nat.zero_le _) ⟨⟨_, Heap.get?_push_size _ rfl, rfl, rfl⟩, (il.push _)⟩ ?begun ?ended
      case begun =>
        have at2 : ((s.heap.push (bare led)).push { cls := .type "list_iterator", data := .fields #[.ref l, .int 0 0] }).get? s.heap.objs.size = some (bare led) := Heap.get?_push_of_some _ at0
        exact PyProof.Rows.SetOf_congr ((PyProof.Rows.setObjOf_fresh (knd := PySem.strKind prog w) led).setOf at2 (by unfold scanBound; omega)) (fun _ => rfl) rfl
      case ended =>
        intro s3 mv hS3
        obtain ⟨h', g', d', tk', os'⟩ := s3
        obtain rfl : g' = s.gens := mv.gens
        obtain rfl : d' = s.drawn := mv.drawn
        obtain rfl : os' = s.os := mv.os
        show wpAny _ _ _ _ _ _
        refine wpAny_pure ?_
        show wpAny _ _ (ret Value.none) _ _ _
        refine wpAny_pure ⟨rfl, h', tk', rfl, hS3, fun b o hb e => ?_⟩
        refine mv.heap b o ?_ (Heap.get?_push_of_some _ (Heap.get?_push_of_some _ e))
        rw [sz]
        simp only [List.mem_cons, List.not_mem_nil, or_false, not_or]
        exact ⟨Nat.ne_of_lt hb, Nat.ne_of_lt (Nat.lt_succ_of_lt hb)⟩
    · cases r2 with
      | error e => exact hr2
      | ok f2 =>
        cases f2 with
        | ret r =>
          obtain ⟨rfl, h', tk, rfl, h1, h2⟩ := hr2
          repeat (any_goals (first | assumption | wp_step))
          exact h _ _ h1 h2
        | _ => exact hr2.elim
   | _ => exact hr.elim
end
end TUD

set_option maxHeartbeats 2000000
namespace TUD
open PySem L2 PyProof.Rows TX TY
/-- how many unlike texts -/
def unl (xs : List Str) : Nat := cnt (fun i => xs.getD i Str.empty) xs.length
theorem met_old {ks : Nat → Str} {i : Nat} : met ks i (ks i) = true ↔ ∃ j, j < i ∧ ks j = ks i := by
  unfold met
  rw [List.any_eq_true]
  constructor
  · rintro ⟨y, hy, e⟩
    obtain ⟨j, hj, rfl⟩ := List.mem_map.mp hy
    exact ⟨j, List.mem_range.mp hj, by simpa using e⟩
  · rintro ⟨j, hj, e⟩
    exact ⟨ks j, List.mem_map.mpr ⟨j, List.mem_range.mpr hj, rfl⟩, by simpa using e⟩
theorem cnt_eq {ks : Nat → Str} : ∀ {i : Nat}, cnt ks i = i ↔ ∀ b, b < i → ∀ a, a < b → ks a ≠ ks b
  | 0 => ⟨fun _ b hb => absurd hb (Nat.not_lt_zero _), fun _ => rfl⟩
  | i + 1 => by
    have ih := cnt_eq (ks := ks) (i := i)
    have le := cnt_le ks i
    unfold cnt
    constructor
    · intro h b hb a ha e
      split at h
      · omega
      · rename_i hm
        have h' : cnt ks i = i := by omega
        by_cases hbi : b = i
        · subst hbi
          exact hm (met_old.mpr ⟨a, ha, e⟩)
        · exact ih.mp h' b (by omega) a ha e
    · intro h
      have h1 := ih.mpr fun b hb a ha => h b (by omega) a ha
      rw [if_neg]
      · omega
      · intro z
        obtain ⟨j, hj, e⟩ := met_old.mp z
        exact h i (Nat.lt_succ_self _) j hj e
theorem unl_eq {xs : List Str} : unl xs = xs.length ↔ xs.Nodup := by
  unfold unl
  rw [cnt_eq]
  constructor
  · intro h
    rw [List.nodup_iff_pairwise_ne, List.pairwise_iff_getElem]
    intro i j hi hj hij e
    refine h j hj i hij ?_
    rw [List.getD_eq_getElem?_getD, List.getD_eq_getElem?_getD, List.getElem?_eq_getElem hi, List.getElem?_eq_getElem hj]
    exact e
  · intro h b hb a ha e
    have ha' : a < xs.length := by omega
    rw [List.getD_eq_getElem?_getD, List.getD_eq_getElem?_getD, List.getElem?_eq_getElem ha', List.getElem?_eq_getElem hb] at e
    have := (List.getElem_inj h).mp e
    omega
section
variable {X : Cx}
/-- len(set(xs)), xs texts -/
def tLenD (K : PySem.W.Frag) (ta : TE) : TE := fun σ H Q => ta σ H fun x H1 => ∃ (l : Addr) (xs : List Str), x = .ref l ∧ SqL K H1 l (xs.map V.str) ∧ xs.length < 64 ∧ Q (.int (unl xs)) H1
theorem vals_strs : ∀ {xs : List Str} {us : List Value}, Vals (xs.map V.str) us → StrsAre us xs
  | [], _, h => by
    cases h
    exact .nil
  | x :: r, _, h => by
    cases h with
    | cons h t =>
      obtain ⟨k, e⟩ := (show ∃ k, _ = Value.str x k from h)
      subst e
      exact .cons x k (vals_strs t)
theorem pe_lenD {a : Expr} {ta : TE} {p p2 q pos : Pos} (hc : X.calm = true) (hg : Gl X "len") (hm : X.mg "len" = none) (hg2 : Gl X "set") (hm2 : X.mg "set" = none) (ha : PE X a ta)
    (na : starEach [a] X.env = (false, eval a X.env) :: starEach [] X.env := by rfl) : PE X (.Call (.Name "len" p) [.Call (.Name "set" p2) [a] [] q] [] pos) (tLenD X.K ta) := by
  refine ⟨fun pins s σ H Q I h => ?_⟩
  refine Call_ (ld_blt I hg hm boot_len (PyProof.Rows.callWith_builtin1 (PyProof.Rows.args_cons ?_ rfl) rfl rfl))
  refine Call_ (ld_blt I hg2 hm2 boot_set (PyProof.Rows.callWith_type1 (PyProof.Rows.args_cons (thn (ha.run pins s σ H _ I h) fun v s1 ⟨x, H1, I1, r1, q1⟩ => PyProof.Rows.args_nil ?_) na) na rfl))
  obtain ⟨l, xs, rfl, hq, h64, q2⟩ := q1
  cases r1
  obtain ⟨its, r, pl, hz⟩ := I1.list hq
  have hl : its.toArray.size = xs.length := by rw [List.size_toArray, ← r.length, List.length_map]
  refine set_texts (I1.ok.hd hc) pl.isList (by simpa using vals_strs r) h64 fun h' tk hS hk => ?_
  refine PyProof.Rows.args_nil ?_
  rw [hl] at hS
  have hle := cnt_le (fun i => xs.getD i Str.empty) xs.length
  obtain ⟨o, es, ep, t, ho, hex, hd', _, _, _, hf, hn⟩ := hS
  have I2 : Inv X pins σ H1 { s1 with heap := h', toks := tk } := I1.kept fun b o e => hk b o (Heap.lt_size e) e
  exact call_len_set ho hex hd' hf (by rw [hn]; omega) ⟨.int (unl xs), H1, I2.tok _, ⟨_, by rw [hn]; rfl⟩, q2⟩
end
end TUD

set_option maxHeartbeats 1000000
/-! Refusals with a field of their own: made, raised, caught. -/
namespace TE
open PySem L2 PyProof.Rows TX TY
/-- an own class over ValueError, read off the written part -/
def oexB (K : PySem.W.Frag) (C : Addr) : Bool := match K.lookup C with
  | some ⟨.type "type", _, .cls cd, sl⟩ => (match cd.mro, sl.toList with
    | .ref D :: bm, [_, _, _, _, some (.builtin n), _] => D == C && (n == "ValueError.__new__" && (!cd.hasDel && (cd.hasDict && PySem.HandSPX.refsVE bm)))
    | _, _ => false)
  | _ => false
theorem oexB_ok {K : PySem.W.Frag} {C : Addr} (q : oexB K C = true) : ∃ nm q N bs bm sn sub ab col dd k0 k1 k2 k3 k5, K.lookup C = some (excClassObj nm q C N bs bm true sn sub ab col dd k0 k1 k2 k3 k5 "ValueError.__new__") ∧ PySem.HandSPX.refsVE bm = true := by
  unfold oexB at q
  split at q
  · rename_i dd cd sl ho
    split at q
    · rename_i D bm k0 k1 k2 k3 n k5 hm hs
      simp only [Bool.and_eq_true, beq_iff_eq, Bool.not_eq_true'] at q
      obtain ⟨rfl, rfl, hdel, hdict, ht⟩ := q
      obtain ⟨nm, bs, mro, ns, qn, hd, sn, sub, ab, col, del⟩ := cd
      dsimp only at hm hdel hdict
      subst hm hdel hdict
      have hsl : sl = #[k0, k1, k2, k3, some (.builtin "ValueError.__new__"), k5] := by
        obtain ⟨l⟩ := sl
        simp only at hs
        rw [hs]
      subst hsl
      exact ⟨nm, qn, ns, bs, bm, sn, sub, ab, col, dd, k0, k1, k2, k3, k5, ho, ht⟩
    · cases q
  · cases q
section
variable {K : PySem.W.Frag} {mg : Str → Option Value}
/-- a class that is raised, with its own field -/
structure Nt (K : PySem.W.Frag) (mg : Str → Option Value) (x fld qual : Str) (st : Stmt) (Ct fi : Addr) (di : FuncData) : Prop where
  T : OexC K Ct
  i : PySem.W.findIn K (.ref Ct) "__init__" = some (some (.ref fi))
  t : PySem.W.typeIn K (.ref fi) = some (.type "function")
  F : Fun K "__init__" qual st fi di
  b : Binds K di ["self", fld] []
  g : mg x = some (.ref Ct)
  no : PySem.W.findIn K (.ref Ct) fld = some none
def sp_efld (C : Addr) (fld : Str) : Sp := fun vs H Q _ => ∃ (a : Addr) (v : V), vs = [.ref a, v] ∧ H a = some (exo a C none) ∧ ∀ dx, H dx = none → dx ≠ a → Q .non (upd (upd H dx (exd dx [(fld, v)])) a (exo a C (some dx)))
/-- raise C(v) -/
theorem rd_efld {C : Addr} {fld : Str} {H : Hp} {v : V} {Q : XK} (q : ∀ H' d, Same H H' → H' d = some (.xd [(fld, v)]) → Q (.ref C) (some d) H') : ∀ a, H a = none → sp_efld C fld [.ref a, v] (upd H a (exo a C none))
    (fun u H2 => u = .non ∧ ∃ (d : Addr) (fs : List (Str × V)), H2 a = some (exo a C (some d)) ∧ H2 d = some (exd d fs) ∧ H d = none ∧ Q (.ref C) (some d) (upd (del H2 a) d (.xd fs))) (fun _ _ _ => False) := by
  intro a na
  refine ⟨a, v, rfl, upd_same, fun dx nx hne => ⟨rfl, dx, [(fld, v)], upd_same, by rw [upd_ne hne, upd_same], ?_, ?_⟩⟩
  · rw [upd_ne hne] at nx
    exact nx
  · rw [upd_ne hne] at nx
    refine q _ dx (fun b o e => ?_) upd_same
    have hb1 : b ≠ dx := ne_of_none e nx
    have hb2 : b ≠ a := ne_of_none e na
    rw [upd_ne hb1, del_ne hb2, upd_ne hb2, upd_ne hb1, upd_ne hb2]
    exact e
end
end TE

set_option maxHeartbeats 1000000
/-! A rule of our own: f(k = v, ..), no argument by place. -/
namespace TK
open PySem L2 PyProof.Rows
theorem pe_callK0 {X : Cx} {CX : CXT} {k : Nat} {f : Addr} {fd : FuncData} {ps ks : List Str} {sp : Sp} {E : XK} {x : Str} {p pos : Pos} {kws : List Keyword} {tk : TA} {g : List Value → List Value → List Value} {gV : List V → List V → List V}
    (F : FnOk X.prog X.w X.K X.mg X.base CX k f fd ps sp) (hr : Room k X.A) (hg : Gl X x) (hm : X.mg x = some (.ref f)) (hk : PySem.W.keepIn X.K (.ref f) = true) (hb : KBn X.K fd ps 0 ks g gV) (hx : Passes CX X E) (hkw : PK X kws tk)
    (hall : ((backToKw pos (keywordEach kws X.env)).all (·.1.isSome)) = true := by rfl) (hks : (backToKw pos (keywordEach kws X.env)).filterMap (·.1) = ks := by rfl) (hdb : (x == Str.ofString "__debug__") = false := by decide +kernel)
    (hpl : (((backTo pos (starEach [] X.env)).any (·.1)) || (backToKw pos (keywordEach kws X.env)).any (·.1.isNone)) = false := by rfl) : PE X (.Call (.Name x p) [] kws pos) (tCallN 0 ks.length sp gV E tNil tk) :=
  ⟨fun pins s σ H Q I h => wpAny_Call_Name_kw (ld_glob I hg hm (by
    refine PySem.W.callWith_KW0 I.ok.mod.kin hk hall ?_ hpl
    refine thn (hkw.run pos pins s σ H _ I h) fun ws s2 x => ?_
    obtain ⟨zs, H2, I2, rz, l1, l2, q2⟩ := x
    refine ⟨I2.kIn, ?_⟩
    rw [hks]
    exact run_fnN F hr hb hx I2 .nil rz rfl l2 q2) hdb)⟩
theorem kbn0 {K : PySem.W.Frag} {x qual : Str} {st : Stmt} {f : Addr} {fd : FuncData} {ps ks : List Str} (F : Fun K x qual st f fd) (g : {α : Type} → List α → List α) (hrel : ∀ {zs : List V} {ws : List Value}, Vals zs ws → Vals (g zs) (g ws))
    (h : ∀ (kV doc pm : Value) (an : Option Addr) (cdv ct : Value) (ws : List Value), ws.length = ks.length → bindArgs (PySem.W.fnOf x qual (defArgs st) (defBody st) (defScope st) .none kV doc pm an cdv ct) { pos := [], kw := ks.zip ws } = pure (ps.zip (g ws))) :
    KBn K fd ps 0 ks (fun _ ws => g ws) (fun _ zs => g zs) := by
  obtain ⟨oc, od, kV, doc, pm, an, cdv, ct, osl, rfl, lk, hcd⟩ := F.ex
  refine ⟨fun s us ws hK hu hw => ?_, fun _ r => hrel r⟩
  have : us = [] := List.length_eq_zero_iff.mp hu
  subst this
  exact .of_eq (h kV doc pm an cdv ct ws hw)
theorem vals_rev {zs : List V} {ws : List Value} (h : Vals zs ws) : Vals zs.reverse ws.reverse := by
  have app : ∀ {a b : List V} {c d : List Value}, Vals a c → Vals b d → Vals (a ++ b) (c ++ d) := by
    intro a b c d h k
    induction h with
    | nil => exact k
    | cons r _ ih => exact .cons r ih
  induction h with
  | nil => exact .nil
  | cons r _ ih =>
    rw [List.reverse_cons, List.reverse_cons]
    exact app ih (.cons r .nil)
end TK

set_option maxHeartbeats 1000000
/-! Rules of our own: a method that may raise what the caller's slots say; a method called by names alone. -/
namespace TK
open PySem L2 PyProof.Rows
section
variable {X : Cx} {CX : CXT} {k : Nat} {f C : Addr} {fd : FuncData} {ps : List Str} {sp : Sp} {m : Str} {pos apos : Pos} {o : Expr} {ta : TE} {pl : Sem Bool}
def tMethE (C : Addr) (m : Str) (sp : Sp) (E : L2.St → XK) (ta : TE) (t : TA) : TE := fun σ H Q => ta σ H fun x H1 => ∃ (a dx : Addr) (fs : List (Str × V)), x = .ref a ∧ H1 a = some (.ins C dx fs) ∧ fs.lookup m = none ∧ t σ H1 fun vs H2 => sp (x :: vs) H2 Q (E σ)
theorem pe_methE {E : L2.St → XK} {e : Expr} {es : List Expr} {t : TA} (he : PE X o ta) (c : Cls X.K C) (hm : Meth X.K C m f) (F : FnOk X.prog X.w X.K X.mg X.base CX k f fd ps sp) (hr : Room k X.A) (hb : Binds X.K fd ps []) (hx : ∀ σ, PassesAt CX X σ (E σ)) (ha : PA X (e :: es) t)
    (hst : starEach (e :: es) X.env = (false, eval e X.env) :: starEach es X.env := by rfl) (hpl : (backTo pos (starEach es X.env)).any (·.1) = false := by rfl)
    (ht : eval (.Call (.Attribute o m apos) (e :: es) [] pos) X.env = (do
      let ov ← eval o X.env
      standAt apos.atName
      let (f, first) ← holding [ov] (getMethod ov m pl)
      callWith pos f first (backTo pos (starEach (e :: es) X.env)) (backToKw pos (keywordEach [] X.env))) := by rfl) : PE X (.Call (.Attribute o m apos) (e :: es) [] pos) (tMethE C m sp E ta t) := by
  refine ⟨fun pins s σ H Q I h => PySem.W.methodCall_KW (thn (he.run pins s σ H _ I h) fun u s1 x => ?_) ht⟩
  obtain ⟨x, H1, I1, rx, a, dx, fs, rfl, ea, l, q⟩ := x
  cases (show u = Value.ref a from rx)
  refine getmeth_ok I1 ea c hm l (PySem.W.callWith_K (h₀ := X.base) I.ok.mod.kin hm.kp (thn (ha.run pos pins s1 σ H1 _ I1 q) fun us s2 x => ?_) hst hpl)
  obtain ⟨vs, H2, I2, r, q2⟩ := x
  exact ⟨I2.kIn, run_fnS F hr hb (hx σ) I2 (.cons (show RelV (V.ref a) (Value.ref a) from rfl) r) q2⟩
def tMethK0 (C : Addr) (m : Str) (n : Nat) (sp : Sp) (gV : List V → List V → List V) (E : XK) (ta : TE) (tk : TA) : TE := fun σ H Q => ta σ H fun x H1 => ∃ (a dx : Addr) (fs : List (Str × V)), x = .ref a ∧ H1 a = some (.ins C dx fs) ∧ fs.lookup m = none ∧ tk σ H1 fun zs H2 => zs.length = n ∧ sp (gV [x] zs) H2 Q E
theorem pe_methK0 {E : XK} {kws : List Keyword} {ks : List Str} {tk : TA} {g : List Value → List Value → List Value} {gV : List V → List V → List V} (he : PE X o ta) (c : Cls X.K C) (hm : Meth X.K C m f) (F : FnOk X.prog X.w X.K X.mg X.base CX k f fd ps sp) (hr : Room k X.A) (hb : KBn X.K fd ps 1 ks g gV) (hx : Passes CX X E) (hkw : PK X kws tk)
    (hall : ((backToKw pos (keywordEach kws X.env)).all (·.1.isSome)) = true := by rfl) (hks : (backToKw pos (keywordEach kws X.env)).filterMap (·.1) = ks := by rfl)
    (hpl : (((backTo pos (starEach [] X.env)).any (·.1)) || (backToKw pos (keywordEach kws X.env)).any (·.1.isNone)) = false := by rfl)
    (ht : eval (.Call (.Attribute o m apos) [] kws pos) X.env = (do
      let ov ← eval o X.env
      standAt apos.atName
      let (f, first) ← holding [ov] (getMethod ov m pl)
      callWith pos f first (backTo pos (starEach [] X.env)) (backToKw pos (keywordEach kws X.env))) := by rfl) : PE X (.Call (.Attribute o m apos) [] kws pos) (tMethK0 C m ks.length sp gV E ta tk) := by
  refine ⟨fun pins s σ H Q I h => PySem.W.methodCall_KW (thn (he.run pins s σ H _ I h) fun u s1 x => ?_) ht⟩
  obtain ⟨x, H1, I1, rx, a, dx, fs, rfl, ea, l, q⟩ := x
  cases (show u = Value.ref a from rx)
  refine getmeth_ok I1 ea c hm l (PySem.W.callWith_KW0 I.ok.mod.kin hm.kp hall ?_ hpl)
  refine thn (hkw.run pos pins s1 σ H1 _ I1 q) fun ws s2 x => ?_
  obtain ⟨zs, H2, I2, rz, l2, q2⟩ := x
  refine ⟨I2.kIn, ?_⟩
  rw [hks]
  exact run_fnN F hr hb hx I2 (.cons (show RelV (V.ref a) (Value.ref a) from rfl) .nil) rz rfl l2 q2
theorem kbn1 {K : PySem.W.Frag} {x qual : Str} {st : Stmt} {f : Addr} {fd : FuncData} {ps ks : List Str} (F : Fun K x qual st f fd) (g : {α : Type} → List α → List α → List α) (hrel : ∀ {vs : List V} {us : List Value} {zs : List V} {ws : List Value}, Vals vs us → Vals zs ws → Vals (g vs zs) (g us ws)) (n : Nat)
    (h : ∀ (kV doc pm : Value) (an : Option Addr) (cdv ct : Value) (us ws : List Value), us.length = n → ws.length = ks.length → bindArgs (PySem.W.fnOf x qual (defArgs st) (defBody st) (defScope st) .none kV doc pm an cdv ct) { pos := us, kw := ks.zip ws } = pure (ps.zip (g us ws))) :
    KBn K fd ps n ks (fun us ws => g us ws) (fun vs zs => g vs zs) := by
  obtain ⟨oc, od, kV, doc, pm, an, cdv, ct, osl, rfl, lk, hcd⟩ := F.ex
  exact ⟨fun s us ws hK hu hw => .of_eq (h kV doc pm an cdv ct us ws hu hw), fun r1 r2 => hrel r1 r2⟩
end
end TK

set_option maxHeartbeats 2000000
/-! Rules of our own: dict == dict that may be False; str(o) by an own __str__. -/
namespace TQ
open PySem L2 PyProof.Rows TX TY
section
variable {κ : Type} [DecidableEq κ]
/-- whether each entry has its like -/
def likes (ls : List (κ × V)) (p : κ × V) : Bool := match valV ls p.1 with
  | some y => eqV p.2 y
  | none => false
theorem hits_any {A : Around} {s : Shared} {ls : List (κ × V)} {vb : List (κ × Value)} (rb : KV ls vb) (fb : ∀ p ∈ ls, flatV p.2 = true) : ∀ {ks : List (κ × V)} {va : List (κ × Value)}, KV ks va → (∀ p ∈ ks, flatV p.2 = true) → PySem.W.KeqHits A s vb va (ks.all (likes ls)) := by
  intro ks va ra
  unfold KV at ra
  induction ra with
  | nil => intro _; exact .nil
  | @cons p q ps qs h t ih =>
    intro hp
    obtain ⟨k, v⟩ := q
    obtain ⟨h1, h2⟩ := h
    have h1' : p.1 = k := h1
    subst h1'
    have rr := rb.val p.1
    rw [List.all_cons]
    cases e : valV ls p.1 with
    | none =>
      have e2 : likes ls p = false := by unfold likes; rw [e]
      rw [e] at rr
      rw [e2, Bool.false_and]
      refine .miss ?_
      cases hv : valueAt vb p.1 with
      | none => rfl
      | some y => rw [hv] at rr; cases rr
    | some y =>
      have e2 : likes ls p = eqV p.2 y := by unfold likes; rw [e]
      rw [e] at rr
      rw [e2]
      obtain ⟨u, hu, ru⟩ := rr.some_of
      have fy : flatV y = true := by
        unfold valV at e
        rw [Option.map_eq_some_iff] at e
        obtain ⟨q, hq, rfl⟩ := e
        exact fb q (List.mem_of_find?_eq_some hq)
      exact .hit hu (eqAt_V h2 ru (hp p List.mem_cons_self) fy) (ih fun q hq => hp q (List.mem_cons_of_mem _ hq))
end
section
variable {X : Cx}
/-- d == e -/
def rEqDB : R2 := fun x y H Q => ∃ a b ks ls, x = .ref a ∧ y = .ref b ∧ H a = some (.dK ks) ∧ H b = some (.dK ls) ∧ (∀ p ∈ ks, flatV p.2 = true) ∧ (∀ p ∈ ls, flatV p.2 = true) ∧ Q (.bl (ks.length == ls.length && ks.all (likes ls))) H
theorem op_eqDB (hu : X.A.units < cLine) : OpR X (compareOp .Eq) rEqDB := by
  intro pins s σ H x y v u Q I rx ry h
  obtain ⟨a, b, ks, ls, rfl, rfl, ea, eb, fa, fb, q⟩ := h
  cases (show v = Value.ref a from rx)
  cases (show u = Value.ref b from ry)
  obtain ⟨_, ya, va, ra, da⟩ := (show ObjOk X.prog X.w H s.heap a (.dK ks) from I.hok a _ ea)
  obtain ⟨_, yb, vb, rb, db⟩ := (show ObjOk X.prog X.w H s.heap b (.dK ls) from I.hok b _ eb)
  have la : va.length = ks.length := ra.length.symm
  have lb : vb.length = ls.length := rb.length.symm
  refine PySem.W.keq_eq (knd := mixKind X.prog X.w) (r := ks.all (likes ls)) ya yb da db hu (fun _ => hits_any rb fb ra fa) (fin_bl I q ?_)
  rw [la, lb]
theorem mi_str {P : Program} {w : World} {v : Value} {S : PySem.Spec} (hs : ∀ (A : Around) (R : Result → Shared → Prop) (s : Shared), S A R s → wpAny (model P w) A.in1 (Builtin.Str.strOf v) (fun r s' => R (.ok (.ret r)) s') (fun e s' => R (.error e) s') s) :
    MeetsIn P w (Builtin.«str.__new__» ⟨[.type "str", v], []⟩) S := MeetsIn.of_wp fun A R s h => by
  rw [str_new_tree v]
  exact wpAny_bind (wpAny_pure (wpAny_bind (wpAny_of_eq isSubtype_str_str (wpAny_bind (wpAny_mono (hs A R s h) (fun r s' h' => wpAny_pure ⟨_, rfl, h'⟩) fun _ _ e => e)))))
/-- str(o) by an own __str__ -/
def rStrO (C : Addr) (sp : Sp) (E : XK) : List V → Hp → VK → Prop := fun xs H Q => ∃ a dx fs, xs = [.ref a] ∧ H a = some (.ins C dx fs) ∧ sp [.ref a] H (fun v H' => ∃ y : Str, v = .str y ∧ Q (.str y) H') E
theorem call_strO {CX : CXT} {C f : Addr} {fd : FuncData} {ps : List Str} {sp : Sp} {E : XK} {n : Nat} (G : FnOk X.prog X.w X.K X.mg X.base CX n f fd ps sp) (hs : PySem.W.findIn X.K (.ref C) "__str__" = some (some (.ref f)))
    (hf : PySem.W.isFn X.K (.ref f) = true) (hb : Binds X.K fd ps []) (hx : Passes CX X E) (hr : Room (n + 2) X.A) : CallR X (.type "str") (rStrO C sp E) := by
  intro pins s σ H xs us Q I r h
  obtain ⟨a, dx, fs, rfl, ha, hsp⟩ := h
  obtain ⟨u, rfl, rx⟩ := vals1 r
  cases rx
  obtain ⟨mA, J, _⟩ := ins_get I.hok ha
  obtain ⟨od, J, _⟩ := J.look
  obtain ⟨m, hF⟩ := I.fr
  have hin : Room (n + 1) X.A.in1 := hr.in1
  have h1 : Room n X.A.in1.in1 := hin.in1
  refine callType_newIn (T := "str") (S := fun A' R s' => wpAny (model X.prog X.w) A'.in1 (Builtin.Str.strOf (.ref a)) (fun r s' => R (.ok (.ret r)) s') (fun e s' => R (.error e) s') s') F.called_str (by decide) (F.typeCall_str_1 _) (F.newCall_str_1 _) (fun obj => F.args_object_init_2 obj _) F.entry_str_new
    (mi_str fun A' R s' h => h) ?_
  show wpAny _ X.A.in1.in1 (Builtin.Str.strOf (.ref a)) _ _ s
  unfold Builtin.Str.strOf
  refine wpAny_bind (m := cRoomFor "str" _) (wpAny_cRoomFor h1.units0 ?_)
  refine wpAny_bind (m := callSpecial? (.ref a) (PySem.Str.ofString "__str__")) (PySem.W.special_fn I.kIn J hs (beq_iff_eq.mp hf) ?_)
  have e0 : Env0 X.prog X.w X.K X.mg X.base X.A.in1.in1 X.stack s H := by
    have e := I.env0
    exact ⟨e.frames, e.mod, e.bs, e.bsz, e.funs, e.frf, e.hok, e.bare⟩
  have hl := G.len _ _ _ _ hsp
  refine wpAny_call (codeAny_mono (G.run X.A.in1.in1 X.stack s H ⟨[.ref a], []⟩ [.ref a] [.ref a] _ E h1 e0 (by
    have := hb s [.ref a] I.kIn (by simpa using hl)
    simpa using this) (.cons rfl .nil) hsp) fun r s' hq => ?_)
  cases r with
  | error e => exact hx pins σ H s e s' I hq
  | ok fl =>
    cases fl with
    | ret u =>
      obtain ⟨z, H', I', rz, y, ez, q⟩ := I.after hq
      subst ez
      obtain ⟨t, rfl⟩ := rz
      refine wpAny_bind (wpAny_pure ?_)
      exact wpAny_pure ⟨typeIs_str _ _ _, .str y, H', I', ⟨t, rfl⟩, q⟩
    | next => exact False.elim hq
    | brk => exact False.elim hq
    | cont => exact False.elim hq
end
end TQ

set_option maxHeartbeats 2000000
/-! Lambdas that are kept, handed on and called. -/
namespace TLC
open PySem PySem.Spec PyProof.Rows L2 LamX NdefX
/-- the object at f is the lambda F with this body -/
def LamO (f : Addr) (F : NF) (b : Expr) : HO := .ext fun h => ∃ pm ctv, h.get? f = some (PySem.W.kla_obj F.name F.qual F.params b F.scope F.cl pm F.c ctv)
theorem lamO_tbl {f : Addr} {F : NF} {b : Expr} (ps : Array Value) : LamO f F b ≠ .tbl ps := fun z => by
  unfold LamO at z
  cases z
theorem lamO_get {P : Program} {w : World} {H : Hp} {h : Heap} {f : Addr} {F : NF} {b : Expr} (k : HOk P w H h) (e : H f = some (LamO f F b)) : ∃ pm ctv, h.get? f = some (PySem.W.kla_obj F.name F.qual F.params b F.scope F.cl pm F.c ctv) := (k f _ e).1
section
variable {X : Cx} {pins : List (Addr × Obj)} {σ : L2.St} {H : Hp} {s : Shared}
/-- known as soon as it is laid -/
theorem inv_lam {h' : Heap} {t' : Nat} {F : NF} {b : Expr} {pm ctv : Value} (I : Inv X pins σ H { s with heap := h', toks := t' }) :
    Inv X pins σ (upd H h'.objs.size (LamO h'.objs.size F b)) { s with heap := h'.push (PySem.W.kla_obj F.name F.qual F.params b F.scope F.cl pm F.c ctv), toks := t' } := by
  have e := Heap.get?_push_size h' (o := PySem.W.kla_obj F.name F.qual F.params b F.scope F.cl pm F.c ctv) rfl
  exact I.laid (h' := h'.push (PySem.W.kla_obj F.name F.qual F.params b F.scope F.cl pm F.c ctv)) (t' := t') (fun c u z => Heap.get?_push_of_some _ z) (Nat.le_refl _) ⟨⟨pm, ctv, e⟩, ⟨_, e⟩, fun g1 g2 ⟨p, c, z⟩ k => ⟨p, c, k _ z⟩⟩
end
/-- what one more code object leaves of the tables -/
theorem tabs_more {T : List (Addr × Str)} {H : Hp} {P c : Addr} {q : Str} {pos : Pos} {ps : Array Value} (hT : Tabs T H) (hu : ∀ p ∈ T, p.1 = P → p.2 = q) (hP : H P = some (.tbl ps)) (tr : TriplesOk ps.toList)
    (al : ∀ (pos : Pos) (cv : Value), codeAmong pos ps.toList = some cv → ∃ c, cv = .ref c ∧ H c = some (CodeO c q)) (nC : H c = none) :
    ExtN H (upd (upd H P (.tbl (ps ++ #[rawInt pos.line, rawInt pos.col, .ref c]))) c (CodeO c q)) ∧ Tabs T (upd (upd H P (.tbl (ps ++ #[rawInt pos.line, rawInt pos.col, .ref c]))) c (CodeO c q)) := by
  have ne : P ≠ c := ne_of_none hP nC
  have ex : ExtN H (upd (upd H P (.tbl (ps ++ #[rawInt pos.line, rawInt pos.col, .ref c]))) c (CodeO c q)) := by
    intro a o e n
    have h1 : a ≠ c := ne_of_none e nC
    have h2 : a ≠ P := by
      rintro rfl
      rw [hP] at e
      exact n _ (Option.some.inj e).symm
    rw [upd_ne h1, upd_ne h2, e]
  refine ⟨ex, fun p hp => ?_⟩
  by_cases hb : p.1 = P
  · have l : (ps ++ #[rawInt pos.line, rawInt pos.col, .ref c]).toList = ps.toList ++ [rawInt pos.line, rawInt pos.col, .ref c] := by simp
    rw [hb, hu p hp hb]
    refine ⟨ps ++ #[rawInt pos.line, rawInt pos.col, .ref c], ?_, ?_, ?_⟩
    · rw [upd_ne ne, upd_same]
    · rw [l]
      exact TriplesOk_snoc _ _ _ _ tr
    · intro pos' cv e
      rw [l] at e
      cases among_app _ tr e with
      | inl z =>
        obtain ⟨c0, k1, k2⟩ := al _ _ z
        exact ⟨c0, k1, ex _ _ k2 codeO_ne⟩
      | inr z => exact ⟨c, z, upd_same⟩
  · obtain ⟨qs, k1, k2, k3⟩ := hT p hp
    refine ⟨qs, ?_, k2, fun pos' cv e => ?_⟩
    · rw [upd_ne (ne_of_none k1 nC), upd_ne hb, k1]
    · obtain ⟨c0, j1, j2⟩ := k3 pos' cv e
      exact ⟨c0, j1, ex _ _ j2 codeO_ne⟩
/-- a lambda as a value -/
def tLamV (T : List (Addr × Str)) (mk : Addr → NF) (b : Expr) : TE := fun σ H Q => Tabs T H ∧ ∀ (f c : Addr) (H1 : Hp), ExtN H H1 → (∀ a, H1 a = none → H a = none) → Tabs T H1 → H f = none → H1 f = some (LamO f (mk c) b) → H1 c = some (CodeO c (mk c).qual) → Q (.ref f) H1
section
variable {X : Cx}
theorem pe_lamV {T : List (Addr × Str)} {c P : Addr} {params : Arguments} {body : Expr} {scope : Scope} {pos : Pos} (TB : TabB X.base X.mg c P) (hcode : X.env.code = .ref c) (hm : (P, X.env.qual ++ "<lambda>") ∈ T) (hu : ∀ p ∈ T, p.1 = P → p.2 = X.env.qual ++ "<lambda>")
    (L : LamS X.env.scope scope) (hdef : defaultsOf params X.env = ([], [])) :
    PE X (.Lambda params body scope pos) (tLamV T (fun c => ⟨"<lambda>", X.env.qual ++ "<lambda>", params, [], scope, cloFrom X.env.cells scope.names [], c⟩) body) := by
  refine ⟨fun pins s σ H Q I ⟨hT, h⟩ => PySem.W.kla_eval hdef ?_⟩
  obtain ⟨ps, hP, tr, al⟩ := hT _ hm
  have tab : s.heap.get? P = some { cls := .none, data := .fields ps } := I.hok P _ hP
  have clo := closure_ok (env := X.env) (L.has I.ok)
  cases among : codeAmong pos ps.toList with
  | some cv =>
    obtain ⟨c1, rfl, e1⟩ := al _ _ among
    refine PySem.W.kla_makeFunctionHit (mg := X.mg) (c := c) (P := P) (ps := ps) clo I.ok.glob (I.mod.glob.keeps I.bk) hcode (TB.code.keeps I.bk) tab tr among (TB.bm.keeps I.bk) fun ctv h' tk keep _ => ?_
    have I1 : Inv X pins σ H { s with heap := h', toks := tk } := I.kept keep
    have nF : H h'.objs.size = none := I1.hok.fresh (Nat.le_refl _)
    refine ⟨.ref h'.objs.size, _, inv_lam (F := ⟨"<lambda>", X.env.qual ++ "<lambda>", params, [], scope, cloFrom X.env.cells scope.names [], c1⟩) (b := body) I1, rfl, h _ c1 _ ?_ (fun a => upd_none) ?_ nF upd_same ?_⟩
    · intro a o e _
      rw [upd_ne (ne_of_none e nF), e]
    · exact hT.ext fun a o e => by rw [upd_ne (ne_of_none e nF), e]
    · rw [upd_ne (ne_of_none e1 nF), e1]
  | none =>
    refine PySem.W.kla_makeFunction (mg := X.mg) (c := c) (P := P) (ps := ps) clo I.ok.glob (I.mod.glob.keeps I.bk) hcode (TB.code.keeps I.bk) tab tr among TB.gP (TB.bm.keeps I.bk) fun c1 ctv h' tk but lo hi rec_ tab' => ?_
    obtain ⟨_, oc, vs, t, e2, g1, g2, g3⟩ := rec_
    cases e2
    have nC : H c1 = none := I.hok.fresh lo
    obtain ⟨ex, T1⟩ := tabs_more (pos := pos) hT hu hP tr al nC
    have I1 := inv_table (t' := tk) (more := #[rawInt pos.line, rawInt pos.col, .ref c1]) (h' := h') I hP (fun a o n e => but a o n e) tab' lo ⟨oc, vs, t, g1, g2, g3⟩
    have e1 : upd (upd H P (.tbl (ps ++ #[rawInt pos.line, rawInt pos.col, .ref c1]))) c1 (CodeO c1 (X.env.qual ++ "<lambda>")) c1 = some (CodeO c1 (X.env.qual ++ "<lambda>")) := upd_same
    have fr : H h'.objs.size = none := I.hok.fresh (Nat.le_trans lo (Nat.le_of_lt hi))
    have back : ∀ a, upd (upd H P (.tbl (ps ++ #[rawInt pos.line, rawInt pos.col, .ref c1]))) c1 (CodeO c1 (X.env.qual ++ "<lambda>")) a = none → H a = none := fun a z => upd_none (upd_none z)
    generalize upd (upd H P (.tbl (ps ++ #[rawInt pos.line, rawInt pos.col, .ref c1]))) c1 (CodeO c1 (X.env.qual ++ "<lambda>")) = H1 at ex T1 I1 e1 back
    have nF : H1 h'.objs.size = none := I1.hok.fresh (Nat.le_refl _)
    refine ⟨.ref h'.objs.size, _, inv_lam (F := ⟨"<lambda>", X.env.qual ++ "<lambda>", params, [], scope, cloFrom X.env.cells scope.names [], c1⟩) (b := body) I1, rfl, h _ c1 _ ?_ (fun a z => back a (upd_none z)) ?_ fr upd_same ?_⟩
    · intro a o e n
      have := ex _ _ e n
      rw [upd_ne (ne_of_none this nF), this]
    · exact T1.ext fun a o e => by rw [upd_ne (ne_of_none e nF), e]
    · rw [upd_ne (ne_of_none e1 nF), e1]
end
end TLC

set_option maxHeartbeats 2000000
namespace TLC
open PySem PySem.Spec PyProof.Rows L2 LamX NdefX
/-- what the cells hold they hold later, where the frames above are not theirs -/
theorem cells_un {cl : List (Str × Addr)} {fr : List Str} {ws : List (Option V)} {fs ex : List Addr} {H H' : Hp} {h h' : Heap} (C : CellsAt cl fr ws h H) (u : Un fs ex H H' h h') (hx : ∀ y c, cl.lookup y = some c → c ∉ ex) : CellsAt cl fr ws h' H' := by
  have mv : ∀ y c, cl.lookup y = some c → ∀ v, h.IsCell c v → h'.IsCell c v := by
    rintro y c e v ⟨o, ho, hd⟩
    obtain ⟨sl, z⟩ := u.any ho (C.all y c e).1 (hx y c e)
    exact ⟨_, z, hd⟩
  constructor
  · exact C.len
  · intro y c e
    obtain ⟨n, v, k⟩ := C.all y c e
    exact ⟨u.free c k.choose k.choose_spec.1 n (hx y c e), v, mv y c e v k⟩
  · exact C.inj
  · intro i y e
    obtain ⟨c, hc, hv⟩ := C.has i y e
    refine ⟨c, hc, fun v ev => ?_⟩
    obtain ⟨u', r, k⟩ := hv v ev
    exact ⟨u', r, mv y c hc _ k⟩
/-- the promise of a lambda: what it asks of what its cells hold, of the heap, of the two ends -/
abbrev LSp := List (Option V) → Hp → VK → XK → Prop
structure LOk (P : Program) (w : World) (K : PySem.W.Frag) (mg : Str → Option Value) (base : Heap) (CX : CXT) (k : Nat) (f : Addr) (F : NF) (b : Expr) (fr : List Str) (sp : LSp) : Prop where
  run : ∀ (A : Around) (outer : List Env) (s : Shared) (H : Hp) (ws : List (Option V)) (Q : VK) (E : XK), Room k A → Env0 P w K mg base A outer s H → H f = some (LamO f F b) → H F.c = some (CodeO F.c F.qual) → CellsAt F.cl fr ws s.heap H → sp ws H Q E →
    codeAny (model P w) A (.call (.ref f) ⟨[], []⟩) (CR CX outer P w H s Q E) s
section
variable {CX : CXT} {P : Program} {w : World} {K : PySem.W.Frag} {mg : Str → Option Value} {base : Heap} {N fr : List Str} {F : NF} {f : Addr} {k j : Nat} {b : Expr} {sp : LSp}
/-- a lambda by its body -/
theorem lok_of (S : NScope N [] fr F.scope) (hb : ∀ pm ctv : Value, bindArgs (PySem.W.kla_fn F.name F.qual F.params b F.scope F.cl pm (.ref F.c) ctv) ⟨[], []⟩ = pure [])
    (body : ∀ (A : Around) (outer : List Env) (s : Shared) (H : Hp) (ws : List (Option V)) (Q : VK) (E : XK), Room k (A.deeper (envF F f s.heap.objs.size)) → ws.length = fr.length → sp ws H Q E → ∃ t, PE (ncx CX P w K mg base N F f A outer s H E) b t ∧ t (startF N [] ws) H Q) :
    LOk P w K mg base CX (k + 1) f F b fr sp := by
  refine ⟨fun A outer s H ws Q E hr e0 hf hc C h => ?_⟩
  obtain ⟨pm, ctv, ob⟩ := lamO_get e0.hok hf
  refine PySem.W.kla_callFunE hr.depth ob rfl S.co S.gen rfl (codeO_at e0.hok hc) ?_
  rw [hb pm ctv]
  have lim : s.heap.NoLimit := e0.mod.nolimit.keeps fun a o e => (e0.bs a o e).1
  refine wpAny_pure (wpAny_newFunctionEnv S.nocell (fun y hy => absurd hy (by simp)) (fun g ns sb => ⟨lim.fresh _ sb, ?_⟩) S.kind)
  show codeAny (model P w) A (.expr b (envF F f s.heap.objs.size)) _ _
  obtain ⟨t, ht, q⟩ := body A outer s H ws Q E (hr.deeper _) C.len h
  have J : Inv (ncx CX P w K mg base N F f A outer s H E) [] (startF N [] ws) H { s with heap := g, toks := s.toks + ([] : List (Str × Value)).length } :=
    inv_startN (us := []) S hr.hd e0 rfl .nil C ns fun a o e => sb.extBut a o (Nat.ne_of_lt (Heap.lt_size e)) (Heap.get?_push_of_some _ e)
  refine PySem.W.kla_codeExpr (wpAny_mono (ht.run [] _ _ H Q J q) (fun u s' hq => ?_) fun _ _ z => z)
  obtain ⟨v, H', J', r, q'⟩ := hq
  exact ⟨v, H', J'.os, J'.bare, J'.base, J'.hok, r, q'⟩
theorem LOk.mono (o : LOk P w K mg base CX j f F b fr sp) (h : j ≤ k) : LOk P w K mg base CX k f F b fr sp := ⟨fun A outer s H ws Q E hr => o.run A outer s H ws Q E (hr.mono h)⟩
end
/-- x(), x the parameter that holds the lambda: C tells the cells as they were at the frame's beginning -/
def tLamCall (i : Nat) (f : Addr) (F : NF) (b : Expr) (ws : List (Option V)) (sp : LSp) (E : XK) : TE := fun σ H Q => σ[i]? = some (some (.ref f)) ∧ H f = some (LamO f F b) ∧ H F.c = some (CodeO F.c F.qual) ∧ sp ws H Q E
section
variable {X : Cx} {CX : CXT} {k i : Nat} {f : Addr} {F : NF} {b : Expr} {fr : List Str} {ws : List (Option V)} {sp : LSp} {E : XK} {x : Str} {p pos : Pos}
theorem lam_at {pins : List (Addr × Obj)} {σ : L2.St} {H : Hp} {s : Shared} (I : Inv X pins σ H s) (e : H f = some (LamO f F b)) : PySem.W.FnAt f s.heap := by
  obtain ⟨pm, ctv, z⟩ := lamO_get I.hok e
  exact ⟨_, _, _, _, z⟩
theorem pe_lamCall (O : LOk X.prog X.w X.K X.mg X.base CX k f F b fr sp) (C : CellsAt F.cl fr ws X.s_0.heap X.H_0) (hex : ∀ y c, F.cl.lookup y = some c → c ∉ X.ex) (hr : Room k X.A) (hx : Passes CX X E) (hN : X.N[i]? = some x) (hv : Vis X.env.scope x)
    (hd : (x == ("__debug__" : Str)) = false := by decide) (hcd : (x == ("__classdict__" : Str)) = false := by decide) : PE X (.Call (.Name x p) [] [] pos) (tLamCall i f F b ws sp E) := by
  refine ⟨fun pins s σ H Q I ⟨h1, h2, h3, h4⟩ => ?_⟩
  refine wpAny_Call_Name_kw (thn ((pe_var (pos := p) hN hv hd hcd).run pins s σ H (fun v H1 => v = .ref f ∧ H1 = H) I ⟨.ref f, h1, rfl, rfl⟩) fun u s1 ⟨v, H1, I1, r1, q1⟩ => ?_)
  obtain ⟨rfl, rfl⟩ := q1
  obtain rfl : u = Value.ref f := r1
  refine PySem.W.callWith_F0 (first := []) (lam_at I1 h2) (wpAny_call (codeAny_mono (O.run X.A X.stack s1 H1 ws Q E hr I1.env0 h2 h3 (cells_un C I1.base hex) h4) fun r s' hq => ?_))
  match r, hq with
  | .error e, hq => exact hx pins σ H1 s1 e s' I1 hq
  | .ok (.ret u), hq => exact I1.after hq
end
/-- a def that calls the lambda that it got: lw is what the lambda asks -/
structure COk (P : Program) (w : World) (K : PySem.W.Frag) (mg : Str → Option Value) (base : Heap) (k j : Nat) (g : Addr) (csp : (Hp → VK → XK → Prop) → Hp → VK → Prop) : Prop where
  run : ∀ (A : Around) (outer : List Env) (s : Shared) (H : Hp) (f : Addr) (F : NF) (b : Expr) (fr : List Str) (ws : List (Option V)) (sp : LSp) (Q : VK), Room k A → Env0 P w K mg base A outer s H → LOk P w K mg base (L2.CX P w) j f F b fr sp →
    H f = some (LamO f F b) → H F.c = some (CodeO F.c F.qual) → CellsAt F.cl fr ws s.heap H → csp (sp ws) H Q → codeAny (model P w) A (.call (.ref g) ⟨[.ref f], []⟩) (CR L2.CX0 outer P w H s Q L2.E0) s
/-- g(e), e a lambda: kn is what is known of cells there -/
def tCallC (P : Program) (w : World) (K : PySem.W.Frag) (mg : Str → Option Value) (base : Heap) (j : Nat) (kn : L2.St → List (Str × Addr) → List Str → List (Option V) → Prop) (csp : (Hp → VK → XK → Prop) → Hp → VK → Prop) (te : TE) : TE := fun σ H Q =>
  te σ H fun v H1 => ∃ f F b fr ws sp, v = .ref f ∧ H1 f = some (LamO f F b) ∧ H1 F.c = some (CodeO F.c F.qual) ∧ LOk P w K mg base (L2.CX P w) j f F b fr sp ∧ kn σ F.cl fr ws ∧ csp (sp ws) H1 Q
section
variable {X : Cx} {k j : Nat} {g : Addr} {csp : (Hp → VK → XK → Prop) → Hp → VK → Prop} {kn : L2.St → List (Str × Addr) → List Str → List (Option V) → Prop} {x : Str} {p pos : Pos} {e : Expr} {te : TE}
theorem pe_callC (G : COk X.prog X.w X.K X.mg X.base k j g csp) (hk : ∀ pins s σ H, Inv X pins σ H s → ∀ cl fr ws, kn σ cl fr ws → CellsAt cl fr ws s.heap H) (hr : Room k X.A) (hg : Gl X x) (hm : X.mg x = some (.ref g)) (hkp : PySem.W.keepIn X.K (.ref g) = true) (he : PE X e te)
    (hdb : (x == ("__debug__" : Str)) = false := by decide) (hst : starEach [e] X.env = (false, eval e X.env) :: starEach [] X.env := by rfl) (hpl : (backTo pos (starEach [] X.env)).any (·.1) = false := by rfl) :
    PE X (.Call (.Name x p) [e] [] pos) (tCallC X.prog X.w X.K X.mg X.base j kn csp te) := by
  refine ⟨fun pins s σ H Q I h => wpAny_Call_Name_kw (ld_glob I hg hm ?_ hdb)⟩
  have one := (pa_cons he pa_nil hst : PA X [e] (tCons te tNil)).run pos pins s σ H (fun vs H1 => match vs with
    | [v] => ∃ f F b fr ws sp, v = .ref f ∧ H1 f = some (LamO f F b) ∧ H1 F.c = some (CodeO F.c F.qual) ∧ LOk X.prog X.w X.K X.mg X.base (L2.CX X.prog X.w) j f F b fr sp ∧ kn σ F.cl fr ws ∧ csp (sp ws) H1 Q
    | _ => False) I h
  refine PySem.W.callWith_K (h₀ := X.base) I.ok.mod.kin hkp (thn one fun us s1 ⟨vs, H1, I1, r, q⟩ => ⟨I1.kIn, ?_⟩) hst hpl
  match vs, r, q with
  | [v], r, q =>
  obtain ⟨f, F, b, fr, ws, sp, rfl, h1, h2, O, kn1, q⟩ := q
  cases r with
  | cons r0 rn =>
    cases rn
    cases r0
    refine wpAny_call (codeAny_mono (G.run X.A X.stack s1 H1 f F b fr ws sp Q hr I1.env0 O h1 h2 (hk _ _ _ _ I1 _ _ _ kn1) q) fun r s' hq => ?_)
    match r, hq with
    | .error _, hq => exact False.elim hq
    | .ok (.ret u), hq => exact I1.after hq
end
end TLC

set_option maxHeartbeats 2000000
/-! [f(x) for x in xs] where what is known of the def's own cells at the block's beginning may be used of the element. -/
namespace TLC
open PySem PySem.Spec PyProof.Rows L2 LamX NdefX
section
variable {X : Cx}
/-- the promise of the element, told how the def stood when the block began -/
def Elt (X : Cx) (scope : Scope) (elt : Expr) (te : L2.St → TE) : Prop :=
  ∀ (pins : List (Addr × Obj)) (σ : L2.St) (s : Shared) (H : Hp) (C : Addr) (cl : List (Str × Addr)) (fp : List Addr), Inv X pins σ H s → (∀ b ∈ fp, ∀ x c, X.env.cells.lookup x = some c → c ≠ b) → PE (X.blk s H scope (compEnvC scope cl C X.env) fp) elt (te σ)
/-- the loop within the block -/
theorem blk_loop {σ : L2.St} {H : Hp} {s s0 : Shared} {elt tg iter : Expr} {scope : Scope} {pos : Pos} {vs : List Nat} {g : TG} {te : TE} {ce : Env} {fp : List Addr} {it D : Addr} {tn : Nat → Heap → Prop} {J : It} {Q : VK} {W : Nat → Nat → Hp → Prop} {R : Result → Shared → Prop} {n : Nat}
    (hc : X.calm = true) (T : Turn X.prog X.w X.K tg J fp it tn) (pg : PG (X.blk s H scope ce fp) tg g) (pe : PE (X.blk s H scope ce fp) elt te)
    (step : ∀ i m H1, W i m H1 → (J.stop i H1 ∧ Q (.ref D) H1) ∨ (J.go i H1 ∧ ∃ Nx : Hp → Prop, (∀ H', Nx H' → ∃ m', m' < m ∧ W (i + 1) m' H') ∧ ∀ x H', J.yld i H1 x H' → g x (wipe σ vs) H' fun σ2 H2 => wipe σ2 vs = wipe σ vs ∧
      te σ2 H2 fun y H4 => ∃ acc, H4 D = some (.lst acc) ∧ acc.length < sizeLine ∧ Nx (upd H4 D (.lst (acc ++ [y])))))
    (out : ∀ s' H', Inv (X.blk s H scope ce fp) [] (wipe σ vs) H' s' → Q (.ref D) H' → R (.ok .next) s')
    (start : Inv (X.blk s H scope ce fp) [] (wipe σ vs) H s0 ∧ tn 0 s0.heap ∧ (∀ b ∈ fp, H b = none) ∧ W 0 n H) :
    codeAny (model X.prog X.w) X.A (.compLoop (.ListComp elt [⟨tg, iter, [], 0⟩] scope pos) 0 (.ref it) (.ref D) ce) R s0 := by
  -- an iterator's objects stand apart from all that the block knows
  have apart : ∀ {σ' H' s'}, Inv (X.blk s H scope ce fp) [] σ' H' s' → (∀ b ∈ fp, H' b = none) → ∀ b ∈ fp, FpOk (X.blk s H scope ce fp) [] H' b := by
    intro σ' H' s' I' no b hb
    obtain ⟨k1, k2⟩ := I'.ok.exf b hb
    exact ⟨no b hb, k1, I'.ok.exfs b hb, .inl hb, k2, fun p hp => absurd (show p ∈ ([] : List (Addr × Obj)) ++ [] from hp) (by simp)⟩
  refine compLoop_any (fun m s' => ∃ i H', (Inv (X.blk s H scope ce fp) [] (wipe σ vs) H' s' ∧ tn i s'.heap ∧ ∀ b ∈ fp, H' b = none) ∧ W i m H') ?_ n ⟨0, H, ⟨start.1, start.2.1, start.2.2.1⟩, start.2.2.2⟩
  rintro m s1 ⟨i, H1, ⟨I1, t1, no1⟩, w1⟩
  cases step i m H1 w1 with
  | inl e =>
    refine thnF (T.done (X.blk s H scope ce fp) rfl rfl rfl hc i [] s1 (wipe σ vs) H1 (fun _ _ => False) I1 (apart I1 no1) t1 e.1) ?_
    rintro r s2 ⟨rfl, I2⟩
    exact out s2 H1 I2 e.2
  | inr e =>
    obtain ⟨go, Nx, nx, each⟩ := e
    refine thnF (T.item (X.blk s H scope ce fp) rfl rfl rfl hc i [] s1 (wipe σ vs) H1 (fun _ _ => False) I1 (apart I1 no1) t1 go) ?_
    rintro r s2 ⟨u, rfl, k2⟩
    refine thnF k2 ?_
    rintro _ s3 ⟨x, H3, I3, r3, y3, t3, no3⟩
    have P3 := I3.pinned (apart I3 no3) (T.obj _ _ t3)
    refine thnF (pg.run _ s3 _ H3 x u _ P3 r3 (each x H3 y3)) ?_
    rintro _ s4 ⟨σ4, H4, P4, same, q4⟩
    refine wpAny_tests_nil ?_
    rw [if_pos rfl]
    refine thnF (pe.run _ s4 σ4 H4 _ P4 q4) ?_
    rintro z s5 ⟨y, H5, P5, r5, acc, hD, hz, n5⟩
    refine app_ok (X := X.blk s H scope ce fp) P5 hD hz r5 fun s6 P6 => ?_
    obtain ⟨m', lt, w6⟩ := nx _ n5
    have kept : ∀ b ∈ fp, ∀ o, s3.heap.get? b = some o → s6.heap.get? b = some o ∧ (upd H5 D (.lst (acc ++ [y]))) b = none := fun b hb o e =>
      have k := P6.pin (b, o) (List.mem_append_right _ (List.mem_append_right _ (mem_pinsAt hb e)))
      ⟨k.1, k.2.1⟩
    have len : (wipe σ vs).length = σ4.length := by rw [← same, wipe_length]
    refine ⟨m', lt, i + 1, _, ⟨(P6.unpinned (pins := [])).weak len fun j v e => ?_, T.keep _ _ _ t3 fun b hb o e => (kept b hb o e).1, fun b hb => ?_⟩, w6⟩
    · rw [← same] at e
      exact (wipe_some e).1
    · obtain ⟨o, e, _⟩ := T.obj _ _ t3 b hb
      exact (kept b hb o e).2
theorem pe_lcW {elt tg iter : Expr} {scope : Scope} {own : List (Str × Nat)} {pos : Pos} {wi : TI} {g : TG} {te : L2.St → TE} (hc : X.calm = true) (hN : X.N.Nodup) (hi : PI X tg iter wi) (ok : BlkOk X.N X.env.scope scope own)
    (hg : ∀ (s : Shared) (H : Hp) (C : Addr) (cl : List (Str × Addr)) (fp : List Addr), PG (X.blk s H scope (compEnvC scope cl C X.env) fp) tg g) (he : Elt X scope elt te) (hs : ∀ x, foldedSetIterable iter X.env x = pure x := by intro _; rfl) :
    PE X (.ListComp elt [⟨tg, iter, [], 0⟩] scope pos) (fun σ H Q => tLc wi g tYes (te σ) (own.map (·.2)) σ H Q) := by
  refine ⟨fun pins s σ H Q I h => ?_⟩
  have cap : ∀ y ∈ scope.names, y.2 = .free → ∃ c, X.env.cells.lookup y.1 = some c := fun y hy e => I.ok.has _ (ok.free y hy e)
  rw [eval_ListComp]
  refine wpAny_comprehension_free (use := none) rfl hs (closure_ok cap) ok.kind (fun y hy e => e ▸ ok.uniq y hy) (thn (hi.run pins s σ H _ I h) fun _ _ k => thn k ?_)
  rintro _ s2 ⟨it, fp, tn, J, H2, rfl, I2, T, t2, f2, q⟩
  refine wpAny_newObj_type (newEnv_comp ?_) (Nat.zero_le _)
  have nD : H2 s2.heap.objs.size = none := I2.hok.fresh (Nat.le_refl _)
  obtain ⟨W, ⟨n, w0⟩, step⟩ := q _ nD
  generalize eD : s2.heap.objs.size = D at nD w0 step ⊢
  -- the new list
  obtain ⟨s3, e3⟩ : ∃ s3 : Shared, s3 = { s2 with heap := s2.heap.push { cls := .type "list", data := .seq ([] : List Value).toArray } } := ⟨_, rfl⟩
  have old : ∀ b o, s2.heap.get? b = some o → s3.heap.get? b = some o := fun b o e => by rw [e3]; exact Heap.get?_push_of_some _ e
  have I3 : Inv X pins σ (upd H2 D (.lst [])) s3 := by
    have lay : s3.heap.get? D = some { cls := .type "list", data := .seq ([] : List Value).toArray } := by rw [e3, ← eD]; exact Heap.get?_push_size _ rfl
    have z := I2.laid (a := D) (o := .lst []) (t' := s2.toks) old (Nat.le_of_eq eD) ⟨Nat.zero_le _, [], 0, .nil, lay⟩
    rw [e3] at z ⊢
    exact z
  have t3 : tn 0 s3.heap := T.keep _ _ _ t2 fun b _ o e => old b o e
  have f3 : ∀ b ∈ fp, FpOk X pins (upd H2 D (.lst [])) b ∧ b < s3.heap.objs.size := fun b hb => by
    obtain ⟨o, e, _⟩ := T.obj _ _ t2 b hb
    have lt := Heap.lt_size e
    have ne : b ≠ D := by rw [← eD]; exact Nat.ne_of_lt lt
    exact ⟨⟨by rw [upd_ne ne]; exact (f2 b hb).1, (f2 b hb).2⟩, Heap.lt_size (old b o e)⟩
  rw [← e3]
  generalize upd H2 D (.lst []) = H3 at I3 f3 w0
  have J0 := block_start I3 ok hN f3
  have sz : (s3.heap.push { cls := .type "dict", data := .dict #[] }).objs.size = s3.heap.objs.size + 1 := Heap.size_push ..
  show codeAny _ _ (.compStart (.ListComp elt [⟨tg, iter, [], 0⟩] scope pos) 0 (.ref it) (.ref D) (compEnvC scope (cellsFrom (s3.heap.objs.size + 1) scope.names (cloFrom X.env.cells scope.names [])) s3.heap.objs.size X.env)) _ _
  have pg := hg s3 H3 s3.heap.objs.size (cellsFrom (s3.heap.objs.size + 1) scope.names (cloFrom X.env.cells scope.names [])) fp
  have pe := he pins σ s3 H3 s3.heap.objs.size (cellsFrom (s3.heap.objs.size + 1) scope.names (cloFrom X.env.cells scope.names [])) fp I3 fun b hb x c e => (f3 b hb).1.2.2.2.2.1 x c e
  have loc : (compEnvC scope (cellsFrom (s3.heap.objs.size + 1) scope.names (cloFrom X.env.cells scope.names [])) s3.heap.objs.size X.env).locals = s3.heap.objs.size := rfl
  generalize compEnvC scope (cellsFrom (s3.heap.objs.size + 1) scope.names (cloFrom X.env.cells scope.names [])) s3.heap.objs.size X.env = ce at J0 pg pe loc ⊢
  have t4 : tn 0 (pushCells (s3.heap.push { cls := .type "dict", data := .dict #[] }) scope.names) := T.keep _ _ _ t3 fun b _ o e => pushCells_keeps _ _ _ _ (Heap.get?_push_of_some _ e)
  have run : codeAny (model X.prog X.w) X.A (.compLoop (.ListComp elt [⟨tg, iter, [], 0⟩] scope pos) 0 (.ref it) (.ref D) ce) (compPost (model X.prog X.w) X.A X.xe none (EP X pins σ Q) (.ref D) s3.heap.objs.size) { s3 with heap := pushCells (s3.heap.push { cls := .type "dict", data := .dict #[] }) scope.names } := by
    refine blk_loop (Q := Q) (W := W) (n := n) (vs := own.map (·.2)) hc T pg pe (fun i m H1 w1 => ?_) (fun s' H' I' qq => ?_) ⟨J0, t4, fun b hb => (f3 b hb).1.1, w0⟩
    · rcases step i m H1 w1 with z | ⟨go, Nx, hn, each⟩
      · exact .inl z
      · exact .inr ⟨go, Nx, hn, fun x H' y => each x H' y⟩
    · obtain ⟨m, hm, _⟩ := I'.loc
      have no : H' s3.heap.objs.size = none := loc ▸ I'.free
      have K := I3.call' (ch := fp) I'.os I'.base I'.hok I'.bare fun b hb => ⟨(f3 b hb).1.2.2.2.1, (f3 b hb).1.2.1, (f3 b hb).1.2.2.2.2.1, (f3 b hb).1.2.2.2.2.2⟩
      obtain ⟨_, k1, _, k3, k4, k5⟩ := I3.fpOk (H' := H') (Nat.le_refl _) no
      have hm : s'.heap.Ns ce.locals m := hm
      rw [loc] at hm
      exact ⟨m, hm, fun h' sb => ⟨.ref D, H', K.turned (t' := s'.toks) (fun b o hb e => (sb.2 b hb).trans e) no k1 k3 k4 k5, rfl, qq⟩⟩
  exact codeAny_compStart_list run (T.self X.A 0 _ _ _ t4 run)
/-- what is known, in the def itself, of the cells that a lambda took -/
def Kn (X : Cx) (σ : L2.St) (cl : List (Str × Addr)) (fr : List Str) (ws : List (Option V)) : Prop := ∃ js, (X.Ok → Caps X cl fr js) ∧ ws = js.map (slotAt σ)
theorem kn_here : ∀ (pins : List (Addr × Obj)) (s : Shared) (σ : L2.St) (H : Hp), Inv X pins σ H s → ∀ cl fr ws, Kn X σ cl fr ws → CellsAt cl fr ws s.heap H := by
  rintro pins s σ H I cl fr ws ⟨js, c, rfl⟩
  exact cells_of I (c I.ok)
/-- .. and within a block -/
theorem kn_blk {pins : List (Addr × Obj)} {σ : L2.St} {s : Shared} {H : Hp} {scope : Scope} {ce : Env} {fp : List Addr} (I : Inv X pins σ H s) (nf : ∀ b ∈ fp, ∀ x c, X.env.cells.lookup x = some c → c ≠ b) :
    ∀ (pins' : List (Addr × Obj)) (s' : Shared) (σ' : L2.St) (H' : Hp), Inv (X.blk s H scope ce fp) pins' σ' H' s' → ∀ cl fr ws, Kn X σ cl fr ws → CellsAt cl fr ws s'.heap H' := by
  rintro pins' s' σ' H' I' cl fr ws ⟨js, c, rfl⟩
  exact cells_un (cells_of I (c I.ok)) I'.base fun y a e hb => nf a hb y a ((c I.ok).sub y a e) rfl
end
end TLC

set_option maxHeartbeats 2000000
namespace TLC
open PySem PySem.Spec PyProof.Rows L2 LamX NdefX
section
variable {X : Cx} {CX : CXT} {k i : Nat} {f : Addr} {F : NF} {b : Expr} {fr : List Str} {ws : List (Option V)} {sp : LSp} {E : L2.St → XK} {x : Str} {p pos : Pos}
/-- x() within a try: what is let out may speak of the slots -/
theorem pe_lamCallS (O : LOk X.prog X.w X.K X.mg X.base CX k f F b fr sp) (C : CellsAt F.cl fr ws X.s_0.heap X.H_0) (hex : ∀ y c, F.cl.lookup y = some c → c ∉ X.ex) (hr : Room k X.A) (hx : ∀ σ, PassesAt CX X σ (E σ)) (hN : X.N[i]? = some x) (hv : Vis X.env.scope x)
    (hd : (x == ("__debug__" : Str)) = false := by decide) (hcd : (x == ("__classdict__" : Str)) = false := by decide) : PE X (.Call (.Name x p) [] [] pos) (fun σ H Q => tLamCall i f F b ws sp (E σ) σ H Q) := by
  refine ⟨fun pins s σ H Q I ⟨h1, h2, h3, h4⟩ => ?_⟩
  refine wpAny_Call_Name_kw (thn ((pe_var (pos := p) hN hv hd hcd).run pins s σ H (fun v H1 => v = .ref f ∧ H1 = H) I ⟨.ref f, h1, rfl, rfl⟩) fun u s1 ⟨v, H1, I1, r1, q1⟩ => ?_)
  obtain ⟨rfl, rfl⟩ := q1
  obtain rfl : u = Value.ref f := r1
  refine PySem.W.callWith_F0 (first := []) (lam_at I1 h2) (wpAny_call (codeAny_mono (O.run X.A X.stack s1 H1 ws Q (E σ) hr I1.env0 h2 h3 (cells_un C I1.base hex) h4) fun r s' hq => ?_))
  match r, hq with
  | .error e, hq => exact hx σ pins H1 s1 e s' I1 hq
  | .ok (.ret u), hq => exact I1.after hq
end
/-- a def that calls the lambda handed in, by its body -/
theorem cok_of {P : Program} {w : World} {K : PySem.W.Frag} {mg : Str → Option Value} {base : Heap} {k j : Nat} {g : Addr} {gd : FuncData} {x a : Str} {st : Stmt} {N : List Str} {csp : (Hp → VK → XK → Prop) → Hp → VK → Prop} (G : TX.Fn K mg x st [a] g gd) (S : FnScope N [a] (defScope st))
    (body : ∀ (cdv : Value) (A : Around) (outer : List Env) (s : Shared) (H : Hp) (f : Addr) (F : NF) (b : Expr) (fr : List Str) (ws : List (Option V)) (sp : LSp) (Q : VK), Room k (A.deeper (envOfC x (defScope st) s.heap.objs.size g cdv)) → LOk P w K mg base (L2.CX P w) j f F b fr sp →
      CellsAt F.cl fr ws s.heap H → H f = some (LamO f F b) → H F.c = some (CodeO F.c F.qual) → csp (sp ws) H Q →
      ∃ t, PSs (cxOf L2.CX0 P w K mg base N x (defScope st) g cdv A outer s H L2.E0).nox (defBody st) t ∧ t { nx := fun _ H' => Q .non H', rt := Q } (L2.start N [.ref f]) H) :
    COk P w K mg base (k + 1) j g csp := by
  obtain ⟨oc, od, kV, doc, pm, an, cdv, ct, osl, e, lk, hcd⟩ := G.F.ex
  subst e
  refine ⟨fun A outer s H f F b fr ws sp Q hr e0 O hf hc C h => ?_⟩
  have kin : K.In s.heap := e0.mod.kin.keeps fun a o e => (e0.bs a o e).1
  refine run_ofS (N := N) (ps := [a]) (us := [.ref f]) (vs := [.ref f]) lk hcd S hr e0 (G.b s [.ref f] kin rfl) (.cons rfl .nil) rfl fun hr' => ?_
  obtain ⟨t, ht, q⟩ := body cdv A outer s H f F b fr ws sp Q hr' O C hf hc h
  exact ⟨t, ht.nox, q⟩
end TLC
namespace TLC
open PySem PySem.Spec PyProof.Rows L2 LamX NdefX
/-- a def whose code object is known -/
structure FunC (K : PySem.W.Frag) (x qual : Str) (st : Stmt) (f : Addr) (fd : FuncData) (c : Addr) : Prop where
  ex : ∃ (oc : Value) (od : Option Addr) (kV doc pm : Value) (an : Option Addr) (ct : Value) (osl : Array (Option Value)),
    fd = PySem.W.fnOf x qual (defArgs st) (defBody st) (defScope st) .none kV doc pm an (.ref c) ct ∧ K.lookup f = some ⟨oc, od, .func fd, osl⟩ ∧ PySem.W.codeIn K (.ref c) qual = true
  kp : PySem.W.keepIn K (.ref f) = true
theorem FunC.ok {P : Program} {w : World} {K : PySem.W.Frag} {mg : Str → Option Value} {base : Heap} {x qual : Str} {st : Stmt} {f c : Addr} {fd : FuncData} {N ps : List Str} {k : Nat} {sp : Sp} (F : FunC K x qual st f fd c) (S : FnScope N ps (defScope st)) (len : ∀ vs H Q E, sp vs H Q E → vs.length = ps.length)
    (hbody : ∀ (A : Around) (outer : List Env) (s : Shared) (H : Hp) (vs : List V) (Q : VK) (E : XK), Room k (A.deeper (envOfC qual (defScope st) s.heap.objs.size f (.ref c))) → sp vs H Q E →
      ∃ t, PSs (cxOf L2.CX0 P w K mg base N qual (defScope st) f (.ref c) A outer s H E).nox (defBody st) t ∧ t { nx := fun _ H' => Q .non H', rt := Q } (L2.start N vs) H) : FnOk P w K mg base L2.CX0 (k + 1) f fd ps sp := by
  obtain ⟨oc, od, kV, doc, pm, an, ct, osl, e, lk, hcd⟩ := F.ex
  subst e
  refine fn_of lk hcd S len fun A outer s H vs Q E hr hsp => ?_
  obtain ⟨t, h, q⟩ := hbody A outer s H vs Q E hr hsp
  exact ⟨t, h.nox, q⟩
/-- such a def of the module, ready to be called -/
structure FnC (K : PySem.W.Frag) (mg : Str → Option Value) (x : Str) (st : Stmt) (ps : List Str) (f : Addr) (fd : FuncData) (c : Addr) : Prop where
  F : FunC K x x st f fd c
  g : mg x = some (.ref f)
  b : Binds K fd ps []
end TLC

set_option maxHeartbeats 2000000
namespace T01
open PySem L2 PyProof.Rows TX TY TW TD TB TG TUD TE TK
/-! Whatever may be handed in, seen from the heap; what stands but at the well and in instances, stays. -/
def Kp (W : Addr) (H H' : Hp) : Prop := ∀ a o, a ≠ W → (∀ C dx fs, o ≠ .ins C dx fs) → (∀ ps, o ≠ .tbl ps) → H a = some o → H' a = some o
theorem Kp.sm {W : Addr} {H H' : Hp} (s : Sm W H H') : Kp W H H' := fun a o n _ _ e => s a o n e
theorem Kp.of {W : Addr} {H H' : Hp} (s : Same H H') : Kp W H H' := fun a o _ _ _ e => s a o e
theorem Kp.ext {W : Addr} {H H' : Hp} (s : LamX.ExtN H H') : Kp W H H' := fun a o _ _ t e => s a o e t
theorem Kp.but {W : Addr} {H H' : Hp} {p C dx : Addr} {fs : List (Str × V)} (hp : H p = some (.ins C dx fs)) (k : ∀ b o, b ≠ p → H b = some o → H' b = some o) : Kp W H H' := fun a o _ no _ e =>
  k a o (fun z => by rw [z, hp] at e; exact no C dx fs (Option.some.inj e).symm) e
inductive Lf (W : Addr) (H : Hp) : V → Prop
  | non : Lf W H .non
  | bl (b : Bool) : Lf W H (.bl b)
  | int (i : Int) : Lf W H (.int i)
  | str (x : Str) (h : x.length ≤ 100) : Lf W H (.str x)
  | tup {a : Addr} {xs : List V} (n : a ≠ W) (h : H a = some (.tup xs)) : Lf W H (.ref a)
  | lst {a : Addr} {xs : List V} (n : a ≠ W) (h : H a = some (.lst xs)) : Lf W H (.ref a)
  | dK {a : Addr} {kvs : List (Key × V)} (n : a ≠ W) (h : H a = some (.dK kvs)) : Lf W H (.ref a)
theorem Lf.kp {W : Addr} {H H' : Hp} {v : V} (h : Lf W H v) (s : Kp W H H') : Lf W H' v := by
  cases h with
  | non => exact .non
  | bl b => exact .bl b
  | int i => exact .int i
  | str x h => exact .str x h
  | tup n h => exact .tup n (s _ _ n (fun _ _ _ z => by cases z) (fun _ z => by cases z) h)
  | lst n h => exact .lst n (s _ _ n (fun _ _ _ z => by cases z) (fun _ z => by cases z) h)
  | dK n h => exact .dK n (s _ _ n (fun _ _ _ z => by cases z) (fun _ z => by cases z) h)
def isS : V → Bool
  | .str _ => true
  | _ => false
theorem Lf.ty {K : PySem.W.Frag} {W : Addr} {H : Hp} {v : V} (h : Lf W H v) : ∃ t, TyX K H v (.type t) ∧ kitB t "str" = some (isS v) ∧ kitB t "int" = some (numV v) ∧ kitB t "bool" = some (truthV v) := by
  cases h with
  | non => exact ⟨_, .base .non, by decide +kernel, by decide +kernel, by decide +kernel⟩
  | bl b => exact ⟨_, .base (.bl b), (show kitB "bool" "str" = some false by decide +kernel), (show kitB "bool" "int" = some true by decide +kernel), (show kitB "bool" "bool" = some true by decide +kernel)⟩
  | int i => exact ⟨_, .base (.int i), (show kitB "int" "str" = some false by decide +kernel), (show kitB "int" "int" = some true by decide +kernel), (show kitB "int" "bool" = some false by decide +kernel)⟩
  | str x _ => exact ⟨_, .base (.str x), (show kitB "str" "str" = some true by decide +kernel), (show kitB "str" "int" = some false by decide +kernel), (show kitB "str" "bool" = some false by decide +kernel)⟩
  | tup _ h => exact ⟨_, .base (.tup h), (show kitB "tuple" "str" = some false by decide +kernel), (show kitB "tuple" "int" = some false by decide +kernel), (show kitB "tuple" "bool" = some false by decide +kernel)⟩
  | lst _ h => exact ⟨_, .base (.lst h), (show kitB "list" "str" = some false by decide +kernel), (show kitB "list" "int" = some false by decide +kernel), (show kitB "list" "bool" = some false by decide +kernel)⟩
  | dK _ h => exact ⟨_, .base (.dK h), (show kitB "dict" "str" = some false by decide +kernel), (show kitB "dict" "int" = some false by decide +kernel), (show kitB "dict" "bool" = some false by decide +kernel)⟩
/-- what is neither list nor tuple -/
inductive Ob (W : Addr) (H : Hp) : V → Prop
  | int (i : Int) : Ob W H (.int i)
  | str (x : Str) : Ob W H (.str x)
  | dK {a : Addr} {kvs : List (Key × V)} (n : a ≠ W) (h : H a = some (.dK kvs)) : Ob W H (.ref a)
theorem Ob.kp {W : Addr} {H H' : Hp} {v : V} (h : Ob W H v) (s : Kp W H H') : Ob W H' v := by
  cases h with
  | int i => exact .int i
  | str x => exact .str x
  | dK n h => exact .dK n (s _ _ n (fun _ _ _ z => by cases z) (fun _ z => by cases z) h)
/-- what may be a row: its values, where it is a tuple -/
def RowT (W : Addr) (H : Hp) (v : V) (d : Option (List V)) : Prop := (∃ a ys, v = .ref a ∧ a ≠ W ∧ H a = some (.tup ys) ∧ ys.length ≤ 20 ∧ (∀ y ∈ ys, Lf W H y) ∧ d = some ys) ∨ (d = none ∧ (v = .non ∨ (∃ a xs, v = .ref a ∧ a ≠ W ∧ H a = some (.lst xs)) ∨ Ob W H v))
theorem RowT.kp {W : Addr} {H H' : Hp} {v : V} {d : Option (List V)} (h : RowT W H v d) (s : Kp W H H') : RowT W H' v d := by
  rcases h with ⟨a, ys, e, n, h1, h2, h3, h4⟩ | ⟨e, h | ⟨a, xs, h, n, h1⟩ | h⟩
  · exact .inl ⟨a, ys, e, n, s _ _ n (fun _ _ _ z => by cases z) (fun _ z => by cases z) h1, h2, fun y hy => (h3 y hy).kp s, h4⟩
  · exact .inr ⟨e, .inl h⟩
  · exact .inr ⟨e, .inr (.inl ⟨a, xs, h, n, s _ _ n (fun _ _ _ z => by cases z) (fun _ z => by cases z) h1⟩)⟩
  · exact .inr ⟨e, .inr (.inr (h.kp s))⟩
theorem RowT.ty {K : PySem.W.Frag} {W : Addr} {H : Hp} {v : V} {d : Option (List V)} (h : RowT W H v d) : ∃ t, TyX K H v (.type t) ∧ kitB t "tuple" = some d.isSome := by
  rcases h with ⟨a, ys, rfl, n, h1, h2, h3, rfl⟩ | ⟨rfl, rfl | ⟨a, xs, rfl, n, h1⟩ | h⟩
  · exact ⟨_, .base (.tup h1), (show kitB "tuple" "tuple" = some true by decide +kernel)⟩
  · exact ⟨_, .base .non, (show kitB "NoneType" "tuple" = some false by decide +kernel)⟩
  · exact ⟨_, .base (.lst h1), (show kitB "list" "tuple" = some false by decide +kernel)⟩
  · cases h with
    | int i => exact ⟨_, .base (.int i), (show kitB "int" "tuple" = some false by decide +kernel)⟩
    | str x => exact ⟨_, .base (.str x), (show kitB "str" "tuple" = some false by decide +kernel)⟩
    | dK n h => exact ⟨_, .base (.dK h), (show kitB "dict" "tuple" = some false by decide +kernel)⟩
/-- what may be rows -/
def RowsT (W : Addr) (H : Hp) (v : V) (o : Option (List (Option (List V)))) : Prop := (∃ L xs ds, v = .ref L ∧ L ≠ W ∧ H L = some (.lst xs) ∧ Paired (RowT W H) xs ds ∧ xs.length ≤ 20 ∧ o = some ds) ∨ (o = none ∧ ((∃ a xs, v = .ref a ∧ a ≠ W ∧ H a = some (.tup xs)) ∨ Ob W H v))
theorem RowsT.kp {W : Addr} {H H' : Hp} {v : V} {o : Option (List (Option (List V)))} (h : RowsT W H v o) (s : Kp W H H') : RowsT W H' v o := by
  rcases h with ⟨L, xs, ds, e, n, h1, h2, h3, h4⟩ | ⟨e, ⟨a, xs, h, n, h1⟩ | h⟩
  · exact .inl ⟨L, xs, ds, e, n, s _ _ n (fun _ _ _ z => by cases z) (fun _ z => by cases z) h1, Paired.mapP h2 fun a d e => e.kp s, h3, h4⟩
  · exact .inr ⟨e, .inl ⟨a, xs, h, n, s _ _ n (fun _ _ _ z => by cases z) (fun _ z => by cases z) h1⟩⟩
  · exact .inr ⟨e, .inr (h.kp s)⟩
theorem RowsT.ty {K : PySem.W.Frag} {W : Addr} {H : Hp} {v : V} {o : Option (List (Option (List V)))} (h : RowsT W H v o) : v ≠ .non ∧ ∃ t, TyX K H v (.type t) ∧ kitB t "list" = some o.isSome := by
  rcases h with ⟨L, xs, ds, rfl, n, h1, h2, h3, rfl⟩ | ⟨rfl, ⟨a, xs, rfl, n, h1⟩ | h⟩
  · exact ⟨(fun z => by cases z), _, .base (.lst h1), (show kitB "list" "list" = some true by decide +kernel)⟩
  · exact ⟨(fun z => by cases z), _, .base (.tup h1), (show kitB "tuple" "list" = some false by decide +kernel)⟩
  · cases h with
    | int i => exact ⟨(fun z => by cases z), _, .base (.int i), (show kitB "int" "list" = some false by decide +kernel)⟩
    | str x => exact ⟨(fun z => by cases z), _, .base (.str x), (show kitB "str" "list" = some false by decide +kernel)⟩
    | dK n h => exact ⟨(fun z => by cases z), _, .base (.dK h), (show kitB "dict" "list" = some false by decide +kernel)⟩
/-- what a name is -/
def okc (c : Nat) : Bool := !decide ([c] < (Str.ofString "a").cps.toList) && !decide ((Str.ofString "z").cps.toList < [c])
theorem okc_iff (c : Nat) : okc c = true ↔ 97 ≤ c ∧ c ≤ 122 := by
  unfold okc
  rw [str_a, str_z, S_cps, S_cps, Bool.and_eq_true, Bool.not_eq_true', Bool.not_eq_true', decide_eq_false_iff_not, decide_eq_false_iff_not, lt_sign, lt_sign]
  omega
def nameB (x : Str) : Bool := decide (1 ≤ x.length) && (decide (x.length ≤ 8) && x.cps.toList.all okc)
theorem nameB_iff (x : Str) : nameB x = true ↔ TM.NameOk x := by
  unfold nameB TM.NameOk
  rw [Bool.and_eq_true, Bool.and_eq_true, decide_eq_true_iff, decide_eq_true_iff, List.all_eq_true]
  constructor
  · rintro ⟨h1, h2, h3⟩
    exact ⟨h1, h2, fun c hc => (okc_iff c).mp (h3 c hc)⟩
  · rintro ⟨h1, h2, h3⟩
    exact ⟨h1, h2, fun c hc => (okc_iff c).mpr (h3 c hc)⟩
def isNm : V → Bool
  | .str x => nameB x
  | _ => false
def colsV (xs : List V) : Bool := decide (xs.length ≤ 8) && (xs.all isNm && decide xs.Nodup)
/-- what may be columns; whether it is -/
def ColsT (W : Addr) (H : Hp) (v : V) (b : Bool) : Prop := (∃ L xs, v = .ref L ∧ L ≠ W ∧ H L = some (.lst xs) ∧ xs.length ≤ 20 ∧ (∀ x ∈ xs, Lf W H x) ∧ b = colsV xs) ∨ (b = false ∧ (v = .non ∨ (∃ a xs, v = .ref a ∧ a ≠ W ∧ H a = some (.tup xs)) ∨ Ob W H v))
theorem ColsT.kp {W : Addr} {H H' : Hp} {v : V} {b : Bool} (h : ColsT W H v b) (s : Kp W H H') : ColsT W H' v b := by
  rcases h with ⟨L, xs, e, n, h1, h2, h3, h4⟩ | ⟨e, h | ⟨a, xs, h, n, h1⟩ | h⟩
  · exact .inl ⟨L, xs, e, n, s _ _ n (fun _ _ _ z => by cases z) (fun _ z => by cases z) h1, h2, fun x hx => (h3 x hx).kp s, h4⟩
  · exact .inr ⟨e, .inl h⟩
  · exact .inr ⟨e, .inr (.inl ⟨a, xs, h, n, s _ _ n (fun _ _ _ z => by cases z) (fun _ z => by cases z) h1⟩)⟩
  · exact .inr ⟨e, .inr (.inr (h.kp s))⟩
theorem all_names {xs : List V} (k : xs.all isNm = true) : ∃ ns : List Str, xs = ns.map V.str ∧ ∀ n ∈ ns, TM.NameOk n := by
  induction xs with
  | nil => exact ⟨[], rfl, fun _ h => nomatch h⟩
  | cons x xs ih =>
    rw [List.all_cons, Bool.and_eq_true] at k
    obtain ⟨ns, e, ok⟩ := ih k.2
    cases x with
    | str s => exact ⟨s :: ns, by rw [List.map_cons, e], fun n hn => (List.mem_cons.mp hn).elim (fun e => e ▸ (nameB_iff s).mp k.1) (ok n)⟩
    | _ => cases k.1
theorem nd_strs {ns : List Str} : (ns.map V.str).Nodup ↔ ns.Nodup := by
  constructor
  · intro h
    exact List.Pairwise.of_map V.str (fun a b hab e => hab (by rw [e])) h
  · intro h
    refine List.pairwise_map.mpr (h.imp fun {a b} hab e => hab (V.str.inj e))
/-! ### rows -/
def okRow (wide : Nat) : Option (List V) → Bool
  | some ys => decide (ys.length = wide) && ys.all wholeV
  | none => false
/-- the first that is no row -/
def firstB (wide : Nat) : List (Option (List V)) → Option Nat
  | [] => none
  | d :: ds => if okRow wide d then (firstB wide ds).map (· + 1) else some 0
def dueR (wide : Nat) : Option (List (Option (List V))) → Option Nat
  | none => some 0
  | some ds => firstB wide ds
theorem firstB_at {wide : Nat} : ∀ {ds : List (Option (List V))} {i : Nat} {d : Option (List V)}, (∀ d' ∈ ds.take i, okRow wide d' = true) → ds[i]? = some d → okRow wide d = false → firstB wide ds = some i := by
  intro ds
  induction ds with
  | nil => intro i d _ h; simp at h
  | cons c ds ih =>
    intro i d ha hd hb
    cases i with
    | zero =>
      have : c = d := by simpa using hd
      subst this
      unfold firstB
      rw [hb]
      rfl
    | succ i =>
      have hc : okRow wide c = true := ha c (by rw [List.take_succ_cons]; exact List.mem_cons_self)
      unfold firstB
      rw [hc, if_pos rfl, ih (fun d' hd' => ha d' (by rw [List.take_succ_cons]; exact List.mem_cons_of_mem _ hd')) (by simpa using hd) hb]
      rfl
theorem firstB_none {wide : Nat} : ∀ {ds : List (Option (List V))}, (∀ d ∈ ds, okRow wide d = true) → firstB wide ds = none := by
  intro ds
  induction ds with
  | nil => intro _; rfl
  | cons c ds ih =>
    intro ha
    unfold firstB
    rw [ha c List.mem_cons_self, if_pos rfl, ih fun d hd => ha d (List.mem_cons_of_mem _ hd)]
    rfl
theorem whole_vals {ys : List V} (h : ys.all wholeV = true) : ∃ r : List Int, ys = r.map V.int := by
  induction ys with
  | nil => exact ⟨[], rfl⟩
  | cons y ys ih =>
    rw [List.all_cons, Bool.and_eq_true] at h
    obtain ⟨r, e⟩ := ih h.2
    cases y with
    | int i => exact ⟨i :: r, by rw [List.map_cons, e]⟩
    | _ => cases h.1
/-- rows that are all right, as they stand -/
theorem rows_of {W : Addr} {H : Hp} {wide : Nat} {xs : List V} {ds : List (Option (List V))} (h : Paired (RowT W H) xs ds) (ok : ∀ d ∈ ds, okRow wide d = true) : ∃ (as : List Addr) (rs : List (List Int)), xs = as.map V.ref ∧ RowsAt H as rs ∧ (∀ r ∈ rs, r.length = wide) ∧ rs.length = xs.length := by
  induction h with
  | nil => exact ⟨[], [], rfl, .nil, (fun _ h => nomatch h), rfl⟩
  | cons x _ ih =>
    obtain ⟨as, rs, e, h1, h2, h3⟩ := ih fun d hd => ok d (List.mem_cons_of_mem _ hd)
    have k := ok _ List.mem_cons_self
    rcases x with ⟨a, ys, rfl, n, e1, _, _, rfl⟩ | ⟨rfl, _⟩
    · unfold okRow at k
      rw [Bool.and_eq_true, decide_eq_true_iff] at k
      obtain ⟨r, rfl⟩ := whole_vals k.2
      refine ⟨a :: as, r :: rs, by rw [List.map_cons, e], .cons e1 h1, fun q hq => ?_, by rw [List.length_cons, List.length_cons, h3]⟩
      rcases List.mem_cons.mp hq with e | hq
      · rw [e]
        simpa using k.1
      · exact h2 q hq
    · cases k
def optI : Option Nat → V
  | none => .non
  | some k => .int k
end T01

set_option maxHeartbeats 2000000
namespace T01
open PySem L2 PyProof.Rows TX TY TW TD TB TG TUD TE TK
section
variable {P : Program} {w : World} {K : PySem.W.Frag} {mg : Str → Option Value} {base : Heap}
/-- the constants of the module -/
structure Cn (mg : Str → Option Value) : Prop where
  longest : ∃ t, mg "LONGEST_NAME" = some (.int 8 t)
  most : ∃ t, mg "MOST_COLUMNS" = some (.int 8 t)
theorem sc_is_name : FnScope ["thing", "sign"] ["thing"] (defScope s_is_name) := ⟨rfl, rfl, rfl, by decide +kernel, rfl, by decide +kernel, by decide +kernel⟩
def sp_is_name : Sp := fun vs H Q _ => ∃ (W : Addr) (v : V), vs = [v] ∧ Lf W H v ∧ ∀ H', Same H H' → Q (.bl (isNm v)) H'
theorem ok_is_name {f : Addr} {fd : FuncData} (F : Fn K mg "is_name" s_is_name ["thing"] f fd) (B : Bn mg) (C : Cn mg) : FnOk P w K mg base CX0 1 f fd ["thing"] sp_is_name := by
  refine F.F.ok sc_is_name (fun vs H Q E h => ?_) (fun cdv A outer s H vs Q E hr h => ?_)
  · obtain ⟨W, x, rfl, _⟩ := h
    rfl
  · obtain ⟨W, v, rfl, hv, q⟩ := h
    have hu := hu_of hr
    obtain ⟨tl, hlg⟩ := C.longest
    refine ⟨_, pss_cons (ps_if (PW.pt (pw_or (pt_not (pt_val (pe_callB call_isi (by rfl) B.isi boot_isinstance (pa_cons (pv 0) (pa_cons (pe_bltn (v := .ty "str") (by rfl) B.str boot_str rfl) pa_nil)))))
        (pw_or1 (pt_not (pt_chain op_le op_le pe_int (pe_callB call_len_str (by rfl) B.len PySem.boot_len (pa_cons (pv 0) pa_nil)) (pe_glob (v := .int 8) (by rfl) hlg ⟨_, rfl⟩)))))) (pss_one (ps_ret pe_bl)) pss_nil)
      (pss_one (ps_ret (pe_callB (cr_all rfl) (by rfl) B.all boot_all (pa_cons (pe_lc (own := [("sign", 1)]) (g := gName 1) (tt := tYes) rfl sc_is_name.nd (pi_str (pv 0)) (blkOk_by (N := ["thing", "sign"]) (sc := defScope s_is_name) (by decide +kernel))
          (fun _ _ _ _ _ => pg_name (i := 1) sc_is_name.nd rfl (Or.inl rfl)) (fun _ _ _ _ _ => pts_nil)
          (fun _ _ _ _ _ => pe_chain op_le_str op_le_str pe_str (pv 1) pe_str)) pa_nil)))), ?_⟩
    obtain ⟨t, ty, hk, _, _⟩ := hv.ty (K := K)
    refine ⟨_, rfl, _, _, _, _, isS v, rfl, .ty _, ty, kit_ty hk, _, rfl, ?_⟩
    have q0 := q H same_rfl
    cases hv with
    | str x hx =>
      have e0 : isNm (.str x) = nameB x := rfl
      rw [e0] at q0
      have q' : ∀ H', Same H H' → Q (.bl (nameB x)) H' := q
      clear q
      by_cases h1 : 1 ≤ x.length
      · by_cases h2 : x.length ≤ 8
        · refine ⟨_, rfl, x, rfl, line100 (by omega), _, _, rfl, rfl, true, ?_, _, _, rfl, rfl, true, ?_, ?_⟩
          · exact congrArg V.bl (decide_eq_true (show (1 : Int) ≤ (x.length : Int) by omega))
          · exact congrArg V.bl (decide_eq_true (show (x.length : Int) ≤ 8 by omega))
          refine ⟨_, rfl, x, rfl, fun L nL => ?_⟩
          refine lc_it walk_str (fun i H' => H' L = some (.lst (((x.cps.toList.take i).map okc).map V.bl)) ∧ Same H H') ⟨upd_same, Same.new nL⟩ (fun _ _ _ _ => trivial) ?_ ?_
          · rintro i v H1 H1' hi ⟨e1, s1⟩ ⟨rfl, c, hc, rfl⟩
            refine ⟨rfl, ?_⟩
            have hc' : x.cps.toList[i]? = some c := by rw [Array.getElem?_toList]; exact hc
            have key : ∀ b : Bool, okc c = b → ∃ xs, H1' L = some (.lst xs) ∧ xs.length < sizeLine ∧ (upd H1' L (.lst (xs ++ [V.bl b])) L = some (.lst (((x.cps.toList.take (i + 1)).map okc).map V.bl)) ∧ Same H (upd H1' L (.lst (xs ++ [V.bl b])))) := by
              intro b hb
              refine ⟨_, e1, ?_, ?_, Same.mut s1 nL⟩
              · rw [List.length_map, List.length_map, List.length_take]
                have : x.cps.toList.length ≤ 8 := by rw [Array.length_toList]; exact h2
                exact line100' (by omega)
              · rw [upd_same, List.take_add_one, hc', List.map_append, List.map_append, ← hb]
                rfl
            refine ⟨_, rfl, _, _, rfl, rfl, !decide ([c] < (Str.ofString "a").cps.toList), rfl, ?_⟩
            cases ha : !decide ([c] < (Str.ofString "a").cps.toList) with
            | true =>
              refine ⟨_, _, rfl, rfl, ?_⟩
              exact key _ (by unfold okc; rw [ha, Bool.true_and])
            | false => exact key false (by unfold okc; rw [ha, Bool.false_and])
          · rintro H1 ⟨e1, s1⟩
            rw [show x.cps.size = x.cps.toList.length by rw [Array.length_toList], List.take_length] at e1
            refine ⟨L, x.cps.toList.map okc, rfl, .of e1, ?_⟩
            have e2 : (x.cps.toList.map okc).all id = nameB x := by
              unfold nameB
              rw [decide_eq_true h1, decide_eq_true h2, Bool.true_and, Bool.true_and, List.all_map]
              rfl
            rw [e2]
            exact q' _ s1
        · have e1 : nameB x = false := by unfold nameB; rw [decide_eq_false h2, Bool.false_and, Bool.and_false]
          rw [e1] at q0
          refine ⟨_, rfl, x, rfl, line100 (by omega), _, _, rfl, rfl, true, ?_, _, _, rfl, rfl, false, ?_, ?_⟩
          · exact congrArg V.bl (decide_eq_true (show (1 : Int) ≤ (x.length : Int) by omega))
          · exact congrArg V.bl (decide_eq_false (show ¬ (x.length : Int) ≤ 8 by omega))
          exact q0
      · have e1 : nameB x = false := by unfold nameB; rw [decide_eq_false h1, Bool.false_and]
        rw [e1] at q0
        refine ⟨_, rfl, x, rfl, line100 (by omega), _, _, rfl, rfl, false, ?_, false, rfl, ?_⟩
        · exact congrArg V.bl (decide_eq_false (show ¬ (1 : Int) ≤ (x.length : Int) by omega))
        exact q0
    | _ => exact q0
/-- the defs of the program that are called -/
structure Kt (K : PySem.W.Frag) (mg : Str → Option Value) (fW fN fA fR fK fS : Addr) (dW dN dA dR dK dS : FuncData) : Prop where
  B : Bn mg
  C : Cn mg
  set : mg "set" = none
  bool : mg "bool" = none
  whole : Fn K mg "is_whole" s_is_whole ["thing"] fW dW
  isn : Fn K mg "is_name" s_is_name ["thing"] fN dN
  are : Fn K mg "are_columns" s_are ["thing"] fA dA
  row : Fn K mg "is_row" s_is_row ["thing", "many"] fR dR
  chk : Fn K mg "_check_columns" s_cc ["columns"] fK dK
  srt : Fn K mg "_sorted_rows" s_sorted ["rows", "many"] fS dS
variable {fW fN fA fR fK fS : Addr} {dW dN dA dR dK dS : FuncData}
theorem sc_is_whole : FnScope ["thing"] ["thing"] (defScope s_is_whole) := ⟨rfl, rfl, rfl, by decide +kernel, rfl, by decide +kernel, by decide +kernel⟩
def sp_is_whole : Sp := fun vs H Q _ => ∃ (W : Addr) (v : V), vs = [v] ∧ Lf W H v ∧ Q (.bl (wholeV v)) H
theorem ok_is_whole (T : Kt K mg fW fN fA fR fK fS dW dN dA dR dK dS) : FnOk P w K mg base CX0 1 fW dW ["thing"] sp_is_whole := by
  have B := T.B
  refine T.whole.F.ok sc_is_whole (fun vs H Q E h => ?_) (fun cdv A outer s H vs Q E hr h => ?_)
  · obtain ⟨W, v, rfl, _⟩ := h
    rfl
  · obtain ⟨W, v, rfl, hv, q⟩ := h
    refine ⟨_, pss_one (ps_ret (pe_and (pe_callB call_isi (by rfl) B.isi boot_isinstance (pa_cons (pv 0) (pa_cons (pe_bltn (v := .ty "int") (by rfl) B.int boot_int rfl) pa_nil)))
      (pe_one (pe_not (pe_callB call_isi (by rfl) B.isi boot_isinstance (pa_cons (pv 0) (pa_cons (pe_bltn (v := .ty "bool") (by rfl) T.bool boot_bool rfl) pa_nil))))))), ?_⟩
    obtain ⟨t, h1, _, h2, h3⟩ := hv.ty (K := K)
    refine ⟨_, rfl, _, _, _, _, _, rfl, .ty _, h1, kit_ty h2, _, rfl, ?_⟩
    rw [whole_num] at q
    cases hn : numV v with
    | false =>
      rw [hn] at q
      exact q
    | true =>
      rw [hn] at q
      refine ⟨_, rfl, _, _, _, _, _, rfl, .ty _, h1, kit_ty h3, _, rfl, ?_⟩
      simpa using q
theorem sc_is_row : FnScope ["thing", "many", "value"] ["thing", "many"] (defScope s_is_row) := ⟨rfl, rfl, rfl, by decide +kernel, rfl, by decide +kernel, by decide +kernel⟩
def sp_is_row : Sp := fun vs H Q _ => ∃ (W : Addr) (v : V) (d : Option (List V)) (many : Nat), vs = [v, .int many] ∧ RowT W H v d ∧ ∀ H', Same H H' → Q (.bl (okRow many d)) H'
theorem ok_is_row (T : Kt K mg fW fN fA fR fK fS dW dN dA dR dK dS) : FnOk P w K mg base CX0 2 fR dR ["thing", "many"] sp_is_row := by
  have B := T.B
  have GW : FnOk P w K mg base CX0 1 fW dW ["thing"] sp_is_whole := ok_is_whole T
  refine T.row.F.ok sc_is_row (fun vs H Q E h => ?_) (fun cdv A outer s H vs Q E hr h => ?_)
  · obtain ⟨W, v, d, many, rfl, _⟩ := h
    rfl
  · obtain ⟨W, v, d, many, rfl, hd, q⟩ := h
    have nd := sc_is_row.nd
    refine ⟨_, pss_cons (ps_if (PW.pt (pw_or (pt_not (pt_val (pe_callB call_isi (by rfl) B.isi boot_isinstance (pa_cons (pv 0) (pa_cons (pe_bltn (v := .ty "tuple") (by rfl) B.tuple boot_tuple rfl) pa_nil)))))
        (pw_or1 (pt_cmpR op_ne (pe_callB call_len_seq (by rfl) B.len PySem.boot_len (pa_cons (pv 0) pa_nil)) (pv 1) (nomark _))))) (pss_one (ps_ret pe_bl)) pss_nil)
      (pss_one (ps_ret (pe_callB (cr_all rfl) (by rfl) B.all boot_all (pa_cons (pe_lc (own := [("value", 2)]) (g := gName 2) (tt := tYes) (te := tCall sp_is_whole [] E0 (tCons (tVar 2) tNil)) rfl nd (pi_tup (pv 0)) (blkOk_by (N := ["thing", "many", "value"]) (sc := defScope s_is_row) (by decide +kernel))
          (fun _ _ _ _ _ => pg_name (i := 2) nd rfl (Or.inl rfl)) (fun _ _ _ _ _ => pts_nil)
          (fun _ _ _ _ _ => pe_call GW hr rfl T.whole.g T.whole.F.kp T.whole.b .nil pass0 (pa_cons (pv 2) pa_nil))) pa_nil)))), ?_⟩
    obtain ⟨t, h1, h2⟩ := hd.ty (K := K)
    refine ⟨_, rfl, _, _, _, _, _, rfl, .ty _, h1, kit_ty h2, _, rfl, ?_⟩
    rcases hd with ⟨a, ys, rfl, n, ha, hl, hy, rfl⟩ | ⟨rfl, _⟩
    · refine ⟨_, rfl, a, _, rfl, .inr (.of ha), _, rfl, rfl, _, rfl, ?_⟩
      by_cases hlen : ys.length = many
      · rw [decide_eq_true (show V.int (ys.length : Int) = V.int (many : Int) by rw [hlen])]
        refine ⟨_, rfl, a, rfl, ⟨_, .of ha⟩, fun L nL => ?_⟩
        refine lc_it (walk_tup (xs := ys)) (fun i h => h L = some (.lst (((ys.take i).map wholeV).map V.bl)) ∧ Same H h)
          ⟨upd_same, Same.new nL⟩ (fun i h _ ⟨_, s⟩ => .of (s _ _ ha)) ?_ ?_
        · rintro i x h h' hi ⟨e4, s4⟩ ⟨rfl, hx⟩
          refine ⟨rfl, ?_⟩
          refine ⟨_, rfl, W, _, rfl, (hy x (List.mem_of_getElem? hx)).kp (.of s4), ?_⟩
          refine ⟨_, e4, ?_, ?_, Same.mut s4 nL⟩
          · rw [List.length_map, List.length_map, List.length_take]
            exact line100' (by omega)
          · rw [upd_same, List.take_add_one, hx, List.map_append, List.map_append]
            rfl
        · rintro h ⟨e4, s4⟩
          rw [List.take_length] at e4
          refine ⟨L, ys.map wholeV, rfl, .of e4, ?_⟩
          have e : (ys.map wholeV).all id = okRow many (some ys) := by
            show _ = (decide (ys.length = many) && ys.all wholeV)
            rw [decide_eq_true hlen, Bool.true_and, List.all_map]
            rfl
          rw [e]
          exact q h s4
      · rw [decide_eq_false (show ¬ V.int (ys.length : Int) = V.int (many : Int) by intro z; injection z with z; omega)]
        have e : okRow many (some ys) = false := by
          show (decide (ys.length = many) && ys.all wholeV) = false
          rw [decide_eq_false hlen, Bool.false_and]
        have q' := q H same_rfl
        rw [e] at q'
        exact q'
    · exact q H same_rfl
theorem sc_are : FnScope ["thing", "name"] ["thing"] (defScope s_are) := ⟨rfl, rfl, rfl, by decide +kernel, rfl, by decide +kernel, by decide +kernel⟩
theorem ColsT.ty {K : PySem.W.Frag} {W : Addr} {H : Hp} {v : V} {b : Bool} (h : ColsT W H v b) : (∃ L xs, v = .ref L ∧ L ≠ W ∧ H L = some (.lst xs) ∧ xs.length ≤ 20 ∧ (∀ x ∈ xs, Lf W H x) ∧ b = colsV xs) ∨ (b = false ∧ ∃ t, TyX K H v (.type t) ∧ kitB t "list" = some false) := by
  rcases h with h | ⟨rfl, rfl | ⟨a, xs, rfl, n, h1⟩ | h⟩
  · exact .inl h
  · exact .inr ⟨rfl, _, .base .non, (show kitB "NoneType" "list" = some false by decide +kernel)⟩
  · exact .inr ⟨rfl, _, .base (.tup h1), (show kitB "tuple" "list" = some false by decide +kernel)⟩
  · cases h with
    | int i => exact .inr ⟨rfl, _, .base (.int i), (show kitB "int" "list" = some false by decide +kernel)⟩
    | str x => exact .inr ⟨rfl, _, .base (.str x), (show kitB "str" "list" = some false by decide +kernel)⟩
    | dK n h => exact .inr ⟨rfl, _, .base (.dK h), (show kitB "dict" "list" = some false by decide +kernel)⟩
def sp_are : Sp := fun vs H Q _ => ∃ (W : Addr) (v : V) (b : Bool), vs = [v] ∧ ColsT W H v b ∧ ∀ H', Same H H' → Q (.bl b) H'
theorem ok_are (T : Kt K mg fW fN fA fR fK fS dW dN dA dR dK dS) : FnOk P w K mg base CX0 2 fA dA ["thing"] sp_are := by
  have B := T.B
  have GN : FnOk P w K mg base CX0 1 fN dN ["thing"] sp_is_name := ok_is_name T.isn B T.C
  refine T.are.F.ok sc_are (fun vs H Q E h => ?_) (fun cdv A outer s H vs Q E hr h => ?_)
  · obtain ⟨W, v, b, rfl, _⟩ := h
    rfl
  · obtain ⟨W, v, b, rfl, hv, q⟩ := h
    obtain ⟨tl, hmo⟩ := T.C.most
    refine ⟨_, pss_cons (ps_if (PW.pt (pw_or (pt_not (pt_val (pe_callB call_isi (by rfl) B.isi boot_isinstance (pa_cons (pv 0) (pa_cons (pe_bltn (v := .ty "list") (by rfl) B.list boot_list rfl) pa_nil)))))
        (pw_or1 (pt_cmpR op_gt (pe_callB call_len_seq (by rfl) B.len PySem.boot_len (pa_cons (pv 0) pa_nil)) (pe_glob (v := .int 8) (by rfl) hmo ⟨_, rfl⟩) (nomark _))))) (pss_one (ps_ret pe_bl)) pss_nil)
      (pss_one (ps_ret (pe_and (pe_callB (cr_all rfl) (by rfl) B.all boot_all (pa_cons (pe_lc (own := [("name", 1)]) (g := gName 1) (tt := tYes) (te := tCall sp_is_name [] E0 (tCons (tVar 1) tNil)) rfl sc_are.nd (pi_list (pv 0))
            (blkOk_by (N := ["thing", "name"]) (sc := defScope s_are) (by decide +kernel)) (fun _ _ _ _ _ => pg_name (i := 1) sc_are.nd rfl (Or.inl rfl)) (fun _ _ _ _ _ => pts_nil)
            (fun _ _ _ _ _ => pe_call GN hr rfl T.isn.g T.isn.F.kp T.isn.b .nil pass0 (pa_cons (pv 1) pa_nil))) pa_nil))
        (pe_one (pe_cmpR op_eq (pe_lenD rfl (by rfl) B.len (by rfl) T.set (pv 0)) (pe_callB call_len_seq (by rfl) B.len PySem.boot_len (pa_cons (pv 0) pa_nil)) (nomark _)))))), ?_⟩
    rcases hv.ty (K := K) with ⟨L, xs, rfl, n, hL, hle, hxs, hb⟩ | ⟨rfl, t, h1, h2⟩
    · refine ⟨_, rfl, _, _, _, _, true, rfl, .ty _, .base (.lst hL), kit_ty (by decide +kernel), _, rfl, ?_⟩
      refine ⟨_, rfl, L, _, rfl, .inl (.of hL), _, _, rfl, rfl, _, rfl, ite2 (fun hf => ?_) (fun hf => ?_)⟩
      · have := of_decide_eq_true hf
        have hb' : b = false := by
          rw [hb]
          unfold colsV
          rw [decide_eq_false (by omega)]
          rfl
        exact hb' ▸ q H same_rfl
      have h8 : xs.length ≤ 8 := by
        have : ¬ (8 : Int) < (xs.length : Int) := fun z => hf (decide_eq_true z)
        omega
      dsimp only [tNext, tRet, tAndV, tCB, tCons, List.map]
      refine lc_all (K := K) (s := [some (.ref L), none]) (ti := tVar 0) (i := 1) (tt := tYes) (te := tCall sp_is_name [] E0 (tCons (tVar 1) tNil)) (l := L) (xs := xs) (g := fun v => V.bl (isNm v)) (p := fun _ => true) ⟨_, rfl, rfl, same_rfl⟩ mono_var (.of hL) (by omega) (fun v hv h5 s5 => et_yes) ?_ ?_
      · intro v hv _ h8 s8 h9 s9 Q6 q6
        exact ⟨_, rfl, W, v, rfl, (hxs v hv).kp (.of (s8.trans s9)), fun h10 s10 => q6 h10 s10⟩
      · intro La h8' s8 nLa eLa
        refine ⟨La, xs.map isNm, rfl, .of (by rw [eLa, filter_yes, List.map_map]; rfl), ?_⟩
        have eall : (xs.map isNm).all id = xs.all isNm := by rw [List.all_map]; rfl
        rw [eall]
        refine ⟨_, rfl, ?_⟩
        cases ha : xs.all isNm with
        | false =>
          have hb' : b = false := by
            rw [hb]
            unfold colsV
            rw [ha]
            simp
          rw [if_neg Bool.false_ne_true]
          exact hb' ▸ q h8' s8
        | true =>
          rw [if_pos rfl]
          obtain ⟨ns, rfl, ok⟩ := all_names ha
          rw [List.length_map] at h8 hle
          refine ⟨_, rfl, L, ns, rfl, .of (s8 _ _ hL), by omega, _, rfl, L, _, rfl, .inl (.of (s8 _ _ hL)), rfl, ?_⟩
          have e : decide (V.int (unl ns : Int) = V.int ((ns.map V.str).length : Int)) = b := by
            rw [hb]
            unfold colsV
            rw [ha, List.length_map, decide_eq_true h8, Bool.true_and, Bool.true_and]
            refine decide_eq_decide.mpr ?_
            rw [nd_strs, ← unl_eq]
            constructor
            · intro z
              injection z with z
              omega
            · intro z
              rw [z]
          rw [e]
          exact q h8' s8
    · exact ⟨_, rfl, _, _, _, _, false, rfl, .ty _, h1, kit_ty h2, _, rfl, q H same_rfl⟩
theorem sc_cc : FnScope ["columns"] ["columns"] (defScope s_cc) := ⟨rfl, rfl, rfl, by decide +kernel, rfl, by decide +kernel, by decide +kernel⟩
def sp_cc (Cn : Addr) : Sp := fun vs H Q E => ∃ (W : Addr) (v : V) (b : Bool), vs = [v] ∧ ColsT W H v b ∧ (b = false → ∀ H', Same H H' → E (.ref Cn) none H') ∧ (b = true → ∀ H', Same H H' → Q .non H')
theorem ok_cc {Cn : Addr} (T : Kt K mg fW fN fA fR fK fS dW dN dA dR dK dS) (N : Ec K mg "NoColumns" Cn) : FnOk P w K mg base (L2.CX P w) 3 fK dK ["columns"] (sp_cc Cn) := by
  have GA : FnOk P w K mg base CX0 2 fA dA ["thing"] sp_are := ok_are T
  refine T.chk.F.okX sc_cc (fun vs H Q E h => ?_) (fun cdv A outer s H vs Q E hr h => ?_)
  · obtain ⟨W, v, b, rfl, _⟩ := h
    rfl
  · obtain ⟨W, v, b, rfl, hv, q0, q1⟩ := h
    refine ⟨_, pss_one (ps_if (pt_not (pt_val (pe_call GA hr rfl T.are.g T.are.F.kp T.are.b .nil pass0 (pa_cons (pv 0) pa_nil)))) (pss_one (ps_raise rfl (takes_of rfl rfl rfl rfl) (pmk_own PySem.F.excBase_ValueError N.ex N.g N.k (raises_own N.b N.t) (by exact rfl)))) pss_nil), ?_⟩
    refine ⟨_, rfl, W, v, b, rfl, hv, fun H1 s1 => ⟨b, rfl, ?_⟩⟩
    cases b with
    | false => exact q0 rfl H1 s1
    | true => exact q1 rfl H1 s1
end
end T01

set_option maxHeartbeats 2000000
namespace T01
open PySem L2 PyProof.Rows TX TY TW TD TB TG TUD TE TK
def rTu (K : PySem.W.Frag) : List V → Hp → VK → Prop := fun xs H Q => ∃ p ys, xs = [.ref p] ∧ ((SqL K H p ys ∧ ∀ l, H l = none → Q (.ref l) (upd H l (.tup ys))) ∨ (SqT K H p ys ∧ Q (.ref p) H))
theorem call_tu {X : Cx} : CallR X (.type "tuple") (rTu X.K) := call_tuple_of
section
variable {P : Program} {w : World} {K : PySem.W.Frag} {mg : Str → Option Value} {base : Heap}
variable {fW fN fA fR fK fS : Addr} {dW dN dA dR dK dS : FuncData}
/-- columns and rows that are right, as the general words see them -/
theorem cols_ok {ns : List Str} (h : Cs ns) : colsV (ns.map V.str) = true := by
  unfold colsV
  rw [decide_eq_true (show (ns.map V.str).length ≤ 8 by rw [List.length_map]; exact h.le), decide_eq_true (nd_strs.mpr h.nd)]
  have : (ns.map V.str).all isNm = true := by
    rw [List.all_eq_true]
    intro v hv
    obtain ⟨n, hn, rfl⟩ := List.mem_map.mp hv
    exact (nameB_iff n).mpr (h.ok n hn)
  rw [this]
  rfl
theorem colsT_ok {H : Hp} {L : Addr} {ns : List Str} (h : Cs ns) (e : H L = some (.lst (ns.map V.str))) : ColsT (L + 1) H (.ref L) true :=
  .inl ⟨L, _, rfl, Nat.ne_of_lt (Nat.lt_succ_self L), e, by rw [List.length_map]; have := h.le; omega, fun v hv => by obtain ⟨n, hn, rfl⟩ := List.mem_map.mp hv; exact .str n (by have := (h.ok n hn).2.1; omega), (cols_ok h).symm⟩
theorem rowT_int {H : Hp} {a : Addr} {r : List Int} (h : H a = some (.tup (r.map V.int))) (hl : r.length ≤ 20) : RowT (a + 1) H (.ref a) (some (r.map V.int)) :=
  .inl ⟨a, _, rfl, Nat.ne_of_lt (Nat.lt_succ_self a), h, by rw [List.length_map]; exact hl, fun y hy => by obtain ⟨n, hn, rfl⟩ := List.mem_map.mp hy; exact .int n, rfl⟩
theorem okRow_int {n : Nat} {r : List Int} (h : r.length = n) : okRow n (some (r.map V.int)) = true := by
  show (decide ((r.map V.int).length = n) && (r.map V.int).all wholeV) = true
  rw [List.length_map, decide_eq_true h, Bool.true_and]
  exact whole_ints r
theorem sc_cc' : FnScope ["columns"] ["columns"] (defScope s_cc) := sc_cc
def sp_ccV : Sp := fun vs H Q _ => ∃ (L : Addr) (cs : List Str), vs = [.ref L] ∧ H L = some (.lst (cs.map V.str)) ∧ Cs cs ∧ ∀ H', Same H H' → Q .non H'
theorem ok_ccV (T : Kt K mg fW fN fA fR fK fS dW dN dA dR dK dS) : FnOk P w K mg base CX0 3 fK dK ["columns"] sp_ccV := by
  have GA : FnOk P w K mg base CX0 2 fA dA ["thing"] sp_are := ok_are T
  refine T.chk.F.ok sc_cc (fun vs H Q E h => ?_) (fun cdv A outer s H vs Q E hr h => ?_)
  · obtain ⟨L, cs, rfl, _⟩ := h
    rfl
  · obtain ⟨L, cs, rfl, hL, hc, q⟩ := h
    refine ⟨_, pss_one (ps_if (pt_not (pt_val (pe_call GA hr rfl T.are.g T.are.F.kp T.are.b .nil pass0 (pa_cons (pv 0) pa_nil)))) (pss_one ps_never) pss_nil), ?_⟩
    exact ⟨_, rfl, L + 1, _, true, rfl, colsT_ok hc hL, fun H1 s1 => ⟨true, rfl, q H1 s1⟩⟩
/-- rows, or nothing -/
def RowsV (H : Hp) (v : V) (as : List Addr) (rs : List (List Int)) : Prop := (v = .non ∧ as = [] ∧ rs = []) ∨ ∃ L, v = .ref L ∧ H L = some (.lst (as.map V.ref)) ∧ RowsAt H as rs
/-- rows that may be handed in -/
structure Rs (n : Nat) (rs : List (List Int)) : Prop where
  len : ∀ r ∈ rs, r.length = n
  few : rs.length ≤ 900
theorem sc_sorted : FnScope ["rows", "many", "at", "row"] ["rows", "many"] (defScope s_sorted) := ⟨rfl, rfl, rfl, by decide +kernel, rfl, by decide +kernel, by decide +kernel⟩
def sp_sorted : Sp := fun vs H Q _ => ∃ (v : V) (as : List Addr) (rs : List (List Int)) (many : Nat), vs = [v, .int many] ∧ RowsV H v as rs ∧ (∀ r ∈ rs, r.length = many) ∧ many ≤ 20 ∧ rs.length ≤ 900 ∧
  ∀ H' p as', Same H H' → H p = none → H' p = some (.lst (as'.map V.ref)) → RowsAt H' as' (norm rs) → Q (.ref p) H'
theorem ok_sorted (T : Kt K mg fW fN fA fR fK fS dW dN dA dR dK dS) : FnOk P w K mg base CX0 3 fS dS ["rows", "many"] sp_sorted := by
  have B := T.B
  have GR : FnOk P w K mg base CX0 2 fR dR ["thing", "many"] sp_is_row := ok_is_row T
  refine T.srt.F.ok sc_sorted (fun vs H Q E h => ?_) (fun cdv A outer s H vs Q E hr h => ?_)
  · obtain ⟨v, as, rs, many, rfl, _⟩ := h
    rfl
  · obtain ⟨v, as, rs, many, rfl, hv, hm, hm8, h60, q⟩ := h
    have hu := hr.units
    have nd := sc_sorted.nd
    refine ⟨_, pss_cons (ps_if (pt_cmp (pc_isN (pv 0))) (pss_one (ps_ret (pe_lst pa_nil))) pss_nil)
      (pss_cons (ps_if (pt_not (pt_val (pe_callB call_isi (by rfl) B.isi boot_isinstance (pa_cons (pv 0) (pa_cons (pe_bltn (v := .ty "list") (by rfl) B.list boot_list rfl) pa_nil))))) (pss_one ps_never) pss_nil)
      (pss_cons (ps_for PassesOwn.never rfl (pi_enum rfl B.enum (pa_cons (pv 0) pa_nil)) (pg_tup rfl (pgs_cons (pg_name (i := 2) nd rfl (Or.inl rfl)) (pgs_cons (pg_name (i := 3) nd rfl (Or.inl rfl)) pgs_nil)))
        (pss_one (ps_if (pt_not (pt_val (pe_call GR hr rfl T.row.g T.row.F.kp T.row.b .nil pass0 (pa_cons (pv 3) (pa_cons (pv 1) pa_nil))))) (pss_one ps_never) pss_nil)))
      (pss_one (ps_ret (pe_callB (TBH.cr_sortB rfl) (by rfl) B.sorted boot_sorted (pa_cons (TBH.pe_scK (TBH.khI K P w) (own := [("row", 3)]) (g := gName 3) (tt := tYes) (te := tCB (rTu K) (tCons (tVar 3) tNil)) (Nat.lt_of_le_of_lt (Nat.add_le_add_left (by decide : 24 ≤ 64) _) hu) rfl nd (pi_list (pv 0)) (blkOk_by (N := ["rows", "many", "at", "row"]) (sc := defScope s_sorted) (by decide +kernel))
          (fun _ _ _ _ _ => pg_name (i := 3) nd rfl (Or.inl rfl)) (fun _ _ _ _ _ => pts_nil) (fun _ _ _ _ _ => pe_callTy call_tu (by rfl) B.tuple boot_tuple (pa_cons (pv 3) pa_nil))) pa_nil)))))), ?_⟩
    rcases hv with ⟨rfl, rfl, rfl⟩ | ⟨L, rfl, hL, hR⟩
    · refine ⟨_, rfl, _, rfl, by show 0 ≤ sizeLine; decide, fun p np => ?_⟩
      exact q _ p [] (Same.new np) np upd_same .nil
    have hal := hR.len
    refine ⟨_, rfl, _, rfl, ?_⟩
    refine ⟨_, rfl, _, _, _, _, true, rfl, .ty _, .base (.lst hL), kit_ty (by decide +kernel), _, rfl, ?_⟩
    refine ⟨_, rfl, L, _, rfl, .of hL, ?_⟩
    refine for_it (walk_enum (xs := as.map V.ref)) (fun i σ h => ∃ v2 v3 : Option V, σ = [some (.ref L), some (.int many), v2, v3] ∧ Same H h)
      ⟨none, none, rfl, same_rfl⟩ (fun i σ h _ ⟨_, _, _, s⟩ => .of (s _ _ hL)) ?_ ?_
    · rintro i x σ h h' hi ⟨v2, v3, rfl, s1⟩ ⟨T', x1, x2, rfl, nT, rfl, hx1, hx2⟩
      rw [List.length_map] at hi
      obtain rfl : V.int (i : Int) = x1 := Option.some.inj hx1
      obtain ⟨a, ha, rfl⟩ : ∃ a, as[i]? = some a ∧ x2 = V.ref a := by
        have h2 : (as.map V.ref)[i]? = some x2 := hx2
        rw [List.getElem?_map, List.getElem?_eq_getElem hi] at h2
        exact ⟨_, List.getElem?_eq_getElem hi, (Option.some.inj h2).symm⟩
      obtain ⟨r, hr', hta⟩ := pr_at hR ha
      have sT : Same H (upd h T' (.tup [.int (i : Int), .ref a])) := s1.trans (Same.new nT)
      refine ⟨T', _, rfl, .of upd_same, rfl, _, _, rfl, _, _, rfl, rfl, ?_⟩
      generalize upd h T' (.tup [.int (i : Int), .ref a]) = h2 at sT ⊢
      refine ⟨_, rfl, _, rfl, a + 1, .ref a, some (r.map V.int), many, rfl, rowT_int (sT _ _ hta) (by rw [hm r (List.mem_of_getElem? hr')]; exact hm8), fun h3 s3 => ⟨_, rfl, ?_⟩⟩
      rw [okRow_int (hm r (List.mem_of_getElem? hr'))]
      exact ⟨_, _, rfl, sT.trans s3⟩
    · rintro σ h0 ⟨v2, v3, rfl, s0⟩
      have hL0 := s0 _ _ hL
      have hR0 := hR.same s0
      refine ⟨_, rfl, L, rfl, ⟨_, .of hL0⟩, fun D nD => ?_⟩
      obtain ⟨zs, hzs⟩ : ∃ zs, zs = as.zip rs := ⟨_, rfl⟩
      have zl : zs.length = as.length := by rw [hzs, List.length_zip]; omega
      have z1 := (zip_fst hal).1
      have z2 := (zip_fst hal).2
      rw [← hzs] at z1 z2
      have zr : ∀ p ∈ zs, h0 p.1 = some (.tup (p.2.map V.int)) := by rw [hzs]; exact pr_zip hR0
      refine TBH.sc_walkK (TBH.khI K P w) (walk_list (xs := as.map V.ref)) (fun i h => ∃ Ls : List (Addr × List Int), h D = some (TBH.SetKO (TBH.kdI P w) D Ls) ∧ (∀ p ∈ Ls, p ∈ zs.take i) ∧ (∀ p ∈ zs.take i, p.2 ∈ Ls.map (·.2)) ∧ Ls.length ≤ i ∧ Same h0 h)
        ⟨[], upd_same, (fun _ h => nomatch h), (fun _ h => by simp at h), Nat.le_refl _, Same.new nD⟩ (fun i h _ ⟨_, _, _, _, _, s⟩ => .of (s _ _ hL0)) ?_ ?_
      · rintro i x h h' hi ⟨Ls, e1, i1, i2, i3, s1⟩ ⟨rfl, hx⟩
        rw [List.length_map] at hi
        have hz : i < zs.length := by omega
        obtain ⟨pr, hpr⟩ : ∃ pr, zs[i]? = some pr := ⟨_, List.getElem?_eq_getElem hz⟩
        have hmem : pr ∈ zs := List.mem_of_getElem? hpr
        have hxa : x = V.ref pr.1 := by
          have e2 : as[i]? = some pr.1 := by rw [← z1, List.getElem?_map, hpr]; rfl
          rw [List.getElem?_map, e2] at hx
          exact (Option.some.inj hx).symm
        subst hxa
        have htk : zs.take (i + 1) = zs.take i ++ [pr] := by rw [List.take_add_one, hpr]; rfl
        have ea := s1 _ _ (zr pr hmem)
        refine ⟨rfl, ?_⟩
        refine ⟨_, rfl, pr.1, _, rfl, .inr ⟨.of ea, pr.1, pr.2, Ls, rfl, .of ea, e1, fun p hp => .of (s1 _ _ (zr p (List.mem_of_mem_take (i1 p hp)))), by omega, fun L' h1 h2 => ?_⟩⟩
        refine ⟨L', upd_same, ?_⟩
        by_cases hin : pr.2 ∈ Ls.map (·.2)
        · rw [h1 hin]
          refine ⟨fun p hp => by rw [htk]; exact List.mem_append_left _ (i1 p hp), fun p hp => ?_, by omega, Same.mut s1 nD⟩
          rw [htk] at hp
          rcases List.mem_append.mp hp with hp | hp
          · exact i2 p hp
          · rw [List.mem_singleton.mp hp]
            exact hin
        · have pm := h2 hin
          refine ⟨fun p hp => ?_, fun p hp => ?_, by rw [pm.length_eq, List.length_cons]; omega, Same.mut s1 nD⟩
          · rw [htk]
            rcases List.mem_cons.mp (pm.mem_iff.mp hp) with e | hp
            · rw [e]
              exact List.mem_append_right _ (List.mem_singleton.mpr rfl)
            · exact List.mem_append_left _ (i1 p hp)
          · rw [htk] at hp
            refine (pm.map (·.2)).mem_iff.mpr ?_
            rw [List.map_cons]
            rcases List.mem_append.mp hp with hp | hp
            · exact List.mem_cons_of_mem _ (i2 p hp)
            · rw [List.mem_singleton.mp hp]
              exact List.mem_cons_self
      · rintro h ⟨Ls, e1, i1, i2, i3, s1⟩
        rw [List.length_map, ← zl, List.take_length] at i1 i2
        have lsr : ∀ p ∈ Ls, h p.1 = some (.tup (p.2.map V.int)) := fun p hp => s1 _ _ (zr p (i1 p hp))
        have inr : ∀ p ∈ zs, p.2 ∈ rs := fun p hp => z2 ▸ List.mem_map.mpr ⟨p, hp, rfl⟩
        refine ⟨D, Ls, many, rfl, e1, fun p hp => .of (lsr p hp), fun p hp => hm _ (inr p (i1 p hp)), fun L' p pm ndL few pw np => ?_⟩
        have sp : Same h (upd h p (.lst (L'.map fun q => V.ref q.1))) := Same.new np
        refine q _ p (L'.map (·.1)) ((s0.trans s1).trans sp) ((s0.trans s1).free np) ?_ ?_
        · rw [upd_same, List.map_map]
          rfl
        · have en : L'.map (·.2) = norm rs := by
            refine norm_of (rise_of ndL (List.pairwise_map.mpr pw)) fun x => ?_
            constructor
            · intro hx
              obtain ⟨pq, hp, rfl⟩ := List.mem_map.mp hx
              exact inr _ (i1 _ (pm.mem_iff.mp hp))
            · intro hx
              rw [← z2] at hx
              obtain ⟨pq, hp, rfl⟩ := List.mem_map.mp hx
              exact (pm.map (·.2)).mem_iff.mpr (i2 pq hp)
          rw [← en]
          exact of_zip fun pq hp => sp _ _ (lsr pq (pm.mem_iff.mp hp))
/-- a table whose own parts are new since H0 -/
def TabN (C : Addr) (H0 H : Hp) (p : Addr) (cs : List Str) (rs : List (List Int)) : Prop := ∃ dx l r as, H p = some (.ins C dx (bflds l r)) ∧ H l = some (.lst (cs.map V.str)) ∧ H r = some (.lst (as.map V.ref)) ∧ RowsAt H as rs ∧ H0 l = none ∧ H0 r = none
theorem TabN.tab {C : Addr} {H0 H : Hp} {p : Addr} {cs : List Str} {rs : List (List Int)} (t : TabN C H0 H p cs rs) : TabAt C H p cs rs := by
  obtain ⟨dx, l, r, as, h1, h2, h3, h4, _⟩ := t
  exact ⟨dx, l, r, as, h1, h2, h3, h4⟩
theorem TabN.put {C : Addr} {H0 H : Hp} {p a : Addr} {cs : List Str} {rs : List (List Int)} {o : HO} {xs ys : List V} (t : TabN C H0 H p cs rs) (e0 : H0 a = some o) (e : H a = some (.lst xs)) : TabN C H0 (upd H a (.lst ys)) p cs rs := by
  obtain ⟨dx, l, r, as, h1, h2, h3, h4, h5, h6⟩ := t
  exact ⟨dx, l, r, as, by rw [upd_ne (ne_of h1 e (by intro z; cases z))]; exact h1, by rw [upd_ne (ne_of_none e0 h5).symm]; exact h2, by rw [upd_ne (ne_of_none e0 h6).symm]; exact h3, RowsAt.put h4 e, h5, h6⟩
theorem TabN.same {C : Addr} {H0 H H' : Hp} {p : Addr} {cs : List Str} {rs : List (List Int)} (t : TabN C H0 H p cs rs) (s : Same H H') : TabN C H0 H' p cs rs := by
  obtain ⟨dx, l, r, as, h1, h2, h3, h4, h5, h6⟩ := t
  exact ⟨dx, l, r, as, s _ _ h1, s _ _ h2, s _ _ h3, h4.same s, h5, h6⟩
theorem TabN.back {C : Addr} {G0 H0 H : Hp} {p : Addr} {cs : List Str} {rs : List (List Int)} (t : TabN C H0 H p cs rs) (s : Same G0 H0) : TabN C G0 H p cs rs := by
  obtain ⟨dx, l, r, as, h1, h2, h3, h4, h5, h6⟩ := t
  exact ⟨dx, l, r, as, h1, h2, h3, h4, s.free h5, s.free h6⟩
theorem sc_binit : FnScope ["self", "columns", "rows"] ["self", "columns", "rows"] (defScope s_binit) := ⟨rfl, rfl, rfl, by decide +kernel, rfl, by decide +kernel, by decide +kernel⟩
def sp_binit (C : Addr) : Sp := fun vs H Q _ => ∃ (p L dx : Addr) (v : V) (cs : List Str) (as : List Addr) (rs : List (List Int)), vs = [.ref p, .ref L, v] ∧ H p = some (.ins C dx []) ∧ H L = some (.lst (cs.map V.str)) ∧ Cs cs ∧ RowsV H v as rs ∧ Rs cs.length rs ∧
  ∀ H', TabN C H H' p cs (norm rs) → (∀ b o, b ≠ p → H b = some o → H' b = some o) → Q .non H'
theorem ok_binit {C fi : Addr} {di : FuncData} (F : FunD K "__init__" "Table.__init__" (defArgs s_binit) (defBody s_binit) (defScope s_binit) [.non] [] fi di) (T : Kt K mg fW fN fA fR fK fS dW dN dA dR dK dS) (c : Bc K mg C) :
    FnOk P w K mg base CX0 4 fi di ["self", "columns", "rows"] (sp_binit C) := by
  have B := T.B
  have GK : FnOk P w K mg base CX0 3 fK dK ["columns"] sp_ccV := ok_ccV T
  have GS : FnOk P w K mg base CX0 3 fS dS ["rows", "many"] sp_sorted := ok_sorted T
  refine F.ok sc_binit (fun vs H Q E h => ?_) (fun cdv A outer s H vs Q E hr h => ?_)
  · obtain ⟨p, L, dx, v, cs, as, rs, rfl, _⟩ := h
    rfl
  · obtain ⟨p, L, dx, v, cs, as, rs, rfl, hp, hL, hc, hv, rok, q⟩ := h
    refine ⟨_, pss_cons (ps_expr (pe_call GK hr rfl T.chk.g T.chk.F.kp T.chk.b .nil pass0 (pa_cons (pv 1) pa_nil)))
      (pss_cons (ps_fld (pv 0) (pe_callTy call_list_of (by rfl) B.list boot_list (pa_cons (pv 1) pa_nil)) rfl)
      (pss_one (ps_fld (pv 0) (pe_call GS hr rfl T.srt.g T.srt.F.kp T.srt.b .nil pass0 (pa_cons (pv 2) (pa_cons (pe_callB call_len_seq (by rfl) B.len PySem.boot_len (pa_cons (pv 1) pa_nil)) pa_nil))) rfl))), ?_⟩
    refine ⟨_, rfl, L, cs, rfl, hL, hc, fun H1 s1 => ?_⟩
    refine ⟨_, rfl, L, _, rfl, .inl (.of (s1 _ _ hL)), fun l nl => ?_⟩
    have hp1 := s1 _ _ hp
    have pl : p ≠ l := ne_of_none hp1 nl
    have hL1 := s1 _ _ hL
    have pL : L ≠ p := fun z => by rw [z, hp1] at hL1; cases hL1
    refine ⟨_, rfl, p, C, dx, [], rfl, by rw [upd_ne pl]; exact hp1, c.cl, c.nC, by show 0 < 1000; decide, ?_⟩
    have keep : ∀ b o, b ≠ p → H b = some o → upd (upd H1 l (.lst (cs.map V.str))) p (.ins C dx (putF "_columns" (.ref l) [])) b = some o := fun b o hb e => by
      have e1 := s1 _ _ e
      rw [upd_ne hb, upd_ne (ne_of_none e1 nl)]
      exact e1
    have ep : upd (upd H1 l (.lst (cs.map V.str))) p (.ins C dx (putF "_columns" (.ref l) [])) p = some (.ins C dx (putF "_columns" (.ref l) [])) := upd_same
    have el : upd (upd H1 l (.lst (cs.map V.str))) p (.ins C dx (putF "_columns" (.ref l) [])) l = some (.lst (cs.map V.str)) := by rw [upd_ne pl.symm, upd_same]
    generalize upd (upd H1 l (.lst (cs.map V.str))) p (.ins C dx (putF "_columns" (.ref l) [])) = H2 at keep ep el ⊢
    have hv2 : RowsV H2 v as rs := by
      rcases hv with h | ⟨R, e1, e2, e3⟩
      · exact .inl h
      · exact .inr ⟨R, e1, keep R _ (fun z => by rw [z, hp] at e2; cases e2) e2, Paired.mapP e3 fun a r e => keep a _ (fun z => by rw [z, hp] at e; cases e) e⟩
    refine ⟨_, rfl, _, rfl, L, _, rfl, .inl (.of (keep _ _ pL hL)), v, as, rs, cs.length, ?_, hv2, rok.len, by have := hc.le; omega, rok.few, fun H3 r as' s3 nr er hr' => ?_⟩
    · rw [List.length_map]
      rfl
    refine ⟨_, rfl, p, C, dx, _, rfl, s3 _ _ ep, c.cl, c.nR, by show 1 < 1000; decide, ?_⟩
    have el3 := s3 _ _ el
    have lp : l ≠ p := pl.symm
    have rp : r ≠ p := fun z => by rw [z, ep] at nr; cases nr
    refine q _ ⟨dx, l, r, as', upd_same, by rw [upd_ne lp]; exact el3, by rw [upd_ne rp]; exact er, ?_, s1.free nl, ?_⟩ fun b o hb e => by rw [upd_ne hb]; exact s3 _ _ (keep b o hb e)
    rotate_left
    · cases e : H r with
      | none => rfl
      | some o =>
        rw [keep r o rp e] at nr
        cases nr
    exact Paired.mapP hr' fun a r' e => by rw [upd_ne (fun z => by rw [z, s3 _ _ ep] at e; cases e)]; exact e
theorem sc_bcolumns : FnScope ["self"] ["self"] (defScope s_bcolumns) := ⟨rfl, rfl, rfl, by decide +kernel, rfl, by decide +kernel, by decide +kernel⟩
def sp_bcolumns (C : Addr) : Sp := fun vs H Q _ => ∃ (p : Addr) (cs : List Str) (rs : List (List Int)), vs = [.ref p] ∧ TabAt C H p cs rs ∧ ∀ H' L, Same H H' → H L = none → H' L = some (.lst (cs.map V.str)) → Q (.ref L) H'
theorem ok_bcolumns {C f : Addr} {fd : FuncData} (F : Fun K "columns" "Table.columns" s_bcolumns f fd) (B : Bn mg) (c : Bc K mg C) : FnOk P w K mg base CX0 1 f fd ["self"] (sp_bcolumns C) := by
  refine F.ok sc_bcolumns (fun vs H Q E h => ?_) (fun cdv A outer s H vs Q E hr h => ?_)
  · obtain ⟨p, cs, rs, rfl, _⟩ := h
    rfl
  · obtain ⟨p, cs, rs, rfl, ⟨dx, l, r, as, h1, h2, h3, h4⟩, q⟩ := h
    refine ⟨_, pss_one (ps_ret (pe_callTy call_list_of (by rfl) B.list boot_list (pa_cons (pe_fld (pv 0) rfl) pa_nil))), ?_⟩
    exact ⟨_, rfl, p, C, dx, _, _, rfl, h1, c.cl, c.nC, bflds_col _ _, l, _, rfl, .inl (.of h2), fun L nL => q _ L (Same.new nL) nL upd_same⟩
theorem sc_brows : FnScope ["self"] ["self"] (defScope s_brows) := ⟨rfl, rfl, rfl, by decide +kernel, rfl, by decide +kernel, by decide +kernel⟩
def sp_brows (C : Addr) : Sp := fun vs H Q _ => ∃ (p : Addr) (cs : List Str) (rs : List (List Int)), vs = [.ref p] ∧ TabAt C H p cs rs ∧ ∀ H' L as, Same H H' → H L = none → H' L = some (.lst (as.map V.ref)) → RowsAt H' as rs → Q (.ref L) H'
theorem ok_brows {C f : Addr} {fd : FuncData} (F : Fun K "rows" "Table.rows" s_brows f fd) (B : Bn mg) (c : Bc K mg C) : FnOk P w K mg base CX0 1 f fd ["self"] (sp_brows C) := by
  refine F.ok sc_brows (fun vs H Q E h => ?_) (fun cdv A outer s H vs Q E hr h => ?_)
  · obtain ⟨p, cs, rs, rfl, _⟩ := h
    rfl
  · obtain ⟨p, cs, rs, rfl, ⟨dx, l, r, as, h1, h2, h3, h4⟩, q⟩ := h
    refine ⟨_, pss_one (ps_ret (pe_callTy call_list_of (by rfl) B.list boot_list (pa_cons (pe_fld (pv 0) rfl) pa_nil))), ?_⟩
    exact ⟨_, rfl, p, C, dx, _, _, rfl, h1, c.cl, c.nR, bflds_rows _ _, r, _, rfl, .inl (.of h3), fun L nL => q _ L as (Same.new nL) nL upd_same (h4.same (Same.new nL))⟩
theorem sc_blen : FnScope ["self"] ["self"] (defScope s_blen) := ⟨rfl, rfl, rfl, by decide +kernel, rfl, by decide +kernel, by decide +kernel⟩
def sp_blen (C : Addr) : Sp := fun vs H Q _ => ∃ (p : Addr) (cs : List Str) (rs : List (List Int)), vs = [.ref p] ∧ TabAt C H p cs rs ∧ Q (.int rs.length) H
theorem ok_blen {C f : Addr} {fd : FuncData} (F : Fun K "__len__" "Table.__len__" s_blen f fd) (B : Bn mg) (c : Bc K mg C) : FnOk P w K mg base CX0 1 f fd ["self"] (sp_blen C) := by
  refine F.ok sc_blen (fun vs H Q E h => ?_) (fun cdv A outer s H vs Q E hr h => ?_)
  · obtain ⟨p, cs, rs, rfl, _⟩ := h
    rfl
  · obtain ⟨p, cs, rs, rfl, ⟨dx, l, r, as, h1, h2, h3, h4⟩, q⟩ := h
    refine ⟨_, pss_one (ps_ret (pe_callB call_len_seq (by rfl) B.len PySem.boot_len (pa_cons (pe_fld (pv 0) rfl) pa_nil))), ?_⟩
    refine ⟨_, rfl, p, C, dx, _, _, rfl, h1, c.cl, c.nR, bflds_rows _ _, r, _, rfl, .inl (.of h3), ?_⟩
    rw [List.length_map, h4.len]
    exact q
theorem sc_beq : FnScope ["self", "other"] ["self", "other"] (defScope s_beq) := ⟨rfl, rfl, rfl, by decide +kernel, rfl, by decide +kernel, by decide +kernel⟩
def sp_beq (C : Addr) : Sp := fun vs H Q _ => ∃ (a b : Addr) (cs cs' : List Str) (rs rs' : List (List Int)), vs = [.ref a, .ref b] ∧ TabAt C H a cs rs ∧ TabAt C H b cs' rs' ∧ (∀ x ∈ cs, TM.NameOk x) ∧ (∀ x ∈ cs', TM.NameOk x) ∧ ∀ H', Same H H' → Q (.bl (decide (cs = cs') && decide (rs = rs'))) H'
theorem ok_beq {C f : Addr} {fd : FuncData} (F : Fun K "__eq__" "Table.__eq__" s_beq f fd) (B : Bn mg) (c : Bc K mg C) : FnOk P w K mg base CX0 1 f fd ["self", "other"] (sp_beq C) := by
  refine F.ok sc_beq (fun vs H Q E h => ?_) (fun cdv A outer s H vs Q E hr h => ?_)
  · obtain ⟨a, b, cs, cs', rs, rs', rfl, _⟩ := h
    rfl
  · obtain ⟨a, b, cs, cs', rs, rs', rfl, ⟨dx, l, r, as, h1, h2, h3, h4⟩, ⟨dx', l', r', as', h1', h2', h3', h4'⟩, ok, ok', q⟩ := h
    have hu64 := hr.units
    refine ⟨_, pss_one (ps_ret (pe_and (pe_callB call_isi (by rfl) B.isi boot_isinstance (pa_cons (pv 1) (pa_cons (pe_glob (v := .ref C) (by rfl) c.g rfl) pa_nil)))
      (pe_and (pe_cmpR (op_eqD hu64) (pe_fld (pv 0) rfl) (pe_fld (pv 1) rfl) (nomark _)) (pe_one (pe_cmpR (op_eqD hu64) (pe_fld (pv 0) rfl) (pe_fld (pv 1) rfl) (nomark _)))))), ?_⟩
    refine ⟨_, rfl, _, _, _, _, true, rfl, .own C, .base (.ins h1' c.cl c.ins.ha c.ins.hn c.ins.htk c.ins.hm), c.ins.me, true, rfl, ?_⟩
    refine ⟨_, rfl, a, C, dx, _, _, rfl, h1, c.cl, c.nC, bflds_col _ _, _, rfl, b, C, dx', _, _, rfl, h1', c.cl, c.nC, bflds_col _ _, _, _, DpS h2, DpS h2', shS ok, shS ok', _, rfl, ?_⟩
    rw [eqv_dS]
    by_cases hn : cs = cs'
    · rw [decide_eq_true hn]
      refine ⟨_, rfl, a, C, dx, _, _, rfl, h1, c.cl, c.nR, bflds_rows _ _, _, rfl, b, C, dx', _, _, rfl, h1', c.cl, c.nR, bflds_rows _ _, _, _, DpRows h3 h4, DpRows h3' h4', shRows rs, shRows rs', ?_⟩
      rw [eqv_dR]
      have := q H same_rfl
      rwa [decide_eq_true hn, Bool.true_and] at this
    · rw [decide_eq_false hn]
      have := q H same_rfl
      rwa [decide_eq_false hn, Bool.false_and] at this
end
end T01

set_option maxHeartbeats 1000000
/-! Tuples of the same items, and lists of such, compared: of whatever kind the items are. -/
namespace TEQ
open PySem L2 PyProof.Rows TX TY
theorem vals_at {xs : List V} {us : List Value} (r : Vals xs us) {j : Nat} (h : j < us.toArray.size) : ∃ x, xs[j]? = some x ∧ RelV x us.toArray[j] := by
  have hu : j < us.length := by simpa using h
  have hx : j < xs.length := by rw [r.length]; exact hu
  obtain ⟨u, e, k⟩ := r.get (List.getElem?_eq_getElem hx)
  refine ⟨xs[j], List.getElem?_eq_getElem hx, ?_⟩
  rw [List.getElem?_eq_getElem hu] at e
  have : us.toArray[j] = u := by simpa using Option.some.inj e
  rw [this]
  exact k
section
variable {X : Cx} {pins : List (Addr × Obj)} {σ : L2.St} {H : Hp} {s : Shared}
/-- two tuples of the same items are equal -/
theorem rc_tups {A : Around} {a b : Addr} {xs : List V} (I : Inv X pins σ H s) (ha : SqT X.K H a xs) (hb : SqT X.K H b xs) (hi : xs.all itemV = true) (hu : A.units < cLine) : SeqAt.RcAt A s (.ref a) (.ref b) true := by
  obtain ⟨us, r1, t1, _⟩ := I.tuple ha
  obtain ⟨vs, r2, t2, _⟩ := I.tuple hb
  have sz : us.toArray.size = vs.toArray.size := by rw [List.size_toArray, List.size_toArray, ← r1.length, ← r2.length]
  have z := SeqAt.RcAt.tuples (A := A) (e := fun _ => true) t1 t2 hu fun j h1 h2 => by
    obtain ⟨x, e1, k1⟩ := vals_at r1 h1
    obtain ⟨y, e2, k2⟩ := vals_at r2 h2
    rw [e1] at e2
    cases e2
    exact eqAt_item k1 k2 (List.all_eq_true.mp hi _ (List.mem_of_getElem? e1))
  have e : ((List.range (min us.toArray.size vs.toArray.size)).all (fun _ => true) && us.toArray.size == vs.toArray.size) = true := by rw [sz]; simp
  rw [e] at z
  exact z
theorem eq_tups {A : Around} {a b : Addr} {xs : List V} (I : Inv X pins σ H s) (ha : SqT X.K H a xs) (hb : SqT X.K H b xs) (hi : xs.all itemV = true) (hu : A.units < cLine) : SeqAt.EqAt A s (.ref a) (.ref b) true := by
  by_cases h : a = b
  · rw [h]
    exact SeqAt.EqAt.same _
  · exact SeqAt.EqAt.of_refs h (rc_tups I ha hb hi hu)
/-- tuple == tuple, of the same items -/
def rEqTup (K : PySem.W.Frag) : R2 := fun x y H Q => ∃ a b xs, x = .ref a ∧ y = .ref b ∧ SqT K H a xs ∧ SqT K H b xs ∧ xs.all itemV = true ∧ Q (.bl true) H
theorem op_eqTup (hu : X.A.units < cLine) : OpR X (compareOp .Eq) (rEqTup X.K) := by
  intro pins s σ H x y v u Q I rx ry h
  obtain ⟨a, b, xs, rfl, rfl, ha, hb, hi, q⟩ := h
  cases rx
  cases ry
  exact rc_tups I ha hb hi hu X.prog X.w X.xe _ ⟨.bl true, H, I, rfl, q⟩
/-- lists of tuples, each of the same items as the other's: != is False -/
def rNeTups (K : PySem.W.Frag) : R2 := fun x y H Q => ∃ (a b : Addr) (as bs : List Addr), x = .ref a ∧ y = .ref b ∧ SqL K H a (as.map V.ref) ∧ SqL K H b (bs.map V.ref) ∧ as.length = bs.length ∧
  (∀ (i : Nat) (p q : Addr), as[i]? = some p → bs[i]? = some q → ∃ xs, SqT K H p xs ∧ SqT K H q xs ∧ xs.all itemV = true) ∧ Q (.bl false) H
theorem op_neTups (hu : X.A.units + 1 < cLine) : OpR X (compareOp .NotEq) (rNeTups X.K) := by
  intro pins s σ H x y v u Q I rx ry h
  obtain ⟨a, b, as, bs, rfl, rfl, ha, hb, hl, each, q⟩ := h
  cases rx
  cases ry
  obtain ⟨us, r1, t1, _⟩ := I.list ha
  obtain ⟨vs, r2, t2, _⟩ := I.list hb
  have sz : us.toArray.size = vs.toArray.size := by
    rw [List.size_toArray, List.size_toArray, ← r1.length, ← r2.length, List.length_map, List.length_map, hl]
  have z := SeqAt.RcNeAt.lists (A := X.A) (e := fun _ => true) t1.isList t2.isList sz (by omega) fun j h1 h2 => by
    obtain ⟨x, e1, k1⟩ := vals_at r1 h1
    obtain ⟨y, e2, k2⟩ := vals_at r2 h2
    rw [List.getElem?_map] at e1 e2
    cases ep : as[j]? with
    | none => rw [ep] at e1; cases e1
    | some p =>
      cases eq : bs[j]? with
      | none => rw [eq] at e2; cases e2
      | some p2 =>
        rw [ep] at e1
        rw [eq] at e2
        cases e1
        cases e2
        have g1 : us.toArray[j] = Value.ref p := k1
        have g2 : vs.toArray[j] = Value.ref p2 := k2
        rw [g1, g2]
        obtain ⟨xs, s1, s2, hi⟩ := each j p p2 ep eq
        exact eq_tups I s1 s2 hi hu
  have e : (List.range us.toArray.size).all (fun _ => true) = true := by simp
  rw [e] at z
  exact z X.prog X.w X.xe _ ⟨.bl false, H, I, rfl, q⟩
end
end TEQ

set_option maxHeartbeats 2000000
namespace T01
open PySem L2 PyProof.Rows TX TY TW TD TB TG TUD TE TK
section
variable {P : Program} {w : World} {K : PySem.W.Frag} {mg : Str → Option Value} {base : Heap}
variable {fW fN fA fR fK fS : Addr} {dW dN dA dR dK dS : FuncData}
abbrev NtR (K : PySem.W.Frag) (mg : Str → Option Value) (C fi : Addr) (di : FuncData) := Nt K mg "NoRow" "at" "NoRow.__init__" s_norow C fi di
theorem sc_norow : FnScope ["self", "at"] ["self", "at"] (defScope s_norow) := ⟨rfl, rfl, rfl, by decide +kernel, rfl, by decide +kernel, by decide +kernel⟩
theorem ok_norow {Ct fi : Addr} {di : FuncData} (N : NtR K mg Ct fi di) : FnOk P w K mg base CX0 1 fi di ["self", "at"] (sp_efld Ct "at") := by
  refine N.F.ok sc_norow (fun vs H Q E h => ?_) (fun cdv A outer s H vs Q E hr h => ?_)
  · obtain ⟨a, v, rfl, _⟩ := h
    rfl
  · obtain ⟨a, v, rfl, ha, q⟩ := h
    refine ⟨_, pss_one (ps_ost (pv 0) (pv 1)), ?_⟩
    refine ⟨_, rfl, _, rfl, a, Ct, rfl, N.T, N.no, .inl ⟨ha, fun dx h1 h2 => q dx h1 h2⟩⟩
/-- the class of tables with what is called of it -/
structure Bd (K : PySem.W.Frag) (mg : Str → Option Value) (C fI hc hr hl he hk hh hs Cr fr : Addr) (dI gc gr gl ge gk gh gs dr : FuncData) : Prop where
  c : Bc K mg C
  iF : FunD K "__init__" "Table.__init__" (defArgs s_binit) (defBody s_binit) (defScope s_binit) [.non] [] fI dI
  iM : Mk K C fI
  iB : Binds K dI ["self", "columns", "rows"] []
  iB1 : ∃ ds, Vals [.non] ds ∧ Binds K dI ["self", "columns", "rows"] ds
  cols : Mt K C "columns" "Table.columns" s_bcolumns ["self"] hc gc
  rows : Mt K C "rows" "Table.rows" s_brows ["self"] hr gr
  len : Mt K C "__len__" "Table.__len__" s_blen ["self"] hl gl
  eq : Mt K C "__eq__" "Table.__eq__" s_beq ["self", "other"] he ge
  chk : Mt K C "_check_row" "Table._check_row" s_bcheck ["self", "row"] hk gk
  has : Mt K C "has" "Table.has" s_bhas ["self", "row"] hh gh
  str : Mt K C "__str__" "Table.__str__" s_bstr ["self"] hs gs
  ne : PySem.W.findIn K (.ref C) "__ne__" = some (some (.builtin "object.__ne__"))
  ns : PySem.W.notFirst K C (.ref C) = true
  er : NtR K mg Cr fr dr
variable {C fI hc hr hl he hk hh hs Cr fr : Addr} {dI gc gr gl ge gk gh gs dr : FuncData}
theorem nocols (l r : Addr) : (bflds l r).lookup ("columns" : Str) = none := bflds_no l r (by decide +kernel) (by decide +kernel)
theorem norows (l r : Addr) : (bflds l r).lookup ("rows" : Str) = none := bflds_no l r (by decide +kernel) (by decide +kernel)
theorem nochk (l r : Addr) : (bflds l r).lookup ("_check_row" : Str) = none := bflds_no l r (by decide +kernel) (by decide +kernel)
theorem nohas (l r : Addr) : (bflds l r).lookup ("has" : Str) = none := bflds_no l r (by decide +kernel) (by decide +kernel)
/-- refused -/
def Bar (Cr : Addr) (H : Hp) (E : XK) : Prop := ∀ H' d, Same H H' → H' d = some (.xd [("at", .int 0)]) → E (.ref Cr) (some d) H'
theorem Bar.same {H H' : Hp} {E : XK} (h : Bar Cr H E) (s : Same H H') : Bar Cr H' E := fun H2 d s2 e => h H2 d (s.trans s2) e
theorem sc_check : FnScope ["self", "row"] ["self", "row"] (defScope s_bcheck) := ⟨rfl, rfl, rfl, by decide +kernel, rfl, by decide +kernel, by decide +kernel⟩
def sp_check (C Cr : Addr) : Sp := fun vs H Q E => ∃ (t W : Addr) (v : V) (d : Option (List V)) (cs : List Str) (rs : List (List Int)), vs = [.ref t, v] ∧ TabAt C H t cs rs ∧ RowT W H v d ∧ (okRow cs.length d = false → Bar Cr H E) ∧ (okRow cs.length d = true → ∀ H', Same H H' → Q .non H')
theorem ok_check (T : Kt K mg fW fN fA fR fK fS dW dN dA dR dK dS) (D : Bd K mg C fI hc hr hl he hk hh hs Cr fr dI gc gr gl ge gk gh gs dr) : FnOk P w K mg base (L2.CX P w) 3 hk gk ["self", "row"] (sp_check C Cr) := by
  have B := T.B
  have c := D.c
  have GR : FnOk P w K mg base CX0 2 fR dR ["thing", "many"] sp_is_row := ok_is_row T
  have GN : FnOk P w K mg base CX0 1 fr dr ["self", "at"] (sp_efld Cr "at") := ok_norow D.er
  refine D.chk.F.okX sc_check (fun vs H Q E h => ?_) (fun cdv A outer s H vs Q E hr h => ?_)
  · obtain ⟨t, W, v, d, cs, rs, rfl, _⟩ := h
    rfl
  · obtain ⟨t, W, v, d, cs, rs, rfl, tb, hd, q0, q1⟩ := h
    have r2 : Room 2 _ := hr.mono (by decide)
    refine ⟨_, pss_one (ps_if (pt_not (pt_val (pe_call GR r2 rfl T.row.g T.row.F.kp T.row.b .nil pass0 (pa_cons (pv 1) (pa_cons (pe_callB call_len_seq (by rfl) B.len PySem.boot_len (pa_cons (pe_fld (pv 0) rfl) pa_nil)) pa_nil)))))
      (pss_one (ps_raise rfl (takes_of rfl rfl rfl rfl) (pmk_oex D.er.T D.er.i D.er.t GN r2 D.er.b .nil pass0 rfl D.er.g (pa_cons pe_int pa_nil)))) pss_nil), ?_⟩
    obtain ⟨dx, l, r, as, h1, h2, h3, h4⟩ := id tb
    refine ⟨_, rfl, _, rfl, t, C, dx, _, _, rfl, h1, c.cl, c.nC, bflds_col _ _, l, _, rfl, .inl (.of h2), W, v, d, cs.length, ?_, hd, fun H1 s1 => ⟨_, rfl, ?_⟩⟩
    · rw [List.length_map]
      rfl
    cases hb : okRow cs.length d with
    | false =>
      refine ⟨by show 1 ≤ 1000; decide, ?_⟩
      exact rd_efld fun H' d' s' e => q0 hb H' d' (s1.trans s') e
    | true => exact q1 hb H1 s1
theorem u65 {k : Nat} {A : Around} (r : Room k A) : A.units + 65 < cLine := by
  have := r.un
  omega
theorem sc_has : FnScope ["self", "row"] ["self", "row"] (defScope s_bhas) := ⟨rfl, rfl, rfl, by decide +kernel, rfl, by decide +kernel, by decide +kernel⟩
/-- a row that is right, where it stands -/
theorem row_right {W : Addr} {H : Hp} {v : V} {d : Option (List V)} {n : Nat} (h : RowT W H v d) (k : okRow n d = true) : ∃ (a : Addr) (r : List Int), v = .ref a ∧ d = some (r.map V.int) ∧ H a = some (.tup (r.map V.int)) ∧ r.length = n := by
  rcases h with ⟨a, ys, rfl, _, h1, _, _, rfl⟩ | ⟨rfl, _⟩
  · unfold okRow at k
    rw [Bool.and_eq_true, decide_eq_true_iff] at k
    obtain ⟨r, rfl⟩ := whole_vals k.2
    exact ⟨a, r, rfl, rfl, h1, by rw [← k.1, List.length_map]⟩
  · cases k
theorem any_row (rs : List (List Int)) (r : List Int) : ((rs.map fun q => PyData.tuple ((q.map V.int).map dV)).any fun z => PyData.eqv z (.tuple ((r.map V.int).map dV))) = decide (r ∈ rs) := by
  induction rs with
  | nil => rfl
  | cons q rs ih =>
    rw [List.map_cons, List.any_cons, ih, eqv_row]
    by_cases h : q = r
    · subst h
      simp
    · rw [decide_eq_false h, Bool.false_or]
      have : r ∈ q :: rs ↔ r ∈ rs := by
        rw [List.mem_cons]
        exact ⟨fun z => z.elim (fun e => absurd e.symm h) id, .inr⟩
      exact (decide_eq_decide.mpr this).symm
theorem sh_row (r : List Int) : SeqAt.shaped (.tuple ((r.map V.int).map dV)) = true := shaped_of (can_tup (whole_ints r)) (by rw [dep_tup]; decide)
/-- a method that looks the row over first -/
def sp_has (C Cr : Addr) : Sp := fun vs H Q E => ∃ (t W : Addr) (v : V) (d : Option (List V)) (cs : List Str) (rs : List (List Int)), vs = [.ref t, v] ∧ TabAt C H t cs rs ∧ RowT W H v d ∧ (okRow cs.length d = false → Bar Cr H E) ∧ (∀ r : List Int, okRow cs.length d = true → d = some (r.map V.int) → ∀ H', Same H H' → Q (.bl (decide (r ∈ rs))) H')
theorem ok_has (T : Kt K mg fW fN fA fR fK fS dW dN dA dR dK dS) (D : Bd K mg C fI hc hr hl he hk hh hs Cr fr dI gc gr gl ge gk gh gs dr) : FnOk P w K mg base (L2.CX P w) 4 hh gh ["self", "row"] (sp_has C Cr) := by
  have c := D.c
  have GK : FnOk P w K mg base (L2.CX P w) 3 hk gk ["self", "row"] (sp_check C Cr) := ok_check T D
  refine D.has.F.okX sc_has (fun vs H Q E h => ?_) (fun cdv A outer s H vs Q E hr h => ?_)
  · obtain ⟨t, W, v, d, cs, rs, rfl, _⟩ := h
    rfl
  · obtain ⟨t, W, v, d, cs, rs, rfl, tb, hd, q0, q1⟩ := h
    have hu65 := u65 hr
    refine ⟨_, pss_cons (ps_expr (pe_methE (pv 0) c.cl D.chk.me GK hr D.chk.b (fun σ => passAt (takes_of rfl rfl rfl rfl) σ) (pa_cons (pv 1) pa_nil)))
      (pss_one (ps_ret (pe_cmpR (op_inD hu65) (pv 1) (pe_fld (pv 0) rfl) rfl))), ?_⟩
    obtain ⟨dx, l, r, as, h1, h2, h3, h4⟩ := id tb
    refine ⟨_, rfl, t, dx, _, rfl, h1, nochk _ _, _, rfl, t, W, v, d, cs, rs, rfl, tb, hd, fun hb => q0 hb, fun hb H1 s1 => ?_⟩
    obtain ⟨a, r', rfl, rfl, ha, hl'⟩ := row_right hd hb
    refine ⟨_, rfl, _, rfl, t, C, dx, _, _, rfl, s1 _ _ h1, c.cl, c.nR, bflds_rows _ _, _, _, DpRow (s1 _ _ ha), DpRows (s1 _ _ h3) (h4.same s1), sh_row _, shRows rs, ?_⟩
    rw [any_row]
    exact q1 r' hb rfl H1 s1
end
end T01

set_option maxHeartbeats 4000000
/-! tuple * int, from 1 on. -/
namespace TR
open PySem PySem.Spec PyProof.Rows L2 TX
theorem tuple_mul1 (l : Addr) (items : Array Value) (n : Nat) (dd : Option Addr) (sl : Array (Option Value)) (u : Tok) :
    Meets (Builtin.«tuple.__mul__» ⟨[.ref l, .int 1 u], []⟩) (fun _ R s => s.heap.get? l = some { cls := .type "tuple", dict := dd, data := .seq items n, slots := sl } ∧
      R (.ok (.ret (Value.ref l))) s) :=
  .of_wp fun prog w A R s h => by
    obtain ⟨hp, g, d, tk, os⟩ := s
    obtain ⟨hl, h⟩ := h
    have f1 := AutoSeq1.idx_int
    have c0 : (decide ((1 : Int) < -(2 ^ 63)) || decide ((1 : Int) ≥ 2 ^ 63)) = false := by decide
    have c1 : (items.isEmpty || (1 : Int) == 1) = true := by simp
    wp_walk using wpAny_loadPart' hl
    repeat (first
      | (refine wpAny_ite_false (decide_eq_false (by rw [c0]; exact Bool.false_ne_true)) ?_; wp_walk using wpAny_loadPart' hl)
      | (refine wpAny_ite_true (decide_eq_true (by rw [c1])) ?_; wp_walk using wpAny_loadPart' hl))
    all_goals exact ⟨_, rfl, h⟩
/-- t * k -/
def rRepA (K : PySem.W.Frag) : R2 := fun x y H Q => ∃ l k xs, x = .ref l ∧ y = .int k ∧ H l = some (.tup xs) ∧ xs ≠ [] ∧ 1 ≤ k ∧ k ≤ 1000 ∧ xs.length ≤ 1000 ∧ ∀ p H', Same H H' → H' p = some (.tup (List.replicate k.toNat xs).flatten) → Q (.ref p) H'
section
variable {X : Cx}
theorem op_repA : OpR X (binaryOp .Mult) (rRepA X.K) := by
  intro pins s σ H x y v u Q I rx ry h
  obtain ⟨l, k, xs, rfl, rfl, hl, hne, h1, h2, hz, q⟩ := h
  by_cases hk : k = 1
  · subst hk
    cases rx
    obtain ⟨t, rfl⟩ := ry
    obtain ⟨its, r, ⟨⟨cls, dd, data, sl⟩, ho, hc, n, hd⟩, hs⟩ := I.tuple (.of hl)
    simp only at hc hd
    subst hc hd
    refine wpAny_binaryOp_repeat_ref (T := "tuple") (U := "int") (by decide) ⟨_, ho, rfl⟩ (fun s' => typeIs_int s' 1 t) noFill_tuple_mul F.fills_int_mul F.slot_int_rmul repeat_tuple F.slot_int_index.lookup
      (call_meets F.slot_int_rmul (typeIs_int s 1 t) F.entry_int_rmul (F.args_int_rmul_2 _ _) (int_rmul_tuple 1 t l its.toArray n dd sl)
        ⟨ho, rfl, ⟨_, ho, rfl⟩, call_meets F.slot_tuple_mul ⟨_, ho, rfl⟩ F.entry_tuple_mul (F.args_tuple_mul_2 _ _) (tuple_mul1 l its.toArray n dd sl t) ⟨ho, ?_⟩⟩)
    refine ⟨.ref l, H, I, rfl, q l H same_rfl ?_⟩
    rw [hl]
    simp
  · exact op_repT pins s σ H _ _ v u Q I rx ry ⟨l, k, xs, rfl, rfl, .of hl, hne, by omega, h2, hz, fun p np => q p _ (Same.new np) upd_same⟩
end
end TR

set_option maxHeartbeats 4000000
/-! tuple * int, from 0 on. -/
namespace TR
open PySem PySem.Spec PyProof.Rows L2 TX
theorem tuple_mul0 (l : Addr) (items : Array Value) (n : Nat) (dd : Option Addr) (sl : Array (Option Value)) (u : Tok) (c1 : (items.isEmpty || (0 : Int) == 1) = false) :
    Meets (Builtin.«tuple.__mul__» ⟨[.ref l, .int 0 u], []⟩) (fun _ R s => s.heap.get? l = some { cls := .type "tuple", dict := dd, data := .seq items n, slots := sl } ∧
      R (.ok (.ret (Value.ref s.heap.objs.size))) { s with heap := s.heap.push { cls := Value.type "tuple", data := Data.seq #[] }, toks := s.toks }) :=
  .of_wp fun prog w A R s h => by
    obtain ⟨hp, g, d, tk, os⟩ := s
    obtain ⟨hl, h⟩ := h
    have f1 := AutoSeq1.idx_int
    have c0 : (decide ((0 : Int) < -(2 ^ 63)) || decide ((0 : Int) ≥ 2 ^ 63)) = false := by decide
    have c2 : (decide ((0 : Int) ≤ 0) || items.isEmpty) = true := by simp
    have hsz : (#[] : Array Value).size ≤ sizeLine := by decide
    wp_walk using wpAny_loadPart' hl
    repeat (first
      | (refine wpAny_ite_false (decide_eq_false (by rw [c0]; exact Bool.false_ne_true)) ?_; wp_walk using wpAny_loadPart' hl)
      | (refine wpAny_ite_false (decide_eq_false (by rw [c1]; exact Bool.false_ne_true)) ?_; wp_walk using wpAny_loadPart' hl)
      | (refine wpAny_ite_true (decide_eq_true (by rw [c2])) ?_; wp_walk using wpAny_loadPart' hl)
      | (refine wpAny_ite_false (decide_eq_false (Nat.not_lt.mpr hsz)) ?_; wp_walk using wpAny_loadPart' hl))
    all_goals exact ⟨_, rfl, h⟩
/-- t * k, k from 0 on -/
def rRepB (K : PySem.W.Frag) : R2 := fun x y H Q => ∃ l k xs, x = .ref l ∧ y = .int k ∧ H l = some (.tup xs) ∧ xs ≠ [] ∧ 0 ≤ k ∧ k ≤ 1000 ∧ xs.length ≤ 1000 ∧ ∀ p H', Same H H' → H' p = some (.tup (List.replicate k.toNat xs).flatten) → Q (.ref p) H'
section
variable {X : Cx}
theorem op_repB : OpR X (binaryOp .Mult) (rRepB X.K) := by
  intro pins s σ H x y v u Q I rx ry h
  obtain ⟨l, k, xs, rfl, rfl, hl, hne, h1, h2, hz, q⟩ := h
  by_cases hk : k = 0
  · subst hk
    cases rx
    obtain ⟨t, rfl⟩ := ry
    obtain ⟨its, r, ⟨⟨cls, dd, data, sl⟩, ho, hc, n, hd⟩, hs⟩ := I.tuple (.of hl)
    simp only at hc hd
    subst hc hd
    have hle : its.length = xs.length := r.length.symm
    have hn : its ≠ [] := fun e => hne (by
      rw [e] at hle
      exact List.eq_nil_of_length_eq_zero hle.symm)
    have hi : its.toArray.isEmpty = false := by
      cases its with
      | nil => exact absurd rfl hn
      | cons a b => rfl
    have c1 : (its.toArray.isEmpty || (0 : Int) == 1) = false := by
      rw [hi]
      rfl
    refine wpAny_binaryOp_repeat_ref (T := "tuple") (U := "int") (by decide) ⟨_, ho, rfl⟩ (fun s' => typeIs_int s' 0 t) noFill_tuple_mul F.fills_int_mul F.slot_int_rmul repeat_tuple F.slot_int_index.lookup
      (call_meets F.slot_int_rmul (typeIs_int s 0 t) F.entry_int_rmul (F.args_int_rmul_2 _ _) (int_rmul_tuple 0 t l its.toArray n dd sl)
        ⟨ho, rfl, ⟨_, ho, rfl⟩, call_meets F.slot_tuple_mul ⟨_, ho, rfl⟩ F.entry_tuple_mul (F.args_tuple_mul_2 _ _) (tuple_mul0 l its.toArray n dd sl t c1) ⟨ho, ?_⟩⟩)
    refine ⟨.ref s.heap.objs.size, _, I.laid (t' := s.toks) (o := .tup []) (fun b ob q => Heap.get?_push_of_some _ q) (Nat.le_refl _) ?_, rfl, q _ _ (Same.new (I.hok.fresh (Nat.le_refl _))) (by rw [upd_same]; rfl)⟩
    exact ⟨by rw [sizeLine_eq]; decide, _, .nil, IsTup.new _ _⟩
  · exact op_repA pins s σ H _ _ v u Q I rx ry ⟨l, k, xs, rfl, rfl, hl, hne, by omega, h2, hz, q⟩
end
end TR

/-! The text of a forest. -/
namespace TT
open PySem L2 PyProof.Rows TX TM
def cm : Str := ","
def word (c : Str) (ws : List Str) : Str := if ws = [] then c else c ++ ("(" ++ Txt.join cm ws ++ ")")
def txts : Fo → List Str
  | .nil => []
  | .cons c k r => word c (txts k) :: txts r
theorem s_assoc (a b c : Str) : a ++ b ++ c = a ++ (b ++ c) := by
  rw [S_eta a, S_eta b, S_eta c, S_app, S_app, S_app, S_app, List.append_assoc]
theorem word_some {c : Str} {ws : List Str} (h : ws ≠ []) : word c ws = Str.empty ++ c ++ "(" ++ Txt.join cm ws ++ ")" := by
  have e0 : Str.empty ++ c = c := by
    have : Str.empty = S [] := rfl
    rw [this, S_eta c, S_app, List.nil_append]
  unfold word
  rw [if_neg h, e0, s_assoc, s_assoc, s_assoc]
theorem jn (ws : List Str) : Txt.join cm ws = Str.join cm ws := by
  show Builtin.Str.glued cm ws = _
  rw [StrLaws.glued_eq_join]
theorem join_len : ∀ ws : List Str, (Txt.join cm ws).length ≤ (ws.map (·.length)).sum + ws.length := by
  intro ws
  rw [jn]
  induction ws with
  | nil => exact Nat.zero_le _
  | cons x r ih =>
    cases r with
    | nil =>
      show x.length ≤ _
      rw [List.map_cons, List.sum_cons]
      omega
    | cons y t =>
      show (x ++ cm ++ Str.join cm (y :: t)).length ≤ _
      rw [sapp_len, sapp_len, List.map_cons, List.sum_cons, List.length_cons]
      have : cm.length = 1 := by decide +kernel
      omega
theorem join_pos {x : Str} {ws : List Str} (h : 1 ≤ x.length) : 1 ≤ (Txt.join cm (x :: ws)).length := by
  rw [jn]
  cases ws with
  | nil => exact h
  | cons y t =>
    show 1 ≤ (x ++ cm ++ Str.join cm (y :: t)).length
    rw [sapp_len, sapp_len]
    omega
theorem word_ge (c : Str) (ws : List Str) : c.length ≤ (word c ws).length := by
  unfold word
  split
  · exact Nat.le_refl _
  · rw [sapp_len]
    omega
theorem brak_len (z : Str) : ("(" ++ z ++ ")" : Str).length = z.length + 2 := by
  rw [sapp_len, sapp_len]
  have h1 : ("(" : Str).length = 1 := by decide +kernel
  have h2 : (")" : Str).length = 1 := by decide +kernel
  omega
/-- all words of a forest are short -/
theorem txts_len : ∀ (f : Fo), (∀ x ∈ names f, x.length ≤ 8) → ((txts f).map (·.length)).sum + (txts f).length ≤ 12 * (names f).length
  | .nil, _ => Nat.le_refl _
  | .cons c k r, h => by
    have e0 : names (.cons c k r) = c :: (names k ++ names r) := rfl
    rw [e0] at h ⊢
    have hk := txts_len k fun x hx => h x (List.mem_cons_of_mem _ (List.mem_append_left _ hx))
    have hr := txts_len r fun x hx => h x (List.mem_cons_of_mem _ (List.mem_append_right _ hx))
    have hc := h c List.mem_cons_self
    show ((word c (txts k) :: txts r).map (·.length)).sum + (word c (txts k) :: txts r).length ≤ _
    rw [List.map_cons, List.sum_cons, List.length_cons, List.length_cons, List.length_append]
    have hw : (word c (txts k)).length ≤ c.length + 2 + (((txts k).map (·.length)).sum + (txts k).length) := by
      unfold word
      split
      · omega
      · rw [sapp_len, brak_len]
        have := join_len (txts k)
        omega
    omega
theorem txts_nil {f : Fo} : txts f = [] ↔ names f = [] := by
  cases f with
  | nil => exact ⟨fun _ => rfl, fun _ => rfl⟩
  | cons c k r => exact ⟨fun h => (nomatch h), fun h => (nomatch h)⟩
theorem txts_pos {f : Fo} (h : ∀ x ∈ names f, 1 ≤ x.length) (hn : txts f ≠ []) : 1 ≤ (Txt.join cm (txts f)).length := by
  cases f with
  | nil => exact absurd rfl hn
  | cons c k r =>
    show 1 ≤ (Txt.join cm (word c (txts k) :: txts r)).length
    exact join_pos (Nat.le_trans (h c List.mem_cons_self) (word_ge _ _))
/-- the part beneath a top -/
def kid (f : Fo) (c : Str) : Fo := match loc f c with
  | some (_, q) => q
  | none => .nil
theorem txts_tops : ∀ {f : Fo}, (names f).Nodup → txts f = (tops f).map fun c => word c (txts (kid f c))
  | .nil, _ => rfl
  | .cons d k r, hn => by
    obtain ⟨n1, n2, n3, n4, n5⟩ := nd_parts hn
    show word d (txts k) :: txts r = (d :: tops r).map _
    rw [List.map_cons]
    have e1 : kid (.cons d k r) d = k := by unfold kid; rw [loc_here]
    rw [e1, txts_tops n4]
    congr 1
    apply List.map_congr_left
    intro x hx
    have hx' := (tops_sub r).subset hx
    have : kid (.cons d k r) x = kid r x := by
      unfold kid
      rw [loc_by (fun (z : d = x) => n2 (z ▸ hx')) (loc_none fun z => n5 _ z hx')]
    rw [this]
/-- as the pairs tell it -/
def wstep (ps : List Pr) (u : Option Str) (p : Pr) : List Str := if p.2 = u then [word p.1 (txts (mk ps (some p.1)))] else []
theorem txts_suffix {ps : List Pr} (va : Valid [] ps) (u : Option Str) : ∀ (t pre : List Pr), ps = pre ++ t → txts (mk t u) = t.flatMap (wstep ps u)
  | [], _, _ => rfl
  | (c, o) :: r, pre, e => by
    have hi : ps[pre.length]? = some (c, o) := by rw [e]; simp
    have h2 := ahead_at va hi
    have e4 : ps.take (pre.length + 1) = pre ++ [(c, o)] := by
      rw [e, show pre ++ (c, o) :: r = (pre ++ [(c, o)]) ++ r by simp, List.take_append_of_le_length (by simp), List.take_of_length_le (by simp)]
    have h1 : mk ps (some c) = mk r (some c) := by
      have e2 : ps = ps.take (pre.length + 1) ++ r := by rw [e4, e]; simp
      rw [e2, mk_skip h2]
    have ih := txts_suffix va u r (pre ++ [(c, o)]) (by rw [e]; simp)
    rw [List.flatMap_cons, ← ih]
    unfold wstep
    rw [h1]
    by_cases ho : o = u
    · have e5 : mk ((c, o) :: r) u = .cons c (mk r (some c)) (mk r u) := if_pos ho
      rw [e5]
      simp only [ho, if_true]
      rfl
    · have e5 : mk ((c, o) :: r) u = mk r u := if_neg ho
      rw [e5]
      simp [ho]
theorem txts_flat {ps : List Pr} (va : Valid [] ps) (u : Option Str) : txts (mk ps u) = ps.flatMap (wstep ps u) := txts_suffix va u ps [] rfl
theorem wtake {ps : List Pr} {u : Option Str} {i : Nat} {q : Pr} (h : ps[i]? = some q) : (ps.take (i + 1)).flatMap (wstep ps u) = (ps.take i).flatMap (wstep ps u) ++ wstep ps u q := by
  rw [List.take_add_one, h, List.flatMap_append]
  show _ ++ (wstep ps u q ++ []) = _
  rw [List.append_nil]
end TT

set_option maxHeartbeats 2000000
namespace TNN
open PySem L2 PyProof.Rows TX TY
section
variable {X : Cx}
/-- a list != [] -/
def rNeNil (K : PySem.W.Frag) : R2 := fun x y H Q => ∃ a b xs, x = .ref a ∧ y = .ref b ∧ SqL K H a xs ∧ SqL K H b [] ∧ Q (.bl (!xs.isEmpty)) H
theorem op_neNil (hu : X.A.units < cLine) : OpR X (compareOp .NotEq) (rNeNil X.K) := by
  intro pins s σ H x y v u Q I rx ry h
  obtain ⟨a, b, xs, rfl, rfl, ha, hb, q⟩ := h
  cases rx
  cases ry
  obtain ⟨its, r, hl, _⟩ := I.list ha
  obtain ⟨its2, r2, hl2, _⟩ := I.list hb
  have h2 : its2 = [] := by
    cases r2
    rfl
  subst h2
  cases xs with
  | nil =>
    cases r
    have z := SeqAt.RcNeAt.lists (e := fun _ => true) hl.isList hl2.isList rfl hu (fun j h1 h2 => absurd h1 (by simp))
    exact z X.prog X.w X.xe _ ⟨.bl false, H, I, rfl, q⟩
  | cons z zs =>
    have hsz : (its.toArray.size != ([] : List Value).toArray.size) = true := by
      have : its.length = (z :: zs).length := r.length.symm
      simp [this]
    have z := SeqAt.RcNeAt.lists_lengths hl.isList hl2.isList hsz hu
    exact z X.prog X.w X.xe _ ⟨.bl true, H, I, rfl, q⟩
end
end TNN

set_option maxHeartbeats 2000000
namespace T01
open PySem L2 PyProof.Rows TX TY TW TD TB TG TUD TE TK TQ
section
variable {P : Program} {w : World} {K : PySem.W.Frag} {mg : Str → Option Value} {base : Heap}
/-- a base: a number of few figures -/
abbrev N_base : List Str := ["_law_well_here", "_law_great"]
theorem sc_base : FnScope N_base ["_law_well_here"] (defScope s_base) := ⟨rfl, rfl, rfl, by decide +kernel, rfl, by decide +kernel, by decide +kernel⟩
def sp_base : Sp := fun vs H Q _ => ∃ (W : Addr) (n : Nat), vs = [.ref W] ∧ WellAt (n + 4) H W ∧ ∀ (H' : Hp) (b : Int), Sm W H H' → WellAt n H' W → b.natAbs < 10 ^ 39 → Q (.int b) H'
theorem ok_base {f fD : Addr} {fd fdD : FuncData} (F : Fn K mg "_law_base" s_base ["_law_well_here"] f fd) (D : Fn K mg "_law_draw" s_draw ["_law_well_here", "_law_top"] fD fdD) : FnOk P w K mg base CX0 2 f fd ["_law_well_here"] sp_base := by
  have GD : FnOk P w K mg base CX0 1 fD fdD ["_law_well_here", "_law_top"] sp_draw := ok_draw D
  refine F.F.ok sc_base (fun vs H Q E h => ?_) (fun cdv A outer s H vs Q E hr h => ?_)
  · obtain ⟨W, n, rfl, _⟩ := h
    rfl
  · obtain ⟨W, n, rfl, hW, q⟩ := h
    have nd := sc_base.nd
    refine ⟨_, pss_cons (ps_set (i := 1) nd rfl (Or.inl rfl) (pe_op op_add (pe_op op_add (pe_op op_mul (pe_call GD hr rfl D.g D.F.kp D.b .nil pass0 (pa_cons (pv 0) (pa_cons (pe_op op_pow pe_int pe_int) pa_nil))) (pe_op op_pow pe_int pe_int))
          (pe_op op_mul (pe_call GD hr rfl D.g D.F.kp D.b .nil pass0 (pa_cons (pv 0) (pa_cons (pe_op op_pow pe_int pe_int) pa_nil))) (pe_op op_pow pe_int pe_int)))
          (pe_call GD hr rfl D.g D.F.kp D.b .nil pass0 (pa_cons (pv 0) (pa_cons (pe_op op_pow pe_int pe_int) pa_nil)))))
      (pss_one (ps_ret (pe_ix ix_list (pe_lst (pa_cons pe_int (pa_cons (pe_un un_neg pe_int) (pa_cons (pv 1) (pa_cons (pe_op op_sub pe_int (pv 1)) pa_nil))))) (pe_call GD hr rfl D.g D.F.kp D.b .nil pass0 (pa_cons (pv 0) (pa_cons pe_int pa_nil))) (fun _ _ => rfl)))), ?_⟩
    refine ⟨_, rfl, _, _, rfl, rfl, ⟨by decide, by decide, by decide⟩, W, 100000000, n + 3, rfl, by decide, by decide, hW, fun H1 a ha s1 w1 => ?_⟩
    refine ⟨_, _, rfl, rfl, ⟨by decide, by decide, by decide⟩, ?_⟩
    refine ⟨_, _, rfl, rfl, .inl ⟨by omega, by omega⟩, ?_⟩
    refine ⟨_, rfl, _, _, rfl, rfl, ⟨by decide, by decide, by decide⟩, W, 100000000, n + 2, rfl, by decide, by decide, w1, fun H2 b hb s2 w2 => ?_⟩
    refine ⟨_, _, rfl, rfl, ⟨by decide, by decide, by decide⟩, ?_⟩
    refine ⟨_, _, rfl, rfl, .inl ⟨by omega, by omega⟩, ?_⟩
    refine ⟨_, _, rfl, rfl, ?_⟩
    refine ⟨_, rfl, _, _, rfl, rfl, ⟨by decide, by decide, by decide⟩, W, 100000000, n + 1, rfl, by decide, by decide, w2, fun H3 c hc s3 w3 => ?_⟩
    refine ⟨_, _, rfl, rfl, ?_⟩
    have gb : ((a : Int) * 10 ^ Int.toNat 30 + (b : Int) * 10 ^ Int.toNat 15 + (c : Int)).natAbs < 10 ^ 39 := by
      have e1 : (10 : Int) ^ Int.toNat 30 = 1000000000000000000000000000000 := by decide
      have e2 : (10 : Int) ^ Int.toNat 15 = 1000000000000000 := by decide
      rw [e1, e2]
      omega
    dsimp only
    generalize (a : Int) * 10 ^ Int.toNat 30 + (b : Int) * 10 ^ Int.toNat 15 + (c : Int) = g at gb ⊢
    refine ⟨1, rfl, _, rfl, _, rfl, _, _, rfl, rfl, (show 4 ≤ sizeLine by decide), fun p np => ?_⟩
    have m3 := (s1.trans s2).trans s3
    have wp := w3.new (o := .lst [.int 0, .int (-1), .int g, .int (0 - g)]) np
    have pW : p ≠ W := (w3.ne np).symm
    refine ⟨_, rfl, W, 4, n, rfl, by decide, by decide, wp, fun H4 k hk s4 w4 => ?_⟩
    have ep : H4 p = some (.lst [.int 0, .int (-1), .int g, .int (0 - g)]) := s4 _ _ pW upd_same
    have m4 := (m3.new (o := .lst [.int 0, .int (-1), .int g, .int (0 - g)]) np).trans s4
    obtain ⟨b', hb', hn⟩ : ∃ b' : Int, atI [V.int 0, V.int (-1), V.int g, V.int (0 - g)] (k : Int) = some (V.int b') ∧ b'.natAbs < 10 ^ 39 := by
      have : k = 0 ∨ k = 1 ∨ k = 2 ∨ k = 3 := by omega
      rcases this with e | e | e | e <;> subst e
      · exact ⟨0, rfl, by decide⟩
      · exact ⟨-1, rfl, by decide⟩
      · exact ⟨g, rfl, gb⟩
      · exact ⟨0 - g, rfl, by omega⟩
    exact ⟨p, _, _, _, rfl, rfl, .of ep, hb', q H4 b' m4 w4 hn⟩
end
section
variable {P : Program} {w : World} {K : PySem.W.Frag} {mg : Str → Option Value} {base : Heap}
variable {fW fN fA fR fK fS : Addr} {dW dN dA dR dK dS : FuncData}
variable {C fI hc hr hl he hk hh hs Cr fr : Addr} {dI gc gr gl ge gk gh gs dr : FuncData}
/-- a table beside anything -/
def sp_beqG (C : Addr) : Sp := fun vs H Q _ => ∃ (a : Addr) (y : V) (cs : List Str) (rs : List (List Int)), vs = [.ref a, y] ∧ TabAt C H a cs rs ∧ (∀ x ∈ cs, TM.NameOk x) ∧
  ((∃ b cs' rs', y = .ref b ∧ TabAt C H b cs' rs' ∧ (∀ x ∈ cs', TM.NameOk x) ∧ ∀ H', Same H H' → Q (.bl (decide (cs = cs') && decide (rs = rs'))) H') ∨ (∃ t, TyX K H y t ∧ PySem.W.kitOne K t (.ref C) = some false ∧ ∀ H', Same H H' → Q (.bl false) H'))
theorem ok_beqG {C f : Addr} {fd : FuncData} (F : Fun K "__eq__" "Table.__eq__" s_beq f fd) (B : Bn mg) (c : Bc K mg C) : FnOk P w K mg base CX0 1 f fd ["self", "other"] (sp_beqG (K := K) C) := by
  refine F.ok sc_beq (fun vs H Q E h => ?_) (fun cdv A outer s H vs Q E hr h => ?_)
  · obtain ⟨a, y, cs, rs, rfl, _⟩ := h
    rfl
  · obtain ⟨a, y, cs, rs, rfl, ⟨dx, l, r, as, h1, h2, h3, h4⟩, ok, q⟩ := h
    have hu64 := hr.units
    refine ⟨_, pss_one (ps_ret (pe_and (pe_callB call_isi (by rfl) B.isi boot_isinstance (pa_cons (pv 1) (pa_cons (pe_glob (v := .ref C) (by rfl) c.g rfl) pa_nil)))
      (pe_and (pe_cmpR (op_eqD hu64) (pe_fld (pv 0) rfl) (pe_fld (pv 1) rfl) (nomark _)) (pe_one (pe_cmpR (op_eqD hu64) (pe_fld (pv 0) rfl) (pe_fld (pv 1) rfl) (nomark _)))))), ?_⟩
    rcases q with ⟨b, cs', rs', rfl, ⟨dx', l', r', as', h1', h2', h3', h4'⟩, ok', q⟩ | ⟨t, ht, hk, q⟩
    · refine ⟨_, rfl, _, _, _, _, true, rfl, .own C, .base (.ins h1' c.cl c.ins.ha c.ins.hn c.ins.htk c.ins.hm), c.ins.me, true, rfl, ?_⟩
      refine ⟨_, rfl, a, C, dx, _, _, rfl, h1, c.cl, c.nC, bflds_col _ _, _, rfl, b, C, dx', _, _, rfl, h1', c.cl, c.nC, bflds_col _ _, _, _, DpS h2, DpS h2', shS ok, shS ok', _, rfl, ?_⟩
      rw [eqv_dS]
      by_cases hn : cs = cs'
      · rw [decide_eq_true hn]
        refine ⟨_, rfl, a, C, dx, _, _, rfl, h1, c.cl, c.nR, bflds_rows _ _, _, rfl, b, C, dx', _, _, rfl, h1', c.cl, c.nR, bflds_rows _ _, _, _, DpRows h3 h4, DpRows h3' h4', shRows rs, shRows rs', ?_⟩
        rw [eqv_dR]
        have := q H same_rfl
        rwa [decide_eq_true hn, Bool.true_and] at this
      · rw [decide_eq_false hn]
        have := q H same_rfl
        rwa [decide_eq_false hn, Bool.false_and] at this
    · exact ⟨_, rfl, _, _, _, _, false, rfl, .own C, ht, hk, false, rfl, q H same_rfl⟩
/-! ### a table's text -/
theorem few_figs : ((List.range 1000).all fun n => decide ((Str.ofString (toString (n : Int))).length ≤ 4)) = true := by decide +kernel
theorem fig_len {n : Nat} (h : n < 1000) : (Str.ofString (toString (n : Int))).length ≤ 4 := of_decide_eq_true (List.all_eq_true.mp few_figs n (List.mem_range.mpr h))
abbrev cm : Str := TT.cm
theorem jlen : ∀ (l : List Str), (∀ x ∈ l, x.length ≤ 8) → (Txt.join cm l).length ≤ 9 * l.length := by
  intro l h
  have hs : (l.map (·.length)).sum ≤ 8 * l.length := by
    induction l with
    | nil => exact Nat.le_refl _
    | cons x r ih =>
      rw [List.map_cons, List.sum_cons, List.length_cons]
      have := h x List.mem_cons_self
      have := ih fun y hy => h y (List.mem_cons_of_mem _ hy)
      omega
  have : (Txt.join cm l).length ≤ _ := TT.join_len l
  omega
def btext (n : Nat) (cs : List Str) : Str := Str.ofString (toString (n : Int)) ++ Str.ofString " rows of " ++ Txt.join cm cs
theorem emp_app (x : Str) : Str.empty ++ x = x := by
  rw [S_eta x]
  show (⟨#[] ++ _⟩ : Str) = _
  rw [Array.empty_append]
theorem sc_bstr : FnScope ["self"] ["self"] (defScope s_bstr) := ⟨rfl, rfl, rfl, by decide +kernel, rfl, by decide +kernel, by decide +kernel⟩
def sp_bstr (C : Addr) : Sp := fun vs H Q _ => ∃ (p : Addr) (cs : List Str) (rs : List (List Int)), vs = [.ref p] ∧ TabAt C H p cs rs ∧ Cs cs ∧ rs.length < 1000 ∧ Q (.str (btext rs.length cs)) H
theorem ok_bstr {C f : Addr} {fd : FuncData} (F : Fun K "__str__" "Table.__str__" s_bstr f fd) (B : Bn mg) (c : Bc K mg C) : FnOk P w K mg base CX0 1 f fd ["self"] (sp_bstr C) := by
  refine F.ok sc_bstr (fun vs H Q E h => ?_) (fun cdv A outer s H vs Q E hr h => ?_)
  · obtain ⟨p, cs, rs, rfl, _⟩ := h
    rfl
  · obtain ⟨p, cs, rs, rfl, ⟨dx, l, r, as, h1, h2, h3, h4⟩, hc, hl, q⟩ := h
    refine ⟨_, pss_one (ps_ret (pe_joined (PJ.cons (pe_fmt (pe_callB call_len_seq (by rfl) B.len PySem.boot_len (pa_cons (pe_fld (pv 0) rfl) pa_nil))) (PJ.cons pe_str (PJ.cons (pe_fmt (pe_join pe_str (pe_fld (pv 0) rfl))) PJ.nil))))), ?_⟩
    have f1 := fig_len hl
    have j1 := jlen cs fun x hx => (hc.ok x hx).2.1
    have le8 := hc.le
    have cm1 : (Str.ofString ",").length = 1 := by decide +kernel
    have c2 : (Str.ofString " rows of ").length = 9 := by decide +kernel
    have ce : Str.empty.length = 0 := rfl
    have sm : (cs.map (·.length)).sum + cs.length * (Str.ofString ",").length ≤ 1000 := by
      have : ∀ l : List Str, (∀ x ∈ l, x.length ≤ 8) → (l.map (·.length)).sum ≤ 8 * l.length := by
        intro l h
        induction l with
        | nil => exact Nat.le_refl _
        | cons x r ih =>
          rw [List.map_cons, List.sum_cons, List.length_cons]
          have := h x List.mem_cons_self
          have := ih fun y hy => h y (List.mem_cons_of_mem _ hy)
          omega
      have := this cs fun x hx => (hc.ok x hx).2.1
      rw [cm1]
      omega
    refine ⟨_, rfl, p, C, dx, _, _, rfl, h1, c.cl, c.nR, bflds_rows _ _, r, _, rfl, .inl (.of h3), .inr ⟨_, rfl, ?_, _, rfl, ?_, _, rfl, ?_, ?_⟩⟩
    · rw [List.length_map, h4.len]
      have : (rs.length : Int).natAbs.log2 ≤ (rs.length : Int).natAbs := Nat.log2_le_self _
      omega
    · rw [List.length_map, h4.len, sapp_len]; exact line100 (by omega)
    · rw [List.length_map, h4.len, sapp_len, sapp_len]; exact line100 (by omega)
    rw [List.length_map, h4.len]
    refine ⟨⟨_, rfl⟩, _, rfl, p, C, dx, _, _, rfl, h1, c.cl, c.nC, bflds_col _ _, _, l, cs, rfl, rfl, .inl (.of h2), Nat.le_trans sm (by decide), .inl ⟨_, rfl, line100 (by show (Txt.join cm cs).length ≤ 1000; omega), _, rfl, ?_, ?_⟩⟩
    · rw [sapp_len, sapp_len, sapp_len]; exact line100 (by show _ + (Txt.join cm cs).length ≤ 1000; omega)
    · rw [emp_app]
      exact q
end
end T01

set_option maxHeartbeats 2000000
namespace T01
open PySem L2 PyProof.Rows TX TY TW TD TB TG TUD TE TK TQ TNN
section
variable {P : Program} {w : World} {K : PySem.W.Frag} {mg : Str → Option Value} {base : Heap}
theorem sq_asg {te : TE} {g : TG} {B : TS} {D : Ends} {s : L2.St} {H : Hp} (h : te s H fun x H1 => g x s H1 (B D)) : tSeq (tAsg te g) B D s H := h
abbrev teI (iw ib inr : Nat) : TE := tOp (rI0 fun i j => .int (i + j)) (tVar ib) (tCall sp_draw [] E0 (tCons (tVar iw) (tCons (tVar inr) tNil)))
/-- one row's values -/
theorem rd_line {H : Hp} {W : Addr} {b : Int} {wide m near iw id ib inr j : Nat} {s : L2.St} {Q : VK} (hl : wide ≤ 8) (n1 : 0 < near) (n2 : near < 1073741824) (hW : WellAt (m + wide) H W) (hj : j < s.length) (jw : j ≠ iw) (jb : j ≠ ib) (jn : j ≠ inr)
    (h0 : s[iw]? = some (some (.ref W))) (h1 : s[id]? = some (some (.int wide))) (h3 : s[ib]? = some (some (.int b))) (h4 : s[inr]? = some (some (.int near)))
    (q : ∀ H' D (r : List Int), Sm W H H' → WellAt m H' W → H D = none → H' D = some (.lst (r.map V.int)) → r.length = wide → Q (.ref D) H') : tLc (iRng1 (tCons (tVar id) tNil)) (gName j) tYes (teI iw ib inr) [j] s H Q := by
  refine ⟨_, h1, wide, rfl, by omega, by omega, fun Dn nDn => ?_⟩
  have DW : Dn ≠ W := (hW.ne nDn).symm
  refine lc_it (walk_range (lo := 0) (n := (wide : Int).toNat)) (fun i h => ∃ r : List Int, h Dn = some (.lst (r.map V.int)) ∧ r.length = i ∧ Sm W H h ∧ WellAt (m + (wide - i)) h W)
    ⟨[], upd_same, rfl, Sm.new .rfl' nDn, hW.new nDn⟩ (fun _ _ _ _ => trivial) ?_ ?_
  · rintro i x h h' hi ⟨r, e4, lr, s4, w4⟩ ⟨rfl, rfl⟩
    have hi' : i < wide := by simpa using hi
    refine ⟨?_, ?_⟩
    · show (((s.set j none).set j _).set j none) = s.set j none
      rw [List.set_set, List.set_set]
    have gj : ∀ (k : Nat) (v : V), j ≠ k → s[k]? = some (some v) → ((wipe s [j]).set j (some (V.int (0 + (i : Int)))))[k]? = some (some v) := fun k v hk e => by
      show ((s.set j none).set j _)[k]? = _
      rw [List.set_set, List.getElem?_set_ne hk]
      exact e
    refine ⟨_, gj ib _ jb h3, _, gj iw _ jw h0, _, gj inr _ jn h4, W, near, m + (wide - (i + 1)), rfl, n1, n2, w4.mono (by omega), fun h5 k hk s5 w5 => ?_⟩
    refine ⟨_, _, rfl, rfl, ?_⟩
    refine ⟨_, s5 _ _ DW e4, by rw [List.length_map]; exact line100' (by omega), r ++ [b + (k : Int)], ?_, ?_, (s4.trans s5).mut nDn, w5.upd DW.symm⟩
    · rw [upd_same, List.map_append]
      rfl
    · rw [List.length_append, List.length_singleton, lr]
  · rintro h ⟨r, e4, lr, s4, w4⟩
    have e : (wide : Int).toNat = wide := by omega
    rw [e] at lr w4
    exact q h Dn r s4 (w4.mono (by omega)) nDn e4 lr
/-- a row that is kept -/
def RowX (n : Nat) (D W : Addr) (h : Hp) (a : Addr) (r : List Int) : Prop := h a = some (.tup (r.map V.int)) ∧ a ≠ D ∧ a ≠ W ∧ r.length = n
theorem RowX.sm {n : Nat} {D W : Addr} {h h' : Hp} {a : Addr} {r : List Int} (x : RowX n D W h a r) (s : Sm W h h') : RowX n D W h' a r := ⟨s _ _ x.2.2.1 x.1, x.2⟩
theorem RowX.put {n : Nat} {D W : Addr} {h : Hp} {a : Addr} {r : List Int} {o : HO} (x : RowX n D W h a r) : RowX n D W (upd h D o) a r := ⟨by rw [upd_ne x.2.1]; exact x.1, x.2⟩
theorem rowX_len {n : Nat} {D W : Addr} {h : Hp} : ∀ {as rs}, Paired (RowX n D W h) as rs → ∀ r ∈ rs, r.length = n := by
  intro as rs hp
  induction hp with
  | nil => intro r hr; cases hr
  | cons x _ ih =>
    intro r hr
    rcases List.mem_cons.mp hr with e | hr
    · rw [e]
      exact x.2.2.2
    · exact ih r hr
abbrev N_lines : List Str := ["_law_well_here", "_law_wide", "_law_base_here", "_law_near", "_law_most", "_law_many", "_law_lines_here", "_law_k", "_law_row", "_law_j"]
abbrev P_lines : List Str := ["_law_well_here", "_law_wide", "_law_base_here", "_law_near"]
theorem sc_lines : FnScope N_lines P_lines (defScope s_lines) := ⟨rfl, rfl, rfl, by decide +kernel, rfl, by decide +kernel, by decide +kernel⟩
def sp_lines : Sp := fun vs H Q _ => ∃ (W : Addr) (wide near n : Nat) (b : Int), vs = [.ref W, .int wide, .int b, .int near] ∧ wide ≤ 8 ∧ 0 < near ∧ near < 1073741824 ∧ WellAt (n + 3500) H W ∧
  ∀ H' D as (rs : List (List Int)), Sm W H H' → WellAt n H' W → H D = none → D ≠ W → H' D = some (.lst (as.map V.ref)) → RowsAt H' as rs → (∀ r ∈ rs, r.length = wide) → rs.length ≤ 300 → Q (.ref D) H'
theorem ok_lines {f fD : Addr} {fd fdD : FuncData} (F : Fn K mg "_law_lines" s_lines P_lines f fd) (B : Bn mg) (hm : mg "max" = none) (D : Fn K mg "_law_draw" s_draw ["_law_well_here", "_law_top"] fD fdD) : FnOk P w K mg base CX0 2 f fd P_lines sp_lines := by
  have GD : FnOk P w K mg base CX0 1 fD fdD ["_law_well_here", "_law_top"] sp_draw := ok_draw D
  refine F.F.ok sc_lines (fun vs H Q E h => ?_) (fun cdv A outer s H vs Q E hr h => ?_)
  · obtain ⟨W, wide, near, n, b, rfl, _⟩ := h
    rfl
  · obtain ⟨W, wide, near, n, b, rfl, w8, n1, n2, hW, q⟩ := h
    have nd := sc_lines.nd
    have hu1 := hr.units0
    refine ⟨_, pss_cons (ps_set (i := 4) nd rfl (Or.inl rfl) (pe_ix ix_list (pe_lst (pa_cons pe_int (pa_cons pe_int (pa_cons pe_int (pa_cons pe_int (pa_cons pe_int (pa_cons pe_int (pa_cons pe_int (pa_cons (pe_op op_fdiv pe_int (pe_callB (call_max2 rfl) (by rfl) hm boot_max (pa_cons pe_int (pa_cons (pv 1) pa_nil)))) pa_nil)))))))))
          (pe_call GD hr rfl D.g D.F.kp D.b .nil pass0 (pa_cons (pv 0) (pa_cons pe_int pa_nil))) (fun _ _ => rfl)))
      (pss_cons (ps_set (i := 5) nd rfl (Or.inl rfl) (pe_call GD hr rfl D.g D.F.kp D.b .nil pass0 (pa_cons (pv 0) (pa_cons (pv 4) pa_nil))))
      (pss_cons (ps_set (i := 6) nd rfl (Or.inl rfl) (pe_lst pa_nil))
      (pss_cons (ps_for PassesOwn.never rfl (pi_range1 rfl B.range (pa_cons (pv 5) pa_nil)) (pg_name (i := 7) nd rfl (Or.inl rfl))
        (pss_cons (ps_set (i := 8) nd rfl (Or.inl rfl) (pe_callTy call_tu (by rfl) B.tuple boot_tuple (pa_cons (pe_lc (own := [("_law_j", 9)]) (g := gName 9) (tt := tYes) (te := teI 0 2 3) rfl nd (pi_range1 rfl B.range (pa_cons (pv 1) pa_nil)) (blkOk_by (N := N_lines) (sc := defScope s_lines) (by decide +kernel))
            (fun _ _ _ _ _ => pg_name (i := 9) nd rfl (Or.inl rfl)) (fun _ _ _ _ _ => pts_nil) (fun _ _ _ _ _ => pe_op op_add (pv 2) (pe_call GD hr rfl D.g D.F.kp D.b .nil pass0 (pa_cons (pv 0) (pa_cons (pv 3) pa_nil))))) pa_nil)))
        (C8.pss_cut (ps_if (PW.pt (pw_and (pt_cmpR (op_neNil hu1) (pv 6) (pe_lst pa_nil) (nomark _)) (pw_and1 (pt_cmpR op_eq (pe_call GD hr rfl D.g D.F.kp D.b .nil pass0 (pa_cons (pv 0) (pa_cons pe_int pa_nil))) pe_int (nomark _)))))
            (pss_one (ps_set (i := 8) nd rfl (Or.inl rfl) (pe_ix ix_list (pv 6) (pe_call GD hr rfl D.g D.F.kp D.b .nil pass0 (pa_cons (pv 0) (pa_cons (pe_callB call_len_seq (by rfl) B.len PySem.boot_len (pa_cons (pv 6) pa_nil)) pa_nil))) (fun _ _ => rfl)))) pss_nil)
        (pss_one (ps_expr (pe_bm PySem.F.plainAttrs_list PySem.F.slot_list_append PySem.F.type_list_append mt_append (pv 6) (pa_cons (pv 8) pa_nil)))))))
      (pss_one (ps_ret (pv 6)))))), ?_⟩
    -- how many at most
    obtain ⟨d, hd, d1, d2⟩ : ∃ d : Nat, (300 : Int) / (if (wide : Int) > 1 then (wide : Int) else 1) = (d : Int) ∧ 0 < d ∧ d ≤ 300 := by
      have : wide = 0 ∨ wide = 1 ∨ wide = 2 ∨ wide = 3 ∨ wide = 4 ∨ wide = 5 ∨ wide = 6 ∨ wide = 7 ∨ wide = 8 := by omega
      rcases this with e | e | e | e | e | e | e | e | e <;> subst e
      · exact ⟨300, by decide, by decide, by decide⟩
      · exact ⟨300, by decide, by decide, by decide⟩
      · exact ⟨150, by decide, by decide, by decide⟩
      · exact ⟨100, by decide, by decide, by decide⟩
      · exact ⟨75, by decide, by decide, by decide⟩
      · exact ⟨60, by decide, by decide, by decide⟩
      · exact ⟨50, by decide, by decide, by decide⟩
      · exact ⟨42, by decide, by decide, by decide⟩
      · exact ⟨37, by decide, by decide, by decide⟩
    refine ⟨_, rfl, _, _, rfl, _, _, rfl, rfl, ⟨by split <;> omega, by split <;> omega⟩, ?_⟩
    dsimp only
    rw [hd]
    refine ⟨by show 8 ≤ sizeLine; decide, fun p np => ?_⟩
    have pW : p ≠ W := (hW.ne np).symm
    refine ⟨_, rfl, W, 8, n + 3499, rfl, by decide, by decide, hW.new np, fun H1 j hj s1 w1 => ?_⟩
    have e1 := s1 _ _ pW upd_same
    have m1 : Sm W H H1 := (Sm.of (Same.new np)).trans s1
    obtain ⟨mo, hmo, mo1, mo2⟩ : ∃ mo : Nat, atI [V.int 6, .int 40, .int 6, .int 40, .int 6, .int 40, .int 6, .int (d : Int)] (j : Int) = some (V.int (mo : Int)) ∧ 0 < mo ∧ mo ≤ 300 := by
      have : j = 0 ∨ j = 1 ∨ j = 2 ∨ j = 3 ∨ j = 4 ∨ j = 5 ∨ j = 6 ∨ j = 7 := by omega
      rcases this with e | e | e | e | e | e | e | e <;> subst e
      · exact ⟨6, rfl, by decide, by decide⟩
      · exact ⟨40, rfl, by decide, by decide⟩
      · exact ⟨6, rfl, by decide, by decide⟩
      · exact ⟨40, rfl, by decide, by decide⟩
      · exact ⟨6, rfl, by decide, by decide⟩
      · exact ⟨40, rfl, by decide, by decide⟩
      · exact ⟨6, rfl, by decide, by decide⟩
      · exact ⟨d, rfl, d1, d2⟩
    refine ⟨p, _, (j : Int), _, rfl, rfl, .of e1, hmo, ?_⟩
    -- how many
    refine ⟨_, rfl, _, rfl, W, mo, n + 3498, rfl, mo1, by omega, w1, fun H2 many hmn s2 w2 => ?_⟩
    refine ⟨by show 0 ≤ sizeLine; decide, fun L nL => ?_⟩
    have LW : L ≠ W := (w2.ne nL).symm
    refine ⟨_, rfl, many, rfl, by omega, by omega, ?_⟩
    refine for_range (lo := 0) (n := (many : Int).toNat) (fun i σ h => ∃ (as : List Addr) (rs : List (List Int)) (v7 v8 : Option V), σ = [some (.ref W), some (.int wide), some (.int b), some (.int near), some (.int mo), some (.int many), some (.ref L), v7, v8, none] ∧
        h L = some (.lst (as.map V.ref)) ∧ Paired (RowX wide L W h) as rs ∧ as.length = i ∧ Sm W H2 h ∧ WellAt (n + 11 * (many - i)) h W)
      ⟨[], [], none, none, rfl, upd_same, .nil, rfl, Sm.new .rfl' nL, (w2.new nL).mono (by omega)⟩ ?_ ?_
    · rintro i σ G0 hi ⟨as, rs, v7, v8, rfl, eL, hR, li, m0, w0⟩
      have hi' : i < many := by simpa using hi
      have hal := hR.length
      dsimp only [gName]
      refine sq_asg ?_
      dsimp only [tCB, tCons, tNil, List.map]
      refine rd_line (m := n + 11 * (many - (i + 1)) + 3) (wide := wide) (near := near) w8 n1 n2 (w0.mono (by omega)) (Nat.lt_succ_self 9) (by decide) (by decide) (by decide) rfl rfl rfl rfl fun h3 Lr r s3 w3 nLr eLr lr => ?_
      refine ⟨Lr, r.map V.int, rfl, .inl ⟨.of eLr, fun T nT => ?_⟩⟩
      have s4 : Same h3 (upd h3 T (.tup (r.map V.int))) := Same.new nT
      have eT : upd h3 T (.tup (r.map V.int)) T = some (.tup (r.map V.int)) := upd_same
      have TW : T ≠ W := (w3.ne nT).symm
      have eL3 := s3 _ _ LW eL
      have TL : T ≠ L := (ne_of_none eL3 nT).symm
      have w4 := w3.same s4
      have m4 : Sm W H2 (upd h3 T (.tup (r.map V.int))) := (m0.trans s3).trans (.of s4)
      have eL4 := s4 _ _ eL3
      have hR4 : Paired (RowX wide L W (upd h3 T (.tup (r.map V.int)))) as rs := Paired.mapP hR fun a x e => (e.sm s3).sm (.of s4)
      have x4 : RowX wide L W (upd h3 T (.tup (r.map V.int))) T r := ⟨eT, TL, TW, lr⟩
      clear hR eL s3 s4 eL3 eT w3 m0 nT eLr nLr
      generalize upd h3 T (.tup (r.map V.int)) = h4 at hR4 x4 eL4 w4 m4 ⊢
      refine ⟨fun σ h => ∃ (a : Addr) (r' : List Int), σ = [some (.ref W), some (.int wide), some (.int b), some (.int near), some (.int mo), some (.int many), some (.ref L), some (.int (0 + (i : Int))), some (.ref a), none] ∧
        h L = some (.lst (as.map V.ref)) ∧ Paired (RowX wide L W h) as rs ∧ RowX wide L W h a r' ∧ Sm W H2 h ∧ WellAt (n + 11 * (many - (i + 1))) h W, ?_, ?_⟩
      · refine ⟨_, rfl, by show 0 ≤ sizeLine; decide, fun p2 np2 => ?_⟩
        have p2L : p2 ≠ L := (ne_of_none eL4 np2).symm
        have s5 : Same h4 (upd h4 p2 (.lst [])) := Same.new np2
        refine ⟨L, p2, _, rfl, rfl, .of (s5 _ _ eL4), .of upd_same, _, rfl, ?_⟩
        have hR5 : Paired (RowX wide L W (upd h4 p2 (.lst []))) as rs := Paired.mapP hR4 fun a x e => e.sm (.of s5)
        have x5 := x4.sm (.of s5)
        have m5 : Sm W H2 (upd h4 p2 (.lst [])) := m4.trans (.of s5)
        have w5 := w4.same s5
        have eL5 := s5 _ _ eL4
        generalize upd h4 p2 (.lst []) = h5 at hR5 x5 eL5 m5 w5 ⊢
        cases as with
        | nil => exact ⟨T, r, rfl, eL5, hR5, x5, m5, w5.mono (by omega)⟩
        | cons a0 as0 =>
          refine ⟨_, rfl, W, 6, n + 11 * (many - (i + 1)) + 2, rfl, by decide, by decide, w5, fun h6 k6 hk6 s6 w6 => ⟨rfl, _, rfl, ite2 (fun _ => ?_) (fun _ => ?_)⟩⟩
          · have eL6 := s6 _ _ LW eL5
            have hR6 : Paired (RowX wide L W h6) (a0 :: as0) rs := Paired.mapP hR5 fun a x e => e.sm s6
            have la : (a0 :: as0).length ≤ 300 := by rw [li]; omega
            refine ⟨_, rfl, _, rfl, _, rfl, L, _, rfl, .inl (.of eL6), ?_⟩
            rw [List.length_map]
            refine ⟨W, (a0 :: as0).length, n + 11 * (many - (i + 1)) + 1, rfl, by rw [List.length_cons]; omega, by omega, w6, fun h7 k7 hk7 s7 w7 => ?_⟩
            have eL7 := s7 _ _ LW eL6
            have hR7 : Paired (RowX wide L W h7) (a0 :: as0) rs := Paired.mapP hR6 fun a x e => e.sm s7
            obtain ⟨a', ha'⟩ : ∃ a', (a0 :: as0)[k7]? = some a' := ⟨_, List.getElem?_eq_getElem hk7⟩
            obtain ⟨r', _, hx⟩ := pr_at hR7 ha'
            refine ⟨L, _, (k7 : Int), V.ref a', rfl, rfl, .of eL7, ?_, a', r', rfl, eL7, hR7, hx, (m5.trans s6).trans s7, w7.mono (by omega)⟩
            refine atI_nat ?_
            rw [List.getElem?_map, ha']
            rfl
          · exact ⟨T, r, rfl, s6 _ _ LW eL5, Paired.mapP hR5 fun a x e => e.sm s6, x5.sm s6, m5.trans s6, w6.mono (by omega)⟩
      · rintro σ h5 ⟨a, r', rfl, eL5, hR5, x5, m5, w5⟩
        refine ⟨_, rfl, .inl ⟨rfl, _, .inl (.inl eL5)⟩, _, rfl, L, _, _, rfl, rfl, eL5, by rw [List.length_map]; exact line100' (by omega), as ++ [a], rs ++ [r'], _, _, rfl, ?_, ?_, ?_, ?_, w5.upd LW.symm⟩
        · rw [upd_same, List.map_append]
          rfl
        · exact pr_snoc (Paired.mapP hR5 fun a x e => e.put) x5.put
        · rw [List.length_append, List.length_singleton, li]
        · exact fun c o nc e => by rw [upd_ne (ne_of_none e nL)]; exact m5 c o nc e
    · rintro σ G0 ⟨as, rs, v7, v8, rfl, eL, hR, li, m0, w0⟩
      have e : (many : Int).toNat = many := by omega
      rw [e] at li w0
      have hal := hR.length
      exact ⟨_, rfl, q G0 L as rs ((m1.trans s2).trans m0) (w0.mono (by omega)) ((m1.trans s2).free hW nL ⟨_, w2⟩) LW eL (Paired.mapP hR fun a r x => x.1) (rowX_len hR) (by omega)⟩
end
end T01

set_option maxHeartbeats 2000000
namespace T01
open PySem L2 PyProof.Rows TX TY TW TD TB TG TUD TE TK TQ TNN
section
variable {P : Program} {w : World} {K : PySem.W.Frag} {mg : Str → Option Value} {base : Heap}
variable {fW fN fA fR fK fS : Addr} {dW dN dA dR dK dS : FuncData}
variable {C fI hc hr hl he hk hh hs Cr fr : Addr} {dI gc gr gl ge gk gh gs dr : FuncData}
abbrev N_tells : List Str := ["_law_table", "_law_names_here", "_law_due", "_law_turn", "_law_heads", "_law_told", "_law_row", "_law_truths", "_law_one"]
abbrev P_tells : List Str := ["_law_table", "_law_names_here", "_law_due"]
theorem sc_tells : FnScope N_tells P_tells (defScope s_tells) := ⟨rfl, rfl, rfl, by decide +kernel, rfl, by decide +kernel, by decide +kernel⟩
def sp_tells (C : Addr) : Sp := fun vs H Q _ => ∃ (t Nn Dl : Addr) (cs : List Str) (rs : List (List Int)) (as : List Addr), vs = [.ref t, .ref Nn, .ref Dl] ∧ TabAt C H t cs rs ∧ Cs cs ∧ (∀ r ∈ rs, r.length ≤ 8) ∧ rs.length ≤ 900 ∧ H Nn = some (.lst (cs.map V.str)) ∧ H Dl = some (.lst (as.map V.ref)) ∧ RowsAt H as rs ∧
  ∀ H', Same H H' → Q (.bl true) H'
theorem ok_tells {f : Addr} {fd : FuncData} (F : Fn K mg "_law_tells" s_tells P_tells f fd) (Tk : Kt K mg fW fN fA fR fK fS dW dN dA dR dK dS) (D : Bd K mg C fI hc hr hl he hk hh hs Cr fr dI gc gr gl ge gk gh gs dr) : FnOk P w K mg base CX0 4 f fd P_tells (sp_tells C) := by
  have B := Tk.B
  have cc := D.c
  have GC : FnOk P w K mg base CX0 1 hc gc ["self"] (sp_bcolumns C) := ok_bcolumns D.cols.F B cc
  have GR : FnOk P w K mg base CX0 1 hr gr ["self"] (sp_brows C) := ok_brows D.rows.F B cc
  have GL : FnOk P w K mg base CX0 1 hl gl ["self"] (sp_blen C) := ok_blen D.len.F B cc
  have GS : FnOk P w K mg base CX0 1 hs gs ["self"] (sp_bstr C) := ok_bstr D.str.F B cc
  refine F.F.ok sc_tells (fun vs H Q E h => ?_) (fun cdv A outer s H vs Q E hr h => ?_)
  · obtain ⟨t, Nn, Dl, cs, rs, as, rfl, _⟩ := h
    rfl
  · obtain ⟨t, Nn, Dl, cs, rs, as, rfl, tb, hc, h8, few, eN, eD, hD, q⟩ := h
    have nd := sc_tells.nd
    have hu64 := hr.units
    have hu1 := hr.units0
    have r1 : Room 1 _ := hr.mono (by decide)
    have r2 : Room 2 _ := hr.mono (by decide)
    have r3 : Room 3 _ := hr.mono (by decide)
    refine ⟨_, pss_cons (ps_for PassesOwn.never rfl (pi_range1 rfl B.range (pa_cons pe_int pa_nil)) (pg_name (i := 3) nd rfl (Or.inl rfl))
        (pss_cons (ps_set (i := 4) nd rfl (Or.inl rfl) (pe_meth0 (pv 0) cc.cl D.cols.me GC r1 D.cols.b .nil pass0))
        (pss_cons (ps_set (i := 5) nd rfl (Or.inl rfl) (pe_meth0 (pv 0) cc.cl D.rows.me GR r1 D.rows.b .nil pass0))
        (pss_cons (ps_if (PW.pt (pw_or (pt_cmpR (op_neD hu64) (pv 4) (pv 1) (nomark _)) (pw_or (pt_cmpR (op_neD hu64) (pv 5) (pv 2) (nomark _))
            (pw_or (pt_not (pt_val (pe_callB call_isi (by rfl) B.isi boot_isinstance (pa_cons (pv 4) (pa_cons (pe_bltn (v := .ty "list") (by rfl) B.list boot_list rfl) pa_nil)))))
            (pw_or1 (pt_not (pt_val (pe_callB call_isi (by rfl) B.isi boot_isinstance (pa_cons (pv 5) (pa_cons (pe_bltn (v := .ty "list") (by rfl) B.list boot_list rfl) pa_nil)))))))))) (pss_one (ps_ret pe_bl)) pss_nil)
        (pss_cons (ps_for PassesOwn.never rfl (pi_list (pv 5)) (pg_name (i := 6) nd rfl (Or.inl rfl))
          (pss_cons (ps_setLc (i := 7) (own := [("_law_one", 8)]) (g := gName 8) (tt := tOr (tNot (tB (tCB (rIsi K) (tCons (tVar 8) (tCons (tC (.ty "int")) tNil))))) (tB (tCB (rIsi K) (tCons (tVar 8) (tCons (tC (.ty "bool")) tNil))))) (te := tVar 8) (by rfl) nd rfl rfl (sw_true rfl rfl rfl (by decide +kernel)) (pi_tup (pv 6)) (blkOk_by (N := N_tells) (sc := defScope s_tells) (by decide +kernel))
            (fun _ _ _ _ _ => pg_name (i := 8) nd rfl (Or.inl rfl)) (fun _ _ _ _ _ => pts_one (PW.pt (pw_or (pt_not (pt_val (pe_callB call_isi (by rfl) B.isi boot_isinstance (pa_cons (pv 8) (pa_cons (pe_bltn (v := .ty "int") (by rfl) B.int boot_int rfl) pa_nil)))))
                (pw_or1 (pt_val (pe_callB call_isi (by rfl) B.isi boot_isinstance (pa_cons (pv 8) (pa_cons (pe_bltn (v := .ty "bool") (by rfl) Tk.bool boot_bool rfl) pa_nil))))))))
            (fun _ _ _ _ _ => pv 8))
          (pss_one (ps_if (PW.pt (pw_or (pt_not (pt_val (pe_callB call_isi (by rfl) B.isi boot_isinstance (pa_cons (pv 6) (pa_cons (pe_bltn (v := .ty "tuple") (by rfl) B.tuple boot_tuple rfl) pa_nil)))))
            (pw_or1 (pt_cmpR (op_neNil hu1) (pv 7) (pe_lst pa_nil) (nomark _))))) (pss_one (ps_ret pe_bl)) pss_nil))))
        (pss_cons (ps_expr (pe_bm PySem.F.plainAttrs_list PySem.F.slot_list_append PySem.F.type_list_append mt_append (pv 4) (pa_cons pe_str pa_nil)))
        (pss_one (ps_expr (pe_bm PySem.F.plainAttrs_list PySem.F.slot_list_append PySem.F.type_list_append mt_append (pv 5) (pa_cons pe_int pa_nil))))))))))
      (pss_one (ps_ret (pe_and (pe_cmpR op_eq (pe_callB (call_lenO GL D.len.me.at_ D.len.me.fn D.len.b pass0 r2) (by rfl) B.len PySem.boot_len (pa_cons (pv 0) pa_nil)) (pe_callB call_len_seq (by rfl) B.len PySem.boot_len (pa_cons (pv 2) pa_nil)) (nomark _))
        (pe_one (pe_cmpR op_eq (pe_callTy (call_strO GS D.str.me.at_ D.str.me.fn D.str.b pass0 r3) (by rfl) B.str boot_str (pa_cons (pv 0) pa_nil))
          (pe_op op_add_str (pe_op op_add_str (pe_callTy call_str_int (by rfl) B.str boot_str (pa_cons (pe_callB call_len_seq (by rfl) B.len PySem.boot_len (pa_cons (pv 2) pa_nil)) pa_nil)) pe_str) (pe_join pe_str (pv 1))) (nomark _)))))), ?_⟩
    obtain ⟨dx, l, r, as0, h1, _⟩ := id tb
    have hal := hD.len
    refine ⟨2, rfl, by omega, by omega, ?_⟩
    refine for_range (lo := 0) (n := (2 : Int).toNat) (fun i σ h => ∃ (v3 v4 v5 v6 v7 : Option V), σ = [some (.ref t), some (.ref Nn), some (.ref Dl), v3, v4, v5, v6, v7, none] ∧ Same H h) ⟨none, none, none, none, none, rfl, same_rfl⟩ ?_ ?_
    · rintro i σ G0 hi ⟨v3, v4, v5, v6, v7, rfl, s0⟩
      dsimp only [gName]
      refine ⟨_, rfl, t, dx, _, rfl, s0 _ _ h1, nocols _ _, t, cs, rs, rfl, tb.same s0, fun H1 a1 s1 n1 e1 => ?_⟩
      refine ⟨_, rfl, t, dx, _, rfl, (s0.trans s1) _ _ h1, norows _ _, t, cs, rs, rfl, tb.same (s0.trans s1), fun H2 a2 b2 s2 n2 e2 hb2 => ?_⟩
      have s02 := (s0.trans s1).trans s2
      have e1' := s2 _ _ e1
      have a12 : a1 ≠ a2 := ne_of_none e1 n2
      refine ⟨_, rfl, _, rfl, _, _, DpS e1', DpS (s02 _ _ eN), shS hc.ok, shS hc.ok, _, rfl, ?_⟩
      rw [eqv_dS, decide_eq_true rfl]
      refine ⟨_, rfl, _, rfl, _, _, DpRows e2 hb2, DpRows (s02 _ _ eD) (hD.same s02), shRows _, shRows _, _, rfl, ?_⟩
      rw [eqv_dR, decide_eq_true rfl]
      refine ⟨_, rfl, _, _, _, _, true, rfl, .ty _, .base (.lst e1'), kit_ty (by decide +kernel), _, rfl, ?_⟩
      refine ⟨_, rfl, _, _, _, _, true, rfl, .ty _, .base (.lst e2), kit_ty (by decide +kernel), _, rfl, ?_⟩
      -- each row
      have hbl := hb2.len
      refine ⟨_, rfl, a2, rfl, ⟨_, .of e2⟩, ?_⟩
      refine for_it (walk_list (xs := b2.map V.ref)) (fun j σ h => ∃ (v6 v7 : Option V), σ = [some (.ref t), some (.ref Nn), some (.ref Dl), some (.int (0 + (i : Int))), some (.ref a1), some (.ref a2), v6, v7, none] ∧ Same H2 h)
        ⟨v6, v7, rfl, same_rfl⟩ (fun j σ h _ ⟨_, _, _, s⟩ => .of (s _ _ e2)) ?_ ?_
      · rintro j x σ h h' hj ⟨u6, u7, rfl, s3⟩ ⟨rfl, hx⟩
        rw [List.length_map] at hj
        obtain ⟨a, ha, rfl⟩ : ∃ a, b2[j]? = some a ∧ x = V.ref a := by
          rw [List.getElem?_map, List.getElem?_eq_getElem hj] at hx
          exact ⟨_, List.getElem?_eq_getElem hj, (Option.some.inj hx).symm⟩
        obtain ⟨rr, hrr, hta⟩ := pr_at hb2 ha
        have ta' := s3 _ _ hta
        have rl := h8 rr (List.mem_of_getElem? hrr)
        dsimp only [gName]
        refine sq_asg ?_
        refine ⟨_, rfl, a, rfl, ⟨_, .of ta'⟩, fun Dn nDn => ?_⟩
        refine lc_it (walk_tup (xs := rr.map V.int)) (fun k h => h Dn = some (.lst []) ∧ Same h' h) ⟨upd_same, Same.new nDn⟩ (fun k h _ ⟨_, s⟩ => .of (s _ _ ta')) ?_ ?_
        · rintro k y h4 h4' hk ⟨e4, s4⟩ ⟨rfl, hy⟩
          obtain ⟨n, rfl⟩ : ∃ n : Int, y = V.int n := by
            rw [List.getElem?_map] at hy
            obtain ⟨n, _, e⟩ := Option.map_eq_some_iff.mp hy
            exact ⟨n, e.symm⟩
          refine ⟨rfl, ?_⟩
          refine ⟨_, rfl, _, _, _, _, true, rfl, .ty _, .base (.int n), kit_ty (by decide +kernel), _, rfl, ?_⟩
          exact ⟨_, rfl, _, _, _, _, false, rfl, .ty _, .base (.int n), kit_ty (by decide +kernel), _, rfl, e4, s4⟩
        · rintro h4 ⟨e4, s4⟩
          refine ⟨_, rfl, _, _, _, _, true, rfl, .ty _, .base (.tup (s4 _ _ ta')), kit_ty (by decide +kernel), _, rfl, ?_⟩
          refine ⟨_, rfl, by show 0 ≤ sizeLine; decide, fun p2 np2 => ?_⟩
          refine ⟨Dn, p2, [], rfl, rfl, .of ((Same.new np2) _ _ e4), .of upd_same, _, rfl, ?_⟩
          exact ⟨_, _, rfl, (s3.trans s4).trans (Same.new np2)⟩
      · rintro σ h3 ⟨u6, u7, rfl, s3⟩
        have e13 := s3 _ _ e1'
        have e23 := s3 _ _ e2
        have hle := hc.le
        refine ⟨_, rfl, .inl ⟨rfl, _, .inl (.inl e13)⟩, a1, _, _, rfl, rfl, e13, by rw [List.length_map]; exact line100' (by omega), ?_⟩
        have n1H : H a1 = none := s0.free n1
        have n2H : H a2 = none := (s0.trans s1).free n2
        have e23' : ∀ o, upd h3 a1 o a2 = some (.lst (b2.map V.ref)) := fun o => by rw [upd_ne a12.symm]; exact e23
        refine ⟨_, rfl, .inl ⟨rfl, _, .inl (.inl (e23' _))⟩, a2, _, _, rfl, rfl, e23' _, by rw [List.length_map]; exact line100' (by omega), ?_⟩
        exact ⟨_, _, _, _, _, rfl, Same.mut (Same.mut (s02.trans s3) n1H) n2H⟩
    · rintro σ G0 ⟨v3, v4, v5, v6, v7, rfl, s0⟩
      have cm1 : (Str.ofString ",").length = 1 := by decide +kernel
      have f1 := fig_len (n := rs.length) (by omega)
      have j1 := jlen cs fun x hx => (hc.ok x hx).2.1
      have le8 := hc.le
      have c2 : (Str.ofString " rows of ").length = 9 := by decide +kernel
      have sm : (cs.map (·.length)).sum + cs.length * (Str.ofString ",").length ≤ 1000 := by
        have : ∀ l : List Str, (∀ x ∈ l, x.length ≤ 8) → (l.map (·.length)).sum ≤ 8 * l.length := by
          intro l h
          induction l with
          | nil => exact Nat.le_refl _
          | cons x r ih =>
            rw [List.map_cons, List.sum_cons, List.length_cons]
            have := h x List.mem_cons_self
            have := ih fun y hy => h y (List.mem_cons_of_mem _ hy)
            omega
        have := this cs fun x hx => (hc.ok x hx).2.1
        rw [cm1]
        omega
      refine ⟨_, rfl, t, dx, _, rfl, s0 _ _ h1, t, cs, rs, rfl, tb.same s0, rs.length, rfl, by omega, _, rfl, Dl, _, rfl, .inl (.of (s0 _ _ eD)), rfl, _, rfl, ?_⟩
      rw [decide_eq_true (show V.int (rs.length : Int) = V.int ((as.map V.ref).length : Int) by rw [List.length_map, hal])]
      refine ⟨_, rfl, t, dx, _, rfl, s0 _ _ h1, t, cs, rs, rfl, tb.same s0, hc, by omega, _, rfl, ?_⟩
      refine ⟨_, rfl, Dl, _, rfl, .inl (.of (s0 _ _ eD)), _, rfl, ?_, _, _, rfl, rfl, ?_, ⟨_, rfl⟩, _, rfl, _, Nn, cs, rfl, rfl, .inl (.of (s0 _ _ eN)), Nat.le_trans sm (by decide), _, _, rfl, rfl, ?_, ?_⟩
      · rw [List.length_map, hal]
        have : (rs.length : Int).natAbs.log2 ≤ (rs.length : Int).natAbs := Nat.log2_le_self _
        omega
      · rw [List.length_map, hal]; exact line100 (by omega)
      · rw [List.length_map, hal, sapp_len]; exact line100 (by show _ + (Txt.join cm cs).length ≤ 1000; omega)
      · rw [List.length_map, hal]
        refine ⟨rfl, ?_⟩
        have e : V.str (btext rs.length cs) = V.str (Str.ofString (toString (rs.length : Int)) ++ Str.ofString " rows of " ++ Txt.join (Str.ofString ",") cs) := rfl
        rw [decide_eq_true e]
        exact q G0 s0
end
end T01

set_option maxHeartbeats 2000000
namespace T01
open PySem L2 PyProof.Rows TX TY TW TD TB TG TUD TE TK TQ TNN
section
variable {P : Program} {w : World} {K : PySem.W.Frag} {mg : Str → Option Value} {base : Heap}
variable {fW fN fA fR fK fS : Addr} {dW dN dA dR dK dS : FuncData}
variable {C fI hc hr hl he hk hh hs Cr fr : Addr} {dI gc gr gl ge gk gh gs dr : FuncData}
/-- sorted(set(rows)) -/
theorem set_sorted {H : Hp} {l : Addr} {as : List Addr} {rs : List (List Int)} {d : Nat} {Q : VK} (hl : H l = some (.lst (as.map V.ref))) (hr : RowsAt H as rs) (hd : ∀ r ∈ rs, r.length = d) (few : rs.length ≤ 900)
    (q : ∀ H' p as', Same H H' → H p = none → H' p = some (.lst (as'.map V.ref)) → RowsAt H' as' (norm rs) → Q (.ref p) H') : TBH.rSetK (TBH.khI K P w) [.ref l] H fun v h => TBH.rSortB K P w [v] h Q := by
  have hal := hr.len
  have z1 := (zip_fst hal).1
  have z2 := (zip_fst hal).2
  have zr : ∀ p ∈ as.zip rs, H p.1 = some (.tup (p.2.map V.int)) := pr_zip hr
  refine ⟨l, as.zip rs, rfl, ?_, fun p hp => .of (zr p hp), by rw [List.length_zip]; omega, fun a Ls na i1 i2 nd => ?_⟩
  · have : (as.zip rs).map (fun p => V.ref p.1) = as.map V.ref := by
      conv => rhs; rw [← z1]
      rw [List.map_map]
      rfl
    rw [this]
    exact .of hl
  have sa : Same H (upd H a (TBH.SetKO (TBH.kdI P w) a Ls)) := Same.new na
  have lsr : ∀ p ∈ Ls, upd H a (TBH.SetKO (TBH.kdI P w) a Ls) p.1 = some (.tup (p.2.map V.int)) := fun p hp => sa _ _ (zr p (i1 p hp))
  have inr : ∀ p ∈ as.zip rs, p.2 ∈ rs := fun p hp => z2 ▸ List.mem_map.mpr ⟨p, hp, rfl⟩
  refine ⟨a, Ls, d, rfl, upd_same, fun p hp => .of (lsr p hp), fun p hp => hd _ (inr p (i1 p hp)), fun L' p pm ndL few' pw np => ?_⟩
  have sp : Same (upd H a (TBH.SetKO (TBH.kdI P w) a Ls)) (upd (upd H a (TBH.SetKO (TBH.kdI P w) a Ls)) p (.lst (L'.map fun q => V.ref q.1))) := Same.new np
  refine q _ p (L'.map (·.1)) (sa.trans sp) (sa.free np) ?_ ?_
  · rw [upd_same, List.map_map]
    rfl
  · have en : L'.map (·.2) = norm rs := by
      refine norm_of (rise_of ndL (List.pairwise_map.mpr pw)) fun x => ?_
      constructor
      · intro hx
        obtain ⟨pq, hp, rfl⟩ := List.mem_map.mp hx
        exact inr _ (i1 _ (pm.mem_iff.mp hp))
      · intro hx
        rw [← z2] at hx
        obtain ⟨pq, hp, rfl⟩ := List.mem_map.mp hx
        exact (pm.map (·.2)).mem_iff.mpr (i2 pq hp)
    rw [← en]
    exact of_zip fun pq hp => sp _ _ (lsr pq (pm.mem_iff.mp hp))
/-- what == asks of a table's class -/
structure Qd (K : PySem.W.Frag) (C : Addr) (dI : FuncData) : Prop where
  nl : PySem.W.notFirst K C (.type "list") = true
  kl : PySem.W.kitOne K (.type "list") (.ref C) = some false
  nn : PySem.W.notFirst K C (.type "NoneType") = true
  kn : PySem.W.kitOne K (.type "NoneType") (.ref C) = some false
  i2 : KBn K dI ["self", "columns", "rows"] 1 ["columns", "rows"] (fun us ws => us ++ ws) (fun vs zs => vs ++ zs)
theorem own_eqB {H : Hp} {a b : Addr} {cs cs' : List Str} {rs rs' : List (List Int)} {neg : Bool} {Q : VK} (D : Bd K mg C fI hc hr hl he hk hh hs Cr fr dI gc gr gl ge gk gh gs dr) (h : TG.TabAt C H a cs rs) (k : TG.TabAt C H b cs' rs') (ok : ∀ x ∈ cs, TM.NameOk x) (ok' : ∀ x ∈ cs', TM.NameOk x)
    (q : ∀ H', Same H H' → Q (.bl (if neg = true then !(decide (cs = cs') && decide (rs = rs')) else (decide (cs = cs') && decide (rs = rs')))) H') : rOwnEq K C (sp_beqG (K := K) C) E0 neg (.ref a) (.ref b) H Q := by
  obtain ⟨dx, l, r, as, h1, h2, h3, h4⟩ := id h
  obtain ⟨dx', l', r', as', h1', h2', h3', h4'⟩ := id k
  have c := D.c
  exact ⟨a, dx, _, .ref C, rfl, h1, .base (.ins h1' c.cl c.ins.ha c.ins.hn c.ins.htk c.ins.hm), D.ns, a, .ref b, cs, rs, rfl, h, ok, .inl ⟨b, cs', rs', rfl, k, ok', fun H' s => ⟨_, rfl, q H' s⟩⟩⟩
theorem own_list {H : Hp} {a b : Addr} {cs : List Str} {rs : List (List Int)} {xs : List V} {Q : VK} (Z : Qd K C dI) (h : TG.TabAt C H a cs rs) (k : H b = some (.lst xs)) (ok : ∀ x ∈ cs, TM.NameOk x) (q : ∀ H', Same H H' → Q (.bl false) H') :
    rOwnEq K C (sp_beqG (K := K) C) E0 false (.ref a) (.ref b) H Q := by
  obtain ⟨dx, l, r, as, h1, h2, h3, h4⟩ := id h
  exact ⟨a, dx, _, .type "list", rfl, h1, .base (.lst k), Z.nl, a, .ref b, cs, rs, rfl, h, ok, .inr ⟨_, .base (.lst k), Z.kl, fun H' s => ⟨_, rfl, q H' s⟩⟩⟩
theorem own_none {H : Hp} {a : Addr} {cs : List Str} {rs : List (List Int)} {Q : VK} (Z : Qd K C dI) (h : TG.TabAt C H a cs rs) (ok : ∀ x ∈ cs, TM.NameOk x) (q : ∀ H', Same H H' → Q (.bl false) H') :
    rOwnEq K C (sp_beqG (K := K) C) E0 false (.ref a) .non H Q := by
  obtain ⟨dx, l, r, as, h1, h2, h3, h4⟩ := id h
  exact ⟨a, dx, _, .type "NoneType", rfl, h1, .base .non, Z.nn, a, .non, cs, rs, rfl, h, ok, .inr ⟨_, .base .non, Z.kn, fun H' s => ⟨_, rfl, q H' s⟩⟩⟩
theorem has_call {t a : Addr} {r : List Int} {cs : List Str} {rs : List (List Int)} {H : Hp} {Q : VK} {E : XK} (tb : TabAt C H t cs rs) (hc : cs.length ≤ 8) (ha : H a = some (.tup (r.map V.int))) (hl : r.length = cs.length) (q : ∀ H', Same H H' → Q (.bl (decide (r ∈ rs))) H') : sp_has C Cr [.ref t, .ref a] H Q E := by
  refine ⟨t, a + 1, .ref a, some (r.map V.int), cs, rs, rfl, tb, rowT_int ha (by omega), fun z => (by rw [okRow_int hl] at z; cases z), fun r' _ e H' s => ?_⟩
  have e := Option.some.inj e
  have : r' = r := ((List.map_inj_right (fun x y e => V.int.inj e)).mp e).symm
  subst this
  exact q H' s
/-- a new table, made of a list of names and rows that stand there -/
theorem make_tab {H : Hp} {Nn Rl : Addr} {cs : List Str} {as : List Addr} {rs : List (List Int)} (eN : H Nn = some (.lst (cs.map V.str))) (hc : Cs cs) (eR : H Rl = some (.lst (as.map V.ref))) (hR : RowsAt H as rs) (hl : ∀ r ∈ rs, r.length = cs.length) (few : rs.length ≤ 900) {Q : Addr → Hp → Prop}
    (q : ∀ H' x, Same H H' → TabN C H H' x cs (norm rs) → Q x H') :
    ∀ x dx, H x = none → H dx = none → dx ≠ x → sp_binit C [.ref x, .ref Nn, .ref Rl] (upd (upd H dx (.own x)) x (.ins C dx [])) (fun v H' => v = .non ∧ Q x H') E0 := by
  intro x dx nx ndx hne
  have sx : Same H (upd (upd H dx (.own x)) x (.ins C dx [])) := fun c o e => by rw [upd_ne (ne_of_none e nx), upd_ne (ne_of_none e ndx)]; exact e
  exact ⟨x, Nn, dx, .ref Rl, cs, as, rs, rfl, upd_same, sx _ _ eN, hc, .inr ⟨Rl, rfl, sx _ _ eR, hR.same sx⟩, ⟨hl, few⟩, fun H5 tb keep => ⟨rfl, q H5 x (fun c o e => keep c o (ne_of_none e nx) (sx _ _ e)) (tb.back sx)⟩⟩
/-- a new table without rows -/
theorem make_none {H : Hp} {Nn : Addr} {cs : List Str} (eN : H Nn = some (.lst (cs.map V.str))) (hc : Cs cs) {Q : Addr → Hp → Prop} (q : ∀ H' x, Same H H' → TabN C H H' x cs [] → Q x H') :
    ∀ x dx, H x = none → H dx = none → dx ≠ x → sp_binit C [.ref x, .ref Nn, .non] (upd (upd H dx (.own x)) x (.ins C dx [])) (fun v H' => v = .non ∧ Q x H') E0 := by
  intro x dx nx ndx hne
  have sx : Same H (upd (upd H dx (.own x)) x (.ins C dx [])) := fun c o e => by rw [upd_ne (ne_of_none e nx), upd_ne (ne_of_none e ndx)]; exact e
  exact ⟨x, Nn, dx, .non, cs, [], [], rfl, upd_same, sx _ _ eN, hc, .inl ⟨rfl, rfl, rfl⟩, ⟨fun _ h => (nomatch h), Nat.zero_le _⟩, fun H5 tb keep => ⟨rfl, q H5 x (fun c o e => keep c o (ne_of_none e nx) (sx _ _ e)) (tb.back sx)⟩⟩
/-- a list of names and a list of rows, as data -/
def datH (ns : List Str) (rs : List (List Int)) : PyData := .list [TX.dS ns, TG.dR rs]
theorem DpH {H : Hp} {a l r : Addr} {ns : List Str} {as : List Addr} {rs : List (List Int)} (h : H a = some (.lst [.ref l, .ref r])) (e1 : H l = some (.lst (ns.map V.str))) (e2 : H r = some (.lst (as.map V.ref))) (k : RowsAt H as rs) : Dp K H (.ref a) (datH ns rs) :=
  .lst (.of h) (.cons (DpS e1) (.cons (DpRows e2 k) .nil))
theorem canH {ns : List Str} (h : ∀ x ∈ ns, TM.NameOk x) (rs : List (List Int)) : PyData.canLay0 (datH ns rs) = true := canL fun x hx => by
  rcases List.mem_cons.mp hx with rfl | hx
  · show PyData.canLay0 (.list (ns.map .str)) = true
    unfold PyData.canLay0
    exact canS h
  · rw [List.mem_singleton.mp hx]
    exact canRows rs
theorem shH {ns : List Str} (h : ∀ x ∈ ns, TM.NameOk x) (rs : List (List Int)) : SeqAt.shaped (datH ns rs) = true := by
  refine shaped_of (canH h rs) ?_
  have : PyData.depth (datH ns rs) ≤ 2 + 1 := depL fun x hx => by
    rcases List.mem_cons.mp hx with rfl | hx
    · show PyData.depth (.list (ns.map .str)) ≤ 2
      unfold PyData.depth
      rw [depS]
      decide
    · rw [List.mem_singleton.mp hx]
      exact depL (n := 1) fun d hd => by
        obtain ⟨r, _, rfl⟩ := List.mem_map.mp hd
        rw [dep_tup]
        exact Nat.le_refl _
  omega
theorem cut_sub {xs : List V} {lo hi : Option Int} {y : V} (h : y ∈ cutV xs lo hi) : y ∈ xs := List.mem_of_mem_drop (List.mem_of_mem_take h)
theorem cut_few {xs : List V} {lo hi : Option Int} : (cutV xs lo hi).length ≤ xs.length := by
  unfold cutV
  rw [List.length_take, List.length_drop]
  omega
theorem row_of {H : Hp} {as : List Addr} {rs : List (List Int)} (h : RowsAt H as rs) {v : V} (hv : v ∈ as.map V.ref) : ∃ a r, v = V.ref a ∧ H a = some (.tup (r.map V.int)) ∧ r ∈ rs := by
  obtain ⟨a, ha, rfl⟩ := List.mem_map.mp hv
  obtain ⟨i, hi⟩ := List.mem_iff_getElem?.mp ha
  obtain ⟨r, hr, e⟩ := pr_at h hi
  exact ⟨a, r, rfl, e, List.mem_of_getElem? hr⟩
/-- without a row -/
def outR (r : List Int) (rs : List (List Int)) : List (List Int) := rs.filter fun q => !decide (q = r)
/-- [row for row in rows if row != other] -/
theorem rd_out {H : Hp} {L T i io j : Nat} {as : List Addr} {rs : List (List Int)} {r : List Int} {s : L2.St} {Q : VK} (hi : s[i]? = some (some (.ref L))) (ho : s[io]? = some (some (.ref T))) (hj : j < s.length) (jo : j ≠ io) (eL : H L = some (.lst (as.map V.ref))) (hR : RowsAt H as rs)
    (eT : H T = some (.tup (r.map V.int))) (few : rs.length ≤ 900) (q : ∀ h Dn bs, Same H h → H Dn = none → h Dn = some (.lst (bs.map V.ref)) → RowsAt h bs (outR r rs) → Q (.ref Dn) h) :
    tLc (iList K (tVar i)) (gName j) (tTest (tOp (rNeD K) (tVar j) (tVar io))) (tVar j) [j] s H Q := by
  have hal := hR.len
  refine ⟨_, hi, L, rfl, ⟨_, .of eL⟩, fun Dn nDn => ?_⟩
  refine lc_it (walk_list (xs := as.map V.ref)) (fun n h => ∃ bs : List Addr, h Dn = some (.lst (bs.map V.ref)) ∧ RowsAt h bs (outR r (rs.take n)) ∧ Same H h) ⟨[], upd_same, .nil, Same.new nDn⟩ (fun n h _ ⟨_, _, _, s⟩ => .of (s _ _ eL)) ?_ ?_
  · rintro n v h h' hn ⟨bs, e6, r6, s6⟩ ⟨rfl, hv⟩
    rw [List.length_map] at hn
    obtain ⟨b, hb', rfl⟩ : ∃ b, as[n]? = some b ∧ v = V.ref b := by
      rw [List.getElem?_map, List.getElem?_eq_getElem hn] at hv
      exact ⟨_, List.getElem?_eq_getElem hn, (Option.some.inj hv).symm⟩
    obtain ⟨row, hrow, hta⟩ := pr_at hR hb'
    have ta' := s6 _ _ hta
    have htk : outR r (rs.take (n + 1)) = outR r (rs.take n) ++ outR r [row] := by unfold outR; rw [List.take_add_one, hrow, List.filter_append]; rfl
    have gj : ((wipe s [j]).set j (some (V.ref b)))[io]? = some (some (.ref T)) := by
      show ((s.set j none).set j _)[io]? = _
      rw [List.set_set, List.getElem?_set_ne jo]
      exact ho
    have gi : ((wipe s [j]).set j (some (V.ref b)))[j]? = some (some (.ref b)) := by
      show ((s.set j none).set j _)[j]? = _
      rw [List.set_set, List.getElem?_set_self hj]
    refine ⟨?_, ?_⟩
    · show (((s.set j none).set j _).set j none) = s.set j none
      rw [List.set_set, List.set_set]
    refine ⟨_, gi, _, gj, _, _, DpRow ta', DpRow (s6 _ _ eT), sh_row _, sh_row _, _, rfl, ?_⟩
    rw [eqv_row]
    by_cases g : row = r
    · rw [decide_eq_true g]
      refine ⟨bs, e6, ?_, s6⟩
      have e1 : outR r [row] = [] := by
        unfold outR
        rw [List.filter_cons_of_neg (by simpa using g), List.filter_nil]
      rw [htk, e1, List.append_nil]
      exact r6
    · rw [decide_eq_false g]
      have hlb : bs.length ≤ n := by
        have e1 := r6.len
        have e2 := List.length_filter_le (fun q => !decide (q = r)) (rs.take n)
        rw [List.length_take] at e2
        unfold outR at e1
        omega
      refine ⟨_, gi, _, e6, by rw [List.length_map]; exact line100' (by omega), bs ++ [b], by rw [upd_same, List.map_append]; rfl, ?_, Same.mut s6 nDn⟩
      have e1 : outR r [row] = [row] := by
        unfold outR
        rw [List.filter_cons_of_pos (by simpa using g), List.filter_nil]
      rw [htk, e1]
      exact RowsAt.put (pr_snoc r6 ta') e6
  · rintro h ⟨bs, e6, r6, s6⟩
    rw [List.length_map, hal, List.take_length] at r6
    exact q h Dn bs s6 nDn e6 r6
theorem norm_rev (rs : List (List Int)) : norm (norm rs).reverse = norm rs := (norm_of (rs := (norm rs).reverse) (rise_norm rs) fun x => List.mem_reverse.symm).symm
theorem rows_rev {H : Hp} {as : List Addr} {rs : List (List Int)} (h : RowsAt H as rs) : RowsAt H as.reverse rs.reverse := by
  induction h with
  | nil => exact .nil
  | cons h _ ih =>
    rw [List.reverse_cons, List.reverse_cons]
    exact pr_snoc ih h
theorem cs_rev {cs : List Str} (h : Cs cs) : Cs cs.reverse := ⟨(List.reverse_perm cs).nodup_iff.mpr h.nd, by rw [List.length_reverse]; exact h.le, fun x hx => h.ok x (List.mem_reverse.mp hx)⟩
/-- one more is another one just where it isn't there -/
theorem norm_more {ds : List (List Int)} {r : List Int} (h : Rise ds) : decide (ds = norm (ds ++ [r])) = decide (r ∈ ds) := by
  refine decide_eq_decide.mpr ⟨fun e => ?_, fun k => norm_of h fun x => ?_⟩
  · rw [e]
    exact mem_norm.mpr (List.mem_append_right _ (List.mem_singleton.mpr rfl))
  · rw [List.mem_append, List.mem_singleton]
    exact ⟨.inl, fun z => z.elim id fun e => e ▸ k⟩
theorem fewer_more (ds : List (List Int)) (r : List Int) : norm (outR r ds) ≠ norm (ds ++ [r]) := by
  intro e
  have h1 : r ∈ norm (ds ++ [r]) := mem_norm.mpr (List.mem_append_right _ (List.mem_singleton.mpr rfl))
  rw [← e] at h1
  have := (List.mem_filter.mp (mem_norm.mp h1)).2
  simp at this
end
end T01

set_option maxHeartbeats 4000000
namespace T01
open PySem L2 PyProof.Rows TX TY TW TD TB TG TUD TE TK TQ TNN
section
variable {P : Program} {w : World} {K : PySem.W.Frag} {mg : Str → Option Value} {base : Heap}
variable {fW fN fA fR fK fS : Addr} {dW dN dA dR dK dS : FuncData}
variable {C fI hc hr hl he hk hh hs Cr fr : Addr} {dI gc gr gl ge gk gh gs dr : FuncData}
/-- the defs of the statement -/
structure Ld (K : PySem.W.Frag) (mg : Str → Option Value) (gD gN gB gL gT : Addr) (eD eN eB eL eT : FuncData) : Prop where
  max : mg "max" = none
  draw : Fn K mg "_law_draw" s_draw ["_law_well_here", "_law_top"] gD eD
  nms : Fn K mg "_law_names" s_names ["_law_well_here", "_law_count"] gN eN
  bas : Fn K mg "_law_base" s_base ["_law_well_here"] gB eB
  lin : Fn K mg "_law_lines" s_lines P_lines gL eL
  tel : Fn K mg "_law_tells" s_tells P_tells gT eT
variable {gD gN gB gL gT : Addr} {eD eN eB eL eT : FuncData}
abbrev N_right : List Str := ["_law_well_here", "_law_near", "_law_wide", "_law_names_here", "_law_base_here", "_law_lines_here", "_law_other", "_law_due", "_law_handed", "_law_table", "_law_row", "_law_fewer", "_law_more", "_law_k"]
theorem sc_right : FnScope N_right ["_law_well_here"] (defScope s_right) := ⟨rfl, rfl, rfl, by decide +kernel, rfl, by decide +kernel, by decide +kernel⟩
def sp_right : Sp := fun vs H Q _ => ∃ W : Addr, vs = [.ref W] ∧ WellAt 5000 H W ∧ ∀ H', Sm W H H' → Q (.bl true) H'
theorem ok_right {f : Addr} {fd : FuncData} (F : Fn K mg "_law_right" s_right ["_law_well_here"] f fd) (Tk : Kt K mg fW fN fA fR fK fS dW dN dA dR dK dS) (D : Bd K mg C fI hc hr hl he hk hh hs Cr fr dI gc gr gl ge gk gh gs dr) (Z : Qd K C dI)
    (L : Ld K mg gD gN gB gL gT eD eN eB eL eT) : FnOk P w K mg base CX0 8 f fd ["_law_well_here"] sp_right := by
  have B := Tk.B
  have cc := D.c
  have GD : FnOk P w K mg base CX0 1 gD eD ["_law_well_here", "_law_top"] sp_draw := ok_draw L.draw
  have GN : FnOk P w K mg base CX0 2 gN eN ["_law_well_here", "_law_count"] sp_names := ok_names L.nms B L.draw
  have GB : FnOk P w K mg base CX0 2 gB eB ["_law_well_here"] sp_base := ok_base L.bas L.draw
  have GLn : FnOk P w K mg base CX0 2 gL eL P_lines sp_lines := ok_lines L.lin B L.max L.draw
  have GT : FnOk P w K mg base CX0 4 gT eT P_tells (sp_tells C) := ok_tells L.tel Tk D
  have GI : FnOk P w K mg base CX0 4 fI dI ["self", "columns", "rows"] (sp_binit C) := ok_binit D.iF Tk cc
  have GE : FnOk P w K mg base CX0 1 he ge ["self", "other"] (sp_beqG (K := K) C) := ok_beqG D.eq.F B cc
  have GH : FnOk P w K mg base (L2.CX P w) 4 hh gh ["self", "row"] (sp_has C Cr) := ok_has Tk D
  refine F.F.ok sc_right (fun vs H Q E h => ?_) (fun cdv A outer s H vs Q E hr h => ?_)
  · obtain ⟨W, rfl, _⟩ := h
    rfl
  · obtain ⟨W, rfl, hW, q⟩ := h
    have nd := sc_right.nd
    have hu64 := hr.units
    have hu65 := u65 hr
    have r1 : Room 1 _ := hr.mono (by decide)
    have r2 : Room 2 _ := hr.mono (by decide)
    have r4 : Room 4 _ := hr.mono (by decide)
    have r5 : Room 5 _ := hr.mono (by decide)
    refine ⟨_, pss_cons (ps_set (i := 1) nd rfl (Or.inr rfl) (pe_ix ix_list (pe_lst (pa_cons pe_int (pa_cons pe_int (pa_cons pe_int (pa_cons (pe_op op_pow pe_int pe_int) pa_nil))))) (pe_call GD r1 rfl L.draw.g L.draw.F.kp L.draw.b .nil pass0 (pa_cons (pv 0) (pa_cons pe_int pa_nil))) (fun _ _ => rfl)))
      (pss_cons (ps_set (i := 2) nd rfl (Or.inl rfl) (pe_ix ix_list (pe_lst (pa_cons pe_int (pa_cons pe_int (pa_cons pe_int (pa_cons pe_int (pa_cons pe_int (pa_cons (pe_call GD r1 rfl L.draw.g L.draw.F.kp L.draw.b .nil pass0 (pa_cons (pv 0) (pa_cons pe_int pa_nil))) pa_nil))))))) (pe_call GD r1 rfl L.draw.g L.draw.F.kp L.draw.b .nil pass0 (pa_cons (pv 0) (pa_cons pe_int pa_nil))) (fun _ _ => rfl)))
      (pss_cons (ps_set (i := 3) nd rfl (Or.inl rfl) (pe_call GN r2 rfl L.nms.g L.nms.F.kp L.nms.b .nil pass0 (pa_cons (pv 0) (pa_cons (pv 2) pa_nil))))
      (pss_cons (ps_set (i := 4) nd rfl (Or.inr rfl) (pe_call GB r2 rfl L.bas.g L.bas.F.kp L.bas.b .nil pass0 (pa_cons (pv 0) pa_nil)))
      (pss_cons (ps_set (i := 5) nd rfl (Or.inl rfl) (pe_call GLn r2 rfl L.lin.g L.lin.F.kp L.lin.b .nil pass0 (pa_cons (pv 0) (pa_cons (pv 2) (pa_cons (pv 4) (pa_cons (pv 1) pa_nil))))))
      (pss_cons (ps_set (i := 6) nd rfl (Or.inr rfl) (pe_callTy call_tu (by rfl) B.tuple boot_tuple (pa_cons (pe_lc (own := [("_law_k", 13)]) (g := gName 13) (tt := tYes) (te := teI 0 4 1) rfl nd (pi_range1 rfl B.range (pa_cons (pv 2) pa_nil)) (blkOk_by (N := N_right) (sc := defScope s_right) (by decide +kernel))
          (fun _ _ _ _ _ => pg_name (i := 13) nd rfl (Or.inl rfl)) (fun _ _ _ _ _ => pts_nil) (fun _ _ _ _ _ => pe_op op_add (pv 4) (pe_call GD r1 rfl L.draw.g L.draw.F.kp L.draw.b .nil pass0 (pa_cons (pv 0) (pa_cons (pv 1) pa_nil))))) pa_nil)))
      (pss_cons (ps_set (i := 7) nd rfl (Or.inl rfl) (pe_callB (TBH.cr_sortB rfl) (by rfl) B.sorted boot_sorted (pa_cons (pe_callTy (TBH.cr_setK (TBH.khI K P w) rfl hu64) (by rfl) Tk.set boot_set (pa_cons (pv 5) pa_nil)) pa_nil)))
      (pss_cons (ps_set (i := 8) nd rfl (Or.inl rfl) (pe_lst (pa_cons (pe_callTy call_list_of (by rfl) B.list boot_list (pa_cons (pv 3) pa_nil)) (pa_cons (pe_callTy call_list_of (by rfl) B.list boot_list (pa_cons (pv 5) pa_nil)) pa_nil))))
      (pss_cons (ps_set (i := 9) nd rfl (Or.inl rfl) (pe_make D.iM GI r5 rfl cc.g D.iB .nil pass0 (pa_cons (pe_ix ix_list (pv 8) pe_int (fun _ _ => rfl)) (pa_cons (pe_ix ix_list (pv 8) pe_int (fun _ _ => rfl)) pa_nil))))
      (pss_cons (ps_if (pt_cmpR (op_neD hu64) (pv 8) (pe_lst (pa_cons (pv 3) (pa_cons (pv 5) pa_nil))) (nomark _)) (pss_one (ps_ret pe_bl)) pss_nil)
      (pss_cons (ps_expr (pe_bm PySem.F.plainAttrs_list PySem.F.slot_list_append PySem.F.type_list_append mt_append (pe_ix ix_list (pv 8) pe_int (fun _ _ => rfl)) (pa_cons pe_str pa_nil)))
      (pss_cons (ps_expr (pe_bm PySem.F.plainAttrs_list PySem.F.slot_list_append PySem.F.type_list_append mt_append (pe_ix ix_list (pv 8) pe_int (fun _ _ => rfl)) (pa_cons (pe_tup (pa_cons pe_int pa_nil)) pa_nil)))
      (pss_cons (ps_if (pt_not (pt_val (pe_call GT r4 rfl L.tel.g L.tel.F.kp L.tel.b .nil pass0 (pa_cons (pv 9) (pa_cons (pv 3) (pa_cons (pv 7) pa_nil)))))) (pss_one (ps_ret pe_bl)) pss_nil)
      (pss_cons (ps_for PassesOwn.never rfl (pi_list (pe_op op_cat (pe_slice sl_list (pv 5) (po_some (pe_un un_neg pe_int)) po_none) (pe_lst (pa_cons (pv 6) pa_nil)))) (pg_name (i := 10) nd rfl (Or.inl rfl))
        (pss_one (ps_if (PW.pt (pw_or (pt_not (pt_val (pe_callB call_isi (by rfl) B.isi boot_isinstance (pa_cons (pe_meth (pv 9) cc.cl D.has.me GH r4 D.has.b .nil passL (pa_cons (pv 10) pa_nil)) (pa_cons (pe_bltn (v := .ty "bool") (by rfl) Tk.bool boot_bool rfl) pa_nil)))))
          (pw_or1 (pt_cmpR op_ne (pe_meth (pv 9) cc.cl D.has.me GH r4 D.has.b .nil passL (pa_cons (pv 10) pa_nil)) (pe_cmpR (op_inD hu65) (pv 10) (pv 7) rfl) (nomark _))))) (pss_one (ps_ret pe_bl)) pss_nil)))
      (pss_cons (ps_if (PW.pt (pw_or (pt_not (pt_cmpR (op_eqOwn GE D.eq.me.at_ D.eq.me.fn D.eq.b pass0 r1) (pv 9) (pe_make D.iM GI r5 rfl cc.g D.iB .nil pass0 (pa_cons (pv 3) (pa_cons (pe_revL (pv 7)) pa_nil))) (nomark _)))
          (pw_or (pt_cmpR (op_eqOwn GE D.eq.me.at_ D.eq.me.fn D.eq.b pass0 r1) (pv 9) (pv 7) (nomark _)) (pw_or1 (pt_cmpR (op_eqOwn GE D.eq.me.at_ D.eq.me.fn D.eq.b pass0 r1) (pv 9) pe_non (nomark _)))))) (pss_one (ps_ret pe_bl)) pss_nil)
      (pss_cons (ps_if (PW.pt (pw_and (pt_cmpR op_gt (pv 2) pe_int (nomark _))
          (pw_and1 (pt_cmpR op_ne (pe_cmpR (op_eqOwn GE D.eq.me.at_ D.eq.me.fn D.eq.b pass0 r1) (pv 9) (pe_make D.iM GI r5 rfl cc.g D.iB .nil pass0 (pa_cons (pe_revL (pv 3)) (pa_cons (pv 7) pa_nil))) (nomark _)) (pe_cmpR (op_eqD hu64) (pv 3) (pe_revL (pv 3)) (nomark _)) (nomark _))))) (pss_one (ps_ret pe_bl)) pss_nil)
      (pss_cons (ps_set (i := 11) nd rfl (Or.inl rfl) (pe_make D.iM GI r5 rfl cc.g D.iB .nil pass0 (pa_cons (pv 3) (pa_cons (pe_lc (own := [("_law_row", 10)]) (g := gName 10) (tt := tTest (tOp (rNeD K) (tVar 10) (tVar 6))) (te := tVar 10) rfl nd (pi_list (pv 7))
          (blkOk_by (N := N_right) (sc := defScope s_right) (by decide +kernel)) (fun _ _ _ _ _ => pg_name (i := 10) nd rfl (Or.inl rfl)) (fun _ _ _ _ _ => pts_one (pt_cmpR (op_neD hu64) (pv 10) (pv 6) (nomark _))) (fun _ _ _ _ _ => pv 10)) pa_nil))))
      (pss_cons (ps_set (i := 12) nd rfl (Or.inl rfl) (pe_makeK0 D.iM GI r5 rfl cc.g Z.i2 pass0 (pk_cons (pv 3) (pk_cons (pe_op op_cat (pv 7) (pe_lst (pa_cons (pv 6) pa_nil))) pk_nil))))
      (pss_one (ps_ret (pe_and (pe_cmpR (op_neOwn GE cc.ins.hm D.ne D.eq.me.at_ D.eq.me.fn D.eq.b pass0 r2) (pv 11) (pv 12) (nomark _)) (pe_and (pe_cmpR op_eq (pe_cmpR (op_eqOwn GE D.eq.me.at_ D.eq.me.fn D.eq.b pass0 r1) (pv 9) (pv 12) (nomark _)) (pe_cmpR (op_inD hu65) (pv 6) (pv 7) rfl) (nomark _))
        (pe_one (pe_call GT r4 rfl L.tel.g L.tel.F.kp L.tel.b .nil pass0 (pa_cons (pv 9) (pa_cons (pv 3) (pa_cons (pv 7) pa_nil)))))))))))))))))))))))))), ?_⟩
    -- near
    refine ⟨_, _, rfl, rfl, ⟨by decide, by decide, by decide⟩, by show 4 ≤ sizeLine; decide, fun p np => ?_⟩
    have pW : p ≠ W := (hW.ne np).symm
    refine ⟨_, rfl, W, 4, 4999, rfl, by decide, by decide, hW.new np, fun H1 j hj s1 w1 => ?_⟩
    have e1 := s1 _ _ pW upd_same
    have m1 : Sm W H H1 := (Sm.of (Same.new np)).trans s1
    obtain ⟨near, hnear, n1, n2⟩ : ∃ near : Nat, atI [V.int 2, .int 3, .int 9, .int ((10 : Int) ^ Int.toNat 8)] (j : Int) = some (V.int (near : Int)) ∧ 0 < near ∧ near < 1073741824 := by
      have : j = 0 ∨ j = 1 ∨ j = 2 ∨ j = 3 := by omega
      rcases this with e | e | e | e <;> subst e
      · exact ⟨2, rfl, by decide, by decide⟩
      · exact ⟨3, rfl, by decide, by decide⟩
      · exact ⟨9, rfl, by decide, by decide⟩
      · exact ⟨100000000, rfl, by decide, by decide⟩
    refine ⟨p, _, (j : Int), _, rfl, rfl, .of e1, hnear, ?_⟩
    clear s1 e1 pW np hnear
    -- how wide
    refine ⟨_, rfl, W, 9, 4998, rfl, by decide, by decide, w1, fun H2 k9 hk9 s2 w2 => ?_⟩
    refine ⟨by show 6 ≤ sizeLine; decide, fun p np => ?_⟩
    have pW : p ≠ W := (w2.ne np).symm
    refine ⟨_, rfl, W, 6, 4997, rfl, by decide, by decide, w2.new np, fun H3 j2 hj2 s3 w3 => ?_⟩
    have e3 := s3 _ _ pW upd_same
    have m3 : Sm W H H3 := ((m1.trans s2).trans (.of (Same.new np))).trans s3
    obtain ⟨wide, hwide, w8⟩ : ∃ wide : Nat, atI [V.int 2, .int 3, .int 1, .int 4, .int 0, .int (k9 : Int)] (j2 : Int) = some (V.int (wide : Int)) ∧ wide ≤ 8 := by
      have : j2 = 0 ∨ j2 = 1 ∨ j2 = 2 ∨ j2 = 3 ∨ j2 = 4 ∨ j2 = 5 := by omega
      rcases this with e | e | e | e | e | e <;> subst e
      · exact ⟨2, rfl, by decide⟩
      · exact ⟨3, rfl, by decide⟩
      · exact ⟨1, rfl, by decide⟩
      · exact ⟨4, rfl, by decide⟩
      · exact ⟨0, rfl, by decide⟩
      · exact ⟨k9, rfl, by omega⟩
    refine ⟨p, _, (j2 : Int), _, rfl, rfl, .of e3, hwide, ?_⟩
    clear s2 s3 e3 pW np hwide m1 w1 w2
    -- names, a base
    refine ⟨_, rfl, _, rfl, W, wide, 4986, rfl, by omega, w3, fun H4 Nn ns s4 w4 nNn NnW eNn lns ndn okn => ?_⟩
    refine ⟨_, rfl, W, 4982, rfl, w4, fun H5 b s5 w5 hb => ?_⟩
    have cs : Cs ns := ⟨ndn, by omega, okn⟩
    have eN5 := s5 _ _ NnW eNn
    have m5 := (m3.trans s4).trans s5
    clear s4 s5 eNn nNn w3 w4 m3
    -- lines
    refine ⟨_, rfl, _, rfl, _, rfl, _, rfl, W, wide, near, 1400, b, rfl, w8, n1, n2, w5.mono (by decide), fun H6 Rl as rs s6 w6 nRl RlW eRl hRs rlen rfew => ?_⟩
    have eN6 := s6 _ _ NnW eN5
    have m6 := m5.trans s6
    clear s6 w5 m5 eN5 nRl
    -- another one
    dsimp only [gName]
    refine sq_asg ?_
    dsimp only [tCB, tCons, tNil, List.map]
    refine rd_line (m := 1300) (wide := wide) (near := near) w8 n1 n2 (w6.mono (by omega)) (Nat.lt_succ_self 13) (by decide) (by decide) (by decide) rfl rfl rfl rfl fun H7 Lr ro s7 w7 nLr eLr lro => ?_
    refine ⟨Lr, ro.map V.int, rfl, .inl ⟨.of eLr, fun T nT => ?_⟩⟩
    have s8 : Same H7 (upd H7 T (.tup (ro.map V.int))) := Same.new nT
    have eT : upd H7 T (.tup (ro.map V.int)) T = some (.tup (ro.map V.int)) := upd_same
    have w8' := w7.same s8
    have TW : T ≠ W := (w7.ne nT).symm
    have ew6 : ∃ n, WellAt n H6 W := ⟨_, w6⟩
    have m78 : Sm W H6 (upd H7 T (.tup (ro.map V.int))) := s7.trans (.of s8)
    have eN8 := m78 _ _ NnW eN6
    have eR8 := m78 _ _ RlW eRl
    have hR8 := hRs.sm m78 ew6
    have m8 := m6.trans m78
    clear s7 s8 nT eLr nLr m78 m6 eN6 eRl hRs w7 w6 ew6
    generalize upd H7 T (.tup (ro.map V.int)) = H8 at eT w8' eN8 eR8 hR8 m8 ⊢
    -- what is due
    dsimp only [gName]
    refine sq_asg ?_
    dsimp only [tCB, tCons, tNil]
    refine ⟨_, rfl, ?_⟩
    refine set_sorted (d := wide) eR8 hR8 rlen (by omega) fun H9 Dl da s9 nDl eDl hDl => ?_
    have eN9 := s9 _ _ eN8
    have eR9 := s9 _ _ eR8
    have hR9 := hR8.same s9
    have eT9 := s9 _ _ eT
    have m9 := m8.trans (.of s9)
    have w9 := w8'.same s9
    clear s9 nDl eT w8' eN8 eR8 hR8 m8
    generalize hds : norm rs = ds at hDl
    have dlen : ∀ r ∈ ds, r.length = ns.length := fun r hr => by rw [lns]; exact rlen r (mem_norm.mp (hds ▸ hr))
    have dfew : ds.length ≤ 300 := by have := norm_len rs; rw [hds] at this; omega
    have dris : Rise ds := hds ▸ rise_norm rs
    -- handed in
    refine ⟨_, rfl, Nn, _, rfl, .inl (.of eN9), fun A1 nA1 => ?_⟩
    have s10 : Same H9 (upd H9 A1 (.lst (ns.map V.str))) := Same.new nA1
    have eA1 : upd H9 A1 (.lst (ns.map V.str)) A1 = some (.lst (ns.map V.str)) := upd_same
    generalize upd H9 A1 (.lst (ns.map V.str)) = H10 at s10 eA1 ⊢
    refine ⟨_, rfl, Rl, _, rfl, .inl (.of (s10 _ _ eR9)), fun A2 nA2 => ?_⟩
    have s11 : Same H10 (upd H10 A2 (.lst (as.map V.ref))) := Same.new nA2
    have eA2 : upd H10 A2 (.lst (as.map V.ref)) A2 = some (.lst (as.map V.ref)) := upd_same
    have eA1' := s11 _ _ eA1
    have A12 : A1 ≠ A2 := ne_of_none eA1 nA2
    generalize upd H10 A2 (.lst (as.map V.ref)) = H11 at s11 eA2 eA1' ⊢
    refine ⟨by show 2 ≤ sizeLine; decide, fun Hd nHd => ?_⟩
    have s12 : Same H11 (upd H11 Hd (.lst [.ref A1, .ref A2])) := Same.new nHd
    have eHd : upd H11 Hd (.lst [.ref A1, .ref A2]) Hd = some (.lst [.ref A1, .ref A2]) := upd_same
    generalize upd H11 Hd (.lst [.ref A1, .ref A2]) = H12 at s12 eHd ⊢
    have s912 := (s10.trans s11).trans s12
    have nA1H : H9 A1 = none := nA1
    have nA2H : H9 A2 = none := s10.free nA2
    have nHdH : H9 Hd = none := (s10.trans s11).free nHd
    have eA1c := s12 _ _ eA1'
    have eA2c := s12 _ _ eA2
    -- the table
    refine ⟨_, rfl, Hd, _, (0 : Int), _, rfl, rfl, .of eHd, rfl, ?_⟩
    refine ⟨_, rfl, Hd, _, (1 : Int), _, rfl, rfl, .of eHd, rfl, ?_⟩
    dsimp only [tNil]
    refine make_tab eA1c cs eA2c (hR9.same s912) (fun r hr => by rw [lns]; exact rlen r hr) (by omega) fun H13 t s13 tb => ?_
    rw [hds] at tb
    have eHd13 := s13 _ _ eHd
    have eA1d := s13 _ _ eA1c
    have eA2d := s13 _ _ eA2c
    have s913 := s912.trans s13
    -- as handed in
    refine ⟨_, rfl, _, rfl, _, rfl, by show 2 ≤ sizeLine; decide, fun p np => ?_⟩
    have s14 : Same H13 (upd H13 p (.lst [.ref Nn, .ref Rl])) := Same.new np
    have ep : upd H13 p (.lst [.ref Nn, .ref Rl]) p = some (.lst [.ref Nn, .ref Rl]) := upd_same
    generalize upd H13 p (.lst [.ref Nn, .ref Rl]) = H14 at s14 ep ⊢
    have s914 := s913.trans s14
    have eA1e := s14 _ _ eA1d
    have eA2e := s14 _ _ eA2d
    have eHd14 := s14 _ _ eHd13
    refine ⟨_, _, DpH eHd14 eA1e eA2e (hR9.same s914), DpH ep (s914 _ _ eN9) (s914 _ _ eR9) (hR9.same s914), shH okn rs, shH okn rs, _, rfl, ?_⟩
    rw [eqv_same (canH okn rs) rfl]
    -- more in the lists
    have tb14 := tb.same s14
    refine ⟨_, rfl, Hd, _, (0 : Int), _, rfl, rfl, .of eHd14, rfl, .inl ⟨rfl, _, .inl (.inl eA1e)⟩, A1, _, _, rfl, rfl, eA1e, by rw [List.length_map]; exact line100' (by omega), ?_⟩
    have tb15 := tb14.put (ys := ns.map V.str ++ [V.str "z"]) eA1c eA1e
    have s915 : Same H9 (upd H14 A1 (.lst (ns.map V.str ++ [V.str "z"]))) := Same.mut s914 nA1H
    have eHd15 : upd H14 A1 (.lst (ns.map V.str ++ [V.str "z"])) Hd = some (.lst [.ref A1, .ref A2]) := by rw [upd_ne (fun z => by rw [z, eA1'] at nHd; cases nHd)]; exact eHd14
    have eA2f : upd H14 A1 (.lst (ns.map V.str ++ [V.str "z"])) A2 = some (.lst (as.map V.ref)) := by rw [upd_ne A12.symm]; exact eA2e
    have eN15 := s915 _ _ eN9
    generalize upd H14 A1 (.lst (ns.map V.str ++ [V.str "z"])) = H15 at tb15 s915 eHd15 eA2f ⊢
    have hal := hR9.len
    refine ⟨_, rfl, Hd, _, (1 : Int), _, rfl, rfl, .of eHd15, rfl, .inl ⟨rfl, _, .inl (.inl eA2f)⟩, by show 1 ≤ sizeLine; decide, fun T1 nT1 => ⟨A2, _, _, rfl, rfl, (Same.new nT1) _ _ eA2f, by rw [List.length_map]; exact line100' (by omega), ?_⟩⟩
    have sT : Same H15 (upd H15 T1 (.tup [.int 1])) := Same.new nT1
    have tb16 := (tb15.same sT).put (ys := as.map V.ref ++ [V.ref T1]) eA2c (sT _ _ eA2f)
    have s916 : Same H9 (upd (upd H15 T1 (.tup [.int 1])) A2 (.lst (as.map V.ref ++ [V.ref T1]))) := Same.mut (s915.trans sT) nA2H
    generalize upd (upd H15 T1 (.tup [.int 1])) A2 (.lst (as.map V.ref ++ [V.ref T1])) = H16 at tb16 s916 ⊢
    clear tb tb14 tb15 s914 s915 s912 s913 eA1d eA2d eA1e eA2e eA2f eHd13 eHd14 eHd15 eHd eA1c eA2c eA1' eA2 eA1 s10 s11 s12 s13 s14 sT ep np nT1 A12 eN15 nHd nA1 nA2
    -- told
    have le8 := cs.le
    have d8 : ∀ r ∈ ds, r.length ≤ 8 := fun r hr => by rw [dlen r hr]; exact le8
    refine ⟨_, rfl, _, rfl, _, rfl, t, Nn, Dl, ns, ds, da, rfl, tb16.tab, cs, d8, by omega, s916 _ _ eN9, s916 _ _ eDl, hDl.same s916, fun H17 s17 => ⟨true, rfl, ?_⟩⟩
    have tb17 := tb16.tab.same s17
    have s917 := s916.trans s17
    clear s17 s916 tb16
    -- each row
    refine ⟨_, rfl, 30, rfl, _, rfl, ?_⟩
    dsimp -proj only [tNoPart]
    refine ⟨Rl, _, rfl, .of (s917 _ _ eR9), fun p1 np1 => ?_⟩
    refine ⟨_, rfl, by show 1 ≤ sizeLine; decide, fun p2 np2 => ?_⟩
    have cutl := cut_few (xs := as.map V.ref) (lo := some (-30)) (hi := none)
    rw [List.length_map] at cutl
    refine ⟨p1, p2, _, _, rfl, rfl, (Same.new np2) _ _ upd_same, upd_same, ?_, fun p3 np3 => ?_⟩
    · show _ + 1 ≤ sizeLine
      exact line100 (by omega)
    obtain ⟨zs, hzs⟩ : ∃ zs, zs = cutV (as.map V.ref) (some (-30)) none ++ [V.ref T] := ⟨_, rfl⟩
    have zrow : ∀ v ∈ zs, ∃ (a : Addr) (r : List Int), v = V.ref a ∧ H9 a = some (.tup (r.map V.int)) ∧ r.length = ns.length := fun v hv => by
      rw [hzs] at hv
      rcases List.mem_append.mp hv with hv | hv
      · obtain ⟨a, r, e, h1, h2⟩ := row_of hR9 (cut_sub hv)
        exact ⟨a, r, e, h1, by rw [lns]; exact rlen r h2⟩
      · exact ⟨T, ro, List.mem_singleton.mp hv, eT9, by rw [lro, lns]⟩
    have s18 : Same H17 (upd (upd (upd H17 p1 (.lst (cutV (as.map V.ref) (some (-30)) none))) p2 (.lst [.ref T])) p3 (.lst (cutV (as.map V.ref) (some (-30)) none ++ [V.ref T]))) := ((Same.new np1).trans (Same.new np2)).trans (Same.new np3)
    have ep3 : upd (upd (upd H17 p1 (.lst (cutV (as.map V.ref) (some (-30)) none))) p2 (.lst [.ref T])) p3 (.lst (cutV (as.map V.ref) (some (-30)) none ++ [V.ref T])) p3 = some (.lst zs) := by rw [upd_same, hzs]
    generalize upd (upd (upd H17 p1 (.lst (cutV (as.map V.ref) (some (-30)) none))) p2 (.lst [.ref T])) p3 (.lst (cutV (as.map V.ref) (some (-30)) none ++ [V.ref T])) = H18 at s18 ep3 ⊢
    have tb18 := tb17.same s18
    have s918 := s917.trans s18
    clear np1 np2 np3 hzs s18 s917 tb17
    obtain ⟨dx, lT, rT, aT, hT, _⟩ := id tb18
    refine ⟨p3, rfl, ⟨_, .of ep3⟩, ?_⟩
    refine for_it (walk_list (xs := zs)) (fun i σ h => ∃ v10 : Option V, σ = [some (.ref W), some (.int near), some (.int wide), some (.ref Nn), some (.int b), some (.ref Rl), some (.ref T), some (.ref Dl), some (.ref Hd), some (.ref t), v10, none, none, none] ∧ Same H18 h)
      ⟨none, rfl, same_rfl⟩ (fun i σ h _ ⟨_, _, s⟩ => .of (s _ _ ep3)) ?_ ?_
    · rintro i v σ h h' hi ⟨v10, rfl, s1⟩ ⟨rfl, hv⟩
      obtain ⟨a, r, rfl, ha, hlr⟩ := zrow v (List.mem_of_getElem? hv)
      refine ⟨_, rfl, t, dx, _, rfl, s1 _ _ hT, nohas _ _, _, rfl, ?_⟩
      dsimp only [tNil]
      refine has_call (Cr := Cr) (tb18.same s1) le8 (s1 _ _ (s918 _ _ ha)) hlr fun h2 s2 => ?_
      refine ⟨_, _, _, _, true, rfl, .ty _, .base (.bl _), kit_ty (by decide +kernel), _, rfl, ?_⟩
      have s12 := s1.trans s2
      refine ⟨_, rfl, t, dx, _, rfl, s12 _ _ hT, nohas _ _, _, rfl, ?_⟩
      dsimp only [tNil]
      refine has_call (Cr := Cr) (tb18.same s12) le8 (s12 _ _ (s918 _ _ ha)) hlr fun h3 s3 => ?_
      have s13 := s12.trans s3
      refine ⟨_, rfl, _, rfl, _, _, DpRow (s13 _ _ (s918 _ _ ha)), DpRows (s13 _ _ (s918 _ _ eDl)) (hDl.same (s918.trans s13)), sh_row _, shRows _, ?_⟩
      rw [any_row]
      refine ⟨rfl, _, rfl, ?_⟩
      rw [decide_eq_true rfl]
      exact ⟨_, rfl, s13⟩
    rintro σ H19 ⟨v10, rfl, s19⟩
    have s919 := s918.trans s19
    have tb19 := tb18.same s19
    clear s918 tb18 s19 hT ep3
    have eN19 := s919 _ _ eN9
    have eD19 := s919 _ _ eDl
    have hD19 := hDl.same s919
    -- turned about
    refine ⟨_, rfl, _, rfl, _, rfl, Dl, _, rfl, .of eD19, fun p np => ?_⟩
    dsimp -proj only [tNil]
    have sp : Same H19 (upd H19 p (.lst (da.map V.ref).reverse)) := Same.new np
    have ep : upd H19 p (.lst (da.map V.ref).reverse) p = some (.lst (da.reverse.map V.ref)) := by rw [upd_same, List.map_reverse]
    generalize upd H19 p (.lst (da.map V.ref).reverse) = H20 at sp ep ⊢
    refine make_tab (C := C) (sp _ _ eN19) cs ep (rows_rev (hD19.same sp)) (fun r hr => dlen r (List.mem_reverse.mp hr)) (by rw [List.length_reverse]; omega) fun H21 x s21 tx => ?_
    have er : norm ds.reverse = ds := by rw [← hds]; exact norm_rev rs
    rw [er] at tx
    have s1921 := sp.trans s21
    refine own_eqB D (tb19.same s1921) tx.tab okn okn fun H22 s22 => ⟨_, rfl, ?_⟩
    rw [if_neg Bool.false_ne_true, decide_eq_true rfl, decide_eq_true rfl]
    have s1922 := s1921.trans s22
    refine ⟨_, rfl, _, rfl, own_list Z (tb19.same s1922) (s1922 _ _ eD19) okn fun H23 s23 => ⟨_, rfl, ?_⟩⟩
    have s1923 := s1922.trans s23
    refine ⟨_, rfl, ?_⟩
    dsimp -proj only [tC]
    refine own_none Z (tb19.same s1923) okn fun H24 s24 => ⟨_, rfl, ?_⟩
    have s1924 := s1923.trans s24
    clear s1921 s1922 s1923 s21 s22 s23 s24 sp ep np tx er
    have s924 := s919.trans s1924
    have tb24 := tb19.same s1924
    have eN24 := s1924 _ _ eN19
    have eD24 := s1924 _ _ eD19
    have hD24 := hD19.same s1924
    clear tb19 eN19 eD19 hD19 s1924 s919
    rw [if_neg Bool.false_ne_true]
    dsimp only [tNext]
    -- the columns turned about
    refine sq_no (fun h s1 Q1 q1 => ?_) fun H25 s25 => ?_
    · refine ⟨_, rfl, _, _, rfl, rfl, _, rfl, ite2 (fun hz => ?_) (fun hz => ?_)⟩
      · refine ⟨_, rfl, _, rfl, Nn, _, rfl, .of (s1 _ _ eN24), fun p np => ?_⟩
        have sp : Same h (upd h p (.lst (ns.map V.str).reverse)) := Same.new np
        have ep : upd h p (.lst (ns.map V.str).reverse) p = some (.lst (ns.reverse.map V.str)) := by rw [upd_same, List.map_reverse]
        generalize upd h p (.lst (ns.map V.str).reverse) = h2 at sp ep ⊢
        have s12 := s1.trans sp
        refine ⟨_, rfl, ?_⟩
        dsimp only [tNil]
        refine make_tab (C := C) ep (cs_rev cs) (s12 _ _ eD24) (hD24.same s12) (fun r hr => by rw [List.length_reverse]; exact dlen r hr) (by omega) fun h3 x s3 tx => ?_
        rw [show norm ds = ds from norm_idem dris] at tx
        have s13 := s12.trans s3
        refine own_eqB D (tb24.same s13) tx.tab okn (cs_rev cs).ok fun h4 s4 => ?_
        have s14 := s13.trans s4
        refine ⟨_, rfl, _, rfl, Nn, _, rfl, .of (s14 _ _ eN24), fun p2 np2 => ?_⟩
        have sp2 : Same h4 (upd h4 p2 (.lst (ns.map V.str).reverse)) := Same.new np2
        have ep2 : upd h4 p2 (.lst (ns.map V.str).reverse) p2 = some (.lst (ns.reverse.map V.str)) := by rw [upd_same, List.map_reverse]
        generalize upd h4 p2 (.lst (ns.map V.str).reverse) = h5 at sp2 ep2 ⊢
        refine ⟨_, _, DpS ((s14.trans sp2) _ _ eN24), DpS ep2, shS okn, shS (cs_rev cs).ok, ?_⟩
        rw [eqv_dS, if_neg Bool.false_ne_true, decide_eq_true (show ds = ds from rfl), Bool.and_true]
        refine ⟨rfl, _, rfl, ?_⟩
        rw [decide_eq_true rfl]
        exact q1 h5 ((sp.trans s3).trans (s4.trans sp2))
      · exact q1 h same_rfl
    have s925 := s924.trans s25
    have tb25 := tb24.same s25
    clear tb24 eN24 eD24 hD24 s25 s924
    -- one fewer
    refine sq_asg ?_
    refine ⟨_, rfl, ?_⟩
    refine rd_out (K := K) (r := ro) rfl rfl (Nat.lt_add_of_pos_right (by decide : 0 < 4)) (by decide) (s925 _ _ eDl) (hDl.same s925) (s925 _ _ eT9) (by omega) fun H26 Fl fa s26 nFl eFl hFl => ?_
    dsimp only [tNil]
    have s926 := s925.trans s26
    have fl : (outR ro ds).length ≤ ds.length := List.length_filter_le _ _
    refine make_tab (C := C) (s926 _ _ eN9) cs eFl hFl (fun r hr => dlen r (List.mem_filter.mp hr).1) (by omega) fun H27 xf s27 tf => ?_
    have s927 := s926.trans s27
    -- one more
    refine sq_asg ?_
    refine ⟨_, rfl, _, rfl, _, rfl, by show 1 ≤ sizeLine; decide, fun p np => ?_⟩
    have dal := (hDl.same s927).len
    refine ⟨Dl, p, _, _, rfl, rfl, (Same.new np) _ _ (s927 _ _ eDl), upd_same, by rw [List.length_map]; show _ + 1 ≤ sizeLine; exact line100 (by omega), fun p2 np2 => ?_⟩
    have s28 : Same H27 (upd (upd H27 p (.lst [.ref T])) p2 (.lst (da.map V.ref ++ [V.ref T]))) := (Same.new np).trans (Same.new np2)
    have ep2 : upd (upd H27 p (.lst [.ref T])) p2 (.lst (da.map V.ref ++ [V.ref T])) p2 = some (.lst ((da ++ [T]).map V.ref)) := by rw [upd_same, List.map_append]; rfl
    generalize upd (upd H27 p (.lst [.ref T])) p2 (.lst (da.map V.ref ++ [V.ref T])) = H28 at s28 ep2 ⊢
    have s928 := s927.trans s28
    refine ⟨rfl, rfl, ?_⟩
    refine make_tab (C := C) (s928 _ _ eN9) cs ep2 (pr_snoc (hDl.same s928) (s928 _ _ eT9)) (fun r hr => ?_) (by rw [List.length_append, List.length_singleton]; omega) fun H29 xm s29 tm => ?_
    · rcases List.mem_append.mp hr with hr | hr
      · exact dlen r hr
      · rw [List.mem_singleton.mp hr, lro, lns]
    have s929 := s928.trans s29
    -- the three
    refine ⟨_, rfl, _, rfl, ?_⟩
    refine own_eqB D (tf.tab.same (s28.trans s29)) tm.tab okn okn fun H30 s30 => ⟨_, rfl, ?_⟩
    rw [if_pos rfl, decide_eq_true (show ns = ns from rfl), Bool.true_and, decide_eq_false (fewer_more ds ro)]
    have tb29 := (tb25.same ((s26.trans s27).trans (s28.trans s29)))
    refine ⟨_, rfl, _, rfl, own_eqB D (tb29.same s30) (tm.tab.same s30) okn okn fun H31 s31 => ?_⟩
    have s931 := (s929.trans s30).trans s31
    refine ⟨_, rfl, _, rfl, _, _, DpRow (s931 _ _ eT9), DpRows (s931 _ _ eDl) (hDl.same s931), sh_row _, shRows _, ?_⟩
    rw [any_row, if_neg Bool.false_ne_true, decide_eq_true (show ns = ns from rfl), Bool.true_and, norm_more dris]
    refine ⟨rfl, _, rfl, ?_⟩
    rw [decide_eq_true rfl]
    refine ⟨_, rfl, _, rfl, _, rfl, t, Nn, Dl, ns, ds, da, rfl, (tb29.same s30).same s31, cs, d8, by omega, s931 _ _ eN9, s931 _ _ eDl, hDl.same s931, fun H32 s32 => ?_⟩
    exact q H32 (m9.trans (.of (s931.trans s32)))
end
end T01

set_option maxHeartbeats 4000000
namespace T01
open PySem L2 PyProof.Rows TX TY TW TD TB TG TUD TE TK TQ TNN
section
variable {P : Program} {w : World} {K : PySem.W.Frag} {mg : Str → Option Value} {base : Heap}
variable {fW fN fA fR fK fS : Addr} {dW dN dA dR dK dS : FuncData}
variable {C fI hc hr hl he hk hh hs Cr fr : Addr} {dI gc gr gl ge gk gh gs dr : FuncData}
variable {gD gN gB gL gT gW gR : Addr} {eD eN eB eL eT eW eR : FuncData}
theorem sc_law : FnScope ["_law_script", "_law_k", "_law_cell"] ["_law_script"] (defScope s_law) := ⟨rfl, rfl, rfl, by decide +kernel, rfl, by decide +kernel, by decide +kernel⟩
def sp_law (K : PySem.W.Frag) : Sp := fun vs H Q _ => ∃ (a : Addr) (ns : List Int), vs = [.ref a] ∧ SqL K H a (ns.map V.int) ∧ ns.length ≤ 63 ∧ ∀ H', Q (.bl true) H'
theorem csA : Cs ["a"] := ⟨by simp, by decide, fun x hx => by rw [List.mem_singleton.mp hx]; exact ⟨by decide +kernel, by decide +kernel, by decide +kernel⟩⟩
theorem csN : Cs [] := ⟨List.nodup_nil, Nat.zero_le _, fun _ h => nomatch h⟩
theorem ok_law {f : Addr} {fd : FuncData} (F : Fn K mg "law" s_law ["_law_script"] f fd) (FW : Fn K mg "_law_well" s_well ["_law_cell", "_law_k"] gW eW) (FR : Fn K mg "_law_right" s_right ["_law_well_here"] gR eR)
    (Tk : Kt K mg fW fN fA fR fK fS dW dN dA dR dK dS) (D : Bd K mg C fI hc hr hl he hk hh hs Cr fr dI gc gr gl ge gk gh gs dr) (Z : Qd K C dI) (L : Ld K mg gD gN gB gL gT eD eN eB eL eT) : FnOk P w K mg base CX0 9 f fd ["_law_script"] (sp_law K) := by
  have B := Tk.B
  have cc := D.c
  have GW : FnOk P w K mg base CX0 1 gW eW ["_law_cell", "_law_k"] sp_well := ok_well FW B
  have GX : FnOk P w K mg base CX0 8 gR eR ["_law_well_here"] sp_right := ok_right FR Tk D Z L
  have GI : FnOk P w K mg base CX0 4 fI dI ["self", "columns", "rows"] (sp_binit C) := ok_binit D.iF Tk cc
  have GR : FnOk P w K mg base CX0 1 hr gr ["self"] (sp_brows C) := ok_brows D.rows.F B cc
  have GL : FnOk P w K mg base CX0 1 hl gl ["self"] (sp_blen C) := ok_blen D.len.F B cc
  have GE : FnOk P w K mg base CX0 1 he ge ["self", "other"] (sp_beqG (K := K) C) := ok_beqG D.eq.F B cc
  obtain ⟨dsI, vI, bI⟩ := D.iB1
  refine F.F.ok sc_law (fun vs H Q E h => ?_) (fun cdv A outer s H vs Q E hr h => ?_)
  · obtain ⟨a, ns, rfl, _⟩ := h
    rfl
  · obtain ⟨a, ns, rfl, hS, hl, q⟩ := h
    have nd := sc_law.nd
    have hu1 := hr.units0
    have r1 : Room 1 _ := hr.mono (by decide)
    have r2 : Room 2 _ := hr.mono (by decide)
    have r5 : Room 5 _ := hr.mono (by decide)
    refine ⟨_, pss_cons (ps_for PassesOwn.never rfl (pi_enum rfl B.enum (pa_cons (pe_op op_cat (pe_lst (pa_cons pe_int pa_nil)) (pe_slice sl_list (pv 0) po_none (po_some pe_int))) pa_nil))
        (pg_tup rfl (pgs_cons (pg_name (i := 1) nd rfl (Or.inl rfl)) (pgs_cons (pg_name (i := 2) nd rfl (Or.inl rfl)) pgs_nil)))
        (pss_one (ps_if (pt_not (pt_val (pe_call GX hr rfl FR.g FR.F.kp FR.b .nil pass0 (pa_cons (pe_call GW r1 rfl FW.g FW.F.kp FW.b .nil pass0 (pa_cons (pv 2) (pa_cons (pv 1) pa_nil))) pa_nil)))) (pss_one (ps_ret pe_bl)) pss_nil)))
      (pss_one (ps_ret (pe_and (pe_cmpR (op_eqOwn GE D.eq.me.at_ D.eq.me.fn D.eq.b pass0 r1) (pe_make D.iM GI r5 rfl cc.g bI vI pass0 (pa_cons (pe_lst (pa_cons pe_str pa_nil)) pa_nil)) (pe_make D.iM GI r5 rfl cc.g D.iB .nil pass0 (pa_cons (pe_lst (pa_cons pe_str pa_nil)) (pa_cons pe_non pa_nil))) (nomark _))
        (pe_and (pe_cmpR op_eq (pe_callB (call_lenO GL D.len.me.at_ D.len.me.fn D.len.b pass0 r2) (by rfl) B.len PySem.boot_len (pa_cons (pe_make D.iM GI r5 rfl cc.g D.iB .nil pass0 (pa_cons (pe_lst pa_nil) (pa_cons (pe_lst (pa_cons (pe_tup pa_nil) pa_nil)) pa_nil))) pa_nil)) pe_int (nomark _))
          (pe_one (pe_cmpR (op_eqNil hu1) (pe_meth0 (pe_make D.iM GI r5 rfl cc.g bI vI pass0 (pa_cons (pe_lst (pa_cons pe_str pa_nil)) pa_nil)) cc.cl D.rows.me GR r1 D.rows.b .nil pass0) (pe_lst pa_nil) (nomark _))))))), ?_⟩
    refine ⟨by decide, fun p1 n1 => ?_⟩
    have hS1 : SqL K (upd H p1 (.lst [.int 0])) a (ns.map V.int) := (Same.new n1).seq hS
    refine ⟨_, rfl, _, rfl, a, _, rfl, hS1, fun p2 n2 => ?_⟩
    obtain ⟨ms, ems, lms⟩ : ∃ ms : List Int, cutV (ns.map V.int) none (some 8) = ms.map V.int ∧ ms.length ≤ 8 := by
      refine ⟨(ns.drop (HT.sIx ns.length 0 none)).take (HT.sIx ns.length ns.length (some 8) - HT.sIx ns.length 0 none), ?_, ?_⟩
      · unfold cutV
        rw [List.length_map, List.map_take, List.map_drop]
      · rw [List.length_take, HT.sIx_none, show (some (8 : Int)) = some ((8 : Nat) : Int) from rfl, HT.sIx_nat]
        omega
    have e1 : upd (upd H p1 (.lst [.int 0])) p2 (.lst (cutV (ns.map V.int) none (some 8))) p1 = some (.lst [.int 0]) := by rw [upd_ne (ne_of_none upd_same n2)]; exact upd_same
    refine ⟨p1, p2, _, _, rfl, rfl, e1, upd_same, ?_, fun p3 n3 => ?_⟩
    · rw [ems, List.length_map]
      show 1 + _ ≤ sizeLine
      exact line100 (by omega)
    rw [ems]
    have e3 : ∀ h, upd h p3 (.lst ([V.int 0] ++ ms.map V.int)) p3 = some (.lst ((0 :: ms).map V.int)) := fun h => upd_same
    refine ⟨p3, (0 :: ms).map V.int, rfl, .of (e3 _), ?_⟩
    refine for_it (walk_enum (xs := (0 :: ms).map V.int)) (fun i σ H' => ∃ v1 v2 : Option V, σ = [some (.ref a), v1, v2] ∧ H' p3 = some (.lst ((0 :: ms).map V.int)))
      ⟨none, none, rfl, e3 _⟩ (fun i σ H1 _ ⟨_, _, _, e⟩ => .of e) ?_ ?_
    · rintro i x σ H1 H1' hi ⟨v1, v2, rfl, e4⟩ ⟨T', x1, x2, rfl, nT, rfl, hx1, hx2⟩
      rw [List.length_map] at hi
      obtain rfl : V.int (i : Int) = x1 := Option.some.inj hx1
      obtain ⟨cell, rfl⟩ : ∃ c : Int, x2 = V.int c := by
        have h2 : ((0 :: ms).map V.int)[i]? = some x2 := hx2
        rw [List.getElem?_map, List.getElem?_eq_getElem hi] at h2
        exact ⟨_, (Option.some.inj h2).symm⟩
      have hi11 : i < 9 := by
        rw [List.length_cons] at hi
        omega
      have e5 : upd H1 T' (.tup [.int (i : Int), .int cell]) p3 = some (.lst ((0 :: ms).map V.int)) := by rw [upd_ne (ne_of_none e4 nT)]; exact e4
      refine ⟨T', _, rfl, .of upd_same, rfl, _, _, rfl, _, _, rfl, rfl, ?_⟩
      refine ⟨_, rfl, _, rfl, cell, (i : Int), rfl, by omega, by omega, fun H2 W s2 nW wW => ?_⟩
      have hne : p3 ≠ W := ne_of_none e5 nW
      refine ⟨W, rfl, wW.mono (by decide), fun H3 s3 => ⟨true, rfl, ?_⟩⟩
      exact ⟨_, _, rfl, s3 _ _ hne (s2 _ _ e5)⟩
    · rintro σ H1 ⟨v1, v2, rfl, e4⟩
      have one1 : ∀ {h : Hp} {p : Addr}, upd h p (.lst [.str "a"]) p = some (.lst ((["a"] : List Str).map V.str)) := upd_same
      refine ⟨by show 1 ≤ sizeLine; decide, fun p np => ?_⟩
      refine make_none (C := C) one1 csA fun H2 x s2 tx => ?_
      refine ⟨by show 1 ≤ sizeLine; decide, fun p' np' => ?_⟩
      refine make_none (C := C) one1 csA fun H3 x' s3 tx' => ?_
      refine own_eqB D ((tx.tab.same (Same.new np')).same s3) tx'.tab csA.ok csA.ok fun H4 s4 => ?_
      rw [if_neg Bool.false_ne_true, decide_eq_true (show (["a"] : List Str) = (["a"] : List Str) from rfl), decide_eq_true (show ([] : List (List Int)) = [] from rfl)]
      refine ⟨_, rfl, ?_⟩
      -- a table without columns
      refine ⟨by show 0 ≤ sizeLine; decide, fun q1 nq1 => ⟨by show 0 ≤ sizeLine; decide, fun T nT => ⟨by show 1 ≤ sizeLine; decide, fun q2 nq2 => ?_⟩⟩⟩
      have a1 : upd (upd (upd H4 q1 (.lst [])) T (.tup [])) q2 (.lst [.ref T]) q1 = some (.lst (([] : List Str).map V.str)) := ((Same.new nT).trans (Same.new nq2)) _ _ upd_same
      have a2 : upd (upd (upd H4 q1 (.lst [])) T (.tup [])) q2 (.lst [.ref T]) T = some (.tup (([] : List Int).map V.int)) := (Same.new nq2) _ _ upd_same
      have a3 : upd (upd (upd H4 q1 (.lst [])) T (.tup [])) q2 (.lst [.ref T]) q2 = some (.lst ([T].map V.ref)) := upd_same
      generalize upd (upd (upd H4 q1 (.lst [])) T (.tup [])) q2 (.lst [.ref T]) = H5 at a1 a2 a3 ⊢
      refine make_tab (C := C) (rs := [[]]) a1 csN a3 (.cons a2 .nil) (by decide) (by decide) fun H6 y s6 ty => ?_
      obtain ⟨dy, ly, ry, ay, hy, _⟩ := id ty.tab
      refine ⟨y, dy, _, rfl, hy, y, [], _, rfl, ty.tab, 1, rfl, by decide, rfl, _, rfl, ?_⟩
      -- rows
      refine ⟨by show 1 ≤ sizeLine; decide, fun p4 np4 => ?_⟩
      refine make_none (C := C) one1 csA fun H7 z s7 tz => ?_
      obtain ⟨dz, lz, rz, az, hz, _⟩ := id tz.tab
      refine ⟨z, dz, _, rfl, hz, norows _ _, z, _, [], rfl, tz.tab, fun H8 a8 b8 s8 n8 e8 r8 => ?_⟩
      cases r8
      refine ⟨by show 0 ≤ sizeLine; decide, fun p9 np9 => ?_⟩
      exact ⟨a8, p9, [], rfl, rfl, .of ((Same.new np9) _ _ e8), .of upd_same, q _⟩
end
end T01

set_option maxHeartbeats 4000000
namespace T01
open PySem L2 PyProof.Rows TX TY TW TD TB TG TUD TE TK
theorem kbn_t3 {K : PySem.W.Frag} {f : Addr} {fd : FuncData} (F : FunD K "__init__" "Table.__init__" (defArgs s_binit) (defBody s_binit) (defScope s_binit) [.non] [] f fd) :
    KBn K fd ["self", "columns", "rows"] 1 ["columns", "rows"] (fun us ws => us ++ ws) (fun vs zs => vs ++ zs) := by
  obtain ⟨_, k⟩ := F.kbindsD (ps := ["self", "columns", "rows"]) 1 ["columns", "rows"] (fun us _ ws => us ++ ws) (by simp) (fun a _ b => a.append b) (fun _ _ _ _ _ _ _ us its ws l1 l2 l3 => match us, its, ws, l1, l2, l3 with | [_], [_], [_, _], _, _, _ => ⟨_, rfl, rfl⟩)
  exact k
theorem nf_of {K : PySem.W.Frag} {C : Addr} {t : Value} (h : PySem.W.subIn K t (.ref C) = some false) : PySem.W.notFirst K C t = true := by
  unfold PySem.W.notFirst
  rw [h]
  simp
theorem all_mk {l : PySem.W.OpenLaw} {w : World} {K : PySem.W.Frag} {h : Heap} {mg : Str → Option Value} {fa f_is_whole f_is_name f_are_columns f_is_row f__check_columns f__sorted_rows f__law_well f__law_draw f__law_names f__law_base f__law_lines f__law_tells f__law_right f_law c_Table f_Table_columns f_Table_rows f_Table___len__ f_Table___eq__ f_Table__check_row f_Table_has f_Table___str__ f_Table___init__ d_Table___init__ c_FoldError c_NoRow f_NoRow___init__ : Addr} (X : K.In h) (G : h.Ns mainGlobals mg) (hfa : mg "law" = some (.ref fa))
    {od1 an1 : Option Addr} {sl1 : Array (Option Value)} {oc1 kV1 dc1 pm1 cd1 ct1 : Value}
    {od2 an2 : Option Addr} {sl2 : Array (Option Value)} {oc2 kV2 dc2 pm2 cd2 ct2 : Value}
    {od3 an3 : Option Addr} {sl3 : Array (Option Value)} {oc3 kV3 dc3 pm3 cd3 ct3 : Value}
    {od4 an4 : Option Addr} {sl4 : Array (Option Value)} {oc4 kV4 dc4 pm4 cd4 ct4 : Value}
    {od5 an5 : Option Addr} {sl5 : Array (Option Value)} {oc5 kV5 dc5 pm5 cd5 ct5 : Value}
    {od6 an6 : Option Addr} {sl6 : Array (Option Value)} {oc6 kV6 dc6 pm6 cd6 ct6 : Value}
    {od7 an7 : Option Addr} {sl7 : Array (Option Value)} {oc7 kV7 dc7 pm7 cd7 ct7 : Value}
    {od8 an8 : Option Addr} {sl8 : Array (Option Value)} {oc8 kV8 dc8 pm8 cd8 ct8 : Value}
    {od9 an9 : Option Addr} {sl9 : Array (Option Value)} {oc9 kV9 dc9 pm9 cd9 ct9 : Value}
    {od10 an10 : Option Addr} {sl10 : Array (Option Value)} {oc10 kV10 dc10 pm10 cd10 ct10 : Value}
    {od11 an11 : Option Addr} {sl11 : Array (Option Value)} {oc11 kV11 dc11 pm11 cd11 ct11 : Value}
    {od12 an12 : Option Addr} {sl12 : Array (Option Value)} {oc12 kV12 dc12 pm12 cd12 ct12 : Value}
    {od13 an13 : Option Addr} {sl13 : Array (Option Value)} {oc13 kV13 dc13 pm13 cd13 ct13 : Value}
    {od14 an14 : Option Addr} {sl14 : Array (Option Value)} {oc14 kV14 dc14 pm14 cd14 ct14 : Value}
    {od15 an15 : Option Addr} {sl15 : Array (Option Value)} {oc15 kV15 dc15 pm15 cd15 ct15 : Value}
    {od16 an16 : Option Addr} {sl16 : Array (Option Value)} {oc16 kV16 dc16 pm16 cd16 ct16 : Value}
    {od17 an17 : Option Addr} {sl17 : Array (Option Value)} {oc17 kV17 dc17 pm17 cd17 ct17 : Value}
    {od18 an18 : Option Addr} {sl18 : Array (Option Value)} {oc18 kV18 dc18 pm18 cd18 ct18 : Value}
    {od19 an19 : Option Addr} {sl19 : Array (Option Value)} {oc19 kV19 dc19 pm19 cd19 ct19 : Value}
    {od20 an20 : Option Addr} {sl20 : Array (Option Value)} {oc20 kV20 dc20 pm20 cd20 ct20 : Value}
    {od21 an21 : Option Addr} {sl21 : Array (Option Value)} {oc21 kV21 dc21 pm21 cd21 ct21 : Value}
    {od22 an22 dd22 : Option Addr} {sl22 ds22 : Array (Option Value)} {oc22 kV22 dc22 pm22 cd22 ct22 do22 : Value} {dn22 : Nat}
    {od23 an23 : Option Addr} {sl23 : Array (Option Value)} {oc23 kV23 dc23 pm23 cd23 ct23 : Value}
    {t_longest : Tok}
    {t_most : Tok}
    (a_is_whole : PySem.W.nsIn K mainGlobals "is_whole" = some (some (.ref f_is_whole)))
    (l_is_whole : K.lookup f_is_whole = some ⟨oc1, od1, .func (PySem.W.fnOf "is_whole" "is_whole" (defArgs s_is_whole) (defBody s_is_whole) (defScope s_is_whole) .none kV1 dc1 pm1 an1 cd1 ct1), sl1⟩)
    (o_is_whole : PySem.W.codeIn K cd1 "is_whole" = true)
    (k_is_whole : PySem.W.keepIn K (.ref f_is_whole) = true)
    (a_is_name : PySem.W.nsIn K mainGlobals "is_name" = some (some (.ref f_is_name)))
    (l_is_name : K.lookup f_is_name = some ⟨oc2, od2, .func (PySem.W.fnOf "is_name" "is_name" (defArgs s_is_name) (defBody s_is_name) (defScope s_is_name) .none kV2 dc2 pm2 an2 cd2 ct2), sl2⟩)
    (o_is_name : PySem.W.codeIn K cd2 "is_name" = true)
    (k_is_name : PySem.W.keepIn K (.ref f_is_name) = true)
    (a_are_columns : PySem.W.nsIn K mainGlobals "are_columns" = some (some (.ref f_are_columns)))
    (l_are_columns : K.lookup f_are_columns = some ⟨oc3, od3, .func (PySem.W.fnOf "are_columns" "are_columns" (defArgs s_are) (defBody s_are) (defScope s_are) .none kV3 dc3 pm3 an3 cd3 ct3), sl3⟩)
    (o_are_columns : PySem.W.codeIn K cd3 "are_columns" = true)
    (k_are_columns : PySem.W.keepIn K (.ref f_are_columns) = true)
    (a_is_row : PySem.W.nsIn K mainGlobals "is_row" = some (some (.ref f_is_row)))
    (l_is_row : K.lookup f_is_row = some ⟨oc4, od4, .func (PySem.W.fnOf "is_row" "is_row" (defArgs s_is_row) (defBody s_is_row) (defScope s_is_row) .none kV4 dc4 pm4 an4 cd4 ct4), sl4⟩)
    (o_is_row : PySem.W.codeIn K cd4 "is_row" = true)
    (k_is_row : PySem.W.keepIn K (.ref f_is_row) = true)
    (a__check_columns : PySem.W.nsIn K mainGlobals "_check_columns" = some (some (.ref f__check_columns)))
    (l__check_columns : K.lookup f__check_columns = some ⟨oc5, od5, .func (PySem.W.fnOf "_check_columns" "_check_columns" (defArgs s_cc) (defBody s_cc) (defScope s_cc) .none kV5 dc5 pm5 an5 cd5 ct5), sl5⟩)
    (o__check_columns : PySem.W.codeIn K cd5 "_check_columns" = true)
    (k__check_columns : PySem.W.keepIn K (.ref f__check_columns) = true)
    (a__sorted_rows : PySem.W.nsIn K mainGlobals "_sorted_rows" = some (some (.ref f__sorted_rows)))
    (l__sorted_rows : K.lookup f__sorted_rows = some ⟨oc6, od6, .func (PySem.W.fnOf "_sorted_rows" "_sorted_rows" (defArgs s_sorted) (defBody s_sorted) (defScope s_sorted) .none kV6 dc6 pm6 an6 cd6 ct6), sl6⟩)
    (o__sorted_rows : PySem.W.codeIn K cd6 "_sorted_rows" = true)
    (k__sorted_rows : PySem.W.keepIn K (.ref f__sorted_rows) = true)
    (a__law_well : PySem.W.nsIn K mainGlobals "_law_well" = some (some (.ref f__law_well)))
    (l__law_well : K.lookup f__law_well = some ⟨oc7, od7, .func (PySem.W.fnOf "_law_well" "_law_well" (defArgs s_well) (defBody s_well) (defScope s_well) .none kV7 dc7 pm7 an7 cd7 ct7), sl7⟩)
    (o__law_well : PySem.W.codeIn K cd7 "_law_well" = true)
    (k__law_well : PySem.W.keepIn K (.ref f__law_well) = true)
    (a__law_draw : PySem.W.nsIn K mainGlobals "_law_draw" = some (some (.ref f__law_draw)))
    (l__law_draw : K.lookup f__law_draw = some ⟨oc8, od8, .func (PySem.W.fnOf "_law_draw" "_law_draw" (defArgs s_draw) (defBody s_draw) (defScope s_draw) .none kV8 dc8 pm8 an8 cd8 ct8), sl8⟩)
    (o__law_draw : PySem.W.codeIn K cd8 "_law_draw" = true)
    (k__law_draw : PySem.W.keepIn K (.ref f__law_draw) = true)
    (a__law_names : PySem.W.nsIn K mainGlobals "_law_names" = some (some (.ref f__law_names)))
    (l__law_names : K.lookup f__law_names = some ⟨oc9, od9, .func (PySem.W.fnOf "_law_names" "_law_names" (defArgs s_names) (defBody s_names) (defScope s_names) .none kV9 dc9 pm9 an9 cd9 ct9), sl9⟩)
    (o__law_names : PySem.W.codeIn K cd9 "_law_names" = true)
    (k__law_names : PySem.W.keepIn K (.ref f__law_names) = true)
    (a__law_base : PySem.W.nsIn K mainGlobals "_law_base" = some (some (.ref f__law_base)))
    (l__law_base : K.lookup f__law_base = some ⟨oc10, od10, .func (PySem.W.fnOf "_law_base" "_law_base" (defArgs s_base) (defBody s_base) (defScope s_base) .none kV10 dc10 pm10 an10 cd10 ct10), sl10⟩)
    (o__law_base : PySem.W.codeIn K cd10 "_law_base" = true)
    (k__law_base : PySem.W.keepIn K (.ref f__law_base) = true)
    (a__law_lines : PySem.W.nsIn K mainGlobals "_law_lines" = some (some (.ref f__law_lines)))
    (l__law_lines : K.lookup f__law_lines = some ⟨oc11, od11, .func (PySem.W.fnOf "_law_lines" "_law_lines" (defArgs s_lines) (defBody s_lines) (defScope s_lines) .none kV11 dc11 pm11 an11 cd11 ct11), sl11⟩)
    (o__law_lines : PySem.W.codeIn K cd11 "_law_lines" = true)
    (k__law_lines : PySem.W.keepIn K (.ref f__law_lines) = true)
    (a__law_tells : PySem.W.nsIn K mainGlobals "_law_tells" = some (some (.ref f__law_tells)))
    (l__law_tells : K.lookup f__law_tells = some ⟨oc12, od12, .func (PySem.W.fnOf "_law_tells" "_law_tells" (defArgs s_tells) (defBody s_tells) (defScope s_tells) .none kV12 dc12 pm12 an12 cd12 ct12), sl12⟩)
    (o__law_tells : PySem.W.codeIn K cd12 "_law_tells" = true)
    (k__law_tells : PySem.W.keepIn K (.ref f__law_tells) = true)
    (a__law_right : PySem.W.nsIn K mainGlobals "_law_right" = some (some (.ref f__law_right)))
    (l__law_right : K.lookup f__law_right = some ⟨oc13, od13, .func (PySem.W.fnOf "_law_right" "_law_right" (defArgs s_right) (defBody s_right) (defScope s_right) .none kV13 dc13 pm13 an13 cd13 ct13), sl13⟩)
    (o__law_right : PySem.W.codeIn K cd13 "_law_right" = true)
    (k__law_right : PySem.W.keepIn K (.ref f__law_right) = true)
    (a_law : PySem.W.nsIn K mainGlobals "law" = some (some (.ref f_law)))
    (l_law : K.lookup f_law = some ⟨oc14, od14, .func (PySem.W.fnOf "law" "law" (defArgs s_law) (defBody s_law) (defScope s_law) .none kV14 dc14 pm14 an14 cd14 ct14), sl14⟩)
    (o_law : PySem.W.codeIn K cd14 "law" = true)
    (k_law : PySem.W.keepIn K (.ref f_law) = true)
    (a_Table : PySem.W.nsIn K mainGlobals "Table" = some (some (.ref c_Table)))
    (a_Table_columns : PySem.W.findIn K (.ref c_Table) "columns" = some (some (.ref f_Table_columns)))
    (i_Table_columns : PySem.W.isFn K (.ref f_Table_columns) = true)
    (l_Table_columns : K.lookup f_Table_columns = some ⟨oc15, od15, .func (PySem.W.fnOf "columns" "Table.columns" (defArgs s_bcolumns) (defBody s_bcolumns) (defScope s_bcolumns) .none kV15 dc15 pm15 an15 cd15 ct15), sl15⟩)
    (o_Table_columns : PySem.W.codeIn K cd15 "Table.columns" = true)
    (k_Table_columns : PySem.W.keepIn K (.ref f_Table_columns) = true)
    (a_Table_rows : PySem.W.findIn K (.ref c_Table) "rows" = some (some (.ref f_Table_rows)))
    (i_Table_rows : PySem.W.isFn K (.ref f_Table_rows) = true)
    (l_Table_rows : K.lookup f_Table_rows = some ⟨oc16, od16, .func (PySem.W.fnOf "rows" "Table.rows" (defArgs s_brows) (defBody s_brows) (defScope s_brows) .none kV16 dc16 pm16 an16 cd16 ct16), sl16⟩)
    (o_Table_rows : PySem.W.codeIn K cd16 "Table.rows" = true)
    (k_Table_rows : PySem.W.keepIn K (.ref f_Table_rows) = true)
    (a_Table___len__ : PySem.W.findIn K (.ref c_Table) "__len__" = some (some (.ref f_Table___len__)))
    (i_Table___len__ : PySem.W.isFn K (.ref f_Table___len__) = true)
    (l_Table___len__ : K.lookup f_Table___len__ = some ⟨oc17, od17, .func (PySem.W.fnOf "__len__" "Table.__len__" (defArgs s_blen) (defBody s_blen) (defScope s_blen) .none kV17 dc17 pm17 an17 cd17 ct17), sl17⟩)
    (o_Table___len__ : PySem.W.codeIn K cd17 "Table.__len__" = true)
    (k_Table___len__ : PySem.W.keepIn K (.ref f_Table___len__) = true)
    (a_Table___eq__ : PySem.W.findIn K (.ref c_Table) "__eq__" = some (some (.ref f_Table___eq__)))
    (i_Table___eq__ : PySem.W.isFn K (.ref f_Table___eq__) = true)
    (l_Table___eq__ : K.lookup f_Table___eq__ = some ⟨oc18, od18, .func (PySem.W.fnOf "__eq__" "Table.__eq__" (defArgs s_beq) (defBody s_beq) (defScope s_beq) .none kV18 dc18 pm18 an18 cd18 ct18), sl18⟩)
    (o_Table___eq__ : PySem.W.codeIn K cd18 "Table.__eq__" = true)
    (k_Table___eq__ : PySem.W.keepIn K (.ref f_Table___eq__) = true)
    (a_Table__check_row : PySem.W.findIn K (.ref c_Table) "_check_row" = some (some (.ref f_Table__check_row)))
    (i_Table__check_row : PySem.W.isFn K (.ref f_Table__check_row) = true)
    (l_Table__check_row : K.lookup f_Table__check_row = some ⟨oc19, od19, .func (PySem.W.fnOf "_check_row" "Table._check_row" (defArgs s_bcheck) (defBody s_bcheck) (defScope s_bcheck) .none kV19 dc19 pm19 an19 cd19 ct19), sl19⟩)
    (o_Table__check_row : PySem.W.codeIn K cd19 "Table._check_row" = true)
    (k_Table__check_row : PySem.W.keepIn K (.ref f_Table__check_row) = true)
    (a_Table_has : PySem.W.findIn K (.ref c_Table) "has" = some (some (.ref f_Table_has)))
    (i_Table_has : PySem.W.isFn K (.ref f_Table_has) = true)
    (l_Table_has : K.lookup f_Table_has = some ⟨oc20, od20, .func (PySem.W.fnOf "has" "Table.has" (defArgs s_bhas) (defBody s_bhas) (defScope s_bhas) .none kV20 dc20 pm20 an20 cd20 ct20), sl20⟩)
    (o_Table_has : PySem.W.codeIn K cd20 "Table.has" = true)
    (k_Table_has : PySem.W.keepIn K (.ref f_Table_has) = true)
    (a_Table___str__ : PySem.W.findIn K (.ref c_Table) "__str__" = some (some (.ref f_Table___str__)))
    (i_Table___str__ : PySem.W.isFn K (.ref f_Table___str__) = true)
    (l_Table___str__ : K.lookup f_Table___str__ = some ⟨oc21, od21, .func (PySem.W.fnOf "__str__" "Table.__str__" (defArgs s_bstr) (defBody s_bstr) (defScope s_bstr) .none kV21 dc21 pm21 an21 cd21 ct21), sl21⟩)
    (o_Table___str__ : PySem.W.codeIn K cd21 "Table.__str__" = true)
    (k_Table___str__ : PySem.W.keepIn K (.ref f_Table___str__) = true)
    (pg_Table : PySem.W.plainGet K c_Table Str.empty = true)
    (hd_Table : PySem.W.hasDictIn K c_Table = true)
    (po_Table : PySem.W.plainOver K c_Table = true)
    (sa_Table : PySem.W.findIn K (.ref c_Table) "__setattr__" = some (some (.builtin "object.__setattr__")))
    (mk_Table : PySem.W.makesIn K c_Table = true)
    (kc_Table : PySem.W.keepIn K (.ref c_Table) = true)
    (ha_Table : PySem.W.findIn K (.ref c_Table) "__class__" = some (some (.builtin "object.__class__")))
    (hm_Table : PySem.W.mroIn K c_Table (.type "object") = some true)
    (me_Table : PySem.W.kitOne K (.ref c_Table) (.ref c_Table) = some true)
    (n_Table_columns : PySem.W.findIn K (.ref c_Table) "_columns" = some none)
    (n_Table_rows : PySem.W.findIn K (.ref c_Table) "_rows" = some none)
    (a_Table___init__ : PySem.W.findIn K (.ref c_Table) "__init__" = some (some (.ref f_Table___init__)))
    (i_Table___init__ : PySem.W.isFn K (.ref f_Table___init__) = true)
    (l_Table___init__ : K.lookup f_Table___init__ = some ⟨oc22, od22, .func (PySem.W.fnOf "__init__" "Table.__init__" (defArgs s_binit) (defBody s_binit) (defScope s_binit) (.ref d_Table___init__) kV22 dc22 pm22 an22 cd22 ct22), sl22⟩)
    (d1_Table___init__ : K.lookup d_Table___init__ = some ⟨do22, dd22, .seq #[.none] dn22, ds22⟩)
    (o_Table___init__ : PySem.W.codeIn K cd22 "Table.__init__" = true)
    (k_Table___init__ : PySem.W.keepIn K (.ref f_Table___init__) = true)
    (hn : PySem.W.specialIn K (.builtin "object.__class__") "__get__" = some (some (.builtin "getset_descriptor.__get__")))
    (ht : PySem.W.takesIn K (.builtin "object.__class__") = some true)
    (a_FoldError : PySem.W.nsIn K mainGlobals "FoldError" = some (some (.ref c_FoldError)))
    (a_NoRow : PySem.W.nsIn K mainGlobals "NoRow" = some (some (.ref c_NoRow)))
    (a_NoRow___init__ : PySem.W.findIn K (.ref c_NoRow) "__init__" = some (some (.ref f_NoRow___init__)))
    (l_NoRow___init__ : K.lookup f_NoRow___init__ = some ⟨oc23, od23, .func (PySem.W.fnOf "__init__" "NoRow.__init__" (defArgs s_norow) (defBody s_norow) (defScope s_norow) .none kV23 dc23 pm23 an23 cd23 ct23), sl23⟩)
    (o_NoRow___init__ : PySem.W.codeIn K cd23 "NoRow.__init__" = true)
    (k_NoRow___init__ : PySem.W.keepIn K (.ref f_NoRow___init__) = true)
    (y_NoRow___init__ : PySem.W.typeIn K (.ref f_NoRow___init__) = some (.type "function"))
    (g_longest : PySem.W.nsIn K mainGlobals "LONGEST_NAME" = some (some (.int 8 t_longest)))
    (g_most : PySem.W.nsIn K mainGlobals "MOST_COLUMNS" = some (some (.int 8 t_most)))
    (z_len : PySem.W.nsIn K mainGlobals "len" = some none)
    (z_isi : PySem.W.nsIn K mainGlobals "isinstance" = some none)
    (z_str : PySem.W.nsIn K mainGlobals "str" = some none)
    (z_list : PySem.W.nsIn K mainGlobals "list" = some none)
    (z_tuple : PySem.W.nsIn K mainGlobals "tuple" = some none)
    (z_dict : PySem.W.nsIn K mainGlobals "dict" = some none)
    (z_int : PySem.W.nsIn K mainGlobals "int" = some none)
    (z_range : PySem.W.nsIn K mainGlobals "range" = some none)
    (z_enum : PySem.W.nsIn K mainGlobals "enumerate" = some none)
    (z_all : PySem.W.nsIn K mainGlobals "all" = some none)
    (z_any : PySem.W.nsIn K mainGlobals "any" = some none)
    (z_max : PySem.W.nsIn K mainGlobals "max" = some none)
    (z_sorted : PySem.W.nsIn K mainGlobals "sorted" = some none)
    (oxNoRow : oexB K c_NoRow = true)
    (sxNoRow : PySem.W.findIn K (.ref c_NoRow) "__setattr__" = some (some (.builtin "object.__setattr__")))
    (kxNoRow : PySem.W.keepIn K (.ref c_NoRow) = true)
    (bxNoRow : PySem.W.subIn K (.ref c_NoRow) (.type "BaseException") = some true)
    (txNoRow : PySem.W.typeIn K (.ref c_NoRow) = some (.type "type"))
    (nxNoRow : PySem.W.findIn K (.ref c_NoRow) "at" = some none)
    (snfNoRow : PySem.W.subIn K (.ref c_NoRow) (.ref c_FoldError) = some true)
    (xgNoRow : PySem.W.findIn K (.ref c_NoRow) "__getattribute__" = some (some (.builtin "BaseException.__getattribute__")))
    (xkNoRow : PySem.W.findIn K (.ref c_NoRow) "__getattr__" = some none)
    (xdNoRow : PySem.W.hasDictIn K c_NoRow = true)
    (xaNoRow : PySem.W.findIn K (.ref c_NoRow) "__class__" = some (some (.builtin "object.__class__")))
    (xmNoRow : PySem.W.mroIn K c_NoRow (.type "object") = some true)
    (zbool : PySem.W.nsIn K mainGlobals "bool" = some none)
    (zset : PySem.W.nsIn K mainGlobals "set" = some none)
    (ne : PySem.W.findIn K (.ref c_Table) "__ne__" = some (some (.builtin "object.__ne__")))
    (kl : PySem.W.kitOne K (.type "list") (.ref c_Table) = some false)
    (kn : PySem.W.kitOne K (.type "NoneType") (.ref c_Table) = some false)
    (ul : PySem.W.subIn K (.type "list") (.ref c_Table) = some false)
    (un : PySem.W.subIn K (.type "NoneType") (.ref c_Table) = some false)
    : ∃ fd : FuncData, (∀ (s : Shared) (v : Value), BindsTo s fd ⟨[v], []⟩ [("_law_script", v)]) ∧ ∀ base : Heap, K.In base → base.Ns mainGlobals mg → FnOk l.prog w K mg base CX0 9 fa fd ["_law_script"] (sp_law K) := by
  have e := hfa.symm.trans (PySem.W.mg_of X G a_law)
  cases e
  have F_is_whole := fun_mk (st := s_is_whole) l_is_whole o_is_whole k_is_whole
  have b_is_whole := F_is_whole.binds (ps := ["thing"]) fun _ _ _ _ _ _ us hl => match us, hl with | [_], _ => rfl
  have N_is_whole : Fn K mg "is_whole" s_is_whole ["thing"] f_is_whole _ := ⟨F_is_whole, PySem.W.mg_of X G a_is_whole, b_is_whole⟩
  have F_is_name := fun_mk (st := s_is_name) l_is_name o_is_name k_is_name
  have b_is_name := F_is_name.binds (ps := ["thing"]) fun _ _ _ _ _ _ us hl => match us, hl with | [_], _ => rfl
  have N_is_name : Fn K mg "is_name" s_is_name ["thing"] f_is_name _ := ⟨F_is_name, PySem.W.mg_of X G a_is_name, b_is_name⟩
  have F_are_columns := fun_mk (st := s_are) l_are_columns o_are_columns k_are_columns
  have b_are_columns := F_are_columns.binds (ps := ["thing"]) fun _ _ _ _ _ _ us hl => match us, hl with | [_], _ => rfl
  have N_are_columns : Fn K mg "are_columns" s_are ["thing"] f_are_columns _ := ⟨F_are_columns, PySem.W.mg_of X G a_are_columns, b_are_columns⟩
  have F_is_row := fun_mk (st := s_is_row) l_is_row o_is_row k_is_row
  have b_is_row := F_is_row.binds (ps := ["thing", "many"]) fun _ _ _ _ _ _ us hl => match us, hl with | [_, _], _ => rfl
  have N_is_row : Fn K mg "is_row" s_is_row ["thing", "many"] f_is_row _ := ⟨F_is_row, PySem.W.mg_of X G a_is_row, b_is_row⟩
  have F__check_columns := fun_mk (st := s_cc) l__check_columns o__check_columns k__check_columns
  have b__check_columns := F__check_columns.binds (ps := ["columns"]) fun _ _ _ _ _ _ us hl => match us, hl with | [_], _ => rfl
  have N__check_columns : Fn K mg "_check_columns" s_cc ["columns"] f__check_columns _ := ⟨F__check_columns, PySem.W.mg_of X G a__check_columns, b__check_columns⟩
  have F__sorted_rows := fun_mk (st := s_sorted) l__sorted_rows o__sorted_rows k__sorted_rows
  have b__sorted_rows := F__sorted_rows.binds (ps := ["rows", "many"]) fun _ _ _ _ _ _ us hl => match us, hl with | [_, _], _ => rfl
  have N__sorted_rows : Fn K mg "_sorted_rows" s_sorted ["rows", "many"] f__sorted_rows _ := ⟨F__sorted_rows, PySem.W.mg_of X G a__sorted_rows, b__sorted_rows⟩
  have F__law_well := fun_mk (st := s_well) l__law_well o__law_well k__law_well
  have b__law_well := F__law_well.binds (ps := ["_law_cell", "_law_k"]) fun _ _ _ _ _ _ us hl => match us, hl with | [_, _], _ => rfl
  have N__law_well : Fn K mg "_law_well" s_well ["_law_cell", "_law_k"] f__law_well _ := ⟨F__law_well, PySem.W.mg_of X G a__law_well, b__law_well⟩
  have F__law_draw := fun_mk (st := s_draw) l__law_draw o__law_draw k__law_draw
  have b__law_draw := F__law_draw.binds (ps := ["_law_well_here", "_law_top"]) fun _ _ _ _ _ _ us hl => match us, hl with | [_, _], _ => rfl
  have N__law_draw : Fn K mg "_law_draw" s_draw ["_law_well_here", "_law_top"] f__law_draw _ := ⟨F__law_draw, PySem.W.mg_of X G a__law_draw, b__law_draw⟩
  have F__law_names := fun_mk (st := s_names) l__law_names o__law_names k__law_names
  have b__law_names := F__law_names.binds (ps := ["_law_well_here", "_law_count"]) fun _ _ _ _ _ _ us hl => match us, hl with | [_, _], _ => rfl
  have N__law_names : Fn K mg "_law_names" s_names ["_law_well_here", "_law_count"] f__law_names _ := ⟨F__law_names, PySem.W.mg_of X G a__law_names, b__law_names⟩
  have F__law_base := fun_mk (st := s_base) l__law_base o__law_base k__law_base
  have b__law_base := F__law_base.binds (ps := ["_law_well_here"]) fun _ _ _ _ _ _ us hl => match us, hl with | [_], _ => rfl
  have N__law_base : Fn K mg "_law_base" s_base ["_law_well_here"] f__law_base _ := ⟨F__law_base, PySem.W.mg_of X G a__law_base, b__law_base⟩
  have F__law_lines := fun_mk (st := s_lines) l__law_lines o__law_lines k__law_lines
  have b__law_lines := F__law_lines.binds (ps := ["_law_well_here", "_law_wide", "_law_base_here", "_law_near"]) fun _ _ _ _ _ _ us hl => match us, hl with | [_, _, _, _], _ => rfl
  have N__law_lines : Fn K mg "_law_lines" s_lines ["_law_well_here", "_law_wide", "_law_base_here", "_law_near"] f__law_lines _ := ⟨F__law_lines, PySem.W.mg_of X G a__law_lines, b__law_lines⟩
  have F__law_tells := fun_mk (st := s_tells) l__law_tells o__law_tells k__law_tells
  have b__law_tells := F__law_tells.binds (ps := ["_law_table", "_law_names_here", "_law_due"]) fun _ _ _ _ _ _ us hl => match us, hl with | [_, _, _], _ => rfl
  have N__law_tells : Fn K mg "_law_tells" s_tells ["_law_table", "_law_names_here", "_law_due"] f__law_tells _ := ⟨F__law_tells, PySem.W.mg_of X G a__law_tells, b__law_tells⟩
  have F__law_right := fun_mk (st := s_right) l__law_right o__law_right k__law_right
  have b__law_right := F__law_right.binds (ps := ["_law_well_here"]) fun _ _ _ _ _ _ us hl => match us, hl with | [_], _ => rfl
  have N__law_right : Fn K mg "_law_right" s_right ["_law_well_here"] f__law_right _ := ⟨F__law_right, PySem.W.mg_of X G a__law_right, b__law_right⟩
  have F_law := fun_mk (st := s_law) l_law o_law k_law
  have b_law := F_law.binds (ps := ["_law_script"]) fun _ _ _ _ _ _ us hl => match us, hl with | [_], _ => rfl
  have N_law : Fn K mg "law" s_law ["_law_script"] fa _ := ⟨F_law, PySem.W.mg_of X G a_law, b_law⟩
  have F_Table_columns := fun_mk (st := s_bcolumns) l_Table_columns o_Table_columns k_Table_columns
  have b_Table_columns := F_Table_columns.binds (ps := ["self"]) fun _ _ _ _ _ _ us hl => match us, hl with | [_], _ => rfl
  have M_Table_columns : Mt K c_Table "columns" "Table.columns" s_bcolumns ["self"] f_Table_columns _ := ⟨F_Table_columns, ⟨a_Table_columns, i_Table_columns, k_Table_columns⟩, b_Table_columns⟩
  have F_Table_rows := fun_mk (st := s_brows) l_Table_rows o_Table_rows k_Table_rows
  have b_Table_rows := F_Table_rows.binds (ps := ["self"]) fun _ _ _ _ _ _ us hl => match us, hl with | [_], _ => rfl
  have M_Table_rows : Mt K c_Table "rows" "Table.rows" s_brows ["self"] f_Table_rows _ := ⟨F_Table_rows, ⟨a_Table_rows, i_Table_rows, k_Table_rows⟩, b_Table_rows⟩
  have F_Table___len__ := fun_mk (st := s_blen) l_Table___len__ o_Table___len__ k_Table___len__
  have b_Table___len__ := F_Table___len__.binds (ps := ["self"]) fun _ _ _ _ _ _ us hl => match us, hl with | [_], _ => rfl
  have M_Table___len__ : Mt K c_Table "__len__" "Table.__len__" s_blen ["self"] f_Table___len__ _ := ⟨F_Table___len__, ⟨a_Table___len__, i_Table___len__, k_Table___len__⟩, b_Table___len__⟩
  have F_Table___eq__ := fun_mk (st := s_beq) l_Table___eq__ o_Table___eq__ k_Table___eq__
  have b_Table___eq__ := F_Table___eq__.binds (ps := ["self", "other"]) fun _ _ _ _ _ _ us hl => match us, hl with | [_, _], _ => rfl
  have M_Table___eq__ : Mt K c_Table "__eq__" "Table.__eq__" s_beq ["self", "other"] f_Table___eq__ _ := ⟨F_Table___eq__, ⟨a_Table___eq__, i_Table___eq__, k_Table___eq__⟩, b_Table___eq__⟩
  have F_Table__check_row := fun_mk (st := s_bcheck) l_Table__check_row o_Table__check_row k_Table__check_row
  have b_Table__check_row := F_Table__check_row.binds (ps := ["self", "row"]) fun _ _ _ _ _ _ us hl => match us, hl with | [_, _], _ => rfl
  have M_Table__check_row : Mt K c_Table "_check_row" "Table._check_row" s_bcheck ["self", "row"] f_Table__check_row _ := ⟨F_Table__check_row, ⟨a_Table__check_row, i_Table__check_row, k_Table__check_row⟩, b_Table__check_row⟩
  have F_Table_has := fun_mk (st := s_bhas) l_Table_has o_Table_has k_Table_has
  have b_Table_has := F_Table_has.binds (ps := ["self", "row"]) fun _ _ _ _ _ _ us hl => match us, hl with | [_, _], _ => rfl
  have M_Table_has : Mt K c_Table "has" "Table.has" s_bhas ["self", "row"] f_Table_has _ := ⟨F_Table_has, ⟨a_Table_has, i_Table_has, k_Table_has⟩, b_Table_has⟩
  have F_Table___str__ := fun_mk (st := s_bstr) l_Table___str__ o_Table___str__ k_Table___str__
  have b_Table___str__ := F_Table___str__.binds (ps := ["self"]) fun _ _ _ _ _ _ us hl => match us, hl with | [_], _ => rfl
  have M_Table___str__ : Mt K c_Table "__str__" "Table.__str__" s_bstr ["self"] f_Table___str__ _ := ⟨F_Table___str__, ⟨a_Table___str__, i_Table___str__, k_Table___str__⟩, b_Table___str__⟩
  have F_NoRow___init__ := fun_mk (st := s_norow) l_NoRow___init__ o_NoRow___init__ k_NoRow___init__
  have b_NoRow___init__ := F_NoRow___init__.binds (ps := ["self", "at"]) fun _ _ _ _ _ _ us hl => match us, hl with | [_, _], _ => rfl
  have F_Table___init__ : FunD K "__init__" "Table.__init__" (defArgs s_binit) (defBody s_binit) (defScope s_binit) [.non] [] f_Table___init__ _ := ⟨⟨_, _, _, _, _, _, _, _, _, _, rfl, l_Table___init__, o_Table___init__, .inr ⟨(fun z => nomatch z), d_Table___init__, _, [.none], _, rfl, d1_Table___init__, rfl, .cons rfl .nil⟩, .inl rfl⟩, k_Table___init__⟩
  have B : Bn mg := ⟨PySem.W.mg_none_of X G z_len, PySem.W.mg_none_of X G z_isi, PySem.W.mg_none_of X G z_str, PySem.W.mg_none_of X G z_list, PySem.W.mg_none_of X G z_tuple, PySem.W.mg_none_of X G z_dict, PySem.W.mg_none_of X G z_int, PySem.W.mg_none_of X G z_range, PySem.W.mg_none_of X G z_enum, PySem.W.mg_none_of X G z_all, PySem.W.mg_none_of X G z_any, PySem.W.mg_none_of X G z_max, PySem.W.mg_none_of X G z_sorted⟩
  have Tk : Kt K mg f_is_whole f_is_name f_are_columns f_is_row f__check_columns f__sorted_rows _ _ _ _ _ _ := ⟨B, ⟨⟨_, PySem.W.mg_of X G g_longest⟩, ⟨_, PySem.W.mg_of X G g_most⟩⟩, PySem.W.mg_none_of X G zset, PySem.W.mg_none_of X G zbool, N_is_whole, N_is_name, N_are_columns, N_is_row, N__check_columns, N__sorted_rows⟩
  have Ck : Bc K mg c_Table := ⟨⟨pg_Table, hd_Table, po_Table, sa_Table⟩, n_Table_columns, n_Table_rows, PySem.W.mg_of X G a_Table, ⟨ha_Table, hn, ht, hm_Table, me_Table⟩⟩
  have Dk : Bd K mg c_Table f_Table___init__ f_Table_columns f_Table_rows f_Table___len__ f_Table___eq__ f_Table__check_row f_Table_has f_Table___str__ c_NoRow f_NoRow___init__ _ _ _ _ _ _ _ _ _ := ⟨Ck, F_Table___init__, ⟨mk_Table, a_Table___init__, i_Table___init__, kc_Table⟩, by
        obtain ⟨ds, h1, h2⟩ := F_Table___init__.binds1 (ps := ["self", "columns", "rows"]) 3 1 (by simp) rfl (fun _ _ _ _ _ _ _ us its l1 l2 => match us, its, l1, l2 with | [_, _, _], [_], _, _ => ⟨_, rfl, rfl⟩)
        cases h1
        exact h2, F_Table___init__.binds1 (ps := ["self", "columns", "rows"]) 2 0 (by simp) rfl (fun _ _ _ _ _ _ _ us its l1 l2 => match us, its, l1, l2 with | [_, _], [_], _, _ => ⟨_, rfl, rfl⟩),
        M_Table_columns, M_Table_rows, M_Table___len__, M_Table___eq__, M_Table__check_row, M_Table_has, M_Table___str__, ne, by unfold PySem.W.notFirst; simp, ⟨⟨oexB_ok oxNoRow, sxNoRow, bxNoRow, txNoRow, kxNoRow⟩, a_NoRow___init__, y_NoRow___init__, F_NoRow___init__, b_NoRow___init__, PySem.W.mg_of X G a_NoRow, nxNoRow⟩⟩
  have Zk : Qd K c_Table _ := ⟨nf_of ul, kl, nf_of un, kn, kbn_t3 F_Table___init__⟩
  have Lk : Ld K mg f__law_draw f__law_names f__law_base f__law_lines f__law_tells _ _ _ _ _ := ⟨B.max, N__law_draw, N__law_names, N__law_base, N__law_lines, N__law_tells⟩
  exact ⟨PySem.W.fnOf "law" "law" (defArgs s_law) (defBody s_law) (defScope s_law) .none kV14 dc14 pm14 an14 cd14 ct14, fun s v => .of_eq rfl, fun base _ _ => ok_law N_law N__law_well N__law_right Tk Dk Zk Lk⟩
end T01
open PySem PySem.W PyProof.Rows
set_option maxRecDepth 100000 in
set_option maxHeartbeats 0 in
theorem PySem.Challenge.cw_foldbough_k01_tables_made_holds : PySem.Challenge.rw_foldbough_k01_tables_made.Holds := by
  w_on; o_law; k_head; (case hw => w_witness2)
  k_fill
  refine L2.walk_of (l := PySem.Challenge.rw_foldbough_k01_tables_made) (n := 63) (k := 9) (x := "_law_script") (CX := fun _ => L2.CX0) (sp := fun w => T01.sp_law (_)) rfl (by decide) rfl ⟨rfl, by decide, by decide⟩ (fun w h Y => PySem.W.kIn_of Y) ?F (fun _ _ a ns hl _ hS => ⟨a, ns, rfl, hS, hl, fun _ => rfl⟩) (fun _ _ _ _ _ z => z)
  case F =>
    intro w mg fa h KX G hmg
    refine' T01.all_mk KX G hmg ?a_is_whole ?l_is_whole ?o_is_whole ?k_is_whole ?a_is_name ?l_is_name ?o_is_name ?k_is_name ?a_are_columns ?l_are_columns ?o_are_columns ?k_are_columns ?a_is_row ?l_is_row ?o_is_row ?k_is_row ?a__check_columns ?l__check_columns ?o__check_columns ?k__check_columns ?a__sorted_rows ?l__sorted_rows ?o__sorted_rows ?k__sorted_rows ?a__law_well ?l__law_well ?o__law_well ?k__law_well ?a__law_draw ?l__law_draw ?o__law_draw ?k__law_draw ?a__law_names ?l__law_names ?o__law_names ?k__law_names ?a__law_base ?l__law_base ?o__law_base ?k__law_base ?a__law_lines ?l__law_lines ?o__law_lines ?k__law_lines ?a__law_tells ?l__law_tells ?o__law_tells ?k__law_tells ?a__law_right ?l__law_right ?o__law_right ?k__law_right ?a_law ?l_law ?o_law ?k_law ?a_Table ?a_Table_columns ?i_Table_columns ?l_Table_columns ?o_Table_columns ?k_Table_columns ?a_Table_rows ?i_Table_rows ?l_Table_rows ?o_Table_rows ?k_Table_rows ?a_Table___len__ ?i_Table___len__ ?l_Table___len__ ?o_Table___len__ ?k_Table___len__ ?a_Table___eq__ ?i_Table___eq__ ?l_Table___eq__ ?o_Table___eq__ ?k_Table___eq__ ?a_Table__check_row ?i_Table__check_row ?l_Table__check_row ?o_Table__check_row ?k_Table__check_row ?a_Table_has ?i_Table_has ?l_Table_has ?o_Table_has ?k_Table_has ?a_Table___str__ ?i_Table___str__ ?l_Table___str__ ?o_Table___str__ ?k_Table___str__ ?pg_Table ?hd_Table ?po_Table ?sa_Table ?mk_Table ?kc_Table ?ha_Table ?hm_Table ?me_Table ?n_Table_columns ?n_Table_rows ?a_Table___init__ ?i_Table___init__ ?l_Table___init__ ?d1_Table___init__ ?o_Table___init__ ?k_Table___init__ ?hn ?ht ?a_FoldError ?a_NoRow ?a_NoRow___init__ ?l_NoRow___init__ ?o_NoRow___init__ ?k_NoRow___init__ ?y_NoRow___init__ ?g_longest ?g_most ?z_len ?z_isi ?z_str ?z_list ?z_tuple ?z_dict ?z_int ?z_range ?z_enum ?z_all ?z_any ?z_max ?z_sorted ?oxNoRow ?sxNoRow ?kxNoRow ?bxNoRow ?txNoRow ?nxNoRow ?snfNoRow ?xgNoRow ?xkNoRow ?xdNoRow ?xaNoRow ?xmNoRow ?zbool ?zset ?ne ?kl ?kn ?ul ?un
    (case a_is_whole => k_is)
    (case l_is_whole => k_is)
    (case o_is_whole => k_is)
    (case k_is_whole => k_is)
    (case a_is_name => k_is)
    (case l_is_name => k_is)
    (case o_is_name => k_is)
    (case k_is_name => k_is)
    (case a_are_columns => k_is)
    (case l_are_columns => k_is)
    (case o_are_columns => k_is)
    (case k_are_columns => k_is)
    (case a_is_row => k_is)
    (case l_is_row => k_is)
    (case o_is_row => k_is)
    (case k_is_row => k_is)
    (case a__check_columns => k_is)
    (case l__check_columns => k_is)
    (case o__check_columns => k_is)
    (case k__check_columns => k_is)
    (case a__sorted_rows => k_is)
    (case l__sorted_rows => k_is)
    (case o__sorted_rows => k_is)
    (case k__sorted_rows => k_is)
    (case a__law_well => k_is)
    (case l__law_well => k_is)
    (case o__law_well => k_is)
    (case k__law_well => k_is)
    (case a__law_draw => k_is)
    (case l__law_draw => k_is)
    (case o__law_draw => k_is)
    (case k__law_draw => k_is)
    (case a__law_names => k_is)
    (case l__law_names => k_is)
    (case o__law_names => k_is)
    (case k__law_names => k_is)
    (case a__law_base => k_is)
    (case l__law_base => k_is)
    (case o__law_base => k_is)
    (case k__law_base => k_is)
    (case a__law_lines => k_is)
    (case l__law_lines => k_is)
    (case o__law_lines => k_is)
    (case k__law_lines => k_is)
    (case a__law_tells => k_is)
    (case l__law_tells => k_is)
    (case o__law_tells => k_is)
    (case k__law_tells => k_is)
    (case a__law_right => k_is)
    (case l__law_right => k_is)
    (case o__law_right => k_is)
    (case k__law_right => k_is)
    (case a_law => k_is)
    (case l_law => k_is)
    (case o_law => k_is)
    (case k_law => k_is)
    (case a_Table => k_is)
    (case a_Table_columns => k_is)
    (case i_Table_columns => k_is)
    (case l_Table_columns => k_is)
    (case o_Table_columns => k_is)
    (case k_Table_columns => k_is)
    (case a_Table_rows => k_is)
    (case i_Table_rows => k_is)
    (case l_Table_rows => k_is)
    (case o_Table_rows => k_is)
    (case k_Table_rows => k_is)
    (case a_Table___len__ => k_is)
    (case i_Table___len__ => k_is)
    (case l_Table___len__ => k_is)
    (case o_Table___len__ => k_is)
    (case k_Table___len__ => k_is)
    (case a_Table___eq__ => k_is)
    (case i_Table___eq__ => k_is)
    (case l_Table___eq__ => k_is)
    (case o_Table___eq__ => k_is)
    (case k_Table___eq__ => k_is)
    (case a_Table__check_row => k_is)
    (case i_Table__check_row => k_is)
    (case l_Table__check_row => k_is)
    (case o_Table__check_row => k_is)
    (case k_Table__check_row => k_is)
    (case a_Table_has => k_is)
    (case i_Table_has => k_is)
    (case l_Table_has => k_is)
    (case o_Table_has => k_is)
    (case k_Table_has => k_is)
    (case a_Table___str__ => k_is)
    (case i_Table___str__ => k_is)
    (case l_Table___str__ => k_is)
    (case o_Table___str__ => k_is)
    (case k_Table___str__ => k_is)
    (case pg_Table => k_is)
    (case hd_Table => k_is)
    (case po_Table => k_is)
    (case sa_Table => k_is)
    (case mk_Table => k_is)
    (case kc_Table => k_is)
    (case ha_Table => k_is)
    (case hm_Table => k_is)
    (case me_Table => kit_is)
    (case n_Table_columns => k_is)
    (case n_Table_rows => k_is)
    (case a_Table___init__ => k_is)
    (case i_Table___init__ => k_is)
    (case l_Table___init__ => k_is)
    (case d1_Table___init__ => k_is)
    (case o_Table___init__ => k_is)
    (case k_Table___init__ => k_is)
    (case hn => k_is)
    (case ht => k_is)
    (case a_FoldError => k_is)
    (case a_NoRow => k_is)
    (case a_NoRow___init__ => k_is)
    (case l_NoRow___init__ => k_is)
    (case o_NoRow___init__ => k_is)
    (case k_NoRow___init__ => k_is)
    (case y_NoRow___init__ => k_is)
    (case g_longest => k_is)
    (case g_most => k_is)
    (case z_len => k_is)
    (case z_isi => k_is)
    (case z_str => k_is)
    (case z_list => k_is)
    (case z_tuple => k_is)
    (case z_dict => k_is)
    (case z_int => k_is)
    (case z_range => k_is)
    (case z_enum => k_is)
    (case z_all => k_is)
    (case z_any => k_is)
    (case z_max => k_is)
    (case z_sorted => k_is)
    (case oxNoRow => first | decide +kernel | rfl)
    (case sxNoRow => k_is)
    (case kxNoRow => k_is)
    (case bxNoRow => k_is)
    (case txNoRow => k_is)
    (case nxNoRow => k_is)
    (case snfNoRow => k_is)
    (case xgNoRow => k_is)
    (case xkNoRow => k_is)
    (case xdNoRow => k_is)
    (case xaNoRow => k_is)
    (case xmNoRow => k_is)
    (case zbool => k_is)
    (case zset => k_is)
    (case ne => k_is)
    (case kl => kit_is)
    (case kn => kit_is)
    (case ul => k_is)
    (case un => k_is)

