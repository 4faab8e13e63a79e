import PyProof.Rows.All
import Wide.All
import OpenK.AllK
import Wide.FinOn
import HandS.ForMost
import HandS.Exc
import HandS.TryOnly
import HandS.ExcOwn
import HandS.WordsExc
import HandS.IsInst
import HandS.ExcIs
import HandS.DictComp
import HandS.Walk
import HandS.Conv
import HandS.Codes
import HandS.OwnEq
import KE.KExcIs
import HandS.ExcInit
import HandS.ExcField
import HandS.Ends
import KE.KExcStr
import KE.RegKIsAll
import PySem.Challenge.RW_foldbough_k11_what_is_no_tree
set_option Elab.async false
set_option linter.all false
set_option maxRecDepth 100000
/-! Mathematics of forests of names told as lists of pairs. -/
namespace TM
open PySem L2
/-- one to eight small letters -/
def NameOk (s : Str) : Prop := 1 ≤ s.length ∧ s.length ≤ 8 ∧ ∀ c ∈ s.cps.toList, 97 ≤ c ∧ c ≤ 122
inductive Fo where
  | nil
  | cons (c : Str) (kids rest : Fo)
abbrev Pr := Str × Option Str
def flat : Fo → Option Str → List Pr
  | .nil, _ => []
  | .cons c k r, u => (c, u) :: (flat k (some c) ++ flat r u)
def names : Fo → List Str
  | .nil => []
  | .cons c k r => c :: (names k ++ names r)
def app : Fo → Fo → Fo
  | .nil, g => g
  | .cons c k r, g => .cons c k (app r g)
/-- the forest beneath u of a list of pairs in which overs stand ahead -/
def mk : List Pr → Option Str → Fo
  | [], _ => .nil
  | (c, o) :: r, u => if o = u then .cons c (mk r (some c)) (mk r u) else mk r u
def ord (ps : List Pr) (u : Option Str) : List Str := names (mk ps u)
theorem ord_nil (u : Option Str) : ord [] u = [] := rfl
theorem ord_cons (c : Str) (o : Option Str) (r : List Pr) (u : Option Str) : ord ((c, o) :: r) u = if o = u then c :: (ord r (some c) ++ ord r u) else ord r u := by
  unfold ord
  show names (if o = u then .cons c (mk r (some c)) (mk r u) else mk r u) = _
  split <;> rfl
theorem flat_names : ∀ (f : Fo) (u : Option Str), (flat f u).map Prod.fst = names f
  | .nil, _ => rfl
  | .cons c k r, u => by
    show c :: ((flat k (some c) ++ flat r u).map Prod.fst) = c :: (names k ++ names r)
    rw [List.map_append, flat_names k, flat_names r]
theorem flat_app : ∀ (f g : Fo) (u : Option Str), flat (app f g) u = flat f u ++ flat g u
  | .nil, _, _ => rfl
  | .cons c k r, g, u => by
    show (c, u) :: (flat k (some c) ++ flat (app r g) u) = (c, u) :: (flat k (some c) ++ flat r u) ++ flat g u
    rw [flat_app r g u, List.cons_append, List.append_assoc]
theorem names_app : ∀ (f g : Fo), names (app f g) = names f ++ names g
  | .nil, _ => rfl
  | .cons c k r, g => by
    show c :: (names k ++ names (app r g)) = c :: (names k ++ names r) ++ names g
    rw [names_app r g, List.cons_append, List.append_assoc]
theorem app_nil : ∀ f : Fo, app f .nil = f
  | .nil => rfl
  | .cons c k r => by show Fo.cons c k (app r .nil) = _; rw [app_nil r]
/-- every over told is none, or a name that is told ahead; names unlike -/
def Valid : List Str → List Pr → Prop
  | _, [] => True
  | seen, (c, o) :: r => c ∉ seen ∧ (∀ x, o = some x → x ∈ seen) ∧ Valid (seen ++ [c]) r
theorem valid_notin : ∀ {ps : List Pr} {seen : List Str} {x : Str}, Valid seen ps → x ∈ seen → x ∉ ps.map Prod.fst
  | [], _, _, _, _ => by simp
  | (c, o) :: r, seen, x, h, hx => by
    obtain ⟨h1, _, h3⟩ := h
    have ih := valid_notin (x := x) h3 (List.mem_append_left _ hx)
    simp only [List.map_cons, List.mem_cons, not_or]
    exact ⟨fun e => h1 (e ▸ hx), ih⟩
theorem valid_nodup : ∀ {ps : List Pr} {seen : List Str}, Valid seen ps → (ps.map Prod.fst).Nodup
  | [], _, _ => by simp
  | (c, o) :: r, seen, h => by
    obtain ⟨_, _, h3⟩ := h
    simp only [List.map_cons, List.nodup_cons]
    exact ⟨valid_notin h3 (by simp), valid_nodup h3⟩
/-- nothing stands beneath a name that is told nowhere as an over -/
theorem mk_none : ∀ {ps : List Pr} {u : Option Str}, (∀ p ∈ ps, p.2 ≠ u) → mk ps u = .nil
  | [], _, _ => rfl
  | (c, o) :: r, u, h => by
    show (if o = u then _ else mk r u) = _
    rw [if_neg (h (c, o) List.mem_cons_self)]
    exact mk_none fun p hp => h p (List.mem_cons_of_mem _ hp)
/-- a forest told in its own order, and what comes behind -/
theorem mk_flat : ∀ (f : Fo) (r : List Pr) (u : Option Str), (names f).Nodup → (∀ x ∈ names f, u ≠ some x) → (∀ p ∈ r, ∀ x ∈ names f, p.2 ≠ some x) →
    mk (flat f u ++ r) u = app f (mk r u) ∧ ∀ v, v ≠ u → (∀ x ∈ names f, v ≠ some x) → mk (flat f u ++ r) v = mk r v
  | .nil, r, u, _, _, _ => ⟨rfl, fun v _ _ => rfl⟩
  | .cons c k s, r, u, hn, hu, hr => by
    have hn' : (c :: (names k ++ names s)).Nodup := hn
    rw [List.nodup_cons, List.nodup_append] at hn'
    obtain ⟨hc, hk, hs, hks⟩ := hn'
    have hck : c ∉ names k := fun z => hc (List.mem_append_left _ z)
    have hcs : c ∉ names s := fun z => hc (List.mem_append_right _ z)
    have mem_k : ∀ x ∈ names k, x ∈ names (Fo.cons c k s) := fun x hx => List.mem_cons_of_mem _ (List.mem_append_left _ hx)
    have mem_s : ∀ x ∈ names s, x ∈ names (Fo.cons c k s) := fun x hx => List.mem_cons_of_mem _ (List.mem_append_right _ hx)
    have mem_c : c ∈ names (Fo.cons c k s) := List.mem_cons_self
    have huc : u ≠ some c := hu c mem_c
    -- the rest behind the kids
    have over_s : ∀ p ∈ flat s u, p.2 = u ∨ ∃ x ∈ names s, p.2 = some x := by
      have gen : ∀ (f : Fo) (u : Option Str), ∀ p ∈ flat f u, p.2 = u ∨ ∃ x ∈ names f, p.2 = some x := by
        intro f
        induction f with
        | nil => intro u p hp; cases hp
        | cons c k r ihk ihr =>
          intro u p hp
          have hp' : p ∈ (c, u) :: (flat k (some c) ++ flat r u) := hp
          rcases List.mem_cons.mp hp' with e | hp'
          · left; rw [e]
          · rcases List.mem_append.mp hp' with hp' | hp'
            · rcases ihk _ p hp' with e | ⟨x, hx, e⟩
              · exact .inr ⟨c, List.mem_cons_self, e⟩
              · exact .inr ⟨x, List.mem_cons_of_mem _ (List.mem_append_left _ hx), e⟩
            · rcases ihr _ p hp' with e | ⟨x, hx, e⟩
              · exact .inl e
              · exact .inr ⟨x, List.mem_cons_of_mem _ (List.mem_append_right _ hx), e⟩
      exact gen s u
    have hR : ∀ p ∈ flat s u ++ r, ∀ x ∈ names k, p.2 ≠ some x := by
      intro p hp x hx e
      rcases List.mem_append.mp hp with hp | hp
      · rcases over_s p hp with e2 | ⟨y, hy, e2⟩
        · exact hu x (mem_k x hx) (e2 ▸ e)
        · rw [e2] at e
          exact hks x hx y hy (Option.some.inj e).symm
      · exact hr p hp x (mem_k x hx) e
    obtain ⟨k1, k2⟩ := mk_flat k (flat s u ++ r) (some c) hk (fun x hx e => hck (Option.some.inj e ▸ hx)) hR
    obtain ⟨s1, s2⟩ := mk_flat s r u hs (fun x hx => hu x (mem_s x hx)) (fun p hp x hx => hr p hp x (mem_s x hx))
    have rc : mk r (some c) = .nil := mk_none fun p hp => hr p hp c mem_c
    have sc : mk (flat s u ++ r) (some c) = .nil := by
      rw [s2 (some c) huc.symm (fun x hx e => hcs (Option.some.inj e ▸ hx)), rc]
    have e0 : flat (Fo.cons c k s) u ++ r = (c, u) :: (flat k (some c) ++ (flat s u ++ r)) := by
      show (c, u) :: (flat k (some c) ++ flat s u) ++ r = _
      rw [List.cons_append, List.append_assoc]
    rw [e0]
    refine ⟨?_, fun v hvu hv => ?_⟩
    · show (if u = u then Fo.cons c (mk (flat k (some c) ++ (flat s u ++ r)) (some c)) (mk (flat k (some c) ++ (flat s u ++ r)) u) else _) = Fo.cons c k (app s (mk r u))
      rw [if_pos rfl, k1, sc, app_nil, k2 u huc (fun x hx => hu x (mem_k x hx)), s1]
    · show (if u = v then _ else mk (flat k (some c) ++ (flat s u ++ r)) v) = _
      rw [if_neg (fun e => hvu e.symm), k2 v (hv c mem_c) (fun x hx => hv x (mem_k x hx)), s2 v hvu (fun x hx => hv x (mem_s x hx))]
theorem mk_own {f : Fo} (hn : (names f).Nodup) : mk (flat f none) none = f := by
  have h := (mk_flat f [] none hn (fun _ _ e => nomatch e) (fun p hp => nomatch hp)).1
  rw [List.append_nil] at h
  rw [h]
  exact app_nil f
theorem mk_two {f g : Fo} (hn : (names (app f g)).Nodup) : mk (flat f none ++ flat g none) none = app f g := by
  rw [← flat_app]
  exact mk_own hn
/-- a forest told in its own order is validly told -/
theorem valid_app : ∀ {ps qs : List Pr} {seen : List Str}, Valid seen ps → Valid (seen ++ ps.map Prod.fst) qs → Valid seen (ps ++ qs)
  | [], qs, seen, _, h => by simpa using h
  | (c, o) :: r, qs, seen, ⟨h1, h2, h3⟩, h => by
    refine ⟨h1, h2, valid_app h3 ?_⟩
    simpa [List.append_assoc] using h
theorem valid_flat : ∀ (f : Fo) (seen : List Str) (u : Option Str), (∀ x, u = some x → x ∈ seen) → (seen ++ names f).Nodup → Valid seen (flat f u)
  | .nil, _, _, _, _ => trivial
  | .cons c k r, seen, u, hu, hn => by
    have hn' : (seen ++ c :: (names k ++ names r)).Nodup := hn
    have e1 : seen ++ c :: (names k ++ names r) = seen ++ [c] ++ names k ++ names r := by simp [List.append_assoc]
    rw [e1] at hn'
    have n1 : (seen ++ [c] ++ names k).Nodup := (List.nodup_append.mp hn').1
    have n2 : (seen ++ [c]).Nodup := (List.nodup_append.mp n1).1
    refine ⟨fun hc => ?_, hu, valid_app (valid_flat k _ (some c) (fun x e => by cases e; simp) n1) ?_⟩
    · have := (List.nodup_append.mp n2).2.2
      exact this c hc c (by simp) rfl
    · rw [flat_names]
      exact valid_flat r _ u (fun x e => List.mem_append_left _ (List.mem_append_left _ (hu x e))) hn'
theorem over_flat : ∀ (f : Fo) (u : Option Str), ∀ p ∈ flat f u, p.2 = u ∨ ∃ x ∈ names f, p.2 = some x := by
  intro f
  induction f with
  | nil => intro u p hp; cases hp
  | cons c k r ihk ihr =>
    intro u p hp
    have hp' : p ∈ (c, u) :: (flat k (some c) ++ flat r u) := hp
    rcases List.mem_cons.mp hp' with e | hp'
    · left; rw [e]
    · rcases List.mem_append.mp hp' with hp' | hp'
      · rcases ihk _ p hp' with e | ⟨x, hx, e⟩
        · exact .inr ⟨c, List.mem_cons_self, e⟩
        · exact .inr ⟨x, List.mem_cons_of_mem _ (List.mem_append_left _ hx), e⟩
      · rcases ihr _ p hp' with e | ⟨x, hx, e⟩
        · exact .inl e
        · exact .inr ⟨x, List.mem_cons_of_mem _ (List.mem_append_right _ hx), e⟩
end TM
namespace TM
open PySem L2
theorem valid_at : ∀ {ps : List Pr} {seen : List Str} {i : Nat} {c : Str} {o : Option Str}, Valid seen ps → ps[i]? = some (c, o) → c ∉ seen ++ (ps.take i).map Prod.fst ∧ ∀ x, o = some x → x ∈ seen ++ (ps.take i).map Prod.fst
  | [], _, _, _, _, _, h => by simp at h
  | (a, b) :: r, seen, 0, c, o, ⟨h1, h2, _⟩, h => by
    simp only [List.getElem?_cons_zero, Option.some.injEq, Prod.mk.injEq] at h
    obtain ⟨rfl, rfl⟩ := h
    simpa using ⟨h1, h2⟩
  | (a, b) :: r, seen, i + 1, c, o, ⟨h1, h2, h3⟩, h => by
    have h' : r[i]? = some (c, o) := by simpa using h
    have ih := valid_at h3 h'
    simpa [List.append_assoc] using ih
theorem valid_take : ∀ {ps : List Pr} {seen : List Str} (i : Nat), Valid seen ps → Valid seen (ps.take i)
  | [], _, i, _ => by simp [Valid]
  | (a, b) :: r, seen, 0, _ => trivial
  | (a, b) :: r, seen, i + 1, ⟨h1, h2, h3⟩ => ⟨h1, h2, valid_take i h3⟩
/-- nothing ahead of a suffix stands right beneath u -/
def Below (ps : List Pr) (u : Option Str) (n : Nat) : Prop := ∃ pre t, ps = pre ++ t ∧ t.length < n ∧ ∀ p ∈ pre, p.2 ≠ u
theorem below_top (ps : List Pr) {n : Nat} (h : ps.length < n) : Below ps none n := ⟨[], ps, rfl, h, fun _ h => nomatch h⟩
/-- the over of a name stands nowhere ahead of it -/
theorem ahead : ∀ {ps : List Pr} {seen : List Str} {x : Str}, Valid seen ps → x ∉ seen → x ∉ ps.map Prod.fst → ∀ p ∈ ps, p.2 ≠ some x
  | [], _, _, _, _, _, p, hp => nomatch hp
  | (a, b) :: r, seen, x, ⟨h1, h2, h3⟩, hs, hx, p, hp => by
    rw [List.map_cons, List.mem_cons, not_or] at hx
    rcases List.mem_cons.mp hp with e | hp
    · rw [e]
      intro e2
      exact hs (h2 x e2)
    · exact ahead h3 (by simp [hs, hx.1]) hx.2 p hp
/-- beneath a column there is only what stands behind it -/
theorem ahead_at {ps : List Pr} {i : Nat} {c : Str} {o : Option Str} (va : Valid [] ps) (h : ps[i]? = some (c, o)) : ∀ p ∈ ps.take (i + 1), p.2 ≠ some c := by
  have hc := (valid_at va h).1
  rw [List.nil_append] at hc
  have e : ps.take (i + 1) = ps.take i ++ [(c, o)] := by rw [List.take_add_one, h]; rfl
  intro p hp
  rw [e] at hp
  rcases List.mem_append.mp hp with hp | hp
  · exact ahead (valid_take i va) (by simp) hc p hp
  · rw [List.mem_singleton.mp hp]
    intro e2
    have h2 := (valid_at va h).2 c e2
    rw [List.nil_append] at h2
    exact hc h2
theorem below_at {ps : List Pr} {i : Nat} {c : Str} {o : Option Str} {n : Nat} (va : Valid [] ps) (h : ps[i]? = some (c, o)) (b : Below ps o (n + 1)) : Below ps (some c) n := by
  obtain ⟨pre, t, e, hl, hp⟩ := b
  have hi : i < ps.length := (List.getElem?_eq_some_iff.mp h).1
  have hpi : pre.length ≤ i := by
    refine Nat.le_of_not_lt fun hlt => ?_
    have : pre[i]? = some (c, o) := by
      rw [e, List.getElem?_append_left hlt] at h
      exact h
    exact hp _ (List.mem_of_getElem? this) rfl
  refine ⟨ps.take (i + 1), ps.drop (i + 1), (List.take_append_drop _ _).symm, ?_, ahead_at va h⟩
  rw [List.length_drop]
  have := congrArg List.length e
  rw [List.length_append] at this
  omega
theorem mk_skip : ∀ {pre t : List Pr} {u : Option Str}, (∀ p ∈ pre, p.2 ≠ u) → mk (pre ++ t) u = mk t u
  | [], _, _, _ => rfl
  | (c, o) :: r, t, u, h => by
    show (if o = u then _ else mk (r ++ t) u) = _
    rw [if_neg (h (c, o) List.mem_cons_self)]
    exact mk_skip fun p hp => h p (List.mem_cons_of_mem _ hp)
/-- the order, told as the program tells it -/
def step (ps : List Pr) (u : Option Str) (p : Pr) : List Str := if p.2 = u then p.1 :: ord ps (some p.1) else []
theorem ord_suffix {ps : List Pr} (va : Valid [] ps) (u : Option Str) : ∀ (t pre : List Pr), ps = pre ++ t → ord t u = t.flatMap (step ps u)
  | [], _, _ => rfl
  | (c, o) :: r, pre, e => by
    have hi : ps[pre.length]? = some (c, o) := by rw [e]; simp
    have h1 : ord ps (some c) = ord r (some c) := by
      have h2 := ahead_at va hi
      have e2 : ps = ps.take (pre.length + 1) ++ r := by
        have e3 : pre ++ (c, o) :: r = (pre ++ [(c, o)]) ++ r := by simp
        have e4 : ps.take (pre.length + 1) = pre ++ [(c, o)] := by
          rw [e, e3, List.take_append_of_le_length (by simp)]
          rw [List.take_of_length_le (by simp)]
        rw [e4, ← e3]
        exact e
      unfold ord
      rw [e2, mk_skip h2]
    have ih := ord_suffix va u r (pre ++ [(c, o)]) (by rw [e]; simp)
    rw [ord_cons, List.flatMap_cons, ← ih]
    unfold step
    rw [h1]
    by_cases ho : o = u
    · simp [ho]
    · simp [ho]
theorem ord_flat {ps : List Pr} (va : Valid [] ps) (u : Option Str) : ord ps u = ps.flatMap (step ps u) := ord_suffix va u ps [] rfl
theorem ord_take {ps : List Pr} {u : Option Str} {i : Nat} {q : Pr} (h : ps[i]? = some q) : (ps.take (i + 1)).flatMap (step ps u) = (ps.take i).flatMap (step ps u) ++ step ps u q := by
  rw [List.take_add_one, h, List.flatMap_append]
  show _ ++ (step ps u q ++ []) = _
  rw [List.append_nil]
/-- the names in the tree's order are the names told -/
theorem pick : ∀ {us : List (Option Str)} {o : Option Str} {A : List Str} {g : Option Str → List Str}, us.Nodup → o ∈ us → (us.flatMap fun u => if o = u then A ++ g u else g u).Perm (A ++ us.flatMap g)
  | [], _, _, _, _, h => nomatch h
  | v :: us, o, A, g, hn, h => by
    rw [List.nodup_cons] at hn
    by_cases e : o = v
    · have hn2 : o ∉ us := e ▸ hn.1
      have e2 : (us.flatMap fun u => if o = u then A ++ g u else g u) = us.flatMap g := by
        clear hn h
        induction us with
        | nil => rfl
        | cons x r ih =>
          rw [List.mem_cons, not_or] at hn2
          rw [List.flatMap_cons, List.flatMap_cons, ih hn2.2, if_neg hn2.1]
      rw [List.flatMap_cons, List.flatMap_cons, e2, if_pos e, List.append_assoc]
    · have h2 : o ∈ us := (List.mem_cons.mp h).resolve_left e
      rw [List.flatMap_cons, List.flatMap_cons, if_neg e]
      have ih := pick (A := A) (g := g) hn.2 h2
      refine ((List.Perm.append_left (g v) ih).trans ?_)
      rw [← List.append_assoc, ← List.append_assoc]
      exact List.Perm.append_right _ List.perm_append_comm
theorem ords_perm : ∀ {ps : List Pr} {seen : List Str}, seen.Nodup → Valid seen ps → ((none :: seen.map some).flatMap (ord ps)).Perm (ps.map Prod.fst)
  | [], seen, _, _ => by
    have : ∀ us : List (Option Str), us.flatMap (ord []) = [] := by
      intro us
      induction us with
      | nil => rfl
      | cons u us ih => rw [List.flatMap_cons, ih]; rfl
    rw [this]
    exact List.Perm.nil
  | (c, o) :: r, seen, hn, ⟨h1, h2, h3⟩ => by
    have hn2 : (seen ++ [c]).Nodup := by
      rw [List.nodup_append]
      refine ⟨hn, by simp, fun a ha b hb => ?_⟩
      rw [List.mem_singleton.mp hb]
      exact fun e => h1 (e ▸ ha)
    have ih := ords_perm hn2 h3
    have hu : (none :: seen.map some : List (Option Str)).Nodup := by
      rw [List.nodup_cons]
      refine ⟨by simp, ?_⟩
      rw [List.nodup_iff_pairwise_ne, List.pairwise_map]
      exact List.Pairwise.imp (fun h e => h (Option.some.inj e)) (List.nodup_iff_pairwise_ne.mp hn)
    have ho : o ∈ (none :: seen.map some : List (Option Str)) := by
      cases o with
      | none => exact List.mem_cons_self
      | some x => exact List.mem_cons_of_mem _ (List.mem_map.mpr ⟨x, h2 x rfl, rfl⟩)
    have e1 : (none :: seen.map some).flatMap (ord ((c, o) :: r)) = (none :: seen.map some).flatMap fun u => if o = u then (c :: ord r (some c)) ++ ord r u else ord r u := by
      congr 1
      funext u
      rw [ord_cons]
      split <;> rfl
    rw [e1]
    refine (pick hu ho).trans ?_
    rw [List.map_cons, List.cons_append]
    refine List.Perm.cons c ?_
    refine List.Perm.trans ?_ ih
    rw [List.map_append, ← List.cons_append, List.flatMap_append]
    have e3 : List.flatMap (ord r) (List.map some [c]) = ord r (some c) := by
      show ord r (some c) ++ [] = _
      rw [List.append_nil]
    rw [e3]
    exact List.perm_append_comm
theorem ord_perm {ps : List Pr} (va : Valid [] ps) : (ord ps none).Perm (ps.map Prod.fst) := by
  have := ords_perm List.nodup_nil va
  simpa using this
theorem ord_nodup {ps : List Pr} (va : Valid [] ps) : (ord ps none).Nodup := (List.Perm.nodup_iff (ord_perm va)).mpr (valid_nodup va)
/-- the pairs in the tree's order are pairs told -/
theorem mk_sub : ∀ {ps : List Pr} {u : Option Str} {p : Pr}, p ∈ flat (mk ps u) u → p ∈ ps
  | [], _, _, h => nomatch h
  | (c, o) :: r, u, p, h => by
    have h' : p ∈ flat (if o = u then .cons c (mk r (some c)) (mk r u) else mk r u) u := h
    by_cases e : o = u
    · rw [if_pos e] at h'
      have h'' : p ∈ (c, u) :: (flat (mk r (some c)) (some c) ++ flat (mk r u) u) := h'
      rcases List.mem_cons.mp h'' with e2 | h2
      · rw [e2, e]
        exact List.mem_cons_self
      · rcases List.mem_append.mp h2 with h2 | h2
        · exact List.mem_cons_of_mem _ (mk_sub h2)
        · exact List.mem_cons_of_mem _ (mk_sub h2)
    · rw [if_neg e] at h'
      exact List.mem_cons_of_mem _ (mk_sub h')
end TM
namespace TM
open PySem L2
theorem flat_le {α β : Type} {f : α → List β} {k : Nat} : ∀ {l : List α}, (∀ a ∈ l, (f a).length ≤ k) → (l.flatMap f).length ≤ k * l.length
  | [], _ => by simp
  | a :: r, h => by
    rw [List.flatMap_cons, List.length_append, List.length_cons, Nat.mul_succ]
    have h1 := h a List.mem_cons_self
    have h2 := flat_le (l := r) fun b hb => h b (List.mem_cons_of_mem _ hb)
    omega
theorem flat_no {ps : List Pr} {c : Str} {o : Option Str} {us : List (Option Str)} (h : o ∉ us) : us.flatMap (ord ((c, o) :: ps)) = us.flatMap (ord ps) := by
  induction us with
  | nil => rfl
  | cons u r ih =>
    rw [List.mem_cons, not_or] at h
    rw [List.flatMap_cons, List.flatMap_cons, ih h.2, ord_cons, if_neg h.1]
theorem ords_le : ∀ {ps : List Pr} {seen : List Str} {us : List (Option Str)}, us.Nodup → Valid seen ps → (∀ x ∈ ps.map Prod.fst, some x ∉ us) → (us.flatMap (ord ps)).length ≤ ps.length
  | [], _, us, _, _, _ => by
    induction us with
    | nil => exact Nat.le_refl _
    | cons u us ih =>
      rw [List.flatMap_cons, List.length_append]
      rename_i h _ _
      have := ih (List.nodup_cons.mp (by assumption)).2 (fun x hx => nomatch hx)
      rw [ord_nil]
      simpa using this
  | (c, o) :: r, seen, us, hu, ⟨h1, h2, h3⟩, hx => by
    by_cases ho : o ∈ us
    · have e1 : us.flatMap (ord ((c, o) :: r)) = us.flatMap fun u => if o = u then (c :: ord r (some c)) ++ ord r u else ord r u := by
        congr 1
        funext u
        rw [ord_cons]
        split <;> rfl
      rw [e1, (pick (A := c :: ord r (some c)) (g := ord r) hu ho).length_eq]
      have hc : some c ∉ us := hx c (by simp)
      have ih := ords_le (us := some c :: us) (List.nodup_cons.mpr ⟨hc, hu⟩) h3 (fun x hx2 h => by
        rcases List.mem_cons.mp h with e | h
        · have := valid_notin h3 (x := c) (by simp)
          exact this (Option.some.inj e ▸ hx2)
        · exact hx x (List.mem_cons_of_mem _ hx2) h)
      rw [List.flatMap_cons, List.length_append] at ih
      simp only [List.length_append, List.length_cons]
      omega
    · rw [flat_no ho]
      have ih := ords_le hu h3 (fun x hx2 => hx x (List.mem_cons_of_mem _ hx2))
      rw [List.length_cons]
      omega
theorem valid_drop : ∀ {ps : List Pr} {seen : List Str} (i : Nat), Valid seen ps → ∃ s, Valid s (ps.drop i)
  | [], seen, i, _ => ⟨seen, by simp [Valid]⟩
  | (a, b) :: r, seen, 0, h => ⟨seen, h⟩
  | (a, b) :: r, seen, i + 1, ⟨_, _, h3⟩ => valid_drop i h3
theorem ord_le {ps : List Pr} (va : Valid [] ps) (u : Option Str) : (ord ps u).length ≤ ps.length := by
  have one : ∀ (qs : List Pr) (s : List Str), Valid s qs → (∀ x ∈ qs.map Prod.fst, u ≠ some x) → (ord qs u).length ≤ qs.length := fun qs s v h => by
    have := ords_le (us := [u]) (by simp) v (fun x hx e => h x hx (List.mem_singleton.mp e).symm)
    simpa using this
  by_cases h : ∃ c, u = some c ∧ c ∈ ps.map Prod.fst
  · obtain ⟨c, rfl, hc⟩ := h
    obtain ⟨⟨c', o⟩, hm, rfl⟩ := List.mem_map.mp hc
    obtain ⟨i, hi, hie⟩ := List.getElem_of_mem hm
    have hq : ps[i]? = some (c', o) := by rw [List.getElem?_eq_getElem hi, hie]
    have e : ord ps (some c') = ord (ps.drop (i + 1)) (some c') := by
      unfold ord
      have := mk_skip (t := ps.drop (i + 1)) (ahead_at va hq)
      rw [List.take_append_drop] at this
      rw [this]
    obtain ⟨s, vs⟩ := valid_drop (i + 1) va
    have hnd := valid_nodup va
    rw [e]
    refine Nat.le_trans (one _ s vs fun x hx e2 => ?_) (by rw [List.length_drop]; omega)
    cases e2
    rw [List.map_drop] at hx
    obtain ⟨j, hj, hje⟩ := List.getElem_of_mem hx
    rw [List.getElem_drop] at hje
    have h1 : (ps.map Prod.fst)[i]'(by simpa using hi) = c' := by rw [List.getElem_map, hie]
    have := (List.getElem_inj hnd).mp (hje.trans h1.symm)
    omega
  · exact one ps [] va fun x hx e => h ⟨x, e, hx⟩
end TM

/-! Where a name stands in a forest: what is above it, what is beneath. -/
namespace TM
open PySem L2
/-- what is above a name, and the forest beneath it -/
def loc : Fo → Str → Option (List Str × Fo)
  | .nil, _ => none
  | .cons d k r, c => if d = c then some ([], k) else match loc k c with
    | some (a, q) => some (d :: a, q)
    | none => loc r c
def tops : Fo → List Str
  | .nil => []
  | .cons c _ r => c :: tops r
theorem loc_names : ∀ {f : Fo} {c : Str}, c ∈ names f → ∃ a q, loc f c = some (a, q)
  | .nil, _, h => nomatch h
  | .cons d k r, c, h => by
    unfold loc
    by_cases e : d = c
    · exact ⟨_, _, if_pos e⟩
    · rw [if_neg e]
      cases hk : loc k c with
      | some p => exact ⟨_, _, rfl⟩
      | none =>
        have h' : c ∈ d :: (names k ++ names r) := h
        rcases List.mem_cons.mp h' with e2 | h2
        · exact absurd e2.symm e
        · rcases List.mem_append.mp h2 with h2 | h2
          · obtain ⟨a, q, e3⟩ := loc_names h2
            rw [hk] at e3
            cases e3
          · exact loc_names h2
theorem loc_mem : ∀ {f : Fo} {c : Str} {a : List Str} {q : Fo}, loc f c = some (a, q) → c ∈ names f
  | .nil, _, _, _, h => by unfold loc at h; cases h
  | .cons d k r, c, a, q, h => by
    unfold loc at h
    show c ∈ d :: (names k ++ names r)
    by_cases e : d = c
    · rw [e]; exact List.mem_cons_self
    · rw [if_neg e] at h
      cases hk : loc k c with
      | some p =>
        obtain ⟨b, p⟩ := p
        exact List.mem_cons_of_mem _ (List.mem_append_left _ (loc_mem hk))
      | none =>
        rw [hk] at h
        exact List.mem_cons_of_mem _ (List.mem_append_right _ (loc_mem h))
theorem loc_none {f : Fo} {c : Str} (h : c ∉ names f) : loc f c = none := by
  cases e : loc f c with
  | none => rfl
  | some p => exact absurd (loc_mem (a := p.1) (q := p.2) e) h
theorem nd_parts {d : Str} {k r : Fo} (h : (names (.cons d k r)).Nodup) : d ∉ names k ∧ d ∉ names r ∧ (names k).Nodup ∧ (names r).Nodup ∧ ∀ x ∈ names k, x ∉ names r := by
  have h' : (d :: (names k ++ names r)).Nodup := h
  rw [List.nodup_cons, List.nodup_append] at h'
  exact ⟨fun z => h'.1 (List.mem_append_left _ z), fun z => h'.1 (List.mem_append_right _ z), h'.2.1, h'.2.2.1, fun x hx hy => h'.2.2.2 x hx x hy rfl⟩
/-- the three ways in which a name stands in a forest -/
theorem loc_cases {d : Str} {k r : Fo} {c : Str} {a : List Str} {q : Fo} (h : loc (.cons d k r) c = some (a, q)) : (d = c ∧ a = [] ∧ q = k) ∨ (d ≠ c ∧ ∃ b, a = d :: b ∧ loc k c = some (b, q)) ∨ (d ≠ c ∧ loc k c = none ∧ loc r c = some (a, q)) := by
  unfold loc at h
  by_cases e : d = c
  · rw [if_pos e] at h
    cases h
    exact .inl ⟨e, rfl, rfl⟩
  · rw [if_neg e] at h
    cases hk : loc k c with
    | some p =>
      obtain ⟨b, p⟩ := p
      rw [hk] at h
      cases h
      exact .inr (.inl ⟨e, b, rfl, rfl⟩)
    | none =>
      rw [hk] at h
      exact .inr (.inr ⟨e, rfl, h⟩)
theorem loc_here {d : Str} {k r : Fo} : loc (.cons d k r) d = some ([], k) := by unfold loc; exact if_pos rfl
theorem loc_in {d c : Str} {k r : Fo} {b : List Str} {q : Fo} (e : d ≠ c) (h : loc k c = some (b, q)) : loc (.cons d k r) c = some (d :: b, q) := by
  unfold loc
  rw [if_neg e, h]
theorem loc_by {d c : Str} {k r : Fo} (e : d ≠ c) (h : loc k c = none) : loc (.cons d k r) c = loc r c := by
  rw [loc.eq_def]
  dsimp only
  rw [if_neg e, h]
theorem loc_sub : ∀ {f : Fo} {c : Str} {a : List Str} {q : Fo}, loc f c = some (a, q) → (a ++ [c]).Sublist (names f)
  | .nil, _, _, _, h => by unfold loc at h; cases h
  | .cons d k r, c, a, q, h => by
    show (a ++ [c]).Sublist (d :: (names k ++ names r))
    rcases loc_cases h with ⟨rfl, rfl, rfl⟩ | ⟨_, b, rfl, g⟩ | ⟨_, _, g⟩
    · exact List.Sublist.cons_cons _ (List.nil_sublist _)
    · exact List.Sublist.cons_cons _ ((loc_sub g).trans (List.sublist_append_left _ _))
    · exact List.Sublist.cons _ ((loc_sub g).trans (List.sublist_append_right _ _))
/-- what is beneath a name stands behind it, in one piece -/
theorem loc_seg : ∀ {f : Fo} {c : Str} {a : List Str} {q : Fo}, loc f c = some (a, q) → ∃ A B, names f = A ++ (c :: names q) ++ B
  | .nil, _, _, _, h => by unfold loc at h; cases h
  | .cons d k r, c, a, q, h => by
    have e0 : names (.cons d k r) = d :: (names k ++ names r) := rfl
    rcases loc_cases h with ⟨rfl, rfl, rfl⟩ | ⟨_, b, rfl, g⟩ | ⟨_, _, g⟩
    · exact ⟨[], names r, rfl⟩
    · obtain ⟨A, B, e⟩ := loc_seg g
      exact ⟨d :: A, B ++ names r, by rw [e0, e]; simp⟩
    · obtain ⟨A, B, e⟩ := loc_seg g
      exact ⟨d :: (names k ++ A), B, by rw [e0, e]; simp⟩
/-- the column right above -/
def lastOr (a : List Str) (u : Option Str) : Option Str := match a.getLast? with
  | some x => some x
  | none => u
theorem lastOr_snoc (a : List Str) (x : Str) (u : Option Str) : lastOr (a ++ [x]) u = some x := by unfold lastOr; rw [List.getLast?_concat]
theorem lastOr_cons (d : Str) (a : List Str) (u : Option Str) : lastOr (d :: a) u = lastOr a (some d) := by
  cases a with
  | nil => rfl
  | cons x r =>
    unfold lastOr
    rw [List.getLast?_cons_cons]
    rw [List.getLast?_eq_some_getLast (by simp)]
theorem loc_flat : ∀ {f : Fo} {c : Str} {a : List Str} {q : Fo} (u : Option Str), loc f c = some (a, q) → (c, lastOr a u) ∈ flat f u
  | .nil, _, _, _, _, h => by unfold loc at h; cases h
  | .cons d k r, c, a, q, u, h => by
    show _ ∈ (d, u) :: (flat k (some d) ++ flat r u)
    rcases loc_cases h with ⟨rfl, rfl, rfl⟩ | ⟨_, b, rfl, g⟩ | ⟨_, _, g⟩
    · exact List.mem_cons_self
    · rw [lastOr_cons]
      exact List.mem_cons_of_mem _ (List.mem_append_left _ (loc_flat (some d) g))
    · exact List.mem_cons_of_mem _ (List.mem_append_right _ (loc_flat u g))
/-- each one above, with what is above it -/
theorem loc_up : ∀ {f : Fo} {c : Str} {a : List Str} {q : Fo}, (names f).Nodup → loc f c = some (a, q) → ∀ (a1 a2 : List Str) (x : Str), a = a1 ++ x :: a2 → ∃ q1, loc f x = some (a1, q1) ∧ c ∈ names q1
  | .nil, _, _, _, _, h => by unfold loc at h; cases h
  | .cons d k r, c, a, q, hn, h => by
    intro a1 a2 x e
    obtain ⟨n1, n2, n3, n4, n5⟩ := nd_parts hn
    rcases loc_cases h with ⟨rfl, rfl, rfl⟩ | ⟨hd, b, rfl, g⟩ | ⟨hd, hk, g⟩
    · simp at e
    · cases a1 with
      | nil =>
        have e' : d :: b = x :: a2 := e
        injection e' with e1 e2
        subst e1
        exact ⟨k, loc_here, loc_mem g⟩
      | cons y a1 =>
        have e' : d :: b = y :: (a1 ++ x :: a2) := e
        injection e' with e1 e2
        subst e1
        obtain ⟨q1, h1, h2⟩ := loc_up n3 g _ _ _ e2
        exact ⟨q1, loc_in (fun z => n1 (z ▸ loc_mem h1)) h1, h2⟩
    · obtain ⟨q1, h1, h2⟩ := loc_up n4 g _ _ _ e
      have hx := loc_mem h1
      exact ⟨q1, (loc_by (fun (z : d = x) => n2 (z ▸ hx)) (loc_none fun z => n5 _ z hx)).trans h1, h2⟩
/-- each one beneath -/
theorem loc_down : ∀ {f : Fo} {c o : Str} {a a2 : List Str} {q q2 : Fo}, (names f).Nodup → loc f c = some (a, q) → loc q o = some (a2, q2) → loc f o = some (a ++ c :: a2, q2)
  | .nil, _, _, _, _, _, _, _, h, _ => by unfold loc at h; cases h
  | .cons d k r, c, o, a, a2, q, q2, hn, h, h2 => by
    obtain ⟨n1, n2, n3, n4, n5⟩ := nd_parts hn
    rcases loc_cases h with ⟨rfl, rfl, rfl⟩ | ⟨hd, b, rfl, g⟩ | ⟨hd, hk, g⟩
    · exact loc_in (fun z => n1 (z ▸ loc_mem h2)) h2
    · have ih := loc_down n3 g h2
      exact loc_in (fun z => n1 (z ▸ loc_mem ih)) ih
    · have ih := loc_down n4 g h2
      have hx := loc_mem ih
      exact (loc_by (fun (z : d = o) => n2 (z ▸ hx)) (loc_none fun z => n5 _ z hx)).trans ih
theorem loc_top : ∀ {f : Fo} {c : Str}, (names f).Nodup → (c ∈ tops f ↔ ∃ q, loc f c = some ([], q))
  | .nil, c, _ => ⟨(fun h => nomatch h), (fun ⟨q, h⟩ => by unfold loc at h; cases h)⟩
  | .cons d k r, c, hn => by
    obtain ⟨n1, n2, n3, n4, n5⟩ := nd_parts hn
    constructor
    · intro h
      have h' : c ∈ d :: tops r := h
      rcases List.mem_cons.mp h' with e | h2
      · subst e
        exact ⟨k, loc_here⟩
      · obtain ⟨q, e⟩ := (loc_top n4).mp h2
        have hx := loc_mem e
        exact ⟨q, (loc_by (fun (z : d = c) => n2 (z ▸ hx)) (loc_none fun z => n5 _ z hx)).trans e⟩
    · rintro ⟨q, h⟩
      show c ∈ d :: tops r
      rcases loc_cases h with ⟨rfl, _, _⟩ | ⟨_, b, e, _⟩ | ⟨_, _, h⟩
      · exact List.mem_cons_self
      · cases e
      · exact List.mem_cons_of_mem _ ((loc_top n4).mpr ⟨q, h⟩)
theorem tops_sub : ∀ f : Fo, (tops f).Sublist (names f)
  | .nil => List.Sublist.slnil
  | .cons d k r => List.Sublist.cons_cons _ ((tops_sub r).trans (List.sublist_append_right _ _))
theorem filter_mem : ∀ {l s : List Str}, l.Nodup → s.Sublist l → (l.filter fun x => decide (x ∈ s)) = s
  | [], s, _, h => by
    cases h
    rfl
  | x :: l, s, hn, h => by
    rw [List.nodup_cons] at hn
    cases h with
    | cons _ h =>
      have hx : x ∉ s := fun z => hn.1 (h.subset z)
      rw [List.filter_cons_of_neg (by simpa using hx)]
      exact filter_mem hn.2 h
    | cons_cons _ h =>
      rename_i s
      rw [List.filter_cons_of_pos (by simp)]
      congr 1
      have e : (l.filter fun y => decide (y ∈ x :: s)) = l.filter fun y => decide (y ∈ s) := by
        refine List.filter_congr fun y hy => ?_
        have : y ≠ x := fun z => hn.1 (z ▸ hy)
        simp [this]
      rw [e]
      exact filter_mem hn.2 h
/-- above and beneath are one thing, told from both ends -/
theorem up_down {f : Fo} {c o : Str} {a a' : List Str} {q q' : Fo} (hn : (names f).Nodup) (hc : loc f c = some (a, q)) (ho : loc f o = some (a', q')) : c ∈ a' ↔ o ∈ names q := by
  constructor
  · intro h
    obtain ⟨a1, a2, e⟩ := List.append_of_mem h
    obtain ⟨q1, h1, h2⟩ := loc_up hn ho _ _ _ e
    rw [hc] at h1
    cases h1
    exact h2
  · intro h
    obtain ⟨a2, q2, h2⟩ := loc_names h
    have := loc_down hn hc h2
    rw [ho] at this
    cases this
    simp
/-- what is right beneath a name -/
theorem kid_iff {f : Fo} {c o : Str} {a a' : List Str} {q q' : Fo} (hn : (names f).Nodup) (hq : (names q).Nodup) (hc : loc f c = some (a, q)) (ho : loc f o = some (a', q')) : a'.getLast? = some c ↔ o ∈ tops q := by
  constructor
  · intro h
    obtain ⟨a1, e⟩ : ∃ a1, a' = a1 ++ [c] := by
      rw [List.getLast?_eq_some_iff] at h
      exact h
    obtain ⟨q1, h1, h2⟩ := loc_up hn ho a1 [] c e
    rw [hc] at h1
    cases h1
    obtain ⟨a2, q2, h3⟩ := loc_names h2
    have h4 := loc_down hn hc h3
    rw [ho] at h4
    obtain ⟨e4, _⟩ := Prod.mk.inj (Option.some.inj h4)
    rw [e] at e4
    have e5 : [c] = c :: a2 := List.append_cancel_left e4
    have e6 : a2 = [] := by
      have := (List.cons.inj e5).2
      exact this.symm
    subst e6
    exact (loc_top hq).mpr ⟨q2, h3⟩
  · intro h
    obtain ⟨q2, h3⟩ := (loc_top hq).mp h
    have h4 := loc_down hn hc h3
    rw [ho] at h4
    obtain ⟨e4, _⟩ := Prod.mk.inj (Option.some.inj h4)
    rw [e4, List.getLast?_concat]
theorem sub_nodup {f : Fo} {c : Str} {a : List Str} {q : Fo} (hn : (names f).Nodup) (h : loc f c = some (a, q)) : (c :: names q).Nodup := by
  obtain ⟨A, B, e⟩ := loc_seg h
  rw [e, List.append_assoc, List.nodup_append] at hn
  exact (List.nodup_append.mp hn.2.1).1
theorem seg_sub {f : Fo} {c : Str} {a : List Str} {q : Fo} (h : loc f c = some (a, q)) : (c :: names q).Sublist (names f) := by
  obtain ⟨A, B, e⟩ := loc_seg h
  rw [e, List.append_assoc]
  exact (List.sublist_append_left _ _).trans (List.sublist_append_right _ _)
/-- the names beneath, child by child -/
def kidsOf (f : Fo) (c : Str) : List Str := match loc f c with
  | some (_, q) => c :: names q
  | none => []
theorem kids_flat : ∀ {q : Fo}, (names q).Nodup → (tops q).flatMap (kidsOf q) = names q
  | .nil, _ => rfl
  | .cons d k r, hn => by
    obtain ⟨n1, n2, n3, n4, n5⟩ := nd_parts hn
    show (d :: tops r).flatMap (kidsOf (.cons d k r)) = d :: (names k ++ names r)
    rw [List.flatMap_cons]
    have e1 : kidsOf (.cons d k r) d = d :: names k := by unfold kidsOf; rw [loc_here]
    have e2 : (tops r).flatMap (kidsOf (.cons d k r)) = (tops r).flatMap (kidsOf r) := by
      have : ∀ l : List Str, (∀ x ∈ l, x ∈ names r) → l.flatMap (kidsOf (.cons d k r)) = l.flatMap (kidsOf r) := by
        intro l
        induction l with
        | nil => intro _; rfl
        | cons x t ih =>
          intro h
          rw [List.flatMap_cons, List.flatMap_cons, ih fun y hy => h y (List.mem_cons_of_mem _ hy)]
          congr 1
          have hx := h x List.mem_cons_self
          unfold kidsOf
          rw [loc_by (fun (z : d = x) => n2 (z ▸ hx)) (loc_none fun z => n5 _ z hx)]
      exact this _ fun x hx => (tops_sub r).subset hx
    rw [e1, e2, kids_flat n4, List.cons_append]
end TM
namespace TM
open PySem L2
theorem perm_eq {α : Type} {R : α → α → Prop} (anti : ∀ a b, R a b → R b a → a = b) : ∀ {l m : List α}, l.Perm m → l.Pairwise R → m.Pairwise R → l = m
  | [], m, h, _, _ => by
    have := h.length_eq
    cases m with
    | nil => rfl
    | cons b m => simp at this
  | a :: l, [], h, _, _ => by
    have := h.length_eq
    simp at this
  | a :: l, b :: m, h, h1, h2 => by
    have hab : a = b := by
      have ha : a ∈ b :: m := h.subset List.mem_cons_self
      have hb : b ∈ a :: l := h.symm.subset List.mem_cons_self
      rcases List.mem_cons.mp ha with e | ha
      · exact e
      · rcases List.mem_cons.mp hb with e | hb
        · exact e.symm
        · exact anti a b ((List.pairwise_cons.mp h1).1 b hb) ((List.pairwise_cons.mp h2).1 a ha)
    subst hab
    rw [perm_eq anti (List.Perm.cons_inv h) (List.pairwise_cons.mp h1).2 (List.pairwise_cons.mp h2).2]
/-- the first i trees of a forest -/
def takeF : Nat → Fo → Fo
  | 0, _ => .nil
  | _ + 1, .nil => .nil
  | i + 1, .cons c k r => .cons c k (takeF i r)
theorem takeF_all : ∀ f : Fo, takeF (tops f).length f = f
  | .nil => rfl
  | .cons c k r => by
    show Fo.cons c k (takeF (tops r).length r) = _
    rw [takeF_all r]
theorem takeF_next : ∀ {f : Fo} {i : Nat} {c : Str}, (names f).Nodup → (tops f)[i]? = some c → ∃ k, loc f c = some ([], k) ∧ takeF (i + 1) f = app (takeF i f) (.cons c k .nil)
  | .nil, i, c, _, h => by simp [tops] at h
  | .cons d k r, 0, c, _, h => by
    have e : d = c := by simpa [tops] using h
    subst e
    exact ⟨k, loc_here, rfl⟩
  | .cons d k r, i + 1, c, hn, h => by
    have h' : (tops r)[i]? = some c := by simpa [tops] using h
    obtain ⟨n1, n2, n3, n4, n5⟩ := nd_parts hn
    obtain ⟨q, h1, h2⟩ := takeF_next n4 h'
    have hx := loc_mem h1
    refine ⟨q, (loc_by (fun (z : d = c) => n2 (z ▸ hx)) (loc_none fun z => n5 _ z hx)).trans h1, ?_⟩
    show Fo.cons d k (takeF (i + 1) r) = Fo.cons d k (app (takeF i r) (.cons c q .nil))
    rw [h2]
theorem takeF_sub : ∀ (f : Fo) (i : Nat), (names (takeF i f)).Sublist (names f)
  | _, 0 => List.nil_sublist _
  | .nil, i + 1 => List.Sublist.slnil
  | .cons c k r, i + 1 => by
    show (c :: (names k ++ names (takeF i r))).Sublist (c :: (names k ++ names r))
    exact List.Sublist.cons_cons _ (List.Sublist.append_left (takeF_sub r i) _)
/-- the pairs of one tree, picked out of a forest's -/
theorem pick_tree : ∀ {f : Fo} {c : Str} {k : Fo}, (names f).Nodup → loc f c = some ([], k) → (flat f none).filter (fun q => decide (q.1 ∈ c :: names k)) = flat (.cons c k .nil) none
  | .nil, _, _, _, h => by unfold loc at h; cases h
  | .cons d k' r, c, k, hn, h => by
    obtain ⟨n1, n2, n3, n4, n5⟩ := nd_parts hn
    have keep : ∀ (l : List Pr), (∀ q ∈ l, q.1 ∈ c :: names k) → l.filter (fun q => decide (q.1 ∈ c :: names k)) = l := fun l hl => List.filter_eq_self.mpr fun q hq => decide_eq_true (hl q hq)
    have drop : ∀ (l : List Pr), (∀ q ∈ l, q.1 ∉ c :: names k) → l.filter (fun q => decide (q.1 ∈ c :: names k)) = [] := fun l hl => List.filter_eq_nil_iff.mpr fun q hq z => hl q hq (of_decide_eq_true z)
    have nm : ∀ {g : Fo} {u : Option Str} {q : Pr}, q ∈ flat g u → q.1 ∈ names g := fun {g u q} hq => by rw [← flat_names g u]; exact List.mem_map.mpr ⟨q, hq, rfl⟩
    show ((d, none) :: (flat k' (some d) ++ flat r none)).filter _ = (c, none) :: (flat k (some c) ++ [])
    rcases loc_cases h with ⟨rfl, _, rfl⟩ | ⟨_, b, e, _⟩ | ⟨hd, hk, g⟩
    · rw [List.filter_cons_of_pos (by simp), List.filter_append, keep (flat k (some d)) fun q hq => List.mem_cons_of_mem _ (nm hq), drop (flat r none) fun q hq z => ?_]
      rcases List.mem_cons.mp z with z | z
      · exact n2 (z ▸ nm hq)
      · exact n5 _ z (nm hq)
    · cases e
    · have hs := seg_sub g
      rw [List.filter_cons_of_neg (by
        intro z
        exact n2 (hs.subset (of_decide_eq_true z))), List.filter_append, drop (flat k' (some d)) fun q hq z => n5 _ (nm hq) (hs.subset z), List.nil_append]
      exact pick_tree n4 g
end TM

set_option maxHeartbeats 2000000
/-! Words of our own, over any row. -/
namespace TX
open PySem L2 PyProof.Rows
/-- the built-in names that the text leaves alone -/
structure Bn (mg : Str → Option Value) : Prop where
  len : mg "len" = none
  isi : mg "isinstance" = none
  str : mg "str" = none
  list : mg "list" = none
  tuple : mg "tuple" = none
  dict : mg "dict" = none
  int : mg "int" = none
  range : mg "range" = none
  enum : mg "enumerate" = none
  all : mg "all" = none
  any : mg "any" = none
  max : mg "max" = none
  sorted : mg "sorted" = none
/-- a def of the module, ready to be called -/
structure Fn (K : PySem.W.Frag) (mg : Str → Option Value) (x : Str) (st : Stmt) (ps : List Str) (f : Addr) (fd : FuncData) : Prop where
  F : Fun K x x st f fd
  g : mg x = some (.ref f)
  b : Binds K fd ps []
/-- all that was tracked but at W is as it was -/
def Sm (W : Addr) (H H' : Hp) : Prop := ∀ b o, b ≠ W → H b = some o → H' b = some o
theorem Sm.rfl' {W : Addr} {H : Hp} : Sm W H H := fun _ _ _ h => h
theorem Sm.trans {W : Addr} {H H1 H2 : Hp} (a : Sm W H H1) (b : Sm W H1 H2) : Sm W H H2 := fun c o n h => b c o n (a c o n h)
theorem Sm.of {W : Addr} {H H' : Hp} (s : Same H H') : Sm W H H' := fun c o _ h => s c o h
theorem Same.new {H : Hp} {p : Addr} {o : HO} (h : H p = none) : Same H (upd H p o) := fun a u e => by rw [upd_ne (ne_of_none e h)]; exact e
theorem Same.new' {H H1 : Hp} {p : Addr} {o : HO} (s : Same H H1) (h : H1 p = none) : Same H (upd H1 p o) := s.trans (Same.new h)
theorem Sm.new {W : Addr} {H H1 : Hp} {p : Addr} {o : HO} (s : Sm W H H1) (h : H1 p = none) : Sm W H (upd H1 p o) := s.trans (.of (Same.new h))
theorem Sm.put {W : Addr} {H H1 : Hp} {o : HO} (s : Sm W H H1) : Sm W H (upd H1 W o) := fun a u n e => by rw [upd_ne n]; exact s a u n e
/-- a well: three ints; n draws may follow -/
def WellAt (n : Nat) (H : Hp) (W : Addr) : Prop := ∃ a b c : Int, H W = some (.lst [.int a, .int b, .int c]) ∧ 0 ≤ b ∧ b < 2147483648 ∧ 0 ≤ c ∧ c + n ≤ 1000000000000
theorem WellAt.mono {n m : Nat} {H : Hp} {W : Addr} (h : WellAt n H W) (hm : m ≤ n) : WellAt m H W := by
  obtain ⟨a, b, c, e, h1, h2, h3, h4⟩ := h
  exact ⟨a, b, c, e, h1, h2, h3, by omega⟩
theorem WellAt.same {n : Nat} {H H' : Hp} {W : Addr} (h : WellAt n H W) (s : Same H H') : WellAt n H' W := by
  obtain ⟨a, b, c, e, r⟩ := h
  exact ⟨a, b, c, s _ _ e, r⟩
theorem WellAt.new {n : Nat} {H : Hp} {W p : Addr} {o : HO} (h : WellAt n H W) (hp : H p = none) : WellAt n (upd H p o) W := h.same (Same.new hp)
theorem WellAt.ne {n : Nat} {H : Hp} {W p : Addr} (h : WellAt n H W) (hp : H p = none) : W ≠ p := by
  obtain ⟨a, b, c, e, r⟩ := h
  exact ne_of_none e hp
/-- a turn's or a test's joint: what is known of the slots and the heap behind -/
theorem two_le : (2 : Nat) ≤ sizeLine := by decide
theorem small100 {n : Nat} (h : n ≤ 1000) : n ≤ sizeLine := Nat.le_trans h (by decide)
end TX
namespace TX
open PySem L2 PyProof.Rows
theorem Same.mut {H H1 : Hp} {p : Addr} {o : HO} (s : Same H H1) (h : H p = none) : Same H (upd H1 p o) := fun a u e => by rw [upd_ne (ne_of_none e h)]; exact s a u e
theorem Sm.mut {W : Addr} {H H1 : Hp} {p : Addr} {o : HO} (s : Sm W H H1) (h : H p = none) : Sm W H (upd H1 p o) := fun a u n e => by rw [upd_ne (ne_of_none e h)]; exact s a u n e
theorem WellAt.upd {n : Nat} {H : Hp} {W p : Addr} {o : HO} (h : WellAt n H W) (hp : W ≠ p) : WellAt n (L2.upd H p o) W := by
  obtain ⟨a, b, c, e, r⟩ := h
  exact ⟨a, b, c, by rw [upd_ne hp]; exact e, r⟩
theorem Sm.free {W : Addr} {H H' : Hp} (e : Sm W H H') {n : Nat} (hW : WellAt n H W) {l : Addr} (h : H' l = Option.none) (hW' : ∃ m, WellAt m H' W) : H l = Option.none := by
  cases q : H l with
  | none => rfl
  | some o =>
    obtain ⟨m, a, b, c, z, _⟩ := hW'
    have : l ≠ W := fun x => by rw [x, z] at h; cases h
    rw [e l o this q] at h
    cases h
/-- signs as texts -/
def S (l : List Nat) : Str := ⟨l.toArray⟩
theorem S_len (l : List Nat) : (S l).length = l.length := by show l.toArray.size = _; rw [List.size_toArray]
theorem S_cps (l : List Nat) : (S l).cps.toList = l := rfl
theorem S_inj {l m : List Nat} (h : S l = S m) : l = m := by
  have := congrArg (fun s : Str => s.cps.toList) h
  exact this
theorem S_eta (s : Str) : s = S s.cps.toList := by
  obtain ⟨⟨l⟩⟩ := s
  rfl
theorem S_app (l m : List Nat) : S l ++ S m = S (l ++ m) := by
  show (⟨l.toArray ++ m.toArray⟩ : Str) = ⟨(l ++ m).toArray⟩
  simp
theorem join_empty : ∀ ys : List (List Nat), Txt.join (S []) (ys.map S) = S ys.flatten := by
  intro ys
  show Builtin.Str.glued (S []) (ys.map S) = _
  rw [StrLaws.glued_eq_join]
  induction ys with
  | nil => rfl
  | cons y r ih =>
    cases r with
    | nil =>
      show S y = S ([y].flatten)
      simp
    | cons z r =>
      show S y ++ S [] ++ Str.join (S []) ((z :: r).map S) = _
      rw [ih, S_app, S_app]
      simp
theorem cutS_S (l : List Nat) (lo hi : Option Int) : cutS (S l) lo hi = S ((l.drop (HT.sIx l.length 0 lo)).take (HT.sIx l.length l.length hi - HT.sIx l.length 0 lo)) := by
  unfold cutS
  rw [S_len]
  rfl
/-- the letters -/
def abc : Str := Str.ofString "abcdefghijklmnopqrstuvwxyz"
theorem abc_eq : abc = S [97, 98, 99, 100, 101, 102, 103, 104, 105, 106, 107, 108, 109, 110, 111, 112, 113, 114, 115, 116, 117, 118, 119, 120, 121, 122] := by decide +kernel
theorem abc_at {j : Nat} (h : j < 26) : atI abc.cps.toList (j : Int) = some (97 + j) := by
  rw [abc_eq]
  refine atI_nat ?_
  rw [S_cps]
  revert j
  decide
theorem abc_len : abc.length ≤ sizeLine := by rw [abc_eq, S_len]; decide
/-- the k-th name of a well's -/
def nmOf (base : List Nat) (spot more bg ap k : Nat) : Str := S (base.take spot ++ (97 + (bg + ap * k) % 26) :: (base.drop spot).take more)
theorem nm_ok {base : List Nat} {spot more bg ap k : Nat} (hb : base.length = 7) (hc : ∀ c ∈ base, 97 ≤ c ∧ c ≤ 122) (hs : spot + more ≤ 7) : TM.NameOk (nmOf base spot more bg ap k) := by
  unfold TM.NameOk nmOf
  rw [S_len, S_cps]
  simp only [List.length_append, List.length_cons, List.length_take, List.length_drop, hb]
  refine ⟨by omega, by omega, fun c h => ?_⟩
  rcases List.mem_append.mp h with h | h
  · exact hc c (List.mem_of_mem_take h)
  · rcases List.mem_cons.mp h with h | h
    · have := Nat.mod_lt (bg + ap * k) (show 26 > 0 by decide)
      omega
    · exact hc c (List.mem_of_mem_drop (List.mem_of_mem_take h))
theorem nm_inj {base : List Nat} {spot more bg ap k k' : Nat} (ha : ap ∈ [1, 3, 5, 7, 9, 11, 15, 17]) (hk : k < 26) (hk' : k' < 26) (h : nmOf base spot more bg ap k = nmOf base spot more bg ap k') : k = k' := by
  have h1 := S_inj h
  have h2 := (List.append_inj h1 rfl).2
  have h3 : 97 + (bg + ap * k) % 26 = 97 + (bg + ap * k') % 26 := (List.cons.inj h2).1
  simp only [List.mem_cons, List.not_mem_nil, or_false] at ha
  rcases ha with e | e | e | e | e | e | e | e <;> subst e <;> omega
theorem nm_nodup {base : List Nat} {spot more bg ap n : Nat} (ha : ap ∈ [1, 3, 5, 7, 9, 11, 15, 17]) (hn : n ≤ 26) : ((List.range n).map (nmOf base spot more bg ap)).Nodup := by
  rw [List.nodup_iff_pairwise_ne, List.pairwise_map]
  refine List.Pairwise.imp_of_mem ?_ (List.nodup_iff_pairwise_ne.mp List.nodup_range)
  intro a b ha' hb' hne e
  exact hne (nm_inj ha (by have := List.mem_range.mp ha'; omega) (by have := List.mem_range.mp hb'; omega) e)
end TX
namespace TX
open PySem L2 PyProof.Rows
theorem sum_signs (cs : List Nat) : (List.map (fun x : Str => x.length) (cs.map fun c => S [c])).sum = cs.length := by
  induction cs with
  | nil => rfl
  | cons c r ih =>
    rw [List.map_cons, List.map_cons, List.sum_cons, ih, S_len, List.length_cons]
    simp
    omega
theorem join_signs (cs : List Nat) : Txt.join (Str.ofString "") (cs.map fun c => S [c]) = S cs := by
  have e1 : Str.ofString "" = S [] := by decide +kernel
  have e2 : cs.map (fun c => S [c]) = (cs.map fun c => [c]).map S := by rw [List.map_map]; rfl
  have e3 : (cs.map fun c => [c]).flatten = cs := by
    clear e2
    induction cs with
    | nil => rfl
    | cons c r ih => rw [List.map_cons, List.flatten_cons, ih]; rfl
  rw [e1, e2, join_empty, e3]
theorem len_empty : (Str.ofString "").length = 0 := by decide +kernel
end TX
namespace TX
open PySem L2 PyProof.Rows
theorem line100 {n : Nat} (h : n ≤ 1000) : n ≤ sizeLine := Nat.le_trans h (by decide)
theorem line100' {n : Nat} (h : n ≤ 1000) : n < sizeLine := Nat.lt_of_le_of_lt h (by decide)
theorem sapp_len (a b : Str) : (a ++ b).length = a.length + b.length := by
  show (a.cps ++ b.cps).size = _
  rw [Array.size_append]
  rfl
end TX
namespace TX
open PySem L2 PyProof.Rows TM
def optV : Option Str → V
  | none => .non
  | some x => .str x
/-- tuples of a name and what stands over it -/
def TupsAt (H : Hp) : List Addr → List Pr → Prop := Paired fun a q => H a = some (.tup [.str q.1, optV q.2])
def PairsAt (H : Hp) (p : Addr) (ps : List Pr) : Prop := ∃ as, H p = some (.lst (as.map V.ref)) ∧ TupsAt H as ps
theorem TupsAt.sm {W : Addr} {H H' : Hp} {as : List Addr} {ps : List Pr} (h : TupsAt H as ps) (s : Sm W H H') (w : ∃ n, WellAt n H W) : TupsAt H' as ps :=
  Paired.mapP h fun a q e => s a _ (by obtain ⟨n, x, y, z, e2, _⟩ := w; exact ne_of e e2 (by intro z; cases z)) e
theorem TupsAt.same {H H' : Hp} {as : List Addr} {ps : List Pr} (h : TupsAt H as ps) (s : Same H H') : TupsAt H' as ps := Paired.mapP h fun a q e => s a _ e
theorem TupsAt.put {H : Hp} {as : List Addr} {ps : List Pr} {p : Addr} {xs : List V} {o : HO} (h : TupsAt H as ps) (hp : H p = some (.lst xs)) : TupsAt (upd H p o) as ps :=
  Paired.mapP h fun a q e => by rw [upd_ne (ne_of e hp (by intro z; cases z))]; exact e
theorem TupsAt.snoc {H : Hp} {as : List Addr} {ps : List Pr} {a : Addr} {q : Pr} (h : TupsAt H as ps) (e : H a = some (.tup [.str q.1, optV q.2])) : TupsAt H (as ++ [a]) (ps ++ [q]) := by
  unfold TupsAt at *
  induction h with
  | nil => exact .cons e .nil
  | cons h _ ih => exact .cons h ih
theorem TupsAt.len {H : Hp} {as : List Addr} {ps : List Pr} (h : TupsAt H as ps) : as.length = ps.length := Paired.length h
theorem PairsAt.same {H H' : Hp} {p : Addr} {ps : List Pr} (h : PairsAt H p ps) (s : Same H H') : PairsAt H' p ps := by
  obtain ⟨as, e, t⟩ := h
  exact ⟨as, s _ _ e, t.same s⟩
theorem PairsAt.sm {W : Addr} {H H' : Hp} {p : Addr} {ps : List Pr} (h : PairsAt H p ps) (s : Sm W H H') (w : ∃ n, WellAt n H W) (hp : p ≠ W) : PairsAt H' p ps := by
  obtain ⟨as, e, t⟩ := h
  exact ⟨as, s _ _ hp e, t.sm s w⟩
end TX
namespace TX
open PySem L2 PyProof.Rows TM
def kvsOf (ps : List Pr) : List (Key × V) := ps.map fun q => ((Sum.inr q.1 : Key), optV q.2)
theorem kvs_none : ∀ {ps : List Pr} {x : Str}, x ∉ ps.map Prod.fst → valV (kvsOf ps) (Sum.inr x : Key) = none
  | [], _, _ => rfl
  | (c, o) :: r, x, h => by
    have hne : ¬ ((Sum.inr c : Key) = Sum.inr x) := fun e => by
      injection e with e
      exact h (by rw [e]; exact List.mem_cons_self)
    show valV (((Sum.inr c : Key), optV o) :: kvsOf r) _ = none
    rw [valV_neg hne]
    exact kvs_none fun hx => h (List.mem_cons_of_mem _ hx)
theorem kvs_some : ∀ {ps : List Pr} {x : Str} {o : Option Str}, (ps.map Prod.fst).Nodup → (x, o) ∈ ps → valV (kvsOf ps) (Sum.inr x : Key) = some (optV o)
  | [], _, _, _, h => nomatch h
  | (c, p) :: r, x, o, hn, h => by
    rw [List.map_cons, List.nodup_cons] at hn
    rcases List.mem_cons.mp h with e | h
    · obtain ⟨rfl, rfl⟩ := Prod.mk.inj e
      exact valV_pos (p := ((Sum.inr x : Key), optV o)) rfl
    · have hne : ¬ ((Sum.inr c : Key) = Sum.inr x) := fun e => by
        injection e with e
        exact hn.1 (by rw [e]; exact List.mem_map.mpr ⟨(x, o), h, rfl⟩)
      show valV (((Sum.inr c : Key), optV p) :: kvsOf r) _ = _
      rw [valV_neg hne]
      exact kvs_some hn.2 h
theorem optV_inj {o o' : Option Str} (h : optV o = optV o') : o = o' := by
  cases o with
  | none =>
    cases o' with
    | none => rfl
    | some y => cases h
  | some x =>
    cases o' with
    | none => cases h
    | some y =>
      have h' : V.str x = V.str y := h
      injection h' with h'
      rw [h']
/-- in a list or in a dict -/
theorem PC.or {X : Cx} {op : CmpOp} {a b : Expr} {t u : TE} (h1 : PC X op a b t) (h2 : PC X op a b u) : PC X op a b (fun σ H Q => t σ H Q ∨ u σ H Q) :=
  ⟨fun pins s σ H Q I h => h.elim (h1.run pins s σ H Q I) (h2.run pins s σ H Q I)⟩
theorem PC.ofR {X : Cx} {op : CmpOp} {a b : Expr} {ta tb : TE} {r : R2} (ho : OpR X (compareOp op) r) (ha : PE X a ta) (hb : PE X b tb) : PC X op a b (tOp r ta tb) :=
  ⟨fun pins s σ H Q I h => thn (ha.run pins s σ H _ I h) fun u s1 ⟨x, H1, I1, rx, h1⟩ => thn (hb.run pins s1 σ H1 _ I1 h1) fun v s2 ⟨y, H2, I2, ry, h2⟩ => ho pins s2 σ H2 x y u v Q I2 rx ry h2⟩
/-- the order of one sign and a letter -/
theorem lt_sign (c d : Nat) : ([c] < [d]) ↔ c < d := by
  constructor
  · intro h
    cases h with
    | rel h => exact h
    | cons h => cases h
  · intro h
    exact List.Lex.rel h
theorem str_a : Str.ofString "a" = S [97] := by decide +kernel
theorem str_z : Str.ofString "z" = S [122] := by decide +kernel
end TX
namespace TX
open PySem L2 PyProof.Rows TM
theorem TupsAt.get {H : Hp} {as : List Addr} {ps : List Pr} (h : TupsAt H as ps) : ∀ {i : Nat} {a : Addr}, as[i]? = some a → ∃ q, ps[i]? = some q ∧ H a = some (.tup [.str q.1, optV q.2]) := by
  unfold TupsAt at h
  induction h with
  | nil => intro i a e; simp at e
  | cons h _ ih =>
    intro i a e
    cases i with
    | zero =>
      simp at e
      subst e
      exact ⟨_, by simp, h⟩
    | succ i =>
      obtain ⟨q, h1, h2⟩ := ih (by simpa using e)
      exact ⟨q, by simpa using h1, h2⟩
theorem kvs_put {ps : List Pr} {c : Str} {o : Option Str} (h : c ∉ ps.map Prod.fst) : putK (kvsOf ps) (Sum.inr c : Key) (optV o) = kvsOf (ps ++ [(c, o)]) := by
  rw [putK_new _ (kvs_none h)]
  unfold kvsOf
  rw [List.map_append]
  rfl
theorem kvs_len (ps : List Pr) : (kvsOf ps).length = ps.length := by unfold kvsOf; rw [List.length_map]
theorem kvs_get {ps : List Pr} {i : Nat} : (kvsOf ps)[i]? = ps[i]?.map fun q => ((Sum.inr q.1 : Key), optV q.2) := by unfold kvsOf; rw [List.getElem?_map]
end TX
namespace TX
open PySem L2 PyProof.Rows TM
/-- a dict comprehension over a walk: Pr by the turn and the heap -/
theorem dc_walk {J : It} {n : Nat} {G : Hp → Prop} {Y : Nat → Hp → V → Hp → Prop} (wk : Walk J n G Y) {tgt : TG} {cond : TT} {key val : TE} {own : List Nat} {slots : L2.St} {Hs : Hp} {Dn : Addr} {Qf : Hp → Prop}
    (Pw : Nat → Hp → Prop) (start : Pw 0 (upd Hs Dn (.dK []))) (good : ∀ i h, i ≤ n → Pw i h → G h)
    (turn : ∀ i v h h', i < n → Pw i h → Y i h v h' → tgt v (wipe slots own) h' fun s2 h2 => wipe s2 own = wipe slots own ∧ cond s2 h2 fun b h3 =>
      (if b = true then (key s2 h3 fun ky h4 => val s2 h4 fun vl h5 => ∃ es kk, ky = kV kk ∧ h5 Dn = some (.dK es) ∧ es.length < sizeLine ∧ Pw (i + 1) (upd h5 Dn (.dK (putK es kk vl)))) else Pw (i + 1) h3))
    (fin : ∀ h, Pw n h → Qf h) :
    ∃ Z : Nat → Nat → Hp → Prop, (∃ m, Z 0 m (upd Hs Dn (.dK []))) ∧ ∀ i m h, Z i m h → (J.stop i h ∧ Qf h) ∨ (J.go i h ∧ ∃ Nx : Hp → Prop, (∀ h', Nx h' → ∃ m', m' < m ∧ Z (i + 1) m' h') ∧
      ∀ v h', J.yld i h v h' → tgt v (wipe slots own) h' fun s2 h2 => wipe s2 own = wipe slots own ∧ cond s2 h2 fun b h3 =>
        (if b = true then (key s2 h3 fun ky h4 => val s2 h4 fun vl h5 => ∃ es kk, ky = kV kk ∧ h5 Dn = some (.dK es) ∧ es.length < sizeLine ∧ Nx (upd h5 Dn (.dK (putK es kk vl)))) else Nx h3)) := by
  refine ⟨fun i m h => i ≤ n ∧ m = n - i ∧ Pw i h, ⟨n, Nat.zero_le _, by simp, start⟩, ?_⟩
  rintro i m h ⟨hi, rfl, pw⟩
  have g := good i h hi pw
  rcases Nat.lt_or_ge i n with hlt | hge
  · exact .inr ⟨wk.goes i h hlt g, Pw (i + 1), fun h' p' => ⟨n - (i + 1), by omega, hlt, rfl, p'⟩, fun v h' y => turn i v h h' hlt pw (wk.yields i h v h' hlt g y)⟩
  · obtain rfl : i = n := by omega
    exact .inl ⟨wk.stops h g, fin h pw⟩
/-- what is asked of a tree's names -/
structure FoOk (f : Fo) : Prop where
  nd : (names f).Nodup
  le : (names f).length ≤ 8
  ok : ∀ x ∈ names f, NameOk x
theorem foOk_mk {ps : List Pr} (va : Valid [] ps) (hl : ps.length ≤ 8) (hn : ∀ x ∈ ps.map Prod.fst, NameOk x) : FoOk (mk ps none) :=
  ⟨ord_nodup va, Nat.le_trans (ord_le va none) hl, fun x hx => hn x ((ord_perm va).mem_iff.mp hx)⟩
theorem kcol : ¬ (("_columns" : Str) = "_over") := by decide +kernel
/-- the attributes of a tree, in the order in which they are stored -/
def tflds (l d : Addr) : List (Str × V) := putF "_over" (.ref d) (putF "_columns" (.ref l) [])
theorem tflds_col (l d : Addr) : (tflds l d).lookup ("_columns" : Str) = some (.ref l) := by
  unfold tflds
  rw [lookup_putF, if_neg kcol, lookup_putF, if_pos rfl]
theorem tflds_over (l d : Addr) : (tflds l d).lookup ("_over" : Str) = some (.ref d) := by
  unfold tflds
  rw [lookup_putF, if_pos rfl]
theorem tflds_no (l d : Addr) {m : Str} (h1 : ¬ m = "_over") (h2 : ¬ m = "_columns") : (tflds l d).lookup m = none := by
  unfold tflds
  rw [lookup_putF, if_neg h1, lookup_putF, if_neg h2]
  rfl
theorem tflds_len (l d : Addr) : (tflds l d).length < 1000 := by
  unfold tflds
  show (if ("_columns" : Str) = "_over" then [(("_columns" : Str), V.ref d)] else (("_columns" : Str), V.ref l) :: putF "_over" (V.ref d) []).length < 1000
  rw [if_neg kcol]
  show 2 < 1000
  decide
/-- a tree stands at p -/
def TreeAt (C : Addr) (H : Hp) (p : Addr) (f : Fo) : Prop := ∃ dx l d, H p = some (.ins C dx (tflds l d)) ∧ H l = some (.lst ((names f).map V.str)) ∧ H d = some (.dK (kvsOf (flat f none)))
theorem TreeAt.same {C : Addr} {H H' : Hp} {p : Addr} {f : Fo} (t : TreeAt C H p f) (s : Same H H') : TreeAt C H' p f := by
  obtain ⟨dx, l, d, h1, h2, h3⟩ := t
  exact ⟨dx, l, d, s _ _ h1, s _ _ h2, s _ _ h3⟩
/-- an own class that isinstance may be asked of -/
structure Ic (K : PySem.W.Frag) (C : Addr) : Prop where
  ha : PySem.W.findIn K (.ref C) "__class__" = some (some (.builtin "object.__class__"))
  hn : PySem.W.specialIn K (.builtin "object.__class__") "__get__" = some (some (.builtin "getset_descriptor.__get__"))
  htk : PySem.W.takesIn K (.builtin "object.__class__") = some true
  hm : PySem.W.mroIn K C (.type "object") = some true
  me : PySem.W.kitOne K (.ref C) (.ref C) = some true
/-- what the top says of the class -/
structure Tc (K : PySem.W.Frag) (mg : Str → Option Value) (C : Addr) : Prop where
  cl : Cls K C
  nC : NoAttr K C "_columns"
  nO : NoAttr K C "_over"
  g : mg "Tree" = some (.ref C)
  ins : Ic K C
end TX
namespace TX
open PySem L2 PyProof.Rows TM
theorem strOk_name {x : Str} (h : NameOk x) : PyData.strOk x = true := by
  unfold PyData.strOk
  rw [Array.all_eq_true']
  intro c hc
  have := h.2.2 c (Array.mem_toList_iff.mpr hc)
  exact decide_eq_true (by omega)
def dS (ns : List Str) : PyData := .list (ns.map .str)
def dO : Option Str → PyData
  | none => .none
  | some x => .str x
def dP (ps : List Pr) : PyData := .list (ps.map fun q => .tuple [.str q.1, dO q.2])
theorem canS : ∀ {ns : List Str}, (∀ x ∈ ns, NameOk x) → PyData.canLayAll0 (ns.map .str) = true
  | [], _ => rfl
  | x :: r, h => by
    rw [List.map_cons]
    unfold PyData.canLayAll0
    rw [show PyData.canLay0 (.str x) = true from strOk_name (h x List.mem_cons_self), canS fun y hy => h y (List.mem_cons_of_mem _ hy)]
    rfl
theorem depS : ∀ (ns : List Str), PyData.depthAll (ns.map .str) = 0
  | [] => rfl
  | x :: r => by
    rw [List.map_cons]
    unfold PyData.depthAll
    rw [depS r]
    rfl
theorem shS {ns : List Str} (h : ∀ x ∈ ns, NameOk x) : SeqAt.shaped (dS ns) = true := by
  unfold SeqAt.shaped dS
  have h1 : PyData.canLay0 (.list (ns.map .str)) = true := by unfold PyData.canLay0; exact canS h
  have h2 : PyData.depth (.list (ns.map .str)) ≤ 64 := by unfold PyData.depth; rw [depS]; decide
  rw [h1, decide_eq_true h2]
  rfl
theorem eqvS : ∀ (ns ms : List Str), PyData.eqvAll (ns.map .str) (ms.map .str) = decide (ns = ms)
  | [], [] => rfl
  | [], _ :: _ => rfl
  | _ :: _, [] => rfl
  | x :: r, y :: t => by
    rw [List.map_cons, List.map_cons]
    unfold PyData.eqvAll PyData.eqv
    rw [eqvS r t]
    by_cases h : x = y <;> by_cases h2 : r = t <;> simp [h, h2]
theorem DpAll_strs {K : PySem.W.Frag} {H : Hp} : ∀ (ns : List Str), DpAll K H (ns.map V.str) (ns.map .str)
  | [] => .nil
  | x :: r => .cons (.str x) (DpAll_strs r)
theorem DpS {K : PySem.W.Frag} {H : Hp} {a : Addr} {ns : List Str} (h : H a = some (.lst (ns.map V.str))) : Dp K H (.ref a) (dS ns) := .lst (.of h) (DpAll_strs ns)
end TX
namespace TX
open PySem L2 PyProof.Rows TM
/-- all names of a list of pairs are names -/
def PsOk (ps : List Pr) : Prop := ∀ q ∈ ps, NameOk q.1 ∧ ∀ x, q.2 = some x → NameOk x
theorem PsOk.flat {f : Fo} (h : FoOk f) : PsOk (flat f none) := fun q hq => by
  refine ⟨h.ok _ ?_, fun x hx => ?_⟩
  · rw [← flat_names f none]
    exact List.mem_map.mpr ⟨q, hq, rfl⟩
  · rcases over_flat f none q hq with e | ⟨y, hy, e⟩
    · rw [e] at hx; cases hx
    · rw [e] at hx
      cases hx
      exact h.ok _ hy
theorem can_pair {q : Pr} (h : NameOk q.1 ∧ ∀ x, q.2 = some x → NameOk x) : PyData.canLay0 (.tuple [.str q.1, dO q.2]) = true := by
  obtain ⟨c, o⟩ := q
  have h1 : PyData.canLay0 (.str c) = true := strOk_name h.1
  have h2 : PyData.canLay0 (dO o) = true := by
    cases o with
    | none => rfl
    | some x => exact strOk_name (h.2 x rfl)
  unfold PyData.canLay0 PyData.canLayAll0 PyData.canLayAll0 PyData.canLayAll0
  rw [h1, h2]
  rfl
theorem canP : ∀ {ps : List Pr}, PsOk ps → PyData.canLayAll0 (ps.map fun q => .tuple [.str q.1, dO q.2]) = true
  | [], _ => rfl
  | x :: r, h => by
    rw [List.map_cons]
    unfold PyData.canLayAll0
    rw [can_pair (h x List.mem_cons_self), canP fun y hy => h y (List.mem_cons_of_mem _ hy)]
    rfl
theorem dep_dO (o : Option Str) : PyData.depth (dO o) = 0 := by cases o <;> rfl
theorem depP : ∀ (ps : List Pr), PyData.depthAll (ps.map fun q => .tuple [.str q.1, dO q.2]) ≤ 1
  | [] => Nat.zero_le _
  | x :: r => by
    rw [List.map_cons]
    unfold PyData.depthAll
    have h1 : PyData.depth (.tuple [.str x.1, dO x.2]) = 1 := by
      unfold PyData.depth PyData.depthAll PyData.depthAll PyData.depthAll
      rw [dep_dO]
      rfl
    have := depP r
    rw [h1]
    omega
theorem shP {ps : List Pr} (h : PsOk ps) : SeqAt.shaped (dP ps) = true := by
  unfold SeqAt.shaped dP
  have h1 : PyData.canLay0 (.list (ps.map fun q => .tuple [.str q.1, dO q.2])) = true := by unfold PyData.canLay0; exact canP h
  have h2 : PyData.depth (.list (ps.map fun q => .tuple [.str q.1, dO q.2])) ≤ 64 := by
    unfold PyData.depth
    have := depP ps
    omega
  rw [h1, decide_eq_true h2]
  rfl
theorem eqv_dO : ∀ (o p : Option Str), PyData.eqv (dO o) (dO p) = decide (o = p)
  | none, none => rfl
  | none, some _ => rfl
  | some _, none => rfl
  | some x, some y => by
    show PyData.eqv (.str x) (.str y) = _
    unfold PyData.eqv
    by_cases h : x = y <;> simp [h]
theorem eqv_pair (q r : Pr) : PyData.eqv (.tuple [.str q.1, dO q.2]) (.tuple [.str r.1, dO r.2]) = decide (q = r) := by
  obtain ⟨a, b⟩ := q
  obtain ⟨c, d⟩ := r
  unfold PyData.eqv PyData.eqvAll PyData.eqvAll PyData.eqvAll
  rw [eqv_dO]
  have : PyData.eqv (.str a) (.str c) = decide (a = c) := by unfold PyData.eqv; by_cases h : a = c <;> simp [h]
  show (PyData.eqv (.str a) (.str c) && (decide (b = d) && true)) = _
  rw [this]
  by_cases h : a = c <;> by_cases h2 : b = d <;> simp [h, h2]
theorem eqvP : ∀ (ps qs : List Pr), PyData.eqvAll (ps.map fun q => .tuple [.str q.1, dO q.2]) (qs.map fun q => .tuple [.str q.1, dO q.2]) = decide (ps = qs)
  | [], [] => rfl
  | [], _ :: _ => rfl
  | _ :: _, [] => rfl
  | x :: r, y :: t => by
    rw [List.map_cons, List.map_cons]
    unfold PyData.eqvAll
    rw [eqvP r t, eqv_pair]
    by_cases h : x = y <;> by_cases h2 : r = t <;> simp [h, h2]
theorem Dp_optV {K : PySem.W.Frag} {H : Hp} : ∀ (o : Option Str), Dp K H (optV o) (dO o)
  | none => .non
  | some x => .str x
theorem DpAll_tups {K : PySem.W.Frag} {H : Hp} {as : List Addr} {ps : List Pr} (h : TupsAt H as ps) : DpAll K H (as.map V.ref) (ps.map fun q => .tuple [.str q.1, dO q.2]) := by
  unfold TupsAt at h
  induction h with
  | nil => exact .nil
  | cons h _ ih => exact .cons (.tup (.of h) (.cons (.str _) (.cons (Dp_optV _) .nil))) ih
theorem PairsAt.dp {K : PySem.W.Frag} {H : Hp} {a : Addr} {ps : List Pr} (h : PairsAt H a ps) : Dp K H (.ref a) (dP ps) := by
  obtain ⟨as, e, t⟩ := h
  exact .lst (.of e) (DpAll_tups t)
theorem eqv_dS (ns ms : List Str) : PyData.eqv (dS ns) (dS ms) = decide (ns = ms) := by
  unfold dS PyData.eqv
  exact eqvS ns ms
theorem eqv_dP (ps qs : List Pr) : PyData.eqv (dP ps) (dP qs) = decide (ps = qs) := by
  unfold dP PyData.eqv
  exact eqvP ps qs
end TX
namespace TX
open PySem L2 PyProof.Rows TM
/-- a method of a class, ready to be called -/
structure Mt (K : PySem.W.Frag) (C : Addr) (m qual : Str) (st : Stmt) (ps : List Str) (f : Addr) (fd : FuncData) : Prop where
  F : Fun K m qual st f fd
  me : Meth K C m f
  b : Binds K fd ps []
theorem TupsAt.app {H : Hp} {as bs : List Addr} {ps qs : List Pr} (h : TupsAt H as ps) (k : TupsAt H bs qs) : TupsAt H (as ++ bs) (ps ++ qs) := by
  unfold TupsAt at *
  induction h with
  | nil => exact k
  | cons h _ ih => exact .cons h ih
/-- an error class of our own that is raised with a text -/
structure Ec (K : PySem.W.Frag) (mg : Str → Option Value) (x : Str) (C : Addr) : Prop where
  ex : PySem.W.excIn K C [.type "ValueError", .type "Exception", .type "BaseException", .type "object"] "ValueError.__new__" = true
  g : mg x = some (.ref C)
  k : PySem.W.keepIn K (.ref C) = true
  b : PySem.W.subIn K (.ref C) (.type "BaseException") = some true
  t : PySem.W.typeIn K (.ref C) = some (.type "type")
theorem FoOk.app {f g : Fo} (hf : FoOk f) (hg : FoOk g) (hd : ∀ x ∈ names f, x ∉ names g) (hl : (names f).length + (names g).length ≤ 8) : FoOk (app f g) := by
  refine ⟨?_, ?_, fun x hx => ?_⟩
  · rw [names_app, List.nodup_append]
    exact ⟨hf.nd, hg.nd, fun a ha b hb e => hd a ha (e ▸ hb)⟩
  · rw [names_app, List.length_append]
    exact hl
  · rw [names_app] at hx
    rcases List.mem_append.mp hx with hx | hx
    · exact hf.ok x hx
    · exact hg.ok x hx
theorem inV_str (x : Str) (ns : List Str) : inV (.str x) (ns.map V.str) = decide (x ∈ ns) := by
  unfold inV
  induction ns with
  | nil => rfl
  | cons y r ih =>
    rw [List.map_cons, List.any_cons, ih]
    show ((y == x) || decide (x ∈ r)) = _
    by_cases h : x = y
    · simp [h]
    · have h' : ¬ y = x := fun e => h e.symm
      simp [h, h']
theorem flat_strs (ns : List Str) : (ns.map V.str).all flatV = true := by
  rw [List.all_map, List.all_eq_true]
  intro x _
  rfl
end TX
namespace TX
open PySem L2 PyProof.Rows TM
theorem merge_kvs : ∀ (qs pre : List Pr), ((pre ++ qs).map Prod.fst).Nodup → mergeK (kvsOf pre) (kvsOf qs) = kvsOf (pre ++ qs)
  | [], pre, _ => by rw [List.append_nil]; rfl
  | (c, o) :: r, pre, h => by
    have hc : c ∉ pre.map Prod.fst := by
      rw [List.map_append, List.nodup_append] at h
      intro hm
      exact h.2.2 c hm c (by simp) rfl
    show mergeK (putK (kvsOf pre) (Sum.inr c : Key) (optV o)) (kvsOf r) = _
    rw [kvs_put hc, merge_kvs r (pre ++ [(c, o)]) (by simpa using h)]
    simp
theorem merge_nil {ps : List Pr} (h : (ps.map Prod.fst).Nodup) : mergeK [] (kvsOf ps) = kvsOf ps := by
  have := merge_kvs ps [] (by simpa using h)
  rw [List.nil_append] at this
  exact this
theorem kvs_isSome {ps : List Pr} (h : (ps.map Prod.fst).Nodup) (x : Str) : (valV (kvsOf ps) (Sum.inr x : Key)).isSome = decide (x ∈ ps.map Prod.fst) := by
  by_cases hx : x ∈ ps.map Prod.fst
  · obtain ⟨⟨x', o⟩, hm, rfl⟩ := List.mem_map.mp hx
    rw [kvs_some h hm, decide_eq_true hx]
    rfl
  · rw [kvs_none hx, decide_eq_false hx]
    rfl
theorem cut_strs (ns : List Str) (lo hi : Option Int) : ∃ ms : List Str, cutV (ns.map V.str) lo hi = ms.map V.str ∧ ms.Sublist ns ∧ ms.length ≤ HT.sIx ns.length ns.length hi - HT.sIx ns.length 0 lo := by
  refine ⟨(ns.drop (HT.sIx ns.length 0 lo)).take (HT.sIx ns.length ns.length hi - HT.sIx ns.length 0 lo), ?_, ?_, ?_⟩
  · unfold cutV
    rw [List.length_map, List.map_take, List.map_drop]
  · exact (List.take_sublist _ _).trans (List.drop_sublist _ _)
  · rw [List.length_take]
    exact Nat.min_le_left _ _
/-- dict(pairs) -/
def rDP (K : PySem.W.Frag) : List V → Hp → VK → Prop := fun vs H Q => ∃ (L : Addr) (as : List Addr) (es : List (Key × V)), vs = [.ref L] ∧ SqL K H L (as.map V.ref) ∧
  Paired (fun a e => SqT K H a [kV e.1, e.2]) as es ∧ ∀ d, H d = none → Q (.ref d) (upd H d (.dK (mergeK [] es)))
theorem call_dP {X : Cx} (hc : X.calm = true) : CallR X (.type "dict") (rDP X.K) := call_dictP hc
theorem pairs_es {K : PySem.W.Frag} {H : Hp} {as : List Addr} {ps : List Pr} (h : TupsAt H as ps) : Paired (fun a (e : Key × V) => SqT K H a [kV e.1, e.2]) as (kvsOf ps) := by
  unfold TupsAt at h
  induction h with
  | nil => exact .nil
  | cons h _ ih => exact .cons (.of h) ih
theorem PairsAt.nil {H : Hp} {p : Addr} (h : H p = some (.lst [])) : PairsAt H p [] := ⟨[], h, .nil⟩
theorem ord_len {ps : List Pr} (va : Valid [] ps) : (names (mk ps none)).length = ps.length := by
  have := (ord_perm va).length_eq
  rw [List.length_map] at this
  exact this
theorem foOk_nil : FoOk .nil := ⟨List.nodup_nil, Nat.zero_le _, fun _ h => nomatch h⟩
theorem PairsAt.app {H H' : Hp} {a b p : Addr} {ps qs : List Pr} {as bs : List Addr} (h : TupsAt H as ps) (k : TupsAt H bs qs) (s : Same H H') (e : H' p = some (.lst (as.map V.ref ++ bs.map V.ref))) : PairsAt H' p (ps ++ qs) :=
  ⟨as ++ bs, by rw [e, List.map_append], (h.app k).same s⟩
theorem PsOk.app {ps qs : List Pr} (h : PsOk ps) (k : PsOk qs) : PsOk (ps ++ qs) := fun q hq => (List.mem_append.mp hq).elim (h q) (k q)
/-- [pairs, pairs] -/
theorem sh2 {ps qs : List Pr} (h : PsOk ps) (k : PsOk qs) : SeqAt.shaped (.list [dP ps, dP qs]) = true := by
  unfold SeqAt.shaped
  have a1 : PyData.canLay0 (dP ps) = true := (Bool.and_eq_true_iff.mp (shP h)).1
  have a2 : PyData.canLay0 (dP qs) = true := (Bool.and_eq_true_iff.mp (shP k)).1
  have b1 : PyData.depth (dP ps) ≤ 2 := by unfold dP PyData.depth; have := depP ps; omega
  have b2 : PyData.depth (dP qs) ≤ 2 := by unfold dP PyData.depth; have := depP qs; omega
  have h1 : PyData.canLay0 (.list [dP ps, dP qs]) = true := by
    unfold PyData.canLay0 PyData.canLayAll0 PyData.canLayAll0 PyData.canLayAll0
    rw [a1, a2]
    rfl
  have h2 : PyData.depth (.list [dP ps, dP qs]) ≤ 64 := by
    unfold PyData.depth PyData.depthAll PyData.depthAll PyData.depthAll
    omega
  rw [h1, decide_eq_true h2]
  rfl
theorem eqv_refl2 (ps qs : List Pr) : PyData.eqv (.list [dP ps, dP qs]) (.list [dP ps, dP qs]) = true := by
  unfold PyData.eqv PyData.eqvAll PyData.eqvAll PyData.eqvAll
  rw [eqv_dP, eqv_dP, decide_eq_true rfl, decide_eq_true rfl]
  rfl
theorem Dp2 {K : PySem.W.Frag} {H : Hp} {p a b : Addr} {ps qs : List Pr} (h : H p = some (.lst [.ref a, .ref b])) (ha : PairsAt H a ps) (hb : PairsAt H b qs) : Dp K H (.ref p) (.list [dP ps, dP qs]) :=
  .lst (.of h) (.cons ha.dp (.cons hb.dp .nil))
end TX
namespace TX
open PySem L2 PyProof.Rows TM
theorem optV_ne_none {o : Option Str} : decide (optV o = .non) = o.isNone := by
  cases o with
  | none => rfl
  | some x => rfl
/-- the over of a name, found in the dict -/
theorem over_get {f : Fo} (ok : FoOk f) {c : Str} {a : List Str} {q : Fo} (h : loc f c = some (a, q)) : valV (kvsOf (flat f none)) (Sum.inr c : Key) = some (optV (lastOr a none)) :=
  kvs_some (by rw [flat_names]; exact ok.nd) (loc_flat none h)
end TX
namespace TX
open PySem L2 PyProof.Rows TM
/-- an expression that is v whatever is asked behind, and only makes objects -/
def Ee (te : TE) (s : L2.St) (H : Hp) (v : V) : Prop := ∀ h, Same H h → ∀ Q : VK, (∀ h', Same h h' → Q v h') → te s h Q
def Et (tt : TT) (s : L2.St) (H : Hp) (b : Bool) : Prop := ∀ h, Same H h → ∀ Q : Bool → Hp → Prop, (∀ h', Same h h' → Q b h') → tt s h Q
theorem et_yes {s : L2.St} {H : Hp} : Et tYes s H true := fun h _ Q q => q h (fun _ _ e => e)
theorem ee_var {i : Nat} {s : L2.St} {H : Hp} {v : V} (e : s[i]? = some (some v)) : Ee (tVar i) s H v := fun h _ Q q => ⟨v, e, q h (fun _ _ e => e)⟩
/-- [e for x in l if t], the items of the list l -/
theorem lc_all {K : PySem.W.Frag} {l : Addr} {i : Nat} {tt : TT} {te : TE} {s : L2.St} {H : Hp} {xs : List V} {g : V → V} {p : V → Bool} {Q : VK} {ti : TE} (hi : ti s H fun v h => v = .ref l ∧ Same H h) (mono : ∀ Q1 Q2 : VK, (∀ v h, Q1 v h → Q2 v h) → ti s H Q1 → ti s H Q2)
    (hl : SqL K H l xs) (hn : xs.length ≤ 1000) (ht : ∀ x ∈ xs, ∀ h, Same H h → Et tt ((wipe s [i]).set i (some x)) h (p x)) (he : ∀ x ∈ xs, p x = true → ∀ h, Same H h → Ee te ((wipe s [i]).set i (some x)) h (g x))
    (q : ∀ L h, Same H h → H L = none → h L = some (.lst ((xs.filter p).map g)) → Q (.ref L) h) : tLc (iList K ti) (gName i) tt te [i] s H Q := by
  refine mono _ _ (fun v H1 => ?_) hi
  rintro ⟨rfl, s1⟩
  refine ⟨l, rfl, ⟨xs, s1.seq hl⟩, fun D nD => ?_⟩
  refine lc_it (walk_list (xs := xs)) (fun j h => h D = some (.lst (((xs.take j).filter p).map g)) ∧ Same H1 h) ⟨upd_same, Same.new nD⟩ (fun j h _ ⟨_, s2⟩ => s2.seq (s1.seq hl)) ?_ ?_
  · rintro j x h h' hj ⟨e, s2⟩ ⟨rfl, hx⟩
    have hm : x ∈ xs := List.mem_of_getElem? hx
    have htk : xs.take (j + 1) = xs.take j ++ [x] := by rw [List.take_add_one, hx]; rfl
    have s3 := s1.trans s2
    refine ⟨?_, ?_⟩
    · show (((wipe s [i]).set i (some x)).set i none) = wipe s [i]
      show (((s.set i none).set i (some x)).set i none) = s.set i none
      rw [List.set_set, List.set_set]
    refine ht x hm h' s3 h' (fun _ _ e => e) _ fun h4 s4 => ?_
    have e4 := s4 _ _ e
    cases hp : p x with
    | true =>
      refine he x hm hp h4 (s3.trans s4) h4 (fun _ _ e => e) _ fun h5 s5 => ?_
      refine ⟨_, s5 _ _ e4, ?_, ?_, Same.mut ((s2.trans s4).trans s5) nD⟩
      · rw [List.length_map]
        have h1 := List.length_filter_le p (xs.take j)
        rw [List.length_take] at h1
        exact line100' (by omega)
      · rw [upd_same, htk, List.filter_append, List.filter_cons_of_pos hp, List.map_append]
        rfl
    | false =>
      refine ⟨?_, s2.trans s4⟩
      rw [htk, List.filter_append, List.filter_cons_of_neg (by rw [hp]; exact Bool.false_ne_true), List.filter_nil, List.append_nil]
      exact e4
  · rintro h ⟨e, s2⟩
    rw [List.take_length] at e
    exact q D h (s1.trans s2) (s1.free nD) e
theorem mono_var {i : Nat} {s : L2.St} {H : Hp} : ∀ Q1 Q2 : VK, (∀ v h, Q1 v h → Q2 v h) → tVar i s H Q1 → tVar i s H Q2 := fun Q1 Q2 k ⟨v, e, h⟩ => ⟨v, e, k v H h⟩
theorem mono_fld {K : PySem.W.Frag} {i : Nat} {f : Str} {s : L2.St} {H : Hp} : ∀ Q1 Q2 : VK, (∀ v h, Q1 v h → Q2 v h) → tFld K (tVar i) f s H Q1 → tFld K (tVar i) f s H Q2 :=
  fun Q1 Q2 k ⟨v, e, a, C, dx, fs, w, h1, h2, h3, h4, h5, h⟩ => ⟨v, e, a, C, dx, fs, w, h1, h2, h3, h4, h5, k w H h⟩
theorem filter_strs (ns : List Str) (p : Str → Bool) (r : V → Bool) (h : ∀ n ∈ ns, r (.str n) = p n) : (ns.map V.str).filter r = (ns.filter p).map V.str := by
  induction ns with
  | nil => rfl
  | cons n t ih =>
    rw [List.map_cons, List.filter_cons, List.filter_cons, h n List.mem_cons_self, ih fun m hm => h m (List.mem_cons_of_mem _ hm)]
    cases p n <;> rfl
end TX
namespace TX
open PySem L2 PyProof.Rows TM
/-- an if whose test is false, whatever was made -/
theorem sq_no {tc : TT} {t B : TS} {D : Ends} {s : L2.St} {H : Hp} (h : Et tc s H false) (k : ∀ h', Same H h' → B D s h') : tSeq (tIfS tc t tNext) B D s H := h H (fun _ _ e => e) _ k
theorem et_or {t u : TT} {s : L2.St} {H : Hp} (h : Et t s H false) (k : ∀ h', Same H h' → Et u s h' false) : Et (tOr t u) s H false := fun h1 s1 Q q =>
  h h1 s1 _ fun h2 s2 => k h2 (s1.trans s2) h2 (fun _ _ e => e) Q fun h3 s3 => q h3 (s2.trans s3)
theorem kids_take {q : Fo} {ks : List Str} {i : Nat} {c : Str} (h : ks[i]? = some c) : (ks.take (i + 1)).flatMap (kidsOf q) = (ks.take i).flatMap (kidsOf q) ++ kidsOf q c := by
  rw [List.take_add_one, h, List.flatMap_append]
  show _ ++ (kidsOf q c ++ []) = _
  rw [List.append_nil]
theorem bool_data (bs : List Bool) : SeqAt.shaped (.list (bs.map PyData.bool)) = true := by
  have h1 : PyData.canLayAll0 (bs.map PyData.bool) = true := by
    induction bs with
    | nil => rfl
    | cons b r ih => rw [List.map_cons]; unfold PyData.canLayAll0; rw [ih]; rfl
  have h2 : PyData.depthAll (bs.map PyData.bool) = 0 := by
    clear h1
    induction bs with
    | nil => rfl
    | cons b r ih => rw [List.map_cons]; unfold PyData.depthAll; rw [ih]; rfl
  unfold SeqAt.shaped
  have a1 : PyData.canLay0 (.list (bs.map PyData.bool)) = true := by unfold PyData.canLay0; exact h1
  have a2 : PyData.depth (.list (bs.map PyData.bool)) ≤ 64 := by unfold PyData.depth; rw [h2]; decide
  rw [a1, decide_eq_true a2]
  rfl
theorem bool_refl (bs : List Bool) : PyData.eqv (.list (bs.map PyData.bool)) (.list (bs.map PyData.bool)) = true := by
  unfold PyData.eqv
  induction bs with
  | nil => rfl
  | cons b r ih =>
    rw [List.map_cons]
    unfold PyData.eqvAll
    rw [ih]
    show (b == b && true) = true
    simp
theorem Dp_bools {K : PySem.W.Frag} {H : Hp} {a : Addr} {bs : List Bool} (h : H a = some (.lst (bs.map V.bl))) : Dp K H (.ref a) (.list (bs.map PyData.bool)) := by
  refine .lst (.of h) ?_
  clear h
  induction bs with
  | nil => exact .nil
  | cons b r ih => exact .cons (.bl b) ih
theorem filter_yes {xs : List V} : xs.filter (fun _ => true) = xs := by
  induction xs with
  | nil => rfl
  | cons x r ih => rw [List.filter_cons_of_pos rfl, ih]
theorem dec_strs (n : Str) (ks : List Str) : decide (V.str n ∈ ks.map V.str) = decide (n ∈ ks) := by
  by_cases hm : n ∈ ks
  · rw [decide_eq_true hm, decide_eq_true (List.mem_map.mpr ⟨n, hm, rfl⟩)]
  · rw [decide_eq_false hm, decide_eq_false]
    intro z
    obtain ⟨m, hm2, e2⟩ := List.mem_map.mp z
    exact hm (V.str.inj e2 ▸ hm2)
theorem same_rfl {H : Hp} : Same H H := fun _ _ e => e
end TX
namespace TX
open PySem L2 PyProof.Rows TM
theorem lt_anti : ∀ {a b : List Nat}, PySem.Spec.ltCps a b = false → PySem.Spec.ltCps b a = false → a = b
  | [], [], _, _ => rfl
  | [], _ :: _, h, _ => by cases h
  | _ :: _, [], _, h => by cases h
  | x :: a, y :: b, h1, h2 => by
    have g1 : (decide (x < y) || (x == y && PySem.Spec.ltCps a b)) = false := h1
    have g2 : (decide (y < x) || (y == x && PySem.Spec.ltCps b a)) = false := h2
    have e : x = y := by
      have a1 : ¬ x < y := fun z => by rw [decide_eq_true z] at g1; cases g1
      have a2 : ¬ y < x := fun z => by rw [decide_eq_true z] at g2; cases g2
      omega
    subst e
    simp at g1 g2
    rw [lt_anti g1 g2]
theorem lt_trans' : ∀ {a b c : List Nat}, PySem.Spec.ltCps b a = false → PySem.Spec.ltCps c b = false → PySem.Spec.ltCps c a = false
  | [], _, [], _, _ => rfl
  | [], [], _ :: _, _, h => rfl
  | [], _ :: _, _ :: _, _, _ => rfl
  | _ :: _, [], _, h, _ => by cases h
  | x :: a, y :: b, [], _, h => by cases h
  | x :: a, y :: b, z :: c, h1, h2 => by
    have g1 : (decide (y < x) || (y == x && PySem.Spec.ltCps b a)) = false := h1
    have g2 : (decide (z < y) || (z == y && PySem.Spec.ltCps c b)) = false := h2
    show (decide (z < x) || (z == x && PySem.Spec.ltCps c a)) = false
    have a1 : ¬ y < x := fun w => by rw [decide_eq_true w] at g1; cases g1
    have a2 : ¬ z < y := fun w => by rw [decide_eq_true w] at g2; cases g2
    have a3 : ¬ z < x := by omega
    rw [decide_eq_false a3, Bool.false_or]
    by_cases e : z = x
    · have e1 : y = x := by omega
      subst e
      subst e1
      simp at g1 g2
      rw [lt_trans' g1 g2]
      simp
    · have : (z == x) = false := by simpa using e
      rw [this]
      rfl
theorem sorted_pair : ∀ {l : List Str}, PyProof.Rows.sortedS l = true → l.Pairwise fun a b => PySem.Spec.ltCps b.cps.toList a.cps.toList = false
  | [], _ => List.Pairwise.nil
  | [x], _ => List.pairwise_singleton _ _
  | x :: y :: r, h => by
    have h' : (!PySem.Spec.ltCps y.cps.toList x.cps.toList && PyProof.Rows.risingS y r) = true := h
    rw [Bool.and_eq_true] at h'
    have ih : (y :: r).Pairwise fun a b => PySem.Spec.ltCps b.cps.toList a.cps.toList = false := sorted_pair h'.2
    have h1 : PySem.Spec.ltCps y.cps.toList x.cps.toList = false := by simpa using h'.1
    refine List.pairwise_cons.mpr ⟨fun z hz => ?_, ih⟩
    rcases List.mem_cons.mp hz with e | hz
    · rw [e]
      exact h1
    · exact lt_trans' h1 ((List.pairwise_cons.mp ih).1 z hz)
theorem sorted_same {l m : List Str} (h : l.Perm m) (h1 : PyProof.Rows.sortedS l = true) (h2 : PyProof.Rows.sortedS m = true) : l = m := by
  refine perm_eq (fun a b r1 r2 => ?_) h (sorted_pair h1) (sorted_pair h2)
  rw [S_eta a, S_eta b, lt_anti r2 r1]
theorem mono_c {v : V} {s : L2.St} {H : Hp} : ∀ Q1 Q2 : VK, (∀ v h, Q1 v h → Q2 v h) → tC v s H Q1 → tC v s H Q2 := fun _ _ k h => k _ _ h
end TX

set_option maxHeartbeats 2000000
/-! Rules of our own: the length of an own instance; isinstance of a caught error, one class or several. -/
namespace TY
open PySem L2 PyProof.Rows TX
section
variable {X : Cx}
/-- len(o) by an own __len__ -/
def rLenO (C : Addr) (sp : Sp) (E : XK) : List V → Hp → VK → Prop := fun xs H Q => ∃ a dx fs, xs = [.ref a] ∧ H a = some (.ins C dx fs) ∧ sp [.ref a] H (fun v H' => ∃ k : Nat, v = .int k ∧ k ≤ 1000000 ∧ Q (.int k) H') E
theorem call_lenO {CX : CXT} {C f : Addr} {fd : FuncData} {ps : List Str} {sp : Sp} {E : XK} {n : Nat} (F : FnOk X.prog X.w X.K X.mg X.base CX n f fd ps sp) (hs : PySem.W.findIn X.K (.ref C) "__len__" = some (some (.ref f)))
    (hf : PySem.W.isFn X.K (.ref f) = true) (hb : Binds X.K fd ps []) (hx : Passes CX X E) (hr : Room (n + 1) X.A) : CallR X (.builtin "len") (rLenO C sp E) := by
  intro pins s σ H xs us Q I r h
  obtain ⟨a, dx, fs, rfl, ha, hsp⟩ := h
  obtain ⟨u, rfl, rx⟩ := vals1 r
  cases rx
  obtain ⟨mA, J, _⟩ := ins_get I.hok ha
  obtain ⟨od, J, _⟩ := J.look
  obtain ⟨m, hF⟩ := I.fr
  refine PySem.W.len_K hF I.ok.mod.kin J hs hf ?_
  have e0 : Env0 X.prog X.w X.K X.mg X.base X.A.in1 X.stack s H := by
    have e := I.env0
    exact ⟨e.frames, e.mod, e.bs, e.bsz, e.funs, e.frf, e.hok, e.bare⟩
  have hl := F.len _ _ _ _ hsp
  refine wpAny_call (codeAny_mono (F.run X.A.in1 X.stack s H ⟨[.ref a], []⟩ [.ref a] [.ref a] _ E hr.in1 e0 (by
    have := hb s [.ref a] I.kIn (by simpa using hl)
    simpa using this) (.cons rfl .nil) hsp) fun r s' hq => ?_)
  cases r with
  | error e => exact hx pins σ H s e s' I hq
  | ok fl =>
    cases fl with
    | ret u =>
      obtain ⟨z, H', I', rz, k, ez, hk, q⟩ := I.after hq
      subst ez
      obtain ⟨t, rfl⟩ := rz
      show PySem.W.LenBack _ (.int (k : Int) t) s'
      exact ⟨by omega, ⟨.int k, H', I'.tok _, ⟨_, rfl⟩, q⟩⟩
    | next => exact False.elim hq
    | brk => exact False.elim hq
    | cont => exact False.elim hq
/-- isinstance of the error that the suite holds: one class, or a tuple of classes that was just laid -/
def rIsX (K : PySem.W.Frag) (a : Addr) (cls : Value) (d : Option Addr) : List V → Hp → VK → Prop := fun xs H Q => ∃ (D : Addr) (c : V) (b : Bool), cls = .ref D ∧ d = none ∧ ExcC K D ∧ xs = [.ref a, c] ∧
  ((∃ cv, ClsV c cv ∧ PySem.W.kitOne K (.ref D) cv = some b) ∨ (∃ tp cs us, c = .ref tp ∧ H tp = some (.tup cs) ∧ Paired ClsV cs us ∧ PySem.W.kitAny K (.ref D) us = some b)) ∧ Q (.bl b) H
theorem call_isX {a : Addr} {oe : Obj} {cls : Value} {d : Option Addr} {pn : List (Addr × Obj)} (hz : Zc cls d oe) (hf : ∃ vs, oe.data = .fields vs) : CallR (X.suite a ((a, oe) :: pn)) (.builtin "isinstance") (rIsX X.K a cls d) := by
  intro pins s σ H xs us Q I r h
  obtain ⟨D, c, b, rfl, rfl, C, rfl, hc, q⟩ := h
  obtain ⟨u1, u2, rfl, r1, r2⟩ := vals2 r
  cases r1
  obtain ⟨hget, _⟩ := I.pin (a, oe) (List.mem_append.mpr (.inl List.mem_cons_self))
  obtain ⟨vs, hv⟩ := hf
  have J : PySem.W.InstAt s.heap a oe D none := by
    obtain ⟨oc, od, oda, osl⟩ := oe
    obtain ⟨h1, h2⟩ := hz
    dsimp only at h1 h2 hv
    subst h1 h2 hv
    exact ⟨hget, rfl, rfl, trivial⟩
  have Z := PySem.W.handS_kitx_exc (x := a) (ox := oe) C.hg C.hk C.hs C.hd C.ha C.hn C.ht C.hm
  rcases hc with ⟨cv, hcv, e⟩ | ⟨tp, cs, ws, rfl, hT, k, e⟩
  · have e2 := hcv.eq r2
    subst e2
    exact PySem.W.kia_one Z I.kIn J e (fun z => nomatch z) fun tk => ⟨.bl b, H, I.kept (t' := tk) fun _ _ z => z, rfl, q⟩
  · cases (show u2 = Value.ref tp from r2)
    obtain ⟨_, its, rv, o, h1, h2, n, h3⟩ := (show ObjOk X.prog X.w H s.heap tp (.tup cs) from I.hok tp _ hT)
    have e3 := ClsV.all k rv
    subst e3
    obtain ⟨oc, od, dt, sl⟩ := o
    simp only at h2 h3
    subst h2 h3
    exact PySem.W.kia_tup Z I.kIn J h1 e (fun z => nomatch z) fun tk => ⟨.bl b, H, I.kept (t' := tk) fun _ _ z => z, rfl, q⟩
end
end TY

set_option maxHeartbeats 2000000
/-! Rules of our own: a made instance whose __init__ may raise; isinstance of a caught error that has a dict; two lists of the same items. -/
namespace TY
open PySem L2 PyProof.Rows TX
section
variable {X : Cx} {CX : CXT} {k : Nat} {f C : Addr} {fd : FuncData} {ps : List Str} {sp : Sp} {E : L2.St → XK} {x : Str} {p pos : Pos} {e : Expr} {es : List Expr} {t : TA}
theorem run_makeS {pins : List (Addr × Obj)} {σ : L2.St} {H : Hp} {s : Shared} {Q : VK} {us : List Value} {vs : List V} (M : Mk X.K C f) (F : FnOk X.prog X.w X.K X.mg X.base CX k f fd ps sp) (hr : Room (k + 1) X.A) (hb : Binds X.K fd ps [])
    (hx : PassesAt CX X σ (E σ)) (I : Inv X pins σ H s) (r : Vals vs us)
    (h : ∀ x dx, H x = none → H dx = none → dx ≠ x → sp (.ref x :: vs) (upd (upd H dx (.own x)) x (.ins C dx [])) (fun v H2 => v = .non ∧ Q (.ref x) H2) (E σ)) :
    wpAny (model X.prog X.w) X.A (call (.ref C) us) (EP X pins σ Q) X.xe s := by
  have hq := h (s.heap.objs.size + 1) s.heap.objs.size (I.hok.fresh (Nat.le_succ _)) (I.hok.fresh (Nat.le_refl _)) (Nat.ne_of_lt (Nat.lt_succ_self _))
  have I2 := Inv.made (C := C) I
  have r2 : Vals (V.ref (s.heap.objs.size + 1) :: vs) (Value.ref (s.heap.objs.size + 1) :: us) := .cons rfl r
  have hl : (Value.ref (s.heap.objs.size + 1) :: us).length = ps.length := by
    have e := r2.length
    rw [F.len _ _ _ _ hq] at e
    exact e.symm
  have b := hb _ (Value.ref (s.heap.objs.size + 1) :: us) I2.kIn (by rw [List.append_nil]; exact hl)
  rw [List.append_nil] at b
  refine wpAny_call (make_map (f := f) I.kIn M.makes M.init (beq_iff_eq.mp M.fn) (codeAny_mono (F.run _ X.stack _ _ ⟨Value.ref (s.heap.objs.size + 1) :: us, []⟩ (Value.ref (s.heap.objs.size + 1) :: us) _ _ (E σ) (hr.make C us [])
    (I2.env0.make C us []) b r2 hq) fun r s' hq' => ?_))
  cases r with
  | error e => exact hx pins _ _ e s' I2 hq'
  | ok fl =>
    cases fl with
    | ret u =>
      obtain ⟨v, H', I3, rv, ev, q3⟩ := I2.after hq'
      subst ev
      exact ⟨rv, ⟨V.ref (s.heap.objs.size + 1), H', I3, rfl, q3⟩⟩
    | next => exact False.elim hq'
    | brk => exact False.elim hq'
    | cont => exact False.elim hq'
/-- C(..), whose __init__ may raise -/
def tMakeS (C : Addr) (sp : Sp) (E : L2.St → XK) (t : TA) : TE := fun σ H Q => t σ H fun vs H1 => ∀ x dx, H1 x = none → H1 dx = none → dx ≠ x →
  sp (.ref x :: vs) (upd (upd H1 dx (.own x)) x (.ins C dx [])) (fun v H2 => v = .non ∧ Q (.ref x) H2) (E σ)
theorem pe_makeS (M : Mk X.K C f) (F : FnOk X.prog X.w X.K X.mg X.base CX k f fd ps sp) (hr : Room (k + 1) X.A) (hg : Gl X x) (hm : X.mg x = some (.ref C)) (hb : Binds X.K fd ps []) (hx : ∀ σ, PassesAt CX X σ (E σ))
    (ha : PA X (e :: es) t) (hdb : (x == ("__debug__" : Str)) = false := by decide) (he : starEach (e :: es) X.env = (false, eval e X.env) :: starEach es X.env := by rfl) (hpl : (backTo pos (starEach es X.env)).any (·.1) = false := by rfl) :
    PE X (.Call (.Name x p) (e :: es) [] pos) (tMakeS C sp E t) := by
  refine ⟨fun pins s σ H Q I h => ?_⟩
  refine wpAny_Call_Name_kw (ld_glob I hg hm ?_ hdb)
  refine PySem.W.callWith_K (h₀ := X.base) I.ok.mod.kin M.kp (thn (ha.run pos pins s σ H _ I h) fun us s1 ⟨vs, H1, I1, r, q⟩ => ⟨I1.kIn, ?_⟩) he hpl
  exact run_makeS M F hr hb (hx σ) I1 r q
/-- isinstance of the error that the suite holds, which has a dict -/
def rIsXd (K : PySem.W.Frag) (a : Addr) (cls : Value) (d : Option Addr) : List V → Hp → VK → Prop := fun xs H Q => ∃ (D : Addr) (c : V) (b : Bool), cls = .ref D ∧ ExcC K D ∧ (∃ (dd : Addr) (fs : List (Str × V)), d = some dd ∧ H dd = some (.xd fs)) ∧ xs = [.ref a, c] ∧
  ((∃ cv, ClsV c cv ∧ PySem.W.kitOne K (.ref D) cv = some b) ∨ (∃ tp cs us, c = .ref tp ∧ H tp = some (.tup cs) ∧ Paired ClsV cs us ∧ PySem.W.kitAny K (.ref D) us = some b)) ∧ Q (.bl b) H
theorem call_isXd {a : Addr} {oe : Obj} {cls : Value} {d : Option Addr} {pn : List (Addr × Obj)} (hz : Zc cls d oe) (hf : ∃ vs, oe.data = .fields vs) : CallR (X.suite a ((a, oe) :: pn)) (.builtin "isinstance") (rIsXd X.K a cls d) := by
  intro pins s σ H xs us Q I r h
  obtain ⟨D, c, b, rfl, C, ⟨dd, fs, rfl, hdd⟩, rfl, hc, q⟩ := h
  obtain ⟨u1, u2, rfl, r1, r2⟩ := vals2 r
  cases r1
  obtain ⟨hget, _⟩ := I.pin (a, oe) (List.mem_append.mpr (.inl List.mem_cons_self))
  obtain ⟨vs, hv⟩ := hf
  have hx : ObjOk X.prog X.w H s.heap dd (.xd fs) := I.hok dd _ hdd
  obtain ⟨mA, hns, hr⟩ := hx
  obtain ⟨od, ho, hl⟩ := lookIn_ns hns
  have J : PySem.W.InstAt s.heap a oe D (some od) := ⟨hget, hz.1, by unfold PySem.W.notCls; rw [hv] <;> rfl, by rw [hz.2]; exact ho⟩
  have hcl : (PySem.W.clsIn X.K D).isSome = true := by
    obtain ⟨cd, hc', _⟩ := PySem.W.any_some C.hd
    rw [hc']
    rfl
  have Z := PySem.W.kitx_exc (x := a) (ox := oe) (od := some od) hcl C.hg C.hk C.hs C.ha C.hn C.ht C.hm
  rcases hc with ⟨cv, hcv, e⟩ | ⟨tp, cs, ws, rfl, hT, k, e⟩
  · have e2 := hcv.eq r2
    subst e2
    exact PySem.W.kia_one Z I.kIn J e (fun z => nomatch z) fun tk => ⟨.bl b, H, I.kept (t' := tk) fun _ _ z => z, rfl, q⟩
  · cases (show u2 = Value.ref tp from r2)
    obtain ⟨_, its, rv, o, h1, h2, n, h3⟩ := (show ObjOk X.prog X.w H s.heap tp (.tup cs) from I.hok tp _ hT)
    have e3 := ClsV.all k rv
    subst e3
    obtain ⟨oc, od', dt, sl⟩ := o
    simp only at h2 h3
    subst h2 h3
    exact PySem.W.kia_tup Z I.kIn J h1 e (fun z => nomatch z) fun tk => ⟨.bl b, H, I.kept (t' := tk) fun _ _ z => z, rfl, q⟩
/-- two lists of the same items: != is False -/
def itemV : V → Bool
  | .non => true
  | .bl _ => true
  | .int _ => true
  | .str _ => true
  | .ref _ => true
  | _ => false
theorem eqAt_item {A : Around} {s : Shared} {x : V} {u v : Value} (rx : RelV x u) (ry : RelV x v) (h : itemV x = true) : SeqAt.EqAt A s u v true := by
  cases x with
  | ref a =>
    cases (show u = Value.ref a from rx)
    cases (show v = Value.ref a from ry)
    intro prog w E Q hq
    unfold eqBool
    refine wpAny_holding ?_
    refine wpAny_ite_split (fun _ => ?_) (fun hab => absurd (by simp) hab)
    wp_walk
    exact hq
  | non => exact (eqAt_V rx ry rfl rfl : _)
  | bl b => have q := eqAt_V (A := A) (s := s) rx ry rfl rfl; rw [show eqV (.bl b) (.bl b) = true by simp [eqV]] at q; exact q
  | int i => have q := eqAt_V (A := A) (s := s) rx ry rfl rfl; rw [show eqV (.int i) (.int i) = true by simp [eqV]] at q; exact q
  | str z => have q := eqAt_V (A := A) (s := s) rx ry rfl rfl; rw [show eqV (.str z) (.str z) = true by simp [eqV]] at q; exact q
  | _ => cases h
def rNeSame (K : PySem.W.Frag) : R2 := fun x y H Q => ∃ a b xs, x = .ref a ∧ y = .ref b ∧ SqL K H a xs ∧ SqL K H b xs ∧ xs.all itemV = true ∧ Q (.bl false) H
theorem op_neSame (hu : X.A.units < cLine) : OpR X (compareOp .NotEq) (rNeSame X.K) := by
  intro pins s σ H x y v u Q I rx ry h
  obtain ⟨a, b, xs, rfl, rfl, ha, hb, hi, q⟩ := h
  cases rx
  cases ry
  obtain ⟨its, r, hl, _⟩ := I.list ha
  obtain ⟨its2, r2, hl2, _⟩ := I.list hb
  have hsz : its.toArray.size = its2.toArray.size := by rw [List.size_toArray, List.size_toArray, ← r.length, ← r2.length]
  have he : ∀ j (h1 : j < its.toArray.size) (h2 : j < its2.toArray.size), SeqAt.EqAt X.A.in1 s its.toArray[j] its2.toArray[j] ((fun _ => true) j) := by
    intro j h1 h2
    have k1 : j < xs.length := by rw [r.length]; simpa using h1
    obtain ⟨u1, e1, r1⟩ := r.get (List.getElem?_eq_getElem k1)
    obtain ⟨u2, e2, r3⟩ := r2.get (List.getElem?_eq_getElem k1)
    have g1 : its.toArray[j] = u1 := by
      have h1' : j < its.length := by simpa using h1
      rw [List.getElem?_eq_getElem h1'] at e1
      simpa using Option.some.inj e1
    have g2 : its2.toArray[j] = u2 := by
      have h2' : j < its2.length := by simpa using h2
      rw [List.getElem?_eq_getElem h2'] at e2
      simpa using Option.some.inj e2
    rw [g1, g2]
    exact eqAt_item r1 r3 (List.all_eq_true.mp hi _ (List.getElem_mem k1))
  have z := SeqAt.RcNeAt.lists hl.isList hl2.isList hsz hu he
  have e : (List.range its.toArray.size).all (fun _ => true) = true := by simp
  rw [e] at z
  exact z X.prog X.w X.xe _ ⟨.bl false, H, I, rfl, q⟩
/-- a list == [] -/
def rEqNil (K : PySem.W.Frag) : R2 := fun x y H Q => ∃ a b xs, x = .ref a ∧ y = .ref b ∧ SqL K H a xs ∧ SqL K H b [] ∧ Q (.bl xs.isEmpty) H
theorem op_eqNil (hu : X.A.units < cLine) : OpR X (compareOp .Eq) (rEqNil X.K) := by
  intro pins s σ H x y v u Q I rx ry h
  obtain ⟨a, b, xs, rfl, rfl, ha, hb, q⟩ := h
  cases rx
  cases ry
  obtain ⟨its, r, hl, _⟩ := I.list ha
  obtain ⟨its2, r2, hl2, _⟩ := I.list hb
  have h2 : its2 = [] := by
    cases r2
    rfl
  subst h2
  cases xs with
  | nil =>
    cases r
    have z := SeqAt.RcAt.lists (e := fun _ => true) hl.isList hl2.isList rfl hu (fun j h1 h2 => absurd h1 (by simp))
    exact z X.prog X.w X.xe _ ⟨.bl true, H, I, rfl, q⟩
  | cons z zs =>
    have hsz : (its.toArray.size != ([] : List Value).toArray.size) = true := by
      have : its.length = (z :: zs).length := r.length.symm
      simp [this]
    have z := SeqAt.RcAt.lists_lengths hl.isList hl2.isList hsz hu
    exact z X.prog X.w X.xe _ ⟨.bl false, H, I, rfl, q⟩
/-- one sign of a text -/
theorem found_sign (x : Str) (c : Nat) : (!(Builtin.Str.occurrences x ⟨#[c]⟩ 0 x.length 1).isEmpty) = decide (c ∈ x.cps.toList) := StrLaws.found_one x c
end
end TY

namespace T11
open PySem L2
def top (i : Nat) : Stmt := PySem.Challenge.pw_foldbough_k11_what_is_no_tree.main.body.getD i (.Pass ⟨0, 0, 0, 0⟩)
abbrev s_notree : Stmt := inClass (top 4) 0
abbrev s_is_name : Stmt := top 9
abbrev s_is_name_in : Stmt := top 10
abbrev s_tinit : Stmt := inClass (top 12) 0
abbrev s_told : Stmt := top 13
abbrev s_is_pair : Stmt := top 14
abbrev s_in_order : Stmt := top 15
abbrev s_well : Stmt := top 18
abbrev s_draw : Stmt := top 19
abbrev s_names : Stmt := top 20
abbrev s_pairs : Stmt := top 21
abbrev s_odd : Stmt := top 22
abbrev s_spoilt : Stmt := top 23
abbrev s_lawname : Stmt := top 24
abbrev s_due : Stmt := top 25
abbrev s_said : Stmt := top 26
abbrev s_right : Stmt := top 27
abbrev s_law : Stmt := top 28
end T11

set_option maxHeartbeats 1000000
local macro_rules | `(tactic| walk_at "z") => `(tactic| ((try dsimp only); first | assumption | omega | decide | (simp only [List.length_cons, List.length_nil]; first | decide | omega)))
namespace T11
open PySem L2 PyProof.Rows TX
section
variable {P : Program} {w : World} {K : PySem.W.Frag} {mg : Str → Option Value} {base : Heap}
theorem sc_well : FnScope ["_law_cell", "_law_k"] ["_law_cell", "_law_k"] (defScope s_well) := ⟨rfl, rfl, rfl, by decide +kernel, rfl, by decide +kernel, by decide +kernel⟩
def sp_well : Sp := fun vs H Q _ => ∃ (cell k : Int), vs = [.int cell, .int k] ∧ 0 ≤ k ∧ k ≤ 1000 ∧ ∀ H' p, Same H H' → H p = none → WellAt 100000 H' p → Q (.ref p) H'
theorem ok_well {f : Addr} {fd : FuncData} (F : Fn K mg "_law_well" s_well ["_law_cell", "_law_k"] f fd) (B : Bn mg) : FnOk P w K mg base CX0 1 f fd ["_law_cell", "_law_k"] sp_well := by
  refine F.F.ok sc_well (fun vs H Q E h => ?_) (fun cdv A outer s H vs Q E hr h => ?_)
  · obtain ⟨cell, k, rfl, _⟩ := h
    rfl
  · obtain ⟨cell, k, rfl, h0, h1, q⟩ := h
    refine ⟨_, pss_one (ps_ret (pe_lst (pa_cons (pe_op op_mul (pv 0) (pe_callTy call_int1 (by rfl) B.int boot_int (pa_cons (pe_cmpR op_ge (pv 0) (pe_op op_pow pe_int pe_int) (nomark _)) pa_nil)))
      (pa_cons (pe_op op_mod (pe_op op_add (pe_op op_mod (pv 0) pe_int) (pe_op op_mul pe_int (pv 1))) pe_int) (pa_cons pe_int pa_nil))))), ?_⟩
    refine ⟨_, rfl, _, rfl, _, _, rfl, rfl, ⟨by decide, by decide, by decide⟩, _, _, rfl, rfl, .inr ⟨_, rfl, _, _, rfl, rfl, .inr (by split <;> decide), ?_⟩⟩
    refine ⟨_, rfl, _, _, rfl, rfl, by walk_at "z", _, rfl, _, _, rfl, rfl, .inl (by decide), _, _, rfl, rfl, _, _, rfl, rfl, by walk_at "z", by walk_at "z", fun p hp => ?_⟩
    refine q _ p (Same.new hp) hp ⟨_, _, _, upd_same, ?_, ?_, by decide, by decide⟩
    · exact Int.emod_nonneg _ (by decide)
    · have := Int.emod_lt_of_pos (cell % 2147483647 + 104729 * k) (show (0 : Int) < 2147483647 by decide)
      omega
theorem sc_draw : FnScope ["_law_well_here", "_law_top", "_law_found", "_law_prime", "_law_twist"] ["_law_well_here", "_law_top"] (defScope s_draw) := ⟨rfl, rfl, rfl, by decide +kernel, rfl, by decide +kernel, by decide +kernel⟩
/-- a draw: one below top; the well may be drawn from once less -/
def sp_draw : Sp := fun vs H Q _ => ∃ (W : Addr) (t n : Nat), vs = [.ref W, .int t] ∧ 0 < t ∧ t < 1073741824 ∧ WellAt (n + 1) H W ∧ ∀ (H' : Hp) (r : Nat), r < t → Sm W H H' → WellAt n H' W → Q (.int r) H'
theorem ok_draw {f : Addr} {fd : FuncData} (F : Fn K mg "_law_draw" s_draw ["_law_well_here", "_law_top"] f fd) : FnOk P w K mg base CX0 1 f fd ["_law_well_here", "_law_top"] sp_draw := by
  refine F.F.ok sc_draw (fun vs H Q E h => ?_) (fun cdv A outer s H vs Q E hr h => ?_)
  · obtain ⟨W, t, n, rfl, _⟩ := h
    rfl
  · obtain ⟨W, t, n, rfl, h0, h1, ⟨a, b, c, hW, b0, b1, c0, c1⟩, q⟩ := h
    have hu := hu_of hr
    have t0 : (0 : Int) < (t : Int) := by omega
    have aI0 : ∀ x y z : V, atI [x, y, z] (0 : Int) = some x := fun _ _ _ => rfl
    have aI1 : ∀ x y z : V, atI [x, y, z] (1 : Int) = some y := fun _ _ _ => rfl
    have aI2 : ∀ x y z : V, atI [x, y, z] (2 : Int) = some z := fun _ _ _ => rfl
    refine ⟨_, pss_cons (ps_if (pt_cmpR op_gt (pe_ix ix_list (pv 0) pe_int (fun _ _ => rfl)) pe_int (nomark _))
        (pss_cons (ps_set (i := 2) sc_draw.nd rfl (Or.inl rfl) (pe_op op_mod (pe_ix ix_list (pv 0) pe_int (fun _ _ => rfl)) (pv 1)))
        (pss_cons (ps_asg (pe_op op_fdiv (pe_ix ix_list (pv 0) pe_int (fun _ _ => rfl)) (pv 1)) (pg_sub (pv 0) pe_int set_list))
        (pss_one (ps_ret (pv 2))))) pss_nil)
      (pss_cons (ps_asg (pe_op op_add (pe_ix ix_list (pv 0) pe_int (fun _ _ => rfl)) pe_int) (pg_sub (pv 0) pe_int set_list))
      (pss_cons (ps_set (i := 3) sc_draw.nd rfl (Or.inl rfl) (pe_ix ix_list (pe_lst (pa_cons pe_int (pa_cons pe_int (pa_cons pe_int (pa_cons pe_int (pa_cons pe_int pa_nil))))))
          (pe_op op_mod (pe_ix ix_list (pv 0) pe_int (fun _ _ => rfl)) pe_int) (fun _ _ => rfl)))
      (pss_cons (ps_set (i := 4) sc_draw.nd rfl (Or.inl rfl) (pe_op op_mod (pe_op op_pow (pe_op op_add (pe_op op_add (pe_ix ix_list (pv 0) pe_int (fun _ _ => rfl)) (pe_op op_mul pe_int (pe_ix ix_list (pv 0) pe_int (fun _ _ => rfl)))) pe_int) pe_int) (pv 3)))
      (pss_cons (ps_set (i := 4) sc_draw.nd rfl (Or.inl rfl) (pe_op op_mod (pe_op op_mul (pe_op op_add (pv 4) (pe_ix ix_list (pv 0) pe_int (fun _ _ => rfl))) (pe_op op_add (pe_op op_fdiv (pv 4) pe_int) pe_int)) (pv 3)))
      (pss_one (ps_ret (pe_op op_mod (pe_op op_fdiv (pv 4) pe_int) (pv 1)))))))), ?_⟩
    refine ⟨_, rfl, W, _, _, _, rfl, rfl, .of hW, aI0 _ _ _, _, _, rfl, rfl, _, rfl, ite2 (fun ha => ?_) (fun ha => ?_)⟩
    · refine ⟨_, rfl, W, _, _, _, rfl, rfl, .of hW, aI0 _ _ _, _, rfl, _, _, rfl, rfl, by walk_at "z", ?_⟩
      refine ⟨_, rfl, W, _, _, _, rfl, rfl, .of hW, aI0 _ _ _, _, rfl, _, _, rfl, rfl, by constructor <;> omega, ?_⟩
      refine ⟨_, rfl, W, _, _, 0, rfl, rfl, hW, rfl, _, rfl, ?_⟩
      have hm := Int.emod_nonneg a (show (t : Int) ≠ 0 by omega)
      have hl := Int.emod_lt_of_pos a t0
      have e : a % (t : Int) = ((a % (t : Int)).toNat : Int) := by omega
      show Q (.int (a % (t : Int))) _
      rw [e]
      exact q _ _ (by omega) (Sm.put .rfl') ⟨_, _, _, upd_same, b0, b1, c0, by omega⟩
    · refine ⟨_, rfl, W, _, _, _, rfl, rfl, .of hW, aI2 _ _ _, _, _, rfl, rfl, ?_⟩
      refine ⟨_, rfl, W, _, _, 2, rfl, rfl, hW, rfl, ?_⟩
      refine ⟨by decide, fun p np => ?_⟩
      have nW : W ≠ p := ne_of_none upd_same np
      have hW1 : ∀ o, upd (upd H W (.lst [.int a, .int b, .int (c + 1)])) p o W = some (.lst [.int a, .int b, .int (c + 1)]) := fun o => by rw [upd_ne nW, upd_same]
      refine ⟨_, rfl, W, _, _, _, rfl, rfl, .of (hW1 _), aI2 _ _ _, _, _, rfl, rfl, by walk_at "z", ?_⟩
      obtain ⟨pr, hpr, p0, p1⟩ : ∃ pr : Int, atI [V.int 2147483629, V.int 2147483587, V.int 2147483579, V.int 2147483563, V.int 2147483549] ((c + 1) % 5) = some (V.int pr) ∧ 1 ≤ pr ∧ pr < 2147483648 := by
        have h5 := Int.emod_nonneg (c + 1) (show (5 : Int) ≠ 0 by decide)
        have h6 := Int.emod_lt_of_pos (c + 1) (show (0 : Int) < 5 by decide)
        have : (c + 1) % 5 = 0 ∨ (c + 1) % 5 = 1 ∨ (c + 1) % 5 = 2 ∨ (c + 1) % 5 = 3 ∨ (c + 1) % 5 = 4 := by omega
        rcases this with e | e | e | e | e <;> rw [e]
        · exact ⟨2147483629, rfl, by decide, by decide⟩
        · exact ⟨2147483587, rfl, by decide, by decide⟩
        · exact ⟨2147483579, rfl, by decide, by decide⟩
        · exact ⟨2147483563, rfl, by decide, by decide⟩
        · exact ⟨2147483549, rfl, by decide, by decide⟩
      refine ⟨p, _, _, _, rfl, rfl, .of upd_same, hpr, ?_⟩
      refine ⟨_, rfl, W, _, _, _, rfl, rfl, .of (hW1 _), aI1 _ _ _, _, rfl, W, _, _, _, rfl, rfl, .of (hW1 _), aI2 _ _ _, _, _, rfl, rfl, .inl (by decide), ?_⟩
      refine ⟨_, _, rfl, rfl, _, _, rfl, rfl, _, _, rfl, rfl, ⟨by decide, by decide, by omega⟩, _, rfl, _, _, rfl, rfl, by walk_at "z", ?_⟩
      -- the twist, below the prime
      dsimp only
      generalize hx : (b + 6701 * (c + 1) + 3) ^ Int.toNat 5 % pr = x
      have x0 : 0 ≤ x := by rw [← hx]; exact Int.emod_nonneg _ (by omega)
      have x1 : x < pr := by rw [← hx]; exact Int.emod_lt_of_pos _ (by omega)
      refine ⟨_, rfl, _, rfl, W, _, _, _, rfl, rfl, .of (hW1 _), aI2 _ _ _, _, _, rfl, rfl, _, rfl, _, _, rfl, rfl, ⟨by decide, by decide⟩, _, _, rfl, rfl, _, _, rfl, rfl, .inr ?_, _, rfl, _, _, rfl, rfl, by walk_at "z", ?_⟩
      · have := Int.ediv_le_self 1013 x0
        have := Int.ediv_nonneg x0 (show (0 : Int) ≤ 1013 by decide)
        try dsimp only
        omega
      dsimp only
      generalize hy : (x + (c + 1)) * (x / 1013 + 40693) % pr = y
      have y0 : 0 ≤ y := by rw [← hy]; exact Int.emod_nonneg _ (by omega)
      refine ⟨_, rfl, _, _, rfl, rfl, ⟨by decide, by decide⟩, _, rfl, _, _, rfl, rfl, by walk_at "z", ?_⟩
      have hm := Int.emod_nonneg (y / 11) (show (t : Int) ≠ 0 by omega)
      have hl := Int.emod_lt_of_pos (y / 11) t0
      have e : y / 11 % (t : Int) = ((y / 11 % (t : Int)).toNat : Int) := by omega
      show Q (.int (y / 11 % (t : Int))) _
      rw [e]
      refine q _ _ (by omega) (Sm.new (Sm.put .rfl') np) ⟨_, _, _, hW1 _, b0, b1, by omega, by omega⟩
end
end T11

set_option maxHeartbeats 1000000
local macro_rules | `(tactic| walk_at "z") => `(tactic| ((try dsimp only); first | assumption | omega | decide | (simp only [List.length_cons, List.length_nil]; first | decide | omega)))
namespace T11
open PySem L2 PyProof.Rows TX
section
variable {P : Program} {w : World} {K : PySem.W.Frag} {mg : Str → Option Value} {base : Heap}
abbrev N_names : List Str := ["_law_well_here", "_law_count", "_law_letters", "_law_begin", "_law_apart", "_law_base", "_law_spot", "_law_more", "_law_found", "_law_k", "_law_letter"]
theorem sc_names : FnScope N_names ["_law_well_here", "_law_count"] (defScope s_names) := ⟨rfl, rfl, rfl, by decide +kernel, rfl, by decide +kernel, by decide +kernel⟩
/-- names: as many unlike names as are asked for, up to 26 -/
def sp_names : Sp := fun vs H Q _ => ∃ (W : Addr) (t n : Nat), vs = [.ref W, .int t] ∧ t ≤ 26 ∧ WellAt (n + 11) H W ∧
  ∀ (H' : Hp) (p : Addr) (ns : List Str), Sm W H H' → WellAt n H' W → H p = none → p ≠ W → H' p = some (.lst (ns.map V.str)) → ns.length = t → ns.Nodup → (∀ s ∈ ns, TM.NameOk s) → Q (.ref p) H'
theorem ok_names {f fD : Addr} {fd fdD : FuncData} (F : Fn K mg "_law_names" s_names ["_law_well_here", "_law_count"] f fd) (B : Bn mg) (D : Fn K mg "_law_draw" s_draw ["_law_well_here", "_law_top"] fD fdD) :
    FnOk P w K mg base CX0 2 f fd ["_law_well_here", "_law_count"] sp_names := by
  have GD : FnOk P w K mg base CX0 1 fD fdD ["_law_well_here", "_law_top"] sp_draw := ok_draw D
  refine F.F.ok sc_names (fun vs H Q E h => ?_) (fun cdv A outer s H vs Q E hr h => ?_)
  · obtain ⟨W, t, n, rfl, _⟩ := h
    rfl
  · obtain ⟨W, t, n, rfl, h0, hW, q⟩ := h
    have hu := hu_of hr
    refine ⟨_, pss_cons (ps_set (i := 2) sc_names.nd rfl (Or.inr rfl) pe_str)
      (pss_cons (ps_set (i := 3) sc_names.nd rfl (Or.inl rfl) (pe_call GD hr rfl D.g D.F.kp D.b .nil pass0 (pa_cons (pv 0) (pa_cons pe_int pa_nil))))
      (pss_cons (ps_set (i := 4) sc_names.nd rfl (Or.inl rfl) (pe_ix ix_list (pe_lst (pa_cons pe_int (pa_cons pe_int (pa_cons pe_int (pa_cons pe_int (pa_cons pe_int (pa_cons pe_int (pa_cons pe_int (pa_cons pe_int pa_nil)))))))))
          (pe_call GD hr rfl D.g D.F.kp D.b .nil pass0 (pa_cons (pv 0) (pa_cons pe_int pa_nil))) (fun _ _ => rfl)))
      (pss_cons (ps_set (i := 5) sc_names.nd rfl (Or.inl rfl) (pe_join pe_str (pe_lc (own := [("_law_k", 9)]) (g := gName 9) (tt := tYes) rfl sc_names.nd (pi_range1 rfl B.range (pa_cons pe_int pa_nil)) (blkOk_by (N := N_names) (sc := defScope s_names) (by decide +kernel))
          (fun _ _ _ _ _ => pg_name (i := 9) sc_names.nd rfl (Or.inl rfl)) (fun _ _ _ _ _ => pts_nil)
          (fun _ _ _ _ _ => pe_ix ix_str (pv 2) (pe_call GD hr rfl D.g D.F.kp D.b .nil pass0 (pa_cons (pv 0) (pa_cons pe_int pa_nil))) (fun _ _ => rfl)))))
      (pss_cons (ps_set (i := 6) sc_names.nd rfl (Or.inl rfl) (pe_call GD hr rfl D.g D.F.kp D.b .nil pass0 (pa_cons (pv 0) (pa_cons pe_int pa_nil))))
      (pss_cons (ps_set (i := 7) sc_names.nd rfl (Or.inl rfl) (pe_call GD hr rfl D.g D.F.kp D.b .nil pass0 (pa_cons (pv 0) (pa_cons (pe_op op_sub pe_int (pv 6)) pa_nil))))
      (pss_cons (ps_set (i := 8) sc_names.nd rfl (Or.inl rfl) (pe_lst pa_nil))
      (pss_cons (ps_for PassesOwn.never rfl (pi_range1 rfl B.range (pa_cons (pv 1) pa_nil)) (pg_name (i := 9) sc_names.nd rfl (Or.inl rfl))
        (pss_cons (ps_set (i := 10) sc_names.nd rfl (Or.inl rfl) (pe_ix ix_str (pv 2) (pe_op op_mod (pe_op op_add (pv 3) (pe_op op_mul (pv 4) (pv 9))) pe_int) (fun _ _ => rfl)))
        (pss_one (ps_expr (pe_bm PySem.F.plainAttrs_list PySem.F.slot_list_append PySem.F.type_list_append mt_append (pv 8)
          (pa_cons (pe_op op_add_str (pe_op op_add_str (pe_slice sl_str (pv 5) po_none (po_some (pv 6))) (pv 10)) (pe_slice sl_str (pv 5) (po_some (pv 6)) (po_some (pe_op op_add (pv 6) (pv 7))))) pa_nil))))))
      (pss_one (ps_ret (pv 8)))))))))), ?_⟩
    refine ⟨_, rfl, W, 26, n + 10, rfl, by decide, by decide, hW, fun H1 bg hbg s1 w1 => ?_⟩
    -- apart
    refine ⟨by decide, fun p1 n1 => ?_⟩
    have w1' : WellAt (n + 10) (upd H1 p1 (.lst [.int 1, .int 3, .int 5, .int 7, .int 9, .int 11, .int 15, .int 17])) W := w1.new n1
    have pW1 : p1 ≠ W := (w1.ne n1).symm
    refine ⟨_, rfl, W, 8, n + 9, rfl, by decide, by decide, w1', fun H2 j hj s2 w2 => ?_⟩
    have e2 : H2 p1 = some (.lst [.int 1, .int 3, .int 5, .int 7, .int 9, .int 11, .int 15, .int 17]) := s2 _ _ pW1 upd_same
    obtain ⟨ap, hap, hap2⟩ : ∃ ap : Nat, ap ∈ [1, 3, 5, 7, 9, 11, 15, 17] ∧ atI [V.int 1, .int 3, .int 5, .int 7, .int 9, .int 11, .int 15, .int 17] (j : Int) = some (V.int (ap : Int)) := by
      have : j = 0 ∨ j = 1 ∨ j = 2 ∨ j = 3 ∨ j = 4 ∨ j = 5 ∨ j = 6 ∨ j = 7 := by omega
      rcases this with e | e | e | e | e | e | e | e <;> subst e
      · exact ⟨1, by decide, rfl⟩
      · exact ⟨3, by decide, rfl⟩
      · exact ⟨5, by decide, rfl⟩
      · exact ⟨7, by decide, rfl⟩
      · exact ⟨9, by decide, rfl⟩
      · exact ⟨11, by decide, rfl⟩
      · exact ⟨15, by decide, rfl⟩
      · exact ⟨17, by decide, rfl⟩
    refine ⟨p1, _, _, _, rfl, rfl, .of e2, hap2, ?_⟩
    have sm2 : Sm W H H2 := (s1.new n1).trans s2
    -- base
    refine ⟨⟨_, rfl⟩, 7, rfl, by decide, by decide, fun L nL => ?_⟩
    refine lc_it (walk_range (lo := 0) (n := (7 : Int).toNat)) (fun i H' => ∃ cs : List Nat, H' L = some (.lst (cs.map fun c => V.str (S [c]))) ∧ cs.length = i ∧ (∀ c ∈ cs, 97 ≤ c ∧ c ≤ 122) ∧ Sm W H2 H' ∧ WellAt (n + 2 + (7 - i)) H' W)
      ⟨[], upd_same, rfl, by simp, Sm.new .rfl' nL, w2.new nL⟩ (fun _ _ _ _ => trivial) ?_ ?_
    · rintro i x H3 H3' hi ⟨cs, eL, hcs, hc, s3, w3⟩ ⟨rfl, rfl⟩
      have hi7 : i < 7 := hi
      refine ⟨rfl, ?_⟩
      refine ⟨_, rfl, _, rfl, W, 26, n + 2 + (7 - (i + 1)), rfl, by decide, by decide, w3.mono (by omega), fun H4 c hc4 s4 w4 => ?_⟩
      have LW : L ≠ W := (w2.ne nL).symm
      refine ⟨_, _, _, rfl, rfl, abc_len, abc_at hc4, _, s4 _ _ LW eL, ?_, cs ++ [97 + c], ?_, ?_, ?_, ?_, ?_⟩
      · rw [List.length_map, hcs]
        exact Nat.lt_trans hi7 (by decide)
      · rw [upd_same, List.map_append]
        rfl
      · rw [List.length_append, hcs]
        rfl
      · intro x hx
        rcases List.mem_append.mp hx with hx | hx
        · exact hc x hx
        · rw [List.mem_singleton.mp hx]
          omega
      · exact (s3.trans s4).mut nL
      · exact w4.upd LW.symm
    · rintro H3 ⟨cs, eL, hcs, hc, s3, w3⟩
      refine ⟨_, L, cs.map (fun c => S [c]), rfl, rfl, .inl (.of (by rw [eL, List.map_map]; rfl)), ?_, ?_⟩
      · have e7 : cs.length = 7 := hcs
        rw [List.length_map, sum_signs, e7, len_empty]
        decide
      rw [join_signs]
      have sm3 : Sm W H H3 := sm2.trans s3
      have hcs7 : cs.length = 7 := hcs
      have w3' : WellAt (n + 2) H3 W := w3.mono (by omega)
      -- spot, more
      refine ⟨_, rfl, W, 8, n + 1, rfl, by decide, by decide, w3', fun H4 sp hsp s4 w4 => ?_⟩
      refine ⟨_, rfl, _, rfl, _, _, rfl, rfl, W, 8 - sp, n, ?_, by omega, by omega, w4, fun H5 mo hmo s5 w5 => ?_⟩
      · show [V.ref W, V.int (8 - (sp : Int))] = [V.ref W, V.int ((8 - sp : Nat) : Int)]
        rw [show ((8 - sp : Nat) : Int) = 8 - (sp : Int) by omega]
      have sm5 : Sm W H H5 := (sm3.trans s4).trans s5
      -- found = []
      refine ⟨by decide, fun p np => ?_⟩
      have npH : H p = none := sm5.free hW np ⟨n, w5⟩
      have pW : p ≠ W := (w5.ne np).symm
      refine ⟨_, rfl, (t : Int), rfl, by omega, by omega, ?_⟩
      rw [show ((t : Int)).toNat = t by omega]
      refine for_range (lo := 0) (n := t) (fun i σ H' => ∃ v1 v2 : Option V, σ = [some (.ref W), some (.int t), some (.str abc), some (.int bg), some (.int ap), some (.str (S cs)), some (.int sp), some (.int mo), some (.ref p), v1, v2] ∧
          H' p = some (.lst (((List.range i).map (nmOf cs sp mo bg ap)).map V.str)) ∧ Sm W H5 H' ∧ WellAt n H' W)
        ⟨none, none, rfl, upd_same, Sm.new .rfl' np, w5.new np⟩ ?_ ?_
      · rintro i σ H6 hi ⟨v1, v2, rfl, e6, s6, w6⟩
        have hm : (bg + ap * i) % 26 < 26 := Nat.mod_lt _ (by decide)
        have ez : ((bg : Int) + (ap : Int) * (0 + (i : Int))) % 26 = (((bg + ap * i) % 26 : Nat) : Int) := by
          rw [Int.zero_add]
          omega
        have hap17 : ap ≤ 17 := by
          simp only [List.mem_cons, List.not_mem_nil, or_false] at hap
          omega
        refine ⟨_, rfl, _, rfl, _, rfl, _, rfl, _, _, rfl, rfl, .inl ⟨by omega, by omega⟩, _, _, rfl, rfl, _, _, rfl, rfl, by walk_at "z", ?_⟩
        refine ⟨_, _, _, rfl, rfl, abc_len, by rw [ez]; exact abc_at hm, ?_⟩
        have hcut1 : (cutS (S cs) none (some (sp : Int))) = S (cs.take sp) := by
          rw [cutS_S, hcs7, HT.sIx_none, HT.sIx_nat, List.drop_zero, Nat.min_eq_left (by omega), Nat.sub_zero]
        have hcut2 : (cutS (S cs) (some (sp : Int)) (some ((sp : Int) + (mo : Int)))) = S ((cs.drop sp).take mo) := by
          rw [show ((sp : Int) + (mo : Int)) = ((sp + mo : Nat) : Int) by omega, cutS_S, hcs7, HT.sIx_nat, HT.sIx_nat, Nat.min_eq_left (by omega), Nat.min_eq_left (by omega), Nat.add_sub_cancel_left]
        have hl7 : (S cs).length ≤ sizeLine := by rw [S_len, hcs7]; decide
        have hL : ∀ m : List Nat, m.length ≤ 100 → m.length ≤ sizeLine := fun m h => Nat.le_trans h (by decide)
        refine ⟨_, rfl, .inl ⟨rfl, _, .inl (.inl e6)⟩, _, rfl, _, rfl, _, rfl, _, rfl, hl7, _, rfl, _, _, rfl, rfl, ?_, _, rfl, _, rfl, _, rfl, _, rfl, _, rfl, _, _, rfl, rfl, _, rfl, _, rfl, hl7, _, _, rfl, rfl, ?_, _, _, _, rfl, rfl, e6, ?_, _, _, rfl, ?_, ?_, ?_⟩
        · rw [hcut1, S_len]
          refine line100 ?_
          have : (cs.take sp).length ≤ 7 := by rw [List.length_take, hcs7]; omega
          show _ + 1 ≤ 1000
          omega
        · rw [hcut1, hcut2, sapp_len, S_len, S_len]
          refine line100 ?_
          have h1 : (cs.take sp).length ≤ 7 := by rw [List.length_take, hcs7]; omega
          have h2 : ((cs.drop sp).take mo).length ≤ 7 := by rw [List.length_take, List.length_drop, hcs7]; omega
          show _ + 1 + _ ≤ 1000
          omega
        · rw [List.length_map, List.length_map, List.length_range]
          exact line100' (by omega)
        · rw [upd_same, hcut1, hcut2, List.range_succ, List.map_append, List.map_append]
          have : S (cs.take sp) ++ (⟨#[97 + (bg + ap * i) % 26]⟩ : Str) ++ S ((cs.drop sp).take mo) = nmOf cs sp mo bg ap i := by
            show S (cs.take sp) ++ S [97 + (bg + ap * i) % 26] ++ S ((cs.drop sp).take mo) = _
            rw [S_app, S_app]
            unfold nmOf
            rw [List.append_assoc]
            rfl
          rw [this]
          rfl
        · exact s6.mut np
        · exact w6.upd pW.symm
      · rintro σ H6 ⟨v1, v2, rfl, e6, s6, w6⟩
        refine ⟨_, rfl, q H6 p ((List.range t).map (nmOf cs sp mo bg ap)) (sm5.trans s6) w6 npH pW e6 (by simp) (nm_nodup hap h0) ?_⟩
        intro s hs
        obtain ⟨k, _, rfl⟩ := List.mem_map.mp hs
        exact nm_ok hcs7 hc (by omega)
end
end T11

set_option maxHeartbeats 1000000
local macro_rules | `(tactic| walk_at "z") => `(tactic| ((try dsimp only); first | assumption | omega | decide | (simp only [List.length_cons, List.length_nil]; first | decide | omega)))
namespace T11
open PySem L2 PyProof.Rows TX
section
variable {P : Program} {w : World} {K : PySem.W.Frag} {mg : Str → Option Value} {base : Heap}
abbrev N_pairs : List Str := ["_law_well_here", "_law_names_here", "_law_found", "_law_k", "_law_name"]
theorem sc_pairs : FnScope N_pairs ["_law_well_here", "_law_names_here"] (defScope s_pairs) := ⟨rfl, rfl, rfl, by decide +kernel, rfl, by decide +kernel, by decide +kernel⟩
def sp_pairs : Sp := fun vs H Q _ => ∃ (W Nn : Addr) (ns : List Str) (n : Nat), vs = [.ref W, .ref Nn] ∧ H Nn = some (.lst (ns.map V.str)) ∧ Nn ≠ W ∧ ns.Nodup ∧ ns.length ≤ 26 ∧ WellAt (n + ns.length) H W ∧
  ∀ (H' : Hp) (p : Addr) (ps : List TM.Pr), Sm W H H' → WellAt n H' W → H p = none → p ≠ W → PairsAt H' p ps → ps.map Prod.fst = ns → TM.Valid [] ps → Q (.ref p) H'
theorem ok_pairs {f fD : Addr} {fd fdD : FuncData} (F : Fn K mg "_law_pairs" s_pairs ["_law_well_here", "_law_names_here"] f fd) (B : Bn mg) (D : Fn K mg "_law_draw" s_draw ["_law_well_here", "_law_top"] fD fdD) :
    FnOk P w K mg base CX0 2 f fd ["_law_well_here", "_law_names_here"] sp_pairs := by
  have GD : FnOk P w K mg base CX0 1 fD fdD ["_law_well_here", "_law_top"] sp_draw := ok_draw D
  refine F.F.ok sc_pairs (fun vs H Q E h => ?_) (fun cdv A outer s H vs Q E hr h => ?_)
  · obtain ⟨W, Nn, ns, n, rfl, _⟩ := h
    rfl
  · obtain ⟨W, Nn, ns, n, rfl, hN, hNW, hnd, hl, hW, q⟩ := h
    have hu := hu_of hr
    refine ⟨_, pss_cons (ps_set (i := 2) sc_pairs.nd rfl (Or.inl rfl) (pe_lst pa_nil))
      (pss_cons (ps_for PassesOwn.never rfl (pi_enum rfl B.enum (pa_cons (pv 1) pa_nil)) (pg_tup rfl (pgs_cons (pg_name (i := 3) sc_pairs.nd rfl (Or.inl rfl)) (pgs_cons (pg_name (i := 4) sc_pairs.nd rfl (Or.inl rfl)) pgs_nil)))
        (pss_one (ps_expr (pe_bm PySem.F.plainAttrs_list PySem.F.slot_list_append PySem.F.type_list_append mt_append (pv 2)
          (pa_cons (pe_tup (pa_cons (pv 4) (pa_cons (pe_ix ix_list (pe_op op_cat (pe_lst (pa_cons pe_non pa_nil)) (pv 1)) (pe_call GD hr rfl D.g D.F.kp D.b .nil pass0 (pa_cons (pv 0) (pa_cons (pe_op op_add (pv 3) pe_int) pa_nil))) (fun _ _ => rfl)) pa_nil))) pa_nil)))))
      (pss_one (ps_ret (pv 2)))), ?_⟩
    refine ⟨by decide, fun p np => ?_⟩
    have pW : p ≠ W := (hW.ne np).symm
    have npN : Nn ≠ p := ne_of_none hN np
    refine ⟨_, rfl, Nn, ns.map V.str, rfl, .of (by rw [upd_ne npN]; exact hN), ?_⟩
    refine for_it (walk_enum (xs := ns.map V.str)) (fun i σ H' => ∃ (ps : List TM.Pr) (as : List Addr) (v1 v2 : Option V), σ = [some (.ref W), some (.ref Nn), some (.ref p), v1, v2] ∧
        H' p = some (.lst (as.map V.ref)) ∧ TupsAt H' as ps ∧ ps.map Prod.fst = ns.take i ∧ TM.Valid [] ps ∧ Sm W H H' ∧ WellAt (n + (ns.length - i)) H' W)
      ⟨[], [], none, none, rfl, upd_same, .nil, rfl, trivial, Sm.new .rfl' np, hW.new np⟩ ?_ ?_ ?_
    · rintro i σ H1 hi ⟨ps, as, v1, v2, rfl, e1, t1, m1, va, s1, w1⟩
      exact .of (s1 _ _ hNW hN)
    · rintro i x σ H1 H1' hi ⟨ps, as, v1, v2, rfl, e1, t1, m1, va, s1, w1⟩ ⟨T, x1, x2, rfl, nT, rfl, hx1, hx2⟩
      rw [List.length_map] at hi
      obtain rfl : V.int (i : Int) = x1 := Option.some.inj hx1
      obtain ⟨nm, hnm, rfl⟩ : ∃ nm, ns[i]? = some nm ∧ x2 = V.str nm := by
        have h2 : (ns.map V.str)[i]? = some x2 := hx2
        rw [List.getElem?_map, List.getElem?_eq_getElem hi] at h2
        exact ⟨ns[i], List.getElem?_eq_getElem hi, (Option.some.inj h2).symm⟩
      have wT := w1.new (o := .tup [.int (i : Int), .str nm]) nT
      have sT : Sm W H (upd H1 T (.tup [.int (i : Int), .str nm])) := s1.new nT
      refine ⟨T, _, rfl, .of upd_same, rfl, ?_⟩
      have eT : ∀ o, (upd H1 T o) p = some (.lst (as.map V.ref)) := fun o => by rw [upd_ne (ne_of_none e1 nT)]; exact e1
      refine ⟨_, _, rfl, _, _, rfl, rfl, ?_⟩
      refine ⟨_, rfl, .inl ⟨rfl, _, .inl (.inl (eT _))⟩, _, rfl, by decide, fun c nc => ?_⟩
      have wc := wT.new (o := .lst [.non]) nc
      have sc := sT.new (o := .lst [.non]) nc
      have ec : upd (upd H1 T (.tup [.int (i : Int), .str nm])) c (.lst [.non]) p = some (.lst (as.map V.ref)) := by rw [upd_ne (ne_of_none (eT _) nc)]; exact eT _
      refine ⟨_, rfl, c, Nn, _, _, rfl, rfl, upd_same, sc _ _ hNW hN, ?_, fun r nr => ?_⟩
      · show 1 + _ ≤ sizeLine
        rw [List.length_map]
        exact line100 (by omega)
      have wr := wc.new (o := .lst ([.non] ++ ns.map V.str)) nr
      have sr := sc.new (o := .lst ([.non] ++ ns.map V.str)) nr
      have rW : r ≠ W := (wc.ne nr).symm
      refine ⟨_, rfl, _, rfl, _, _, rfl, rfl, W, i + 1, n + (ns.length - (i + 1)), rfl, by omega, by omega, wr.mono (by omega), fun H2 k hk s2 w2 => ?_⟩
      have er : H2 r = some (.lst ([.non] ++ ns.map V.str)) := s2 _ _ rW upd_same
      obtain ⟨o, ho, hov⟩ : ∃ o : Option Str, atI ([V.non] ++ ns.map V.str) (k : Int) = some (optV o) ∧ ∀ x, o = some x → x ∈ ns.take i := by
        cases k with
        | zero => exact ⟨none, atI_nat (j := 0) rfl, fun x e => nomatch e⟩
        | succ k =>
          have hk' : k < ns.length := by omega
          refine ⟨some ns[k], atI_nat ?_, fun x e => ?_⟩
          · show (V.non :: ns.map V.str)[k + 1]? = _
            rw [List.getElem?_cons_succ, List.getElem?_map, List.getElem?_eq_getElem hk']
            rfl
          · cases e
            rw [List.mem_take_iff_getElem]
            exact ⟨k, by omega, rfl⟩
      refine ⟨r, _, _, _, rfl, rfl, .of er, ho, two_le, fun y ny => ?_⟩
      have e2 : H2 p = some (.lst (as.map V.ref)) := s2 _ _ pW (by rw [upd_ne (ne_of_none ec nr)]; exact ec)
      have t2 : TupsAt H2 as ps := ((((t1.same (Same.new nT)).same (Same.new nc)).same (Same.new nr)).sm s2 ⟨_, wr⟩)
      have ey : ∀ o, (upd H2 y o) p = some (.lst (as.map V.ref)) := fun o => by rw [upd_ne (ne_of_none e2 ny)]; exact e2
      have hal : as.length = ps.length := t2.len
      have hpl : ps.length = i := by
        have := congrArg List.length m1
        rw [List.length_map, List.length_take] at this
        omega
      refine ⟨p, _, _, rfl, rfl, ey _, ?_, ps ++ [(nm, o)], as ++ [y], _, _, rfl, ?_, ?_, ?_, ?_, ?_, ?_⟩
      · rw [List.length_map]
        exact line100' (by omega)
      · rw [upd_same, List.map_append]
        rfl
      · exact ((t2.same (Same.new ny)).snoc (q := (nm, o)) upd_same).put (ey _)
      · rw [List.map_append, m1, List.take_add_one, hnm]
        rfl
      · refine TM.valid_app va ?_
        rw [List.nil_append, m1]
        refine ⟨fun hc => ?_, hov, trivial⟩
        rw [List.mem_take_iff_getElem] at hc
        obtain ⟨j, hj, ej⟩ := hc
        have e4 : ns[i] = nm := by
          rw [List.getElem?_eq_getElem hi] at hnm
          exact Option.some.inj hnm
        have := (List.getElem_inj hnd (i := j) (j := i)).mp (ej.trans e4.symm)
        omega
      · exact (((sr.trans s2).new ny)).mut np
      · exact (w2.new ny).upd pW.symm
    · rintro σ H1 ⟨ps, as, v1, v2, rfl, e1, t1, m1, va, s1, w1⟩
      rw [List.length_map] at m1 w1
      rw [List.take_length] at m1
      refine ⟨_, rfl, q H1 p ps s1 (w1.mono (by omega)) np pW ⟨as, e1, t1⟩ m1 va⟩
end
end T11

set_option maxHeartbeats 1000000
namespace T11
open PySem L2 PyProof.Rows TX TY
/-! Whatever may be handed in, seen from the heap. -/
inductive Lf (H : Hp) : V → Prop
  | non : Lf H .non
  | bl (b : Bool) : Lf H (.bl b)
  | int (i : Int) : Lf H (.int i)
  | str (x : Str) (h : x.length ≤ 100) : Lf H (.str x)
  | tup {a : Addr} {xs : List V} (h : H a = some (.tup xs)) : Lf H (.ref a)
  | lst {a : Addr} {xs : List V} (h : H a = some (.lst xs)) (n : xs.length ≤ 2) : Lf H (.ref a)
  | dK {a : Addr} {kvs : List (Key × V)} (h : H a = some (.dK kvs)) : Lf H (.ref a)
theorem Lf.same {H H' : Hp} {v : V} (h : Lf H v) (s : Same H H') : Lf H' v := by
  cases h with
  | non => exact .non
  | bl b => exact .bl b
  | int i => exact .int i
  | str x h => exact .str x h
  | tup h => exact .tup (s _ _ h)
  | lst h n => exact .lst (s _ _ h) n
  | dK h => exact .dK (s _ _ h)
theorem Lf.sm {H H' : Hp} {v : V} {W : Addr} (h : Lf H v) (s : Sm W H H') (w : ∃ n, WellAt n H W) : Lf H' v := by
  obtain ⟨n, a, b, c, e, _⟩ := w
  cases h with
  | non => exact .non
  | bl b => exact .bl b
  | int i => exact .int i
  | str x h => exact .str x h
  | tup h => exact .tup (s _ _ (fun z => by subst z; rw [e] at h; cases h) h)
  | lst h n => exact .lst (s _ _ (fun z => by subst z; rw [e] at h; cases h; exact absurd n (by simp)) h) n
  | dK h => exact .dK (s _ _ (fun z => by subst z; rw [e] at h; cases h) h)
def isS : V → Bool
  | .str _ => true
  | _ => false
theorem Lf.isS {K : PySem.W.Frag} {H : Hp} {v : V} (h : Lf H v) : ∃ t, TyX K H v (.type t) ∧ kitB t "str" = some (isS v) := by
  cases h with
  | non => exact ⟨_, .base .non, by decide +kernel⟩
  | bl b => exact ⟨_, .base (.bl b), (show kitB "bool" "str" = some false by decide +kernel)⟩
  | int i => exact ⟨_, .base (.int i), (show kitB "int" "str" = some false by decide +kernel)⟩
  | str x _ => exact ⟨_, .base (.str x), (show kitB "str" "str" = some true by decide +kernel)⟩
  | tup h => exact ⟨_, .base (.tup h), (show kitB "tuple" "str" = some false by decide +kernel)⟩
  | lst h _ => exact ⟨_, .base (.lst h), (show kitB "list" "str" = some false by decide +kernel)⟩
  | dK h => exact ⟨_, .base (.dK h), (show kitB "dict" "str" = some false by decide +kernel)⟩
/-- what a name is -/
def okc (c : Nat) : Bool := !decide ([c] < (Str.ofString "a").cps.toList) && !decide ((Str.ofString "z").cps.toList < [c])
theorem okc_iff (c : Nat) : okc c = true ↔ 97 ≤ c ∧ c ≤ 122 := by
  unfold okc
  rw [str_a, str_z, S_cps, S_cps, Bool.and_eq_true, Bool.not_eq_true', Bool.not_eq_true', decide_eq_false_iff_not, decide_eq_false_iff_not, lt_sign, lt_sign]
  omega
def nameB (x : Str) : Bool := decide (1 ≤ x.length) && (decide (x.length ≤ 8) && x.cps.toList.all okc)
theorem nameB_iff (x : Str) : nameB x = true ↔ TM.NameOk x := by
  unfold nameB TM.NameOk
  rw [Bool.and_eq_true, Bool.and_eq_true, decide_eq_true_iff, decide_eq_true_iff, List.all_eq_true]
  constructor
  · rintro ⟨h1, h2, h3⟩
    exact ⟨h1, h2, fun c hc => (okc_iff c).mp (h3 c hc)⟩
  · rintro ⟨h1, h2, h3⟩
    exact ⟨h1, h2, fun c hc => (okc_iff c).mpr (h3 c hc)⟩
def isNm : V → Bool
  | .str x => nameB x
  | _ => false
section
variable {P : Program} {w : World} {K : PySem.W.Frag} {mg : Str → Option Value} {base : Heap}
/-- the constants of the module -/
structure Cn (mg : Str → Option Value) : Prop where
  longest : ∃ t, mg "LONGEST_NAME" = some (.int 8 t)
  most : ∃ t, mg "MOST_COLUMNS" = some (.int 8 t)
theorem sc_is_name : FnScope ["thing", "sign"] ["thing"] (defScope s_is_name) := ⟨rfl, rfl, rfl, by decide +kernel, rfl, by decide +kernel, by decide +kernel⟩
def sp_is_name : Sp := fun vs H Q _ => ∃ (v : V), vs = [v] ∧ Lf H v ∧ ∀ H', Same H H' → Q (.bl (isNm v)) H'
theorem ok_is_name {f : Addr} {fd : FuncData} (F : Fn K mg "is_name" s_is_name ["thing"] f fd) (B : Bn mg) (C : Cn mg) : FnOk P w K mg base CX0 1 f fd ["thing"] sp_is_name := by
  refine F.F.ok sc_is_name (fun vs H Q E h => ?_) (fun cdv A outer s H vs Q E hr h => ?_)
  · obtain ⟨x, rfl, _⟩ := h
    rfl
  · obtain ⟨v, rfl, hv, q⟩ := h
    have hu := hu_of hr
    obtain ⟨tl, hlg⟩ := C.longest
    refine ⟨_, pss_cons (ps_if (PW.pt (pw_or (pt_not (pt_val (pe_callB call_isi (by rfl) B.isi boot_isinstance (pa_cons (pv 0) (pa_cons (pe_bltn (v := .ty "str") (by rfl) B.str boot_str rfl) pa_nil)))))
        (pw_or1 (pt_not (pt_chain op_le op_le pe_int (pe_callB call_len_str (by rfl) B.len PySem.boot_len (pa_cons (pv 0) pa_nil)) (pe_glob (v := .int 8) (by rfl) hlg ⟨_, rfl⟩)))))) (pss_one (ps_ret pe_bl)) pss_nil)
      (pss_one (ps_ret (pe_callB (cr_all rfl) (by rfl) B.all boot_all (pa_cons (pe_lc (own := [("sign", 1)]) (g := gName 1) (tt := tYes) rfl sc_is_name.nd (pi_str (pv 0)) (blkOk_by (N := ["thing", "sign"]) (sc := defScope s_is_name) (by decide +kernel))
          (fun _ _ _ _ _ => pg_name (i := 1) sc_is_name.nd rfl (Or.inl rfl)) (fun _ _ _ _ _ => pts_nil)
          (fun _ _ _ _ _ => pe_chain op_le_str op_le_str pe_str (pv 1) pe_str)) pa_nil)))), ?_⟩
    obtain ⟨t, ty, hk⟩ := hv.isS (K := K)
    refine ⟨_, rfl, _, _, _, _, isS v, rfl, .ty _, ty, kit_ty hk, _, rfl, ?_⟩
    have q0 := q H same_rfl
    cases hv with
    | str x hx =>
      have e0 : isNm (.str x) = nameB x := rfl
      rw [e0] at q0
      have q' : ∀ H', Same H H' → Q (.bl (nameB x)) H' := q
      clear q
      by_cases h1 : 1 ≤ x.length
      · by_cases h2 : x.length ≤ 8
        · refine ⟨_, rfl, x, rfl, line100 (by omega), _, _, rfl, rfl, true, ?_, _, _, rfl, rfl, true, ?_, ?_⟩
          · exact congrArg V.bl (decide_eq_true (show (1 : Int) ≤ (x.length : Int) by omega))
          · exact congrArg V.bl (decide_eq_true (show (x.length : Int) ≤ 8 by omega))
          refine ⟨_, rfl, x, rfl, fun L nL => ?_⟩
          refine lc_it walk_str (fun i H' => H' L = some (.lst (((x.cps.toList.take i).map okc).map V.bl)) ∧ Same H H') ⟨upd_same, Same.new nL⟩ (fun _ _ _ _ => trivial) ?_ ?_
          · rintro i v H1 H1' hi ⟨e1, s1⟩ ⟨rfl, c, hc, rfl⟩
            refine ⟨rfl, ?_⟩
            have hc' : x.cps.toList[i]? = some c := by rw [Array.getElem?_toList]; exact hc
            have key : ∀ b : Bool, okc c = b → ∃ xs, H1' L = some (.lst xs) ∧ xs.length < sizeLine ∧ (upd H1' L (.lst (xs ++ [V.bl b])) L = some (.lst (((x.cps.toList.take (i + 1)).map okc).map V.bl)) ∧ Same H (upd H1' L (.lst (xs ++ [V.bl b])))) := by
              intro b hb
              refine ⟨_, e1, ?_, ?_, Same.mut s1 nL⟩
              · rw [List.length_map, List.length_map, List.length_take]
                have : x.cps.toList.length ≤ 8 := by rw [Array.length_toList]; exact h2
                exact line100' (by omega)
              · rw [upd_same, List.take_add_one, hc', List.map_append, List.map_append, ← hb]
                rfl
            refine ⟨_, rfl, _, _, rfl, rfl, !decide ([c] < (Str.ofString "a").cps.toList), rfl, ?_⟩
            cases ha : !decide ([c] < (Str.ofString "a").cps.toList) with
            | true =>
              refine ⟨_, _, rfl, rfl, ?_⟩
              exact key _ (by unfold okc; rw [ha, Bool.true_and])
            | false => exact key false (by unfold okc; rw [ha, Bool.false_and])
          · rintro H1 ⟨e1, s1⟩
            rw [show x.cps.size = x.cps.toList.length by rw [Array.length_toList], List.take_length] at e1
            refine ⟨L, x.cps.toList.map okc, rfl, .of e1, ?_⟩
            have e2 : (x.cps.toList.map okc).all id = nameB x := by
              unfold nameB
              rw [decide_eq_true h1, decide_eq_true h2, Bool.true_and, Bool.true_and, List.all_map]
              rfl
            rw [e2]
            exact q' _ s1
        · have e1 : nameB x = false := by unfold nameB; rw [decide_eq_false h2, Bool.false_and, Bool.and_false]
          rw [e1] at q0
          refine ⟨_, rfl, x, rfl, line100 (by omega), _, _, rfl, rfl, true, ?_, _, _, rfl, rfl, false, ?_, ?_⟩
          · exact congrArg V.bl (decide_eq_true (show (1 : Int) ≤ (x.length : Int) by omega))
          · exact congrArg V.bl (decide_eq_false (show ¬ (x.length : Int) ≤ 8 by omega))
          exact q0
      · have e1 : nameB x = false := by unfold nameB; rw [decide_eq_false h1, Bool.false_and]
        rw [e1] at q0
        refine ⟨_, rfl, x, rfl, line100 (by omega), _, _, rfl, rfl, false, ?_, false, rfl, ?_⟩
        · exact congrArg V.bl (decide_eq_false (show ¬ (1 : Int) ≤ (x.length : Int) by omega))
        exact q0
    | _ => exact q0

/-- is_name_in asked of a dict of names -/
def isCol (ps : List TM.Pr) (v : V) : Bool := match v with
  | .str x => nameB x && decide (x ∈ ps.map Prod.fst)
  | _ => false
theorem sc_is_name_in : FnScope ["thing", "names"] ["thing", "names"] (defScope s_is_name_in) := ⟨rfl, rfl, rfl, by decide +kernel, rfl, by decide +kernel, by decide +kernel⟩
def sp_is_name_inD : Sp := fun vs H Q _ => ∃ (v : V) (d : Addr) (ps : List TM.Pr), vs = [v, .ref d] ∧ Lf H v ∧ H d = some (.dK (kvsOf ps)) ∧ (ps.map Prod.fst).Nodup ∧ ∀ H', Same H H' → Q (.bl (isCol ps v)) H'
theorem ok_is_name_inD {f fN : Addr} {fd fdN : FuncData} (F : Fn K mg "is_name_in" s_is_name_in ["thing", "names"] f fd) (B : Bn mg) (C : Cn mg) (FN : Fn K mg "is_name" s_is_name ["thing"] fN fdN) : FnOk P w K mg base CX0 2 f fd ["thing", "names"] sp_is_name_inD := by
  have GN : FnOk P w K mg base CX0 1 fN fdN ["thing"] sp_is_name := ok_is_name FN B C
  refine F.F.ok sc_is_name_in (fun vs H Q E h => ?_) (fun cdv A outer s H vs Q E hr h => ?_)
  · obtain ⟨v, d, ps, rfl, _⟩ := h
    rfl
  · obtain ⟨v, d, ps, rfl, hv, hd, nd, q⟩ := h
    have hu := hu_of hr
    refine ⟨_, pss_one (ps_ret (pe_and (pe_call GN hr rfl FN.g FN.F.kp FN.b .nil pass0 (pa_cons (pv 0) pa_nil)) (pe_one (pe_cmp (pc_din hu (pv 0) (pv 1)))))), ?_⟩
    refine ⟨_, rfl, v, rfl, hv, fun H1 s1 => ⟨isNm v, rfl, ?_⟩⟩
    have q1 := q H1 s1
    cases v with
    | str x =>
      have e0 : isCol ps (.str x) = (nameB x && decide (x ∈ ps.map Prod.fst)) := rfl
      rw [e0] at q1
      have e1 : isNm (.str x) = nameB x := rfl
      rw [e1]
      cases hn : nameB x with
      | true =>
        rw [hn, Bool.true_and] at q1
        refine ⟨_, rfl, _, rfl, d, _, rfl, DGet.k (k := Sum.inr x) (s1 _ _ hd), ?_⟩
        rw [kvs_isSome nd]
        exact q1
      | false =>
        rw [hn, Bool.false_and] at q1
        exact q1
    | _ => exact q1
/-- an item of a list that is handed in for pairs; what it says, where it is two things -/
inductive It (H : Hp) : V → Option (V × V) → Prop
  | two {a : Addr} {c o : V} (h : H a = some (.tup [c, o])) (hc : Lf H c) (ho : Lf H o) : It H (.ref a) (some (c, o))
  | tup {a : Addr} {xs : List V} (h : H a = some (.tup xs)) (n : xs.length ≠ 2) (l : xs.length ≤ 100) : It H (.ref a) none
  | non : It H .non none
  | bl (b : Bool) : It H (.bl b) none
  | int (i : Int) : It H (.int i) none
  | str (x : Str) (h : x.length ≤ 100) : It H (.str x) none
  | lst {a : Addr} {xs : List V} (h : H a = some (.lst xs)) (n : xs.length ≤ 2) : It H (.ref a) none
  | dK {a : Addr} {kvs : List (Key × V)} (h : H a = some (.dK kvs)) : It H (.ref a) none
theorem It.same {H H' : Hp} {v : V} {D : Option (V × V)} (h : It H v D) (s : Same H H') : It H' v D := by
  cases h with
  | two h hc ho => exact .two (s _ _ h) (hc.same s) (ho.same s)
  | tup h n l => exact .tup (s _ _ h) n l
  | non => exact .non
  | bl b => exact .bl b
  | int i => exact .int i
  | str x h => exact .str x h
  | lst h n => exact .lst (s _ _ h) n
  | dK h => exact .dK (s _ _ h)
theorem It.sm {H H' : Hp} {v : V} {D : Option (V × V)} {W : Addr} (h : It H v D) (s : Sm W H H') (w : ∃ n, WellAt n H W) : It H' v D := by
  obtain ⟨n, a, b, c, e, e2⟩ := id w
  cases h with
  | two h hc ho => exact .two (s _ _ (fun z => by subst z; rw [e] at h; cases h) h) (hc.sm s w) (ho.sm s w)
  | tup h n l => exact .tup (s _ _ (fun z => by subst z; rw [e] at h; cases h) h) n l
  | non => exact .non
  | bl b => exact .bl b
  | int i => exact .int i
  | str x h => exact .str x h
  | lst h n => exact .lst (s _ _ (fun z => by subst z; rw [e] at h; cases h; exact absurd n (by simp)) h) n
  | dK h => exact .dK (s _ _ (fun z => by subst z; rw [e] at h; cases h) h)
theorem It.item {H : Hp} {v : V} {D : Option (V × V)} (h : It H v D) : itemV v = true := by cases h <;> rfl
/-- the pair that an item is, behind those told -/
def okp (ps : List TM.Pr) : Option (V × V) → Option TM.Pr
  | some (.str c, o) => if nameB c && !decide (c ∈ ps.map Prod.fst) then (match o with
    | .non => some (c, none)
    | .str x => if isCol ps (.str x) then some (c, some x) else none
    | _ => none) else none
  | _ => none
theorem sc_is_pair : FnScope ["thing", "overs", "column", "upper"] ["thing", "overs"] (defScope s_is_pair) := ⟨rfl, rfl, rfl, by decide +kernel, rfl, by decide +kernel, by decide +kernel⟩
def sp_is_pair : Sp := fun vs H Q _ => ∃ (v : V) (D : Option (V × V)) (d : Addr) (ps : List TM.Pr), vs = [v, .ref d] ∧ It H v D ∧ H d = some (.dK (kvsOf ps)) ∧ (ps.map Prod.fst).Nodup ∧ ∀ H', Same H H' → Q (.bl (okp ps D).isSome) H'
theorem ok_is_pair {f fN fC : Addr} {fd fdN fdC : FuncData} (F : Fn K mg "_is_pair" s_is_pair ["thing", "overs"] f fd) (B : Bn mg) (C : Cn mg) (FN : Fn K mg "is_name" s_is_name ["thing"] fN fdN) (FC : Fn K mg "is_name_in" s_is_name_in ["thing", "names"] fC fdC) :
    FnOk P w K mg base CX0 3 f fd ["thing", "overs"] sp_is_pair := by
  have GN : FnOk P w K mg base CX0 1 fN fdN ["thing"] sp_is_name := ok_is_name FN B C
  have GC : FnOk P w K mg base CX0 2 fC fdC ["thing", "names"] sp_is_name_inD := ok_is_name_inD FC B C FN
  refine F.F.ok sc_is_pair (fun vs H Q E h => ?_) (fun cdv A outer s H vs Q E hr h => ?_)
  · obtain ⟨v, D, d, ps, rfl, _⟩ := h
    rfl
  · obtain ⟨v, D, d, ps, rfl, hv, hd, hnd, q⟩ := h
    have hu := hu_of hr
    have hr1 : Room 1 _ := hr.mono (by decide)
    refine ⟨_, pss_cons (ps_if (PW.pt (pw_or (pt_not (pt_val (pe_callB call_isi (by rfl) B.isi boot_isinstance (pa_cons (pv 0) (pa_cons (pe_bltn (v := .ty "tuple") (by rfl) B.tuple boot_tuple rfl) pa_nil)))))
        (pw_or1 (pt_cmpR op_ne (pe_callB call_len_seq (by rfl) B.len PySem.boot_len (pa_cons (pv 0) pa_nil)) pe_int (nomark _))))) (pss_one (ps_ret pe_bl)) pss_nil)
      (pss_cons (ps_asg (pv 0) (pg_tup rfl (pgs_cons (pg_name (i := 2) sc_is_pair.nd rfl (Or.inl rfl)) (pgs_cons (pg_name (i := 3) sc_is_pair.nd rfl (Or.inl rfl)) pgs_nil))))
      (pss_cons (ps_if (PW.pt (pw_or (pt_not (pt_val (pe_call GN hr1 rfl FN.g FN.F.kp FN.b .nil pass0 (pa_cons (pv 2) pa_nil)))) (pw_or1 (pt_cmp (pc_din hu (pv 2) (pv 1)))))) (pss_one (ps_ret pe_bl)) pss_nil)
      (pss_one (ps_ret (pe_or (pe_cmp (pc_isN (pv 3))) (pe_one (pe_call GC hr rfl FC.g FC.F.kp FC.b .nil pass0 (pa_cons (pv 3) (pa_cons (pv 1) pa_nil))))))))), ?_⟩
    have q0 := q H same_rfl
    cases hv with
    | non => exact ⟨_, rfl, _, _, _, _, false, rfl, .ty _, .base .non, kit_ty (show kitB "NoneType" "tuple" = some false by decide +kernel), _, rfl, q0⟩
    | bl b => exact ⟨_, rfl, _, _, _, _, false, rfl, .ty _, .base (.bl b), kit_ty (show kitB "bool" "tuple" = some false by decide +kernel), _, rfl, q0⟩
    | int i => exact ⟨_, rfl, _, _, _, _, false, rfl, .ty _, .base (.int i), kit_ty (show kitB "int" "tuple" = some false by decide +kernel), _, rfl, q0⟩
    | str x h => exact ⟨_, rfl, _, _, _, _, false, rfl, .ty _, .base (.str x), kit_ty (show kitB "str" "tuple" = some false by decide +kernel), _, rfl, q0⟩
    | lst h n => exact ⟨_, rfl, _, _, _, _, false, rfl, .ty _, .base (.lst h), kit_ty (show kitB "list" "tuple" = some false by decide +kernel), _, rfl, q0⟩
    | dK h => exact ⟨_, rfl, _, _, _, _, false, rfl, .ty _, .base (.dK h), kit_ty (show kitB "dict" "tuple" = some false by decide +kernel), _, rfl, q0⟩
    | @tup a xs h n l =>
      refine ⟨_, rfl, _, _, _, _, true, rfl, .ty _, .base (.tup h), kit_ty (show kitB "tuple" "tuple" = some true by decide +kernel), _, rfl, ?_⟩
      refine ⟨_, rfl, a, _, rfl, .inr (.of h), rfl, _, rfl, ?_⟩
      rw [decide_eq_false (show ¬ V.int (xs.length : Int) = V.int 2 from fun z => n (by have := V.int.inj z; omega))]
      exact q0
    | @two a c o ha hc ho =>
      refine ⟨_, rfl, _, _, _, _, true, rfl, .ty _, .base (.tup ha), kit_ty (show kitB "tuple" "tuple" = some true by decide +kernel), _, rfl, ?_⟩
      refine ⟨_, rfl, a, _, rfl, .inr (.of ha), rfl, _, rfl, ?_⟩
      refine ⟨_, rfl, a, _, rfl, .of ha, rfl, _, _, rfl, _, _, rfl, rfl, ?_⟩
      refine ⟨_, rfl, c, rfl, hc, fun H1 s1 => ⟨isNm c, rfl, ?_⟩⟩
      have q1 := q H1 s1
      cases hc with
      | str x hx =>
        have e1 : isNm (.str x) = nameB x := rfl
        have e2 : okp ps (some (.str x, o)) = if nameB x && !decide (x ∈ ps.map Prod.fst) then (match o with
          | .non => some (x, none)
          | .str y => if isCol ps (.str y) then some (x, some y) else none
          | _ => none) else none := rfl
        rw [e1]
        rw [e2] at q1
        cases hn : nameB x with
        | false =>
          rw [hn, Bool.false_and, if_neg Bool.false_ne_true] at q1
          exact q1
        | true =>
          rw [hn, Bool.true_and] at q1
          refine ⟨_, rfl, _, rfl, d, _, rfl, DGet.k (k := Sum.inr x) (s1 _ _ hd), _, rfl, ?_⟩
          rw [kvs_isSome hnd]
          cases hm : decide (x ∈ ps.map Prod.fst) with
          | true =>
            rw [hm] at q1
            exact q1
          | false =>
            rw [hm] at q1
            have q2 : ∀ H', Same H H' → Q (.bl (Option.isSome (match o with
              | .non => some (x, none)
              | .str y => if isCol ps (.str y) then some (x, some y) else none
              | _ => (none : Option TM.Pr)))) H' := fun H' s' => by
              have := q H' s'
              rw [e2, hn, hm] at this
              exact this
            clear q1
            by_cases hno : o = .non
            · subst hno
              exact ⟨_, rfl, true, rfl, q2 H1 s1⟩
            · refine ⟨_, rfl, false, congrArg V.bl (decide_eq_false hno), ?_⟩
              refine ⟨_, rfl, _, rfl, o, d, ps, rfl, ho.same s1, s1 _ _ hd, hnd, fun H2 s2 => ?_⟩
              have q3 := q2 H2 (s1.trans s2)
              cases o with
              | non => exact absurd rfl hno
              | str y =>
                dsimp only at q3
                cases hy : isCol ps (.str y) with
                | true => rw [hy] at q3; exact q3
                | false => rw [hy] at q3; exact q3
              | _ => exact q3
      | _ => exact q1
end
end T11

set_option maxHeartbeats 1000000
namespace T11
open PySem L2 PyProof.Rows TX TY
/-- an own class over ValueError, read off the written part -/
def oexB (K : PySem.W.Frag) (C : Addr) : Bool := match K.lookup C with
  | some ⟨.type "type", _, .cls cd, sl⟩ => (match cd.mro, sl.toList with
    | .ref D :: bm, [_, _, _, _, some (.builtin n), _] => D == C && (n == "ValueError.__new__" && (!cd.hasDel && (cd.hasDict && PySem.HandSPX.refsVE bm)))
    | _, _ => false)
  | _ => false
theorem oexB_ok {K : PySem.W.Frag} {C : Addr} (q : oexB K C = true) : ∃ nm q N bs bm sn sub ab col dd k0 k1 k2 k3 k5, K.lookup C = some (excClassObj nm q C N bs bm true sn sub ab col dd k0 k1 k2 k3 k5 "ValueError.__new__") ∧ PySem.HandSPX.refsVE bm = true := by
  unfold oexB at q
  split at q
  · rename_i dd cd sl ho
    split at q
    · rename_i D bm k0 k1 k2 k3 n k5 hm hs
      simp only [Bool.and_eq_true, beq_iff_eq, Bool.not_eq_true'] at q
      obtain ⟨rfl, rfl, hdel, hdict, ht⟩ := q
      obtain ⟨nm, bs, mro, ns, qn, hd, sn, sub, ab, col, del⟩ := cd
      dsimp only at hm hdel hdict
      subst hm hdel hdict
      have hsl : sl = #[k0, k1, k2, k3, some (.builtin "ValueError.__new__"), k5] := by
        obtain ⟨l⟩ := sl
        simp only at hs
        rw [hs]
      subst hsl
      exact ⟨nm, qn, ns, bs, bm, sn, sub, ab, col, dd, k0, k1, k2, k3, k5, ho, ht⟩
    · cases q
  · cases q
/-- the pairs told, or the first one's number that is none -/
def told : List TM.Pr → List (Option (V × V)) → Nat ⊕ List TM.Pr
  | ps, [] => .inr ps
  | ps, D :: r => if 8 ≤ ps.length then .inl ps.length else match okp ps D with
    | none => .inl ps.length
    | some q => told (ps ++ [q]) r
/-- what stands told is good -/
structure Good (ps : List TM.Pr) : Prop where
  va : TM.Valid [] ps
  le : ps.length ≤ 8
  ok : ∀ x ∈ ps.map Prod.fst, TM.NameOk x
theorem good_nil : Good [] := ⟨trivial, by decide, fun _ h => nomatch h⟩
theorem okp_some {ps : List TM.Pr} {D : Option (V × V)} {q : TM.Pr} (h : okp ps D = some q) : D = some (.str q.1, optV q.2) ∧ TM.NameOk q.1 ∧ q.1 ∉ ps.map Prod.fst ∧ ∀ x, q.2 = some x → x ∈ ps.map Prod.fst ∧ TM.NameOk x := by
  unfold okp at h
  split at h
  · rename_i c o
    split at h
    · rename_i hc
      rw [Bool.and_eq_true, Bool.not_eq_true', decide_eq_false_iff_not] at hc
      split at h
      · cases h
        exact ⟨rfl, (nameB_iff _).mp hc.1, hc.2, fun x e => nomatch e⟩
      · split at h
        · rename_i x hx
          cases h
          have hx' : (nameB x && decide (x ∈ ps.map Prod.fst)) = true := hx
          rw [Bool.and_eq_true, decide_eq_true_iff] at hx'
          exact ⟨rfl, (nameB_iff _).mp hc.1, hc.2, fun y e => by cases e; exact ⟨hx'.2, (nameB_iff _).mp hx'.1⟩⟩
        · cases h
      · cases h
    · cases h
  · cases h
theorem good_step {ps : List TM.Pr} {D : Option (V × V)} {q : TM.Pr} (g : Good ps) (l : ¬ 8 ≤ ps.length) (h : okp ps D = some q) : Good (ps ++ [q]) := by
  obtain ⟨_, h1, h2, h3⟩ := okp_some h
  refine ⟨TM.valid_app g.va ?_, by rw [List.length_append, List.length_singleton]; omega, fun x hx => ?_⟩
  · obtain ⟨c, o⟩ := q
    show TM.Valid ([] ++ ps.map Prod.fst) [(c, o)]
    rw [List.nil_append]
    exact ⟨h2, fun x e => (h3 x e).1, trivial⟩
  · rw [List.map_append] at hx
    rcases List.mem_append.mp hx with hx | hx
    · exact g.ok x hx
    · have : x = q.1 := by simpa using hx
      rw [this]
      exact h1
theorem told_good : ∀ {Ds : List (Option (V × V))} {ps qs : List TM.Pr}, Good ps → told ps Ds = .inr qs → Good qs
  | [], ps, qs, g, h => by
    unfold told at h
    cases h
    exact g
  | D :: r, ps, qs, g, h => by
    unfold told at h
    split at h
    · cases h
    · rename_i l
      split at h
      · cases h
      · rename_i q hq
        exact told_good (good_step g l hq) h
/-- what is no list -/
inductive NoL (H : Hp) : V → Prop
  | non : NoL H .non
  | int (i : Int) : NoL H (.int i)
  | str (x : Str) : NoL H (.str x)
  | tup {a : Addr} {xs : List V} (h : H a = some (.tup xs)) : NoL H (.ref a)
  | dK {a : Addr} {kvs : List (Key × V)} (h : H a = some (.dK kvs)) : NoL H (.ref a)
theorem NoL.same {H H' : Hp} {v : V} (h : NoL H v) (s : Same H H') : NoL H' v := by
  cases h with
  | non => exact .non
  | int i => exact .int i
  | str x => exact .str x
  | tup h => exact .tup (s _ _ h)
  | dK h => exact .dK (s _ _ h)
theorem NoL.ty {K : PySem.W.Frag} {H : Hp} {v : V} (h : NoL H v) : ∃ t, TyX K H v (.type t) ∧ kitB t "list" = some false := by
  cases h with
  | non => exact ⟨_, .base .non, (show kitB "NoneType" "list" = some false by decide +kernel)⟩
  | int i => exact ⟨_, .base (.int i), (show kitB "int" "list" = some false by decide +kernel)⟩
  | str x => exact ⟨_, .base (.str x), (show kitB "str" "list" = some false by decide +kernel)⟩
  | tup h => exact ⟨_, .base (.tup h), (show kitB "tuple" "list" = some false by decide +kernel)⟩
  | dK h => exact ⟨_, .base (.dK h), (show kitB "dict" "list" = some false by decide +kernel)⟩
/-- what is handed in for pairs, and what is told of it: the number of the first that is none, or the pairs -/
def Ask (K : PySem.W.Frag) (H : Hp) (v : V) (r : Int ⊕ List TM.Pr) : Prop :=
  (∃ L xs Ds, v = .ref L ∧ H L = some (.lst xs) ∧ Paired (It H) xs Ds ∧ xs.length ≤ 1000 ∧ r = (match told [] Ds with | .inl k => .inl (k : Int) | .inr ps => .inr ps)) ∨ (NoL H v ∧ r = .inl (-1))
theorem its_same {H H' : Hp} {xs : List V} {Ds : List (Option (V × V))} (h : Paired (It H) xs Ds) (s : Same H H') : Paired (It H') xs Ds := Paired.mapP h fun a q e => It.same e s
theorem Ask.same {K : PySem.W.Frag} {H H' : Hp} {v : V} {r : Int ⊕ List TM.Pr} (h : Ask K H v r) (s : Same H H') : Ask K H' v r := by
  rcases h with ⟨L, xs, Ds, e, h1, h2, h3, h4⟩ | ⟨h1, h2⟩
  · exact .inl ⟨L, xs, Ds, e, s _ _ h1, its_same h2 s, h3, h4⟩
  · exact .inr ⟨h1.same s, h2⟩
theorem it_get {H : Hp} {xs : List V} {Ds : List (Option (V × V))} (h : Paired (It H) xs Ds) : ∀ {i : Nat} {v : V}, xs[i]? = some v → ∃ D, Ds[i]? = some D ∧ It H v D := by
  induction h with
  | nil => intro i v h; simp at h
  | cons hd _ ih =>
    intro i v h
    cases i with
    | zero =>
      rw [List.getElem?_cons_zero] at h
      cases h
      exact ⟨_, rfl, hd⟩
    | succ i => exact ih (by simpa using h)
section
variable {P : Program} {w : World} {K : PySem.W.Frag} {mg : Str → Option Value} {base : Heap}
/-- the class that is raised, with its own field -/
structure Nt (K : PySem.W.Frag) (mg : Str → Option Value) (Ct fi : Addr) (di : FuncData) : Prop where
  T : OexC K Ct
  i : PySem.W.findIn K (.ref Ct) "__init__" = some (some (.ref fi))
  t : PySem.W.typeIn K (.ref fi) = some (.type "function")
  F : Fun K "__init__" "NoTree.__init__" s_notree fi di
  b : Binds K di ["self", "at"] []
  g : mg "NoTree" = some (.ref Ct)
  no : PySem.W.findIn K (.ref Ct) "at" = some none
theorem sc_notree : FnScope ["self", "at"] ["self", "at"] (defScope s_notree) := ⟨rfl, rfl, rfl, by decide +kernel, rfl, by decide +kernel, by decide +kernel⟩
def sp_notree (C : Addr) : Sp := fun vs H Q _ => ∃ (a : Addr) (v : V), vs = [.ref a, v] ∧ H a = some (exo a C none) ∧ ∀ dx, H dx = none → dx ≠ a → Q .non (upd (upd H dx (exd dx [("at", v)])) a (exo a C (some dx)))
theorem ok_notree {Ct fi : Addr} {di : FuncData} (N : Nt K mg Ct fi di) : FnOk P w K mg base CX0 1 fi di ["self", "at"] (sp_notree Ct) := by
  refine N.F.ok sc_notree (fun vs H Q E h => ?_) (fun cdv A outer s H vs Q E hr h => ?_)
  · obtain ⟨a, v, rfl, _⟩ := h
    rfl
  · obtain ⟨a, v, rfl, ha, q⟩ := h
    refine ⟨_, pss_one (ps_ost (pv 0) (pv 1)), ?_⟩
    refine ⟨_, rfl, _, rfl, a, Ct, rfl, N.T, N.no, .inl ⟨ha, fun dx h1 h2 => q dx h1 h2⟩⟩
/-- raise NoTree(v) -/
theorem rd_notree {C : Addr} {H : Hp} {v : V} {Q : XK} (q : ∀ H' d, Same H H' → H' d = some (.xd [("at", v)]) → Q (.ref C) (some d) H') : ∀ a, H a = none → sp_notree C [.ref a, v] (upd H a (exo a C none))
    (fun u H2 => u = .non ∧ ∃ (d : Addr) (fs : List (Str × V)), H2 a = some (exo a C (some d)) ∧ H2 d = some (exd d fs) ∧ H d = none ∧ Q (.ref C) (some d) (upd (del H2 a) d (.xd fs))) (fun _ _ _ => False) := by
  intro a na
  refine ⟨a, v, rfl, upd_same, fun dx nx hne => ⟨rfl, dx, [("at", v)], upd_same, by rw [upd_ne hne, upd_same], ?_, ?_⟩⟩
  · rw [upd_ne hne] at nx
    exact nx
  · rw [upd_ne hne] at nx
    refine q _ dx (fun b o e => ?_) upd_same
    have hb1 : b ≠ dx := ne_of_none e nx
    have hb2 : b ≠ a := ne_of_none e na
    rw [upd_ne hb1, del_ne hb2, upd_ne hb2, upd_ne hb1, upd_ne hb2]
    exact e
/-- the defs of the program that all trees' proofs call -/
structure Kd (K : PySem.W.Frag) (mg : Str → Option Value) (fN fC fP fT fO : Addr) (dN dC dP dT dO : FuncData) : Prop where
  B : Bn mg
  C : Cn mg
  isn : Fn K mg "is_name" s_is_name ["thing"] fN dN
  isc : Fn K mg "is_name_in" s_is_name_in ["thing", "names"] fC dC
  isp : Fn K mg "_is_pair" s_is_pair ["thing", "overs"] fP dP
  told : Fn K mg "_told_overs" s_told ["pairs"] fT dT
  ord : Fn K mg "_in_order" s_in_order ["overs", "upper"] fO dO
variable {fN fC fP fT fO : Addr} {dN dC dP dT dO : FuncData}
theorem sc_told : FnScope ["pairs", "overs", "at", "pair"] ["pairs"] (defScope s_told) := ⟨rfl, rfl, rfl, by decide +kernel, rfl, by decide +kernel, by decide +kernel⟩
def sp_told (K : PySem.W.Frag) (Ct : Addr) : Sp := fun vs H Q E => ∃ (v : V) (r : Int ⊕ List TM.Pr), vs = [v] ∧ Ask K H v r ∧ (∀ k, r = .inl k → ∀ H' d, Same H H' → H' d = some (.xd [("at", .int k)]) → E (.ref Ct) (some d) H') ∧
  (∀ ps, r = .inr ps → ∀ H' d, Same H H' → H d = none → H' d = some (.dK (kvsOf ps)) → Q (.ref d) H')
theorem ok_told {Ct fi : Addr} {di : FuncData} (T : Kd K mg fN fC fP fT fO dN dC dP dT dO) (N : Nt K mg Ct fi di) : FnOk P w K mg base (L2.CX P w) 4 fT dT ["pairs"] (sp_told K Ct) := by
  have GP : FnOk P w K mg base CX0 3 fP dP ["thing", "overs"] sp_is_pair := ok_is_pair T.isp T.B T.C T.isn T.isc
  have GN : FnOk P w K mg base CX0 1 fi di ["self", "at"] (sp_notree Ct) := ok_notree N
  refine T.told.F.okX sc_told (fun vs H Q E h => ?_) (fun cdv A outer s H vs Q E hr h => ?_)
  · obtain ⟨v, r, rfl, _⟩ := h
    rfl
  · obtain ⟨v, r, rfl, hv, qE, qQ⟩ := h
    have hu := hu_of hr
    have r2 : Room 2 _ := hr.mono (by decide)
    have B := T.B
    obtain ⟨tl, hmo⟩ := T.C.most
    refine ⟨_, pss_cons (ps_if (pt_not (pt_val (pe_callB call_isi (by rfl) B.isi boot_isinstance (pa_cons (pv 0) (pa_cons (pe_bltn (v := .ty "list") (by rfl) B.list boot_list rfl) pa_nil)))))
          (pss_one (ps_raise rfl (takes_of rfl rfl rfl rfl) (pmk_oex N.T N.i N.t GN r2 N.b .nil pass0 rfl N.g (pa_cons (pe_un un_neg pe_int) pa_nil)))) pss_nil)
      (pss_cons (ps_set (i := 1) sc_told.nd rfl (Or.inl rfl) pe_dnewK)
      (pss_cons (ps_for (passes_of rfl) rfl (pi_enum rfl B.enum (pa_cons (pv 0) pa_nil)) (pg_tup rfl (pgs_cons (pg_name (i := 2) sc_told.nd rfl (Or.inl rfl)) (pgs_cons (pg_name (i := 3) sc_told.nd rfl (Or.inl rfl)) pgs_nil)))
        (pss_cons (ps_if (PW.pt (pw_or (pt_cmpR op_ge (pv 2) (pe_glob (v := .int 8) (by rfl) hmo ⟨_, rfl⟩) (nomark _)) (pw_or1 (pt_not (pt_val (pe_call GP hr rfl T.isp.g T.isp.F.kp T.isp.b .nil pass0 (pa_cons (pv 3) (pa_cons (pv 1) pa_nil))))))))
            (pss_one (ps_raise rfl (takes_of rfl rfl rfl rfl) (pmk_oex N.T N.i N.t GN r2 N.b .nil pass0 rfl N.g (pa_cons (pv 2) pa_nil)))) pss_nil)
        (pss_one (ps_dput hu (pv 1) (pe_ix ix_tup (pv 3) pe_int (fun _ _ => rfl)) (pe_ix ix_tup (pv 3) pe_int (fun _ _ => rfl)) rfl))))
      (pss_one (ps_ret (pv 1))))), ?_⟩
    rcases hv with ⟨L, xs, Ds, rfl, hL, hI, l100, hr2⟩ | ⟨hno, hr2⟩
    · refine ⟨_, rfl, _, _, _, _, true, rfl, .ty _, .base (.lst hL), kit_ty (show kitB "list" "list" = some true by decide +kernel), _, rfl, ?_⟩
      intro d nd
      have hLd : L ≠ d := ne_of_none hL nd
      have hlen := Paired.length hI
      refine ⟨_, rfl, L, xs, rfl, .of (by rw [upd_ne hLd]; exact hL), ?_⟩
      refine for_it (walk_enum (xs := xs)) (fun i σ H' => ∃ (v1 v2 : Option V) (ps : List TM.Pr), σ = [some (.ref L), some (.ref d), v1, v2] ∧ H' d = some (.dK (kvsOf ps)) ∧ Same H H' ∧ Good ps ∧ ps.length = i ∧ told [] Ds = told ps (Ds.drop i))
        ⟨none, none, [], rfl, upd_same, Same.new nd, good_nil, rfl, rfl⟩ (fun i σ H1 hi ⟨_, _, _, _, _, s1, _⟩ => .of (s1 _ _ hL)) ?_ ?_
      · rintro i x σ H1 H1' hi ⟨v1, v2, ps, rfl, e1, s1, gd, hpl, ht⟩ ⟨T', x1, x2, rfl, nT, rfl, hx1, hx2⟩
        obtain rfl : V.int (i : Int) = x1 := Option.some.inj hx1
        obtain ⟨D, hD, hIt⟩ := it_get hI (show xs[i]? = some x2 from hx2)
        have hdrop : Ds.drop i = D :: Ds.drop (i + 1) := by
          obtain ⟨hi', e⟩ := List.getElem?_eq_some_iff.mp hD
          rw [List.drop_eq_getElem_cons hi', e]
        have sT : Same H (upd H1 T' (.tup [.int (i : Int), x2])) := s1.trans (Same.new nT)
        have e1' : upd H1 T' (.tup [.int (i : Int), x2]) d = some (.dK (kvsOf ps)) := by rw [upd_ne (ne_of_none e1 nT)]; exact e1
        have nod := TM.valid_nodup gd.va
        refine ⟨T', _, rfl, .of upd_same, rfl, _, _, rfl, _, _, rfl, rfl, ?_⟩
        refine ⟨_, rfl, _, _, rfl, rfl, _, rfl, ite2 (fun hge => ?_) (fun hlt => ?_)⟩
        · have h8 := of_decide_eq_true hge
          have e : told [] Ds = .inl i := by
            rw [ht, hdrop]
            unfold told
            rw [if_pos (by omega), hpl]
          rw [e] at hr2
          refine ⟨_, rfl, by show 1 ≤ 1000; decide, ?_⟩
          exact rd_notree fun H' dd s' e => qE _ hr2 H' dd (sT.trans s') e
        have h8 : ¬ 8 ≤ ps.length := fun z => hlt (decide_eq_true (by omega))
        refine ⟨_, rfl, _, rfl, x2, D, d, ps, rfl, hIt.same sT, e1', nod, fun H2 s2 => ⟨_, rfl, ?_⟩⟩
        have s3 := sT.trans s2
        cases hq : okp ps D with
        | none =>
          have e : told [] Ds = .inl i := by
            rw [ht, hdrop]
            unfold told
            rw [if_neg h8, hq, hpl]
          rw [e] at hr2
          refine ⟨_, rfl, by show 1 ≤ 1000; decide, ?_⟩
          exact rd_notree fun H' dd s' e => qE _ hr2 H' dd (s3.trans s') e
        | some q =>
          have e : told [] Ds = told (ps ++ [q]) (Ds.drop (i + 1)) := by
            rw [ht, hdrop]
            conv => lhs; unfold told
            rw [if_neg h8, hq]
          obtain ⟨hDe, hok, hni, _⟩ := okp_some hq
          have gd2 := good_step gd h8 hq
          subst hDe
          cases hIt with
          | @two a c o ha hc ho =>
            have sa2 := s3 _ _ ha
            have sd2 := s2 _ _ e1'
            obtain ⟨qc, qo⟩ := q
            refine ⟨_, rfl, a, _, _, _, rfl, rfl, .of sa2, atI_nat (j := 1) rfl, _, rfl, _, rfl, a, _, _, _, rfl, rfl, .of sa2, atI_nat (j := 0) rfl, d, _, rfl, DPut.k (k := Sum.inr qc) sd2 ?_, _, _, ps ++ [(qc, qo)], rfl, ?_, ?_, gd2, ?_, e⟩
            · rw [kvs_len]
              exact line100' (by have := gd.le; omega)
            · rw [upd_same, kvs_put hni]
            · exact Same.mut s3 nd
            · rw [List.length_append, List.length_singleton, hpl]
      · rintro σ H1 ⟨v1, v2, ps, rfl, e1, s1, gd, hpl, ht⟩
        have e : told [] Ds = .inr ps := by
          rw [ht, hlen, List.drop_length]
          rfl
        rw [e] at hr2
        exact ⟨_, rfl, qQ ps hr2 H1 d s1 nd e1⟩
    · obtain ⟨t, ty, hk⟩ := hno.ty (K := K)
      refine ⟨_, rfl, _, _, _, _, false, rfl, .ty _, ty, kit_ty hk, _, rfl, ?_⟩
      refine ⟨_, rfl, by show 1 ≤ 1000; decide, ?_⟩
      exact rd_notree fun H' d s' e => qE _ hr2 H' d s' e
end
end T11

set_option maxHeartbeats 1000000
namespace T11
open PySem L2 PyProof.Rows TX
section
variable {P : Program} {w : World} {K : PySem.W.Frag} {mg : Str → Option Value} {base : Heap}
variable {fN fC fP fT fO : Addr} {dN dC dP dT dO : FuncData}
theorem sc_in_order : FnScope ["overs", "upper", "found", "column"] ["overs", "upper"] (defScope s_in_order) := ⟨rfl, rfl, rfl, by decide +kernel, rfl, by decide +kernel, by decide +kernel⟩
def sp_in_order (n : Nat) : Sp := fun vs H Q _ => ∃ (d : Addr) (od : Obj) (ps : List TM.Pr) (u : Option Str), vs = [.ref d, optV u] ∧ H d = some (.frz od (.dK (kvsOf ps))) ∧ TM.Valid [] ps ∧ ps.length ≤ 8 ∧ TM.Below ps u n ∧
  ∀ H' p, Same H H' → H p = none → H' p = some (.lst ((TM.ord ps u).map V.str)) → Q (.ref p) H'
theorem len2 {n : Nat} {vs : List V} {H : Hp} {Q : VK} {E : XK} (h : sp_in_order n vs H Q E) : vs.length = 2 := by
  obtain ⟨d, od, ps, u, rfl, _⟩ := h
  rfl
theorem ok_in_order (T : Kd K mg fN fC fP fT fO dN dC dP dT dO) : ∀ n : Nat, FnOk P w K mg base CX0 n fO dO ["overs", "upper"] (sp_in_order n)
  | 0 => ⟨fun vs H Q E h => len2 h, fun A outer s H args us vs Q E hr e b r h => by
      obtain ⟨d, od, ps, u, rfl, _, _, _, ⟨pre, t, _, hlt, _⟩, _⟩ := h
      exact absurd hlt (Nat.not_lt_zero _)⟩
  | n + 1 => by
    have G := ok_in_order T n
    refine T.ord.F.ok sc_in_order (fun vs H Q E h => len2 h) (fun cdv A outer s H vs Q E hr h => ?_)
    obtain ⟨d, od, ps, u, rfl, hd, va, hl8, hb, q⟩ := h
    have hu := hu_of hr
    refine ⟨_, pss_cons (ps_set (i := 2) sc_in_order.nd rfl (Or.inl rfl) (pe_lst pa_nil))
      (pss_cons (ps_for PassesOwn.never rfl (pi_keys (pv 0)) (pg_name (i := 3) sc_in_order.nd rfl (Or.inl rfl))
        (pss_one (ps_if (pt_cmpR op_eq (pe_dget hu (pv 0) (pv 3) (fun _ _ => rfl)) (pv 1) (nomark _))
          (pss_one (ps_expr (pe_bm PySem.F.plainAttrs_list PySem.F.slot_list_extend PySem.F.type_list_extend mt_extend (pv 2)
            (pa_cons (pe_op op_cat (pe_lst (pa_cons (pv 3) pa_nil)) (pe_call G hr rfl T.ord.g T.ord.F.kp T.ord.b .nil pass0 (pa_cons (pv 0) (pa_cons (pv 3) pa_nil)))) pa_nil)))) pss_nil)))
      (pss_one (ps_ret (pv 2)))), ?_⟩
    refine ⟨by decide, fun p np => ?_⟩
    have hdp : d ≠ p := ne_of_none hd np
    refine ⟨_, rfl, d, od, rfl, .inl ⟨_, by rw [upd_ne hdp]; exact hd, ?_⟩⟩
    refine for_it (walk_keys (kvs := kvsOf ps)) (fun i σ H' => ∃ v : Option V, σ = [some (.ref d), some (optV u), some (.ref p), v] ∧ H' p = some (.lst (((ps.take i).flatMap (TM.step ps u)).map V.str)) ∧ Same H H')
      ⟨none, rfl, upd_same, Same.new np⟩ (fun i σ H1 _ ⟨_, _, _, s1⟩ => s1 _ _ hd) ?_ ?_
    · rintro i x σ H0 H1 hi ⟨v, rfl, e1, s1⟩ ⟨rfl, k, y, hk, rfl⟩
      rw [kvs_len] at hi
      obtain ⟨⟨c, o⟩, hq⟩ : ∃ q, ps[i]? = some q := ⟨ps[i], List.getElem?_eq_getElem hi⟩
      rw [kvs_get, hq] at hk
      obtain ⟨rfl, rfl⟩ := Prod.mk.inj (Option.some.inj hk)
      have hnd := TM.valid_nodup va
      have hv : valV (kvsOf ps) (Sum.inr c : Key) = some (optV o) := kvs_some hnd (List.mem_of_getElem? hq)
      refine ⟨_, rfl, _, rfl, d, optV o, rfl, .inl ⟨_, Sum.inr c, .inr ⟨od, s1 _ _ hd⟩, rfl, hv.symm⟩, _, rfl, ?_, _, rfl, ite2 (fun he => ?_) (fun he => ?_)⟩
      · cases o <;> cases u <;> rfl
      · have ho : o = u := optV_inj (of_decide_eq_true he)
        have hb2 : TM.Below ps (some c) n := TM.below_at va hq (ho ▸ hb)
        refine ⟨_, rfl, .inl ⟨rfl, _, .inl (.inl e1)⟩, _, rfl, by show 1 ≤ sizeLine; decide, fun c1 nc1 => ?_⟩
        have sc1 : Same H1 (upd H1 c1 (.lst [.str c])) := Same.new nc1
        refine ⟨_, rfl, _, rfl, d, od, ps, some c, rfl, sc1 _ _ (s1 _ _ hd), va, hl8, hb2, fun H2 r s2 nr er => ?_⟩
        have ep2 : H2 p = some (.lst (((ps.take i).flatMap (TM.step ps u)).map V.str)) := s2 _ _ (sc1 _ _ e1)
        have ec1 : H2 c1 = some (.lst [.str c]) := s2 _ _ upd_same
        have hol : (TM.ord ps (some c)).length ≤ 8 := Nat.le_trans (TM.ord_le va _) hl8
        refine ⟨c1, r, _, _, rfl, rfl, ec1, er, ?_, fun r2 nr2 => ?_⟩
        · show 1 + _ ≤ sizeLine
          rw [List.length_map]
          exact line100 (by omega)
        have ep3 : ∀ o, (upd H2 r2 o) p = some (.lst (((ps.take i).flatMap (TM.step ps u)).map V.str)) := fun o => by rw [upd_ne (ne_of_none ep2 nr2)]; exact ep2
        refine ⟨p, r2, _, _, rfl, rfl, ep3 _, upd_same, ?_, _, rfl, ?_, ?_⟩
        · have hf : ((ps.take i).flatMap (TM.step ps u)).length ≤ 9 * (ps.take i).length := TM.flat_le fun q _ => by
            unfold TM.step
            split
            · have := TM.ord_le va (some q.1)
              rw [List.length_cons]
              omega
            · exact Nat.zero_le _
          rw [List.length_take] at hf
          rw [List.length_map, List.length_append, List.length_map]
          exact line100 (by show _ + (1 + _) ≤ 1000; omega)
        · rw [upd_same, TM.ord_take hq]
          have : TM.step ps u (c, o) = c :: TM.ord ps (some c) := if_pos ho
          rw [this, List.map_append]
          rfl
        · exact Same.mut (((s1.trans sc1).trans s2).trans (Same.new nr2)) np
      · have ho : ¬ o = u := fun z => he (decide_eq_true (congrArg optV z))
        refine ⟨_, rfl, ?_, s1⟩
        rw [TM.ord_take hq]
        have : TM.step ps u (c, o) = [] := if_neg ho
        rw [this, List.append_nil]
        exact e1
    · rintro σ H1 ⟨v, rfl, e1, s1⟩
      refine ⟨_, rfl, q H1 p s1 np ?_⟩
      rw [kvs_len, List.take_length] at e1
      rw [e1, TM.ord_flat va u]
end
end T11

set_option maxHeartbeats 1000000
namespace T11
open PySem L2 PyProof.Rows TX
section
variable {P : Program} {w : World} {K : PySem.W.Frag} {mg : Str → Option Value} {base : Heap}
variable {fN fC fP fT fO : Addr} {dN dC dP dT dO : FuncData}
theorem sc_tinit : FnScope ["self", "pairs", "told", "column"] ["self", "pairs"] (defScope s_tinit) := ⟨rfl, rfl, rfl, by decide +kernel, rfl, by decide +kernel, by decide +kernel⟩
def sp_tinit (K : PySem.W.Frag) (C Ct : Addr) : Sp := fun vs H Q E => ∃ (p dx : Addr) (v : V) (r : Int ⊕ List TM.Pr), vs = [.ref p, v] ∧ H p = some (.ins C dx []) ∧ Ask K H v r ∧
  (∀ k, r = .inl k → ∀ H' d, Same H H' → H' d = some (.xd [("at", .int k)]) → E (.ref Ct) (some d) H') ∧
  (∀ ps, r = .inr ps → ∀ H', TreeAt C H' p (TM.mk ps none) → (∀ b o, b ≠ p → H b = some o → H' b = some o) → Q .non H')
theorem ok_tinit {f C Ct fi : Addr} {fd di : FuncData} (F : Fun K "__init__" "Tree.__init__" s_tinit f fd) (T : Kd K mg fN fC fP fT fO dN dC dP dT dO) (c : Tc K mg C) (N : Nt K mg Ct fi di) : FnOk P w K mg base (L2.CX P w) 10 f fd ["self", "pairs"] (sp_tinit K C Ct) := by
  have GT : FnOk P w K mg base (L2.CX P w) 4 fT dT ["pairs"] (sp_told K Ct) := ok_told T N
  have GO : FnOk P w K mg base CX0 9 fO dO ["overs", "upper"] (sp_in_order 9) := ok_in_order T 9
  refine F.okX sc_tinit (fun vs H Q E h => ?_) (fun cdv A outer s H vs Q E hr h => ?_)
  · obtain ⟨p, dx, v, r, rfl, _⟩ := h
    rfl
  · obtain ⟨p, dx, v, r, rfl, hp, hv, qE, qQ⟩ := h
    have hu := hu_of hr
    have hr4 : Room 4 _ := hr.mono (by decide)
    refine ⟨_, pss_cons (ps_set (i := 2) sc_tinit.nd rfl (Or.inr rfl) (pe_callS GT hr4 rfl T.told.g T.told.F.kp T.told.b (fun σ => passAt (takes_of rfl rfl rfl rfl) σ) (pa_cons (pv 1) pa_nil)))
      (pss_cons (ps_lock (ps_fld (pv 0) (pe_call GO hr rfl T.ord.g T.ord.F.kp T.ord.b .nil pass0 (pa_cons (pv 2) (pa_cons pe_non pa_nil))) rfl))
      (pss_one (ps_fld (pv 0) (pe_dc (own := [("column", 3)]) (g := gName 3) (tt := tYes) rfl sc_tinit.nd (pi_list (pe_fld (pv 0) rfl)) (blkOk_by (N := ["self", "pairs", "told", "column"]) (sc := defScope s_tinit) (by decide +kernel))
        (fun _ _ _ _ _ => pg_name (i := 3) sc_tinit.nd rfl (Or.inl rfl)) (fun _ _ _ _ _ => pts_nil) (fun _ _ _ _ _ => pv 3) (fun _ _ _ _ _ => pe_dget hu (pv 2) (pv 3) (fun _ _ => rfl))) rfl))), ?_⟩
    refine ⟨_, rfl, v, r, rfl, hv, fun k hk H' d s' e => qE k hk H' d s' e, fun ps hps H1 d s1 nd ed => ?_⟩
    have gd : Good ps := by
      rcases hv with ⟨L, xs, Ds, _, _, _, _, e⟩ | ⟨_, e⟩
      · rw [hps] at e
        cases ht : told [] Ds with
        | inl k => rw [ht] at e; cases e
        | inr qs =>
          rw [ht] at e
          cases e
          exact told_good good_nil ht
      · rw [hps] at e
        cases e
    have va := gd.va
    have hl8 := gd.le
    have hnm := gd.ok
    have q := qQ ps hps
    have ndp : p ≠ d := ne_of_none hp nd
    refine ⟨d, _, ed, trivial, fun od => ?_⟩
    have sf : ∀ b o, b ≠ d → H1 b = some o → upd H1 d (.frz od (.dK (kvsOf ps))) b = some o := fun b o hb e => by rw [upd_ne hb]; exact e
    refine ⟨_, rfl, d, od, ps, none, rfl, upd_same, va, hl8, TM.below_top ps (by omega), fun H2 l s2 nl el => ?_⟩
    have ep1 : H1 p = some (.ins C dx []) := s1 _ _ hp
    have ep2 : H2 p = some (.ins C dx []) := s2 _ _ (sf _ _ ndp ep1)
    have ed2 : H2 d = some (.frz od (.dK (kvsOf ps))) := s2 _ _ upd_same
    have nld : l ≠ d := fun z => by rw [z, upd_same] at nl; cases nl
    have nlp : l ≠ p := fun z => by rw [z, sf _ _ ndp ep1] at nl; cases nl
    refine ⟨_, rfl, p, C, dx, [], rfl, ep2, c.cl, c.nC, by show 0 < 1000; decide, by rw [upd_ne ndp.symm]; exact ed2, ?_⟩
    generalize hH3 : upd (upd H2 p (.ins C dx (putF "_columns" (.ref l) []))) d (.dK (kvsOf ps)) = H3
    have e3p : H3 p = some (.ins C dx (putF "_columns" (.ref l) [])) := by rw [← hH3, upd_ne ndp, upd_same]
    have e3d : H3 d = some (.dK (kvsOf ps)) := by rw [← hH3, upd_same]
    have e3l : H3 l = some (.lst ((TM.ord ps none).map V.str)) := by rw [← hH3, upd_ne nld, upd_ne nlp]; exact el
    have s3 : ∀ b o, b ≠ p → H b = some o → H3 b = some o := fun b o hb e => by
      have hbd : b ≠ d := ne_of_none e nd
      rw [← hH3, upd_ne hbd, upd_ne hb]
      exact s2 _ _ (sf _ _ hbd (s1 _ _ e))
    have lk : (putF "_columns" (V.ref l) [] : List (Str × V)).lookup ("_columns" : Str) = some (.ref l) := by rw [lookup_putF, if_pos rfl]
    refine ⟨_, rfl, p, C, dx, _, _, rfl, e3p, c.cl, c.nC, lk, l, rfl, ⟨_, .of e3l⟩, fun Dn nDn => ?_⟩
    have F := foOk_mk va hl8 hnm
    have hfn : (TM.flat (TM.mk ps none) none).map Prod.fst = TM.ord ps none := TM.flat_names _ _
    have hnd := TM.valid_nodup va
    refine dc_walk (walk_list (xs := (TM.ord ps none).map V.str)) (fun i h => h Dn = some (.dK (kvsOf ((TM.flat (TM.mk ps none) none).take i))) ∧ Same H3 h)
      ⟨upd_same, Same.new nDn⟩ (fun i h _ ⟨_, s⟩ => .of (s _ _ e3l)) ?_ ?_
    · rintro i x h h' hi ⟨e4, s4⟩ ⟨rfl, hx⟩
      rw [List.length_map] at hi
      have hfl : (TM.flat (TM.mk ps none) none).length = (TM.ord ps none).length := by rw [← hfn, List.length_map]
      obtain ⟨⟨cn, o⟩, hq⟩ : ∃ q, (TM.flat (TM.mk ps none) none)[i]? = some q := ⟨_, List.getElem?_eq_getElem (by omega)⟩
      have hxn : x = V.str cn := by
        rw [← hfn, List.getElem?_map, List.getElem?_map, hq] at hx
        exact (Option.some.inj hx).symm
      subst hxn
      have hv := kvs_some hnd (TM.mk_sub (List.mem_of_getElem? hq))
      refine ⟨rfl, ?_⟩
      refine ⟨_, rfl, _, rfl, _, rfl, d, optV o, rfl, .inl ⟨_, Sum.inr cn, .inl (s4 _ _ e3d), rfl, hv.symm⟩, _, Sum.inr cn, rfl, e4, ?_, ?_, ?_⟩
      · rw [kvs_len, List.length_take]
        have := F.le
        have e5 : (TM.names (TM.mk ps none)) = TM.ord ps none := rfl
        rw [e5] at this
        exact line100' (by omega)
      · have hc : cn ∉ ((TM.flat (TM.mk ps none) none).take i).map Prod.fst := by
          intro hm
          rw [List.map_take, hfn, List.mem_take_iff_getElem] at hm
          obtain ⟨j, hj, ej⟩ := hm
          have ei : (TM.ord ps none)[i] = cn := by
            have h1 : (TM.ord ps none)[i]? = some cn := by rw [← hfn, List.getElem?_map, hq]; rfl
            rw [List.getElem?_eq_getElem hi] at h1
            exact Option.some.inj h1
          have := (List.getElem_inj (TM.ord_nodup va) (i := j) (j := i)).mp (ej.trans ei.symm)
          omega
        rw [upd_same, kvs_put hc, List.take_add_one, hq]
        rfl
      · exact Same.mut s4 nDn
    · rintro h ⟨e4, s4⟩
      rw [List.length_map] at e4
      have hfl : (TM.flat (TM.mk ps none) none).length = (TM.ord ps none).length := by rw [← hfn, List.length_map]
      rw [← hfl, List.take_length] at e4
      refine ⟨_, rfl, p, C, dx, _, rfl, s4 _ _ e3p, c.cl, c.nO, by show 1 < 1000; decide, ?_⟩
      have nDp : Dn ≠ p := fun z => by rw [z, e3p] at nDn; cases nDn
      have nlD : l ≠ Dn := fun z => by rw [← z, e3l] at nDn; cases nDn
      refine q _ ⟨dx, l, Dn, upd_same, ?_, ?_⟩ fun b o hb e => ?_
      · rw [upd_ne nlp]
        exact s4 _ _ e3l
      · rw [upd_ne nDp]
        exact e4
      · rw [upd_ne hb]
        exact s4 _ _ (s3 b o hb e)
end
end T11

set_option maxHeartbeats 1000000
namespace T11
open PySem L2 PyProof.Rows TX TY
section
variable {P : Program} {w : World} {K : PySem.W.Frag} {mg : Str → Option Value} {base : Heap}
variable {fN fC fP fT fO : Addr} {dN dC dP dT dO : FuncData}
theorem abc_mem (c : Nat) : decide (c ∈ abc.cps.toList) = okc c := by
  rw [Bool.eq_iff_iff, decide_eq_true_iff, okc_iff, abc_eq, S_cps]
  constructor
  · intro h
    simp only [List.mem_cons, List.not_mem_nil, or_false] at h
    omega
  · rintro ⟨h1, h2⟩
    simp only [List.mem_cons, List.not_mem_nil, or_false]
    omega
theorem sc_lawname : FnScope ["_law_thing", "_law_sign"] ["_law_thing"] (defScope s_lawname) := ⟨rfl, rfl, rfl, by decide +kernel, rfl, by decide +kernel, by decide +kernel⟩
theorem ok_lawname {f : Addr} {fd : FuncData} (F : Fn K mg "_law_is_name" s_lawname ["_law_thing"] f fd) (B : Bn mg) : FnOk P w K mg base CX0 1 f fd ["_law_thing"] sp_is_name := by
  refine F.F.ok sc_lawname (fun vs H Q E h => ?_) (fun cdv A outer s H vs Q E hr h => ?_)
  · obtain ⟨x, rfl, _⟩ := h
    rfl
  · obtain ⟨v, rfl, hv, q⟩ := h
    have hu := hu_of hr
    have hu1 := hr.units0
    refine ⟨_, pss_cons (ps_if (PW.pt (pw_or (pt_not (pt_val (pe_callB call_isi (by rfl) B.isi boot_isinstance (pa_cons (pv 0) (pa_cons (pe_bltn (v := .ty "str") (by rfl) B.str boot_str rfl) pa_nil)))))
        (pw_or1 (pt_not (pt_chain op_le op_le pe_int (pe_callB call_len_str (by rfl) B.len PySem.boot_len (pa_cons (pv 0) pa_nil)) pe_int))))) (pss_one (ps_ret pe_bl)) pss_nil)
      (pss_one (ps_ret (pe_cmpR (op_eqNil hu1) (pe_lc (own := [("_law_sign", 1)]) (g := gName 1) rfl sc_lawname.nd (pi_str (pv 0)) (blkOk_by (N := ["_law_thing", "_law_sign"]) (sc := defScope s_lawname) (by decide +kernel))
          (fun _ _ _ _ _ => pg_name (i := 1) sc_lawname.nd rfl (Or.inl rfl)) (fun _ _ _ _ _ => pts_one (pt_cmpR op_notin_str (pv 1) pe_str rfl))
          (fun _ _ _ _ _ => pv 1)) (pe_lst pa_nil) (nomark _)))), ?_⟩
    obtain ⟨t, ty, hk⟩ := hv.isS (K := K)
    refine ⟨_, rfl, _, _, _, _, isS v, rfl, .ty _, ty, kit_ty hk, _, rfl, ?_⟩
    have q0 := q H same_rfl
    cases hv with
    | str x hx =>
      have e0 : isNm (.str x) = nameB x := rfl
      rw [e0] at q0
      have q' : ∀ H', Same H H' → Q (.bl (nameB x)) H' := q
      clear q
      by_cases h1 : 1 ≤ x.length
      · by_cases h2 : x.length ≤ 8
        · refine ⟨_, rfl, x, rfl, line100 (by omega), _, _, rfl, rfl, true, ?_, _, _, rfl, rfl, true, ?_, ?_⟩
          · exact congrArg V.bl (decide_eq_true (show (1 : Int) ≤ (x.length : Int) by omega))
          · exact congrArg V.bl (decide_eq_true (show (x.length : Int) ≤ 8 by omega))
          refine ⟨_, rfl, x, rfl, fun L nL => ?_⟩
          refine lc_it walk_str (fun i H' => H' L = some (.lst (((x.cps.toList.take i).filter fun c => !okc c).map fun c => V.str ⟨#[c]⟩)) ∧ Same H H') ⟨upd_same, Same.new nL⟩ (fun _ _ _ _ => trivial) ?_ ?_
          · rintro i v H1 H1' hi ⟨e1, s1⟩ ⟨rfl, c, hc, rfl⟩
            have hc' : x.cps.toList[i]? = some c := by rw [Array.getElem?_toList]; exact hc
            have hl8 : x.cps.toList.length ≤ 8 := by rw [Array.length_toList]; exact h2
            refine ⟨rfl, ?_⟩
            refine ⟨_, rfl, _, _, rfl, rfl, _, rfl, ?_⟩
            have ef : (!(!(Builtin.Str.occurrences abc ⟨#[c]⟩ 0 abc.length 1).isEmpty)) = !okc c := by rw [found_sign, abc_mem]
            rw [show Str.ofString "abcdefghijklmnopqrstuvwxyz" = abc from rfl, ef]
            cases hoc : okc c with
            | true =>
              refine ⟨?_, s1⟩
              rw [List.take_add_one, hc', List.filter_append]
              show H1' L = some (.lst (((x.cps.toList.take i).filter _ ++ [c].filter _).map _))
              rw [List.filter_cons_of_neg (by rw [hoc]; decide), List.filter_nil, List.append_nil]
              exact e1
            | false =>
              refine ⟨_, rfl, _, e1, ?_, ?_, Same.mut s1 nL⟩
              · rw [List.length_map]
                have := List.length_filter_le (fun c => !okc c) (x.cps.toList.take i)
                rw [List.length_take] at this
                exact line100' (by omega)
              · rw [upd_same, List.take_add_one, hc', List.filter_append]
                show _ = some (HO.lst (((x.cps.toList.take i).filter _ ++ [c].filter _).map _))
                rw [List.filter_cons_of_pos (by rw [hoc]; rfl), List.filter_nil, List.map_append]
                rfl
          · rintro H1 ⟨e1, s1⟩
            rw [show x.cps.size = x.cps.toList.length by rw [Array.length_toList], List.take_length] at e1
            refine ⟨by decide, fun L2 nL2 => ?_⟩
            refine ⟨L, L2, _, rfl, rfl, .of (by rw [upd_ne (ne_of_none e1 nL2)]; exact e1), .of upd_same, ?_⟩
            have e2 : (((x.cps.toList.filter fun c => !okc c).map fun c => V.str ⟨#[c]⟩)).isEmpty = nameB x := by
              unfold nameB
              rw [decide_eq_true h1, decide_eq_true h2, Bool.true_and, Bool.true_and, List.isEmpty_map]
              rw [Bool.eq_iff_iff, List.isEmpty_iff, List.filter_eq_nil_iff, List.all_eq_true]
              constructor
              · intro h c hc
                simpa using h c hc
              · intro h c hc
                simpa using h c hc
            rw [e2]
            exact q' _ (s1.trans (Same.new nL2))
        · have e1 : nameB x = false := by unfold nameB; rw [decide_eq_false h2, Bool.false_and, Bool.and_false]
          rw [e1] at q0
          refine ⟨_, rfl, x, rfl, line100 (by omega), _, _, rfl, rfl, true, ?_, _, _, rfl, rfl, false, ?_, ?_⟩
          · exact congrArg V.bl (decide_eq_true (show (1 : Int) ≤ (x.length : Int) by omega))
          · exact congrArg V.bl (decide_eq_false (show ¬ (x.length : Int) ≤ 8 by omega))
          exact q0
      · have e1 : nameB x = false := by unfold nameB; rw [decide_eq_false h1, Bool.false_and]
        rw [e1] at q0
        refine ⟨_, rfl, x, rfl, line100 (by omega), _, _, rfl, rfl, false, ?_, false, rfl, ?_⟩
        · exact congrArg V.bl (decide_eq_false (show ¬ (1 : Int) ≤ (x.length : Int) by omega))
        exact q0
    | _ => exact q0
end
end T11

set_option maxHeartbeats 1000000
namespace T11
open PySem L2 PyProof.Rows TX TY
theorem told_stop {ps : List TM.Pr} {D : Option (V × V)} {r : List (Option (V × V))} (h : okp ps D = none) : told ps (D :: r) = .inl ps.length := by
  unfold told
  split
  · rfl
  · rw [h]
theorem told_full {ps : List TM.Pr} {D : Option (V × V)} {r : List (Option (V × V))} (h : 8 ≤ ps.length) : told ps (D :: r) = .inl ps.length := by
  unfold told
  rw [if_pos h]
theorem told_go {ps : List TM.Pr} {D : Option (V × V)} {r : List (Option (V × V))} {q : TM.Pr} (l : ¬ 8 ≤ ps.length) (h : okp ps D = some q) : told ps (D :: r) = told (ps ++ [q]) r := by
  conv => lhs; unfold told
  rw [if_neg l, h]
theorem drop_at {α : Type} {Ds : List α} {i : Nat} {D : α} (h : Ds[i]? = some D) : Ds.drop i = D :: Ds.drop (i + 1) := by
  obtain ⟨hi', e⟩ := List.getElem?_eq_some_iff.mp h
  rw [List.drop_eq_getElem_cons hi', e]
def okO (ps : List TM.Pr) (x : Str) : V → Option TM.Pr
  | .non => some (x, none)
  | .str y => if isCol ps (.str y) then some (x, some y) else none
  | _ => none
theorem okp_str {ps : List TM.Pr} {x : Str} {o : V} : okp ps (some (.str x, o)) = if nameB x && !decide (x ∈ ps.map Prod.fst) then okO ps x o else none := by
  cases o <;> rfl
/-- what is said of it: None, or the number -/
def dueV : Int ⊕ List TM.Pr → V
  | .inl k => .int k
  | .inr _ => .non
section
variable {P : Program} {w : World} {K : PySem.W.Frag} {mg : Str → Option Value} {base : Heap}
abbrev N_due : List Str := ["_law_pairs_here", "_law_told", "_law_at", "_law_pair"]
theorem sc_due : FnScope N_due ["_law_pairs_here"] (defScope s_due) := ⟨rfl, rfl, rfl, by decide +kernel, rfl, by decide +kernel, by decide +kernel⟩
def sp_due : Sp := fun vs H Q _ => ∃ (L : Addr) (xs : List V) (Ds : List (Option (V × V))), vs = [.ref L] ∧ H L = some (.lst xs) ∧ Paired (It H) xs Ds ∧ xs.length ≤ 1000 ∧
  ∀ H', Same H H' → Q (dueV (match told [] Ds with | .inl k => .inl (k : Int) | .inr ps => .inr ps)) H'
theorem ok_due {f fL : Addr} {fd dL : FuncData} (F : Fn K mg "_law_due" s_due ["_law_pairs_here"] f fd) (B : Bn mg) (FL : Fn K mg "_law_is_name" s_lawname ["_law_thing"] fL dL) : FnOk P w K mg base CX0 2 f fd ["_law_pairs_here"] sp_due := by
  have GL : FnOk P w K mg base CX0 1 fL dL ["_law_thing"] sp_is_name := ok_lawname FL B
  refine F.F.ok sc_due (fun vs H Q E h => ?_) (fun cdv A outer s H vs Q E hr h => ?_)
  · obtain ⟨L, xs, Ds, rfl, _⟩ := h
    rfl
  · obtain ⟨L, xs, Ds, rfl, hL, hI, l100, q⟩ := h
    have hu := hu_of hr
    have nd := sc_due.nd
    have i0 : ∀ X : Cx, IxR X (rIxT X.K) := fun X => ix_tup
    refine ⟨_, pss_cons (ps_if (pt_not (pt_val (pe_callB call_isi (by rfl) B.isi boot_isinstance (pa_cons (pv 0) (pa_cons (pe_bltn (v := .ty "list") (by rfl) B.list boot_list rfl) pa_nil))))) (pss_one (ps_ret (pe_un un_neg pe_int))) pss_nil)
      (pss_cons (ps_set (i := 1) nd rfl (Or.inl rfl) (pe_lst pa_nil))
      (pss_cons (ps_for PassesOwn.never rfl (pi_enum rfl B.enum (pa_cons (pv 0) pa_nil)) (pg_tup rfl (pgs_cons (pg_name (i := 2) nd rfl (Or.inl rfl)) (pgs_cons (pg_name (i := 3) nd rfl (Or.inl rfl)) pgs_nil)))
        (pss_cons (ps_if (PW.pt (pw_or (pt_cmpR op_eq (pv 2) pe_int (nomark _))
            (pw_or (pt_not (pt_val (pe_callB call_isi (by rfl) B.isi boot_isinstance (pa_cons (pv 3) (pa_cons (pe_bltn (v := .ty "tuple") (by rfl) B.tuple boot_tuple rfl) pa_nil)))))
            (pw_or (pt_cmpR op_ne (pe_callB call_len_seq (by rfl) B.len PySem.boot_len (pa_cons (pv 3) pa_nil)) pe_int (nomark _))
            (pw_or (pt_not (pt_val (pe_call GL hr rfl FL.g FL.F.kp FL.b .nil pass0 (pa_cons (pe_ix ix_tup (pv 3) pe_int (fun _ _ => rfl)) pa_nil))))
            (pw_or1 (pt_cmpR op_in_seq (pe_ix ix_tup (pv 3) pe_int (fun _ _ => rfl)) (pv 1) rfl))))))) (pss_one (ps_ret (pv 2))) pss_nil)
        (pss_cons (ps_if (PW.pt (pw_and (pt_cmp (pc_notN (pe_ix ix_tup (pv 3) pe_int (fun _ _ => rfl))))
            (pw_and1 (PW.pt (pw_or (pt_not (pt_val (pe_call GL hr rfl FL.g FL.F.kp FL.b .nil pass0 (pa_cons (pe_ix ix_tup (pv 3) pe_int (fun _ _ => rfl)) pa_nil))))
              (pw_or1 (pt_cmpR op_notIn_seq (pe_ix ix_tup (pv 3) pe_int (fun _ _ => rfl)) (pv 1) rfl))))))) (pss_one (ps_ret (pv 2))) pss_nil)
        (pss_one (ps_expr (pe_bm PySem.F.plainAttrs_list PySem.F.slot_list_append PySem.F.type_list_append mt_append (pv 1) (pa_cons (pe_ix ix_tup (pv 3) pe_int (fun _ _ => rfl)) pa_nil)))))))
      (pss_one (ps_ret pe_non)))), ?_⟩
    refine ⟨_, rfl, _, _, _, _, true, rfl, .ty _, .base (.lst hL), kit_ty (show kitB "list" "list" = some true by decide +kernel), _, rfl, ?_⟩
    refine ⟨by decide, fun p np => ?_⟩
    have hLp : L ≠ p := ne_of_none hL np
    have hlen := Paired.length hI
    refine ⟨_, rfl, L, xs, rfl, .of (by rw [upd_ne hLp]; exact hL), ?_⟩
    refine for_it (walk_enum (xs := xs)) (fun i σ H' => ∃ (v1 v2 : Option V) (ps : List TM.Pr), σ = [some (.ref L), some (.ref p), v1, v2] ∧ H' p = some (.lst ((ps.map Prod.fst).map V.str)) ∧ Same H H' ∧ Good ps ∧ ps.length = i ∧ told [] Ds = told ps (Ds.drop i))
      ⟨none, none, [], rfl, upd_same, Same.new np, good_nil, rfl, rfl⟩ (fun i σ H1 hi ⟨_, _, _, _, _, s1, _⟩ => .of (s1 _ _ hL)) ?_ ?_
    · rintro i x σ H1 H1' hi ⟨v1, v2, ps, rfl, e1, s1, gd, hpl, ht⟩ ⟨T', x1, x2, rfl, nT, rfl, hx1, hx2⟩
      obtain rfl : V.int (i : Int) = x1 := Option.some.inj hx1
      obtain ⟨D, hD, hIt⟩ := it_get hI (show xs[i]? = some x2 from hx2)
      rw [drop_at hD] at ht
      have sT : Same H (upd H1 T' (.tup [.int (i : Int), x2])) := s1.trans (Same.new nT)
      have e1' : upd H1 T' (.tup [.int (i : Int), x2]) p = some (.lst ((ps.map Prod.fst).map V.str)) := by rw [upd_ne (ne_of_none e1 nT)]; exact e1
      have stop : told [] Ds = .inl i → ∀ H', Same H H' → Q (.int (i : Int)) H' := fun e H' s' => by
        have := q H' s'
        rw [e] at this
        exact this
      refine ⟨T', _, rfl, .of upd_same, rfl, _, _, rfl, _, _, rfl, rfl, ?_⟩
      generalize upd H1 T' (.tup [.int (i : Int), x2]) = H2 at sT e1'
      have hIt2 := hIt.same sT
      refine ⟨_, rfl, rfl, _, rfl, ?_⟩
      by_cases h8 : i = 8
      · rw [decide_eq_true (show V.int (i : Int) = V.int 8 by rw [h8]; rfl)]
        refine ⟨_, rfl, stop ?_ H2 sT⟩
        rw [ht, told_full (by omega), hpl]
      rw [decide_eq_false (show ¬ V.int (i : Int) = V.int 8 from fun z => h8 (by have := V.int.inj z; omega))]
      have hps8 : ¬ 8 ≤ ps.length := by
        have := gd.le
        omega
      have no : okp ps D = none → told [] Ds = .inl i := fun e => by rw [ht, told_stop e, hpl]
      have hle := gd.le
      cases hIt2 with
      | non => exact ⟨_, rfl, _, _, _, _, false, rfl, .ty _, .base .non, kit_ty (show kitB "NoneType" "tuple" = some false by decide +kernel), _, rfl, ⟨_, rfl, stop (no rfl) H2 sT⟩⟩
      | bl b => exact ⟨_, rfl, _, _, _, _, false, rfl, .ty _, .base (.bl b), kit_ty (show kitB "bool" "tuple" = some false by decide +kernel), _, rfl, ⟨_, rfl, stop (no rfl) H2 sT⟩⟩
      | int j => exact ⟨_, rfl, _, _, _, _, false, rfl, .ty _, .base (.int j), kit_ty (show kitB "int" "tuple" = some false by decide +kernel), _, rfl, ⟨_, rfl, stop (no rfl) H2 sT⟩⟩
      | str x h => exact ⟨_, rfl, _, _, _, _, false, rfl, .ty _, .base (.str x), kit_ty (show kitB "str" "tuple" = some false by decide +kernel), _, rfl, ⟨_, rfl, stop (no rfl) H2 sT⟩⟩
      | lst h n => exact ⟨_, rfl, _, _, _, _, false, rfl, .ty _, .base (.lst h), kit_ty (show kitB "list" "tuple" = some false by decide +kernel), _, rfl, ⟨_, rfl, stop (no rfl) H2 sT⟩⟩
      | dK h => exact ⟨_, rfl, _, _, _, _, false, rfl, .ty _, .base (.dK h), kit_ty (show kitB "dict" "tuple" = some false by decide +kernel), _, rfl, ⟨_, rfl, stop (no rfl) H2 sT⟩⟩
      | @tup a ys h n l =>
        refine ⟨_, rfl, _, _, _, _, true, rfl, .ty _, .base (.tup h), kit_ty (show kitB "tuple" "tuple" = some true by decide +kernel), _, rfl, ?_⟩
        refine ⟨_, rfl, a, _, rfl, .inr (.of h), rfl, _, rfl, ?_⟩
        rw [decide_eq_false (show ¬ V.int (ys.length : Int) = V.int 2 from fun z => n (by have := V.int.inj z; omega))]
        exact ⟨_, rfl, stop (no rfl) H2 sT⟩
      | @two a c o ha hc ho =>
        refine ⟨_, rfl, _, _, _, _, true, rfl, .ty _, .base (.tup ha), kit_ty (show kitB "tuple" "tuple" = some true by decide +kernel), _, rfl, ?_⟩
        refine ⟨_, rfl, a, _, rfl, .inr (.of ha), rfl, _, rfl, ?_⟩
        refine ⟨_, rfl, a, _, _, _, rfl, rfl, .of ha, atI_nat (j := 0) rfl, c, rfl, hc, fun H3 s3 => ⟨isNm c, rfl, ?_⟩⟩
        have sT3 := sT.trans s3
        have e3 := s3 _ _ e1'
        have ha3 := s3 _ _ ha
        cases hc with
        | str x hx =>
          have e2 := okp_str (ps := ps) (x := x) (o := o)
          rw [show isNm (.str x) = nameB x from rfl]
          cases hn : nameB x with
          | false => exact ⟨_, rfl, stop (no (by rw [e2, hn]; rfl)) H3 sT3⟩
          | true =>
            rw [hn, Bool.true_and] at e2
            refine ⟨_, rfl, a, _, _, _, rfl, rfl, .of ha3, atI_nat (j := 0) rfl, ?_⟩
            refine ⟨_, rfl, p, _, rfl, .inl (.of e3), rfl, flat_strs _, _, rfl, ?_⟩
            rw [show (if false = true then !inV (V.str x) ((ps.map Prod.fst).map V.str) else inV (V.str x) ((ps.map Prod.fst).map V.str)) = inV (V.str x) ((ps.map Prod.fst).map V.str) from rfl, inV_str]
            cases hm : decide (x ∈ ps.map Prod.fst) with
            | true => exact ⟨_, rfl, stop (no (by rw [e2, hm]; rfl)) H3 sT3⟩
            | false =>
              have e4 : okp ps (some (.str x, o)) = okO ps x o := by rw [e2, hm]; rfl
              refine ⟨_, rfl, a, _, _, _, rfl, rfl, .of ha3, atI_nat (j := 1) rfl, _, rfl, ?_⟩
              cases ho with
              | non =>
                have e4 : okp ps (some (.str x, .non)) = some (x, none) := e4
                refine ⟨_, rfl, .inl ⟨rfl, _, .inl (.inl e3)⟩, _, rfl, a, _, _, _, rfl, rfl, .of ha3, atI_nat (j := 0) rfl, p, _, _, rfl, rfl, e3, ?_, _, _, ps ++ [(x, none)], rfl, ?_, ?_, ?_, ?_, ?_⟩
                · rw [List.length_map, List.length_map]
                  exact line100' (by omega)
                · rw [upd_same, List.map_append, List.map_append]
                  rfl
                · exact Same.mut sT3 np
                · exact good_step gd hps8 e4
                · rw [List.length_append, List.length_singleton, hpl]
                · rw [ht, told_go hps8 e4]
              | str y hy =>
                have e4 : okp ps (some (.str x, .str y)) = if nameB y && decide (y ∈ ps.map Prod.fst) then some (x, some y) else none := e4
                refine ⟨_, rfl, a, _, _, _, rfl, rfl, .of ha3, atI_nat (j := 1) rfl, _, rfl, .str y hy, fun H4 s4 => ⟨isNm (.str y), rfl, ?_⟩⟩
                have e5 := s4 _ _ e3
                have ha4 := s4 _ _ ha3
                rw [show isNm (.str y) = nameB y from rfl]
                cases hny : nameB y with
                | false => exact ⟨_, rfl, stop (no (by rw [e4, hny]; rfl)) H4 (sT3.trans s4)⟩
                | true =>
                  rw [hny, Bool.true_and] at e4
                  refine ⟨_, rfl, a, _, _, _, rfl, rfl, .of ha4, atI_nat (j := 1) rfl, ?_⟩
                  refine ⟨_, rfl, p, _, rfl, .inl (.of e5), rfl, flat_strs _, _, rfl, ?_⟩
                  rw [show (if true = true then !inV (V.str y) ((ps.map Prod.fst).map V.str) else inV (V.str y) ((ps.map Prod.fst).map V.str)) = !inV (V.str y) ((ps.map Prod.fst).map V.str) from rfl, inV_str]
                  cases hmy : decide (y ∈ ps.map Prod.fst) with
                  | false => exact ⟨_, rfl, stop (no (by rw [e4, hmy]; rfl)) H4 (sT3.trans s4)⟩
                  | true =>
                    rw [hmy, if_pos rfl] at e4
                    refine ⟨_, rfl, .inl ⟨rfl, _, .inl (.inl e5)⟩, _, rfl, a, _, _, _, rfl, rfl, .of ha4, atI_nat (j := 0) rfl, p, _, _, rfl, rfl, e5, ?_, _, _, ps ++ [(x, some y)], rfl, ?_, ?_, ?_, ?_, ?_⟩
                    · rw [List.length_map, List.length_map]
                      exact line100' (by omega)
                    · rw [upd_same, List.map_append, List.map_append]
                      rfl
                    · exact Same.mut (sT3.trans s4) np
                    · exact good_step gd hps8 e4
                    · rw [List.length_append, List.length_singleton, hpl]
                    · rw [ht, told_go hps8 e4]
              | _ =>
                refine ⟨_, rfl, a, _, _, _, rfl, rfl, .of ha3, atI_nat (j := 1) rfl, _, rfl, ?_, fun H4 s4 => ⟨false, rfl, ⟨_, rfl, stop (no (by rw [e4]; rfl)) H4 (sT3.trans s4)⟩⟩⟩
                first | exact .bl _ | exact .int _ | (rename_i h; exact .tup (s3 _ _ h)) | (rename_i h n; exact .lst (s3 _ _ h) n) | (rename_i h; exact .dK (s3 _ _ h))
        | _ => exact ⟨_, rfl, stop (no rfl) H3 sT3⟩
    · rintro σ H1 ⟨v1, v2, ps, rfl, e1, s1, gd, hpl, ht⟩
      have e : told [] Ds = .inr ps := by
        rw [ht, hlen, List.drop_length]
        rfl
      rw [e] at q
      exact q H1 s1
end
end T11

set_option maxHeartbeats 2000000
namespace T11
open PySem L2 PyProof.Rows TX TY
section
variable {P : Program} {w : World} {K : PySem.W.Frag} {mg : Str → Option Value} {base : Heap}
variable {fN fC fP fT fO : Addr} {dN dC dP dT dO : FuncData}
/-- the class of trees -/
structure Td (K : PySem.W.Frag) (mg : Str → Option Value) (C fI : Addr) (dI : FuncData) : Prop where
  c : Tc K mg C
  iF : Fun K "__init__" "Tree.__init__" s_tinit fI dI
  iM : Mk K C fI
  iB : Binds K dI ["self", "pairs"] []
/-- the errors: all refusals, no tree, no column, no columns -/
structure Er (K : PySem.W.Frag) (mg : Str → Option Value) (CF Ct Cl Cn : Addr) : Prop where
  gF : mg "FoldError" = some (.ref CF)
  gL : mg "NoColumn" = some (.ref Cl)
  gN : mg "NoColumns" = some (.ref Cn)
  te : PySem.W.exmOne K (.ref Ct) (.ref CF) = some true
  xc : ExcC K Ct
  i1 : PySem.W.kitOne K (.ref Ct) (.ref Ct) = some true
  i2 : PySem.W.kitOne K (.ref Ct) (.ref Cl) = some false
  i3 : PySem.W.kitOne K (.ref Ct) (.ref Cn) = some false
  gb : mg "bool" = none
variable {C fI Ct fi CF Cl Cn : Addr} {dI di : FuncData}
theorem sc_said : FnScope ["_law_pairs_here", "_law_found", "e"] ["_law_pairs_here"] (defScope s_said) := ⟨rfl, rfl, rfl, by decide +kernel, rfl, by decide +kernel, by decide +kernel⟩
def t_said (K : PySem.W.Frag) (Ct Cl Cn : Addr) : Addr → Value → Option Addr → TS := fun a cls d => tSeq (tAsg (tC (.str "other")) (gName 1))
  (tIfS (tAnd (tB (tCB (rIsXd K a cls d) (tCons (tVar 2) (tCons (tC (.ref Ct)) tNil)))) (tAnd (tNot (tB (tCB (rIsXd K a cls d) (tCons (tVar 2) (tCons (tTup (tCons (tC (.ref Cl)) (tCons (tC (.ref Cn)) tNil))) tNil)))))
      (tNot (tB (tCB (rIsi K) (tCons (tXf a cls d Ct "at" (tVar 2)) (tCons (tC (.ty "bool")) tNil)))))))
    (tAsg (tXf a cls d Ct "at" (tVar 2)) (gName 1)) tNext)
def sp_said (K : PySem.W.Frag) : Sp := fun vs H Q _ => ∃ (v : V) (r : Int ⊕ List TM.Pr), vs = [v] ∧ Ask K H v r ∧ ∀ H', Same H H' → Q (dueV r) H'
theorem ok_said {f : Addr} {fd : FuncData} (F : Fn K mg "_law_said" s_said ["_law_pairs_here"] f fd) (T : Kd K mg fN fC fP fT fO dN dC dP dT dO) (D : Td K mg C fI dI) (N : Nt K mg Ct fi di) (Z : Er K mg CF Ct Cl Cn) :
    FnOk P w K mg base CX0 12 f fd ["_law_pairs_here"] (sp_said K) := by
  have B := T.B
  have GI : FnOk P w K mg base (L2.CX P w) 10 fI dI ["self", "pairs"] (sp_tinit K C Ct) := ok_tinit D.iF T D.c N
  have XF : XfC K Ct := ⟨Z.xc.hg, Z.xc.hk, Z.xc.hs, Z.xc.hd⟩
  refine F.F.ok sc_said (fun vs H Q E h => ?_) (fun cdv A outer s H vs Q E hr h => ?_)
  · obtain ⟨v, r, rfl, _⟩ := h
    rfl
  · obtain ⟨v, r, rfl, hv, q⟩ := h
    refine ⟨_, pss_cons (ps_set (i := 1) sc_said.nd rfl (Or.inl rfl) pe_str)
      (pss_cons (ps_try_as (i := 2) (tb := fun W => tSeq (tAsg (tC .non) (gName 1)) (tDrop (tMakeS C (sp_tinit K C Ct) (WE W) (tCons (tVar 0) tNil)))) (ts := t_said K Ct Cl Cn) (Wout := fun _ _ _ _ => False) rfl rfl sc_said.nd rfl rfl ⟨rfl, by decide, Or.inl Z.gF⟩ takes0
        (fun W pn xe tk _ => pss_cons (ps_set (i := 1) sc_said.nd rfl (Or.inl rfl) (by exact pe_non)) (pss_one (ps_expr (by exact (pe_makeS D.iM GI hr rfl D.c.g D.iB (fun σ => passAt tk σ) (by exact (pa_cons (pv 0) pa_nil)))))))
        (fun a oe cls d pn hz hf => pss_cons (ps_set (i := 1) sc_said.nd rfl (Or.inl rfl) pe_str)
          (pss_one (ps_if (PW.pt (pw_and (pt_val (pe_callB (call_isXd hz hf) (by rfl) B.isi boot_isinstance (pa_cons (pv 2) (pa_cons (pe_glob (v := .ref Ct) (by rfl) N.g rfl) pa_nil))))
            (pw_and (pt_not (pt_val (pe_callB (call_isXd hz hf) (by rfl) B.isi boot_isinstance (pa_cons (pv 2) (pa_cons (pe_tup (pa_cons (pe_glob (v := .ref Cl) (by rfl) Z.gL rfl) (pa_cons (pe_glob (v := .ref Cn) (by rfl) Z.gN rfl) pa_nil))) pa_nil)))))
            (pw_and1 (pt_not (pt_val (pe_callB call_isi (by rfl) B.isi boot_isinstance (pa_cons (pe_xf XF N.no hz hf (pv 2)) (pa_cons (pe_bltn (v := .ty "bool") (by rfl) Z.gb boot_bool rfl) pa_nil)))))))))
            (pss_one (ps_set (i := 1) sc_said.nd rfl (Or.inl rfl) (pe_xf XF N.no hz hf (pv 2)))) pss_nil))))
      (pss_one (ps_ret (pv 1)))), ?_⟩
    refine ⟨_, rfl, fun x dx nx ndx hne => ?_⟩
    have sx : Same H (upd (upd H dx (.own x)) x (.ins C dx [])) := fun c o e => by rw [upd_ne (ne_of_none e nx), upd_ne (ne_of_none e ndx)]; exact e
    refine ⟨x, dx, v, r, rfl, upd_same, hv.same sx, fun k hk H1 dd s1 edd => ?_, fun ps hps H1 tt kt => ?_⟩
    · subst hk
      refine ⟨true, Z.te, fun _ e0 ne0 => ?_, fun q => Bool.noConfusion q⟩
      refine ⟨_, rfl, Ct, _, true, rfl, Z.xc, ⟨dd, _, rfl, edd⟩, rfl, .inl ⟨_, .own Ct, Z.i1⟩, true, rfl, ?_⟩
      refine ⟨_, rfl, two_le, fun T' nT => ?_⟩
      have edd2 : upd H1 T' (.tup [.ref Cl, .ref Cn]) dd = some (.xd [("at", .int k)]) := by rw [upd_ne (ne_of_none edd nT)]; exact edd
      refine ⟨Ct, _, false, rfl, Z.xc, ⟨dd, _, rfl, edd2⟩, rfl, .inr ⟨T', _, [.ref Cl, .ref Cn], rfl, upd_same, .cons (.own _) (.cons (.own _) .nil), ?_⟩, false, rfl, ?_⟩
      · exact kitAny_cons Z.i2 (fun _ => kitAny_cons Z.i3 (fun _ => kitAny_nil) (fun z => z)) (fun z => Bool.noConfusion z)
      refine ⟨_, rfl, rfl, rfl, dd, _, _, rfl, edd2, rfl, ?_⟩
      refine ⟨_, _, _, _, false, rfl, .ty _, .base (.int _), kit_ty (show kitB "int" "bool" = some false by decide +kernel), false, rfl, ?_⟩
      refine ⟨_, rfl, rfl, rfl, dd, _, _, rfl, edd2, rfl, ?_⟩
      exact ⟨_, rfl, q _ ((sx.trans s1).trans (Same.new nT))⟩
    · subst hps
      refine ⟨rfl, ?_⟩
      exact ⟨_, rfl, q H1 fun c o e => kt c o (ne_of_none e nx) (sx _ _ e)⟩
end
end T11

set_option maxHeartbeats 4000000
namespace T11
open PySem L2 PyProof.Rows TX TY
/-- all of them may stand in a list of pairs -/
def AllIt (H : Hp) (xs : List V) : Prop := ∀ v ∈ xs, ∃ D, It H v D
theorem AllIt.nil {H : Hp} : AllIt H [] := fun _ h => nomatch h
theorem AllIt.old {H : Hp} {xs : List V} {a : Addr} {o : HO} (h : AllIt H xs) (n : H a = none) : AllIt (upd H a o) xs := fun v hv => (h v hv).imp fun _ d => d.same (Same.new n)
theorem AllIt.same {H H' : Hp} {xs : List V} (h : AllIt H xs) (s : Same H H') : AllIt H' xs := fun v hv => (h v hv).imp fun _ d => d.same s
theorem AllIt.sm {H H' : Hp} {xs : List V} {W : Addr} (h : AllIt H xs) (s : Sm W H H') (w : ∃ n, WellAt n H W) : AllIt H' xs := fun v hv => (h v hv).imp fun _ d => d.sm s w
theorem AllIt.app {H : Hp} {xs ys : List V} (h : AllIt H xs) (k : AllIt H ys) : AllIt H (xs ++ ys) := fun v hv => (List.mem_append.mp hv).elim (h v) (k v)
theorem AllIt.const {H : Hp} {xs : List V} {v : V} {D : Option (V × V)} (h : AllIt H xs) (i : It H v D) : AllIt H (xs ++ [v]) := h.app fun u hu => by
  rw [List.mem_singleton.mp hu]
  exact ⟨_, i⟩
theorem AllIt.step {H : Hp} {xs : List V} {a : Addr} {o : HO} {D : Option (V × V)} (h : AllIt H xs) (n : H a = none) (i : It (upd H a o) (.ref a) D) : AllIt (upd H a o) (xs ++ [.ref a]) := (h.old n).const i
theorem AllIt.sub {H : Hp} {xs ys : List V} (h : AllIt H xs) (s : ∀ v ∈ ys, v ∈ xs) : AllIt H ys := fun v hv => h v (s v hv)
theorem AllIt.paired {H : Hp} : ∀ {xs : List V}, AllIt H xs → ∃ Ds, Paired (It H) xs Ds
  | [], _ => ⟨[], .nil⟩
  | x :: r, h => by
    obtain ⟨D, d⟩ := h x List.mem_cons_self
    obtain ⟨Ds, p⟩ := AllIt.paired (xs := r) fun v hv => h v (List.mem_cons_of_mem _ hv)
    exact ⟨D :: Ds, .cons d p⟩
section
variable {P : Program} {w : World} {K : PySem.W.Frag} {mg : Str → Option Value} {base : Heap}
abbrev N_odd : List Str := ["_law_well_here", "_law_names_here", "_law_some", "_law_one", "_law_other", "_law_odds"]
theorem sc_odd : FnScope N_odd ["_law_well_here", "_law_names_here"] (defScope s_odd) := ⟨rfl, rfl, rfl, by decide +kernel, rfl, by decide +kernel, by decide +kernel⟩
def sp_odd : Sp := fun vs H Q _ => ∃ (W Nn : Addr) (ns : List Str) (n : Nat), vs = [.ref W, .ref Nn] ∧ H Nn = some (.lst (ns.map V.str)) ∧ Nn ≠ W ∧ 0 < ns.length ∧ ns.length ≤ 26 ∧ (∀ x ∈ ns, TM.NameOk x) ∧ WellAt (n + 3) H W ∧
  ∀ H' v, Sm W H H' → WellAt n H' W → (∃ D, It H' v D) → Q v H'
theorem ok_odd {f fD : Addr} {fd dD : FuncData} (F : Fn K mg "_law_odd" s_odd ["_law_well_here", "_law_names_here"] f fd) (B : Bn mg) (D : Fn K mg "_law_draw" s_draw ["_law_well_here", "_law_top"] fD dD) :
    FnOk P w K mg base CX0 2 f fd ["_law_well_here", "_law_names_here"] sp_odd := by
  have GD : FnOk P w K mg base CX0 1 fD dD ["_law_well_here", "_law_top"] sp_draw := ok_draw D
  refine F.F.ok sc_odd (fun vs H Q E h => ?_) (fun cdv A outer s H vs Q E hr h => ?_)
  · obtain ⟨W, Nn, ns, n, rfl, _⟩ := h
    rfl
  · obtain ⟨W, Nn, ns, n, rfl, hN, hNW, l0, l26, hok, hW, q⟩ := h
    have nd := sc_odd.nd
    refine ⟨_, pss_cons (ps_set (i := 2) nd rfl (Or.inl rfl) (pe_lst (pa_cons (pe_call GD hr rfl D.g D.F.kp D.b .nil pass0 (pa_cons (pv 0) (pa_cons (pe_callB call_len_seq (by rfl) B.len PySem.boot_len (pa_cons (pv 1) pa_nil)) pa_nil)))
        (pa_cons (pe_call GD hr rfl D.g D.F.kp D.b .nil pass0 (pa_cons (pv 0) (pa_cons (pe_callB call_len_seq (by rfl) B.len PySem.boot_len (pa_cons (pv 1) pa_nil)) pa_nil))) pa_nil))))
      (pss_cons (ps_par (i := 3) (j := 4) rfl nd rfl rfl (by decide) rfl rfl (pa_cons (pe_ix ix_list (pv 1) (pe_ix ix_list (pv 2) pe_int (fun _ _ => rfl)) (fun _ _ => rfl)) (pa_cons (pe_ix ix_list (pv 1) (pe_ix ix_list (pv 2) pe_int (fun _ _ => rfl)) (fun _ _ => rfl)) pa_nil)) rfl)
      (pss_cons (ps_set (i := 5) nd rfl (Or.inl rfl) (pe_lst (pa_cons (pe_tup (pa_cons (pv 3) (pa_cons (pv 4) pa_nil))) (pa_cons (pe_tup (pa_cons (pv 3) (pa_cons pe_non pa_nil))) (pa_cons (pe_lst (pa_cons (pv 3) (pa_cons pe_non pa_nil))) (pa_cons (pe_tup (pa_cons (pv 3) pa_nil)) (pa_cons (pe_tup (pa_cons (pv 3) (pa_cons pe_non (pa_cons pe_non pa_nil)))) (pa_cons pe_non (pa_cons pe_str (pa_cons pe_int (pa_cons (pe_tup (pa_cons pe_str (pa_cons pe_non pa_nil))) (pa_cons (pe_tup (pa_cons pe_str (pa_cons pe_non pa_nil))) pa_nil))))))))))))
      (pss_cons (ps_set (i := 5) nd rfl (Or.inl rfl) (pe_op op_cat (pv 5) (pe_lst (pa_cons (pe_tup (pa_cons pe_str (pa_cons pe_non pa_nil))) (pa_cons (pe_tup (pa_cons (pv 3) (pa_cons pe_str pa_nil))) (pa_cons (pe_tup (pa_cons (pv 3) (pa_cons pe_int pa_nil))) (pa_cons (pe_tup (pa_cons pe_non (pa_cons (pv 3) pa_nil))) (pa_cons (pe_tup (pa_cons (pv 3) (pa_cons (pv 3) pa_nil))) (pa_cons (pe_tup (pa_cons pe_bl (pa_cons pe_non pa_nil))) (pa_cons (pe_tup (pa_cons (pe_tup (pa_cons pe_str pa_nil)) (pa_cons pe_non pa_nil))) pa_nil))))))))))
      (pss_cons (ps_set (i := 5) nd rfl (Or.inl rfl) (pe_op op_cat (pv 5) (pe_lst (pa_cons (pe_tup (pa_cons (pv 3) (pa_cons (pe_lst (pa_cons (pv 4) pa_nil)) pa_nil))) (pa_cons (pe_tup (pa_cons pe_dnewK (pa_cons pe_non pa_nil))) (pa_cons (pe_tup (pa_cons pe_str (pa_cons (pv 3) pa_nil))) pa_nil))))))
      (pss_one (ps_ret (pe_ix ix_list (pv 5) (pe_call GD hr rfl D.g D.F.kp D.b .nil pass0 (pa_cons (pv 0) (pa_cons pe_int pa_nil))) (fun _ _ => rfl)))))))), ?_⟩
    -- which ones
    refine ⟨_, rfl, _, rfl, Nn, _, rfl, .inl (.of hN), W, ns.length, n + 2, by rw [List.length_map]; rfl, l0, by omega, hW, fun H1 i1 hi1 s1 w1 => ?_⟩
    have hN1 := s1 _ _ hNW hN
    refine ⟨_, rfl, _, rfl, Nn, _, rfl, .inl (.of hN1), W, ns.length, n + 1, by rw [List.length_map]; rfl, l0, by omega, w1, fun H2 i2 hi2 s2 w2 => ?_⟩
    have hN2 := s2 _ _ hNW hN1
    refine ⟨two_le, fun S nS => ?_⟩
    have eS : upd H2 S (.lst [.int (i1 : Int), .int (i2 : Int)]) S = some (.lst [.int (i1 : Int), .int (i2 : Int)]) := upd_same
    have hN3 := (Same.new (o := .lst [.int (i1 : Int), .int (i2 : Int)]) nS) _ _ hN2
    obtain ⟨one, e1⟩ : ∃ x, ns[i1]? = some x := ⟨_, List.getElem?_eq_getElem hi1⟩
    obtain ⟨oth, e2⟩ : ∃ x, ns[i2]? = some x := ⟨_, List.getElem?_eq_getElem hi2⟩
    have h3 : one.length ≤ 100 := by have := (hok _ (List.mem_of_getElem? e1)).2.1; omega
    have h4 : oth.length ≤ 100 := by have := (hok _ (List.mem_of_getElem? e2)).2.1; omega
    refine ⟨_, rfl, _, rfl, S, _, _, _, rfl, rfl, .of eS, atI_nat (j := 0) rfl, Nn, _, _, .str one, rfl, rfl, .of hN3, atI_nat (by rw [List.getElem?_map, e1]; rfl), ?_⟩
    refine ⟨_, rfl, _, rfl, S, _, _, _, rfl, rfl, .of eS, atI_nat (j := 1) rfl, Nn, _, _, .str oth, rfl, rfl, .of hN3, atI_nat (by rw [List.getElem?_map, e2]; rfl), ?_⟩
    refine ⟨_, _, rfl, ?_⟩
    have m2 : Sm W H (upd H2 S (.lst [.int (i1 : Int), .int (i2 : Int)])) := (s1.trans s2).new nS
    have w3 := w2.new (o := .lst [.int (i1 : Int), .int (i2 : Int)]) nS
    generalize upd H2 S (.lst [.int (i1 : Int), .int (i2 : Int)]) = G0 at m2 w3
    clear hN3 eS
    have A1 : AllIt G0 [] := .nil
    have s1 : Same G0 G0 := same_rfl
    refine ⟨_, rfl, ?_⟩
    refine ⟨_, rfl, ?_⟩
    refine ⟨line100 (by simp only [List.length_cons, List.length_nil]; decide), fun a1 q1 => ?_⟩
    have A2 := A1.step (o := .tup [.str one, .str oth]) q1 (.two (c := .str one) (o := .str oth) upd_same (.str one h3) (.str oth h4))
    have s2 := Same.new' (o := .tup [.str one, .str oth]) s1 q1
    refine ⟨_, rfl, ?_⟩
    refine ⟨line100 (by simp only [List.length_cons, List.length_nil]; decide), fun a2 q2 => ?_⟩
    have A3 := A2.step (o := .tup [.str one, .non]) q2 (.two (c := .str one) (o := .non) upd_same (.str one h3) .non)
    have s3 := Same.new' (o := .tup [.str one, .non]) s2 q2
    refine ⟨_, rfl, ?_⟩
    refine ⟨line100 (by simp only [List.length_cons, List.length_nil]; decide), fun a3 q3 => ?_⟩
    have A4 := A3.step (o := .lst [.str one, .non]) q3 (.lst (xs := [.str one, .non]) upd_same (by simp))
    have s4 := Same.new' (o := .lst [.str one, .non]) s3 q3
    refine ⟨_, rfl, ?_⟩
    refine ⟨line100 (by simp only [List.length_cons, List.length_nil]; decide), fun a4 q4 => ?_⟩
    have A5 := A4.step (o := .tup [.str one]) q4 (.tup (xs := [.str one]) upd_same (by simp) (by simp))
    have s5 := Same.new' (o := .tup [.str one]) s4 q4
    refine ⟨_, rfl, ?_⟩
    refine ⟨line100 (by simp only [List.length_cons, List.length_nil]; decide), fun a5 q5 => ?_⟩
    have A6 := A5.step (o := .tup [.str one, .non, .non]) q5 (.tup (xs := [.str one, .non, .non]) upd_same (by simp) (by simp))
    have s6 := Same.new' (o := .tup [.str one, .non, .non]) s5 q5
    have A7 := A6.const It.non
    have A8 := A7.const (It.str "ab" (by decide +kernel))
    have A9 := A8.const (It.int 7)
    refine ⟨line100 (by simp only [List.length_cons, List.length_nil]; decide), fun a6 q6 => ?_⟩
    have A10 := A9.step (o := .tup [.str "", .non]) q6 (.two (c := .str "") (o := .non) upd_same (.str "" (by decide +kernel)) .non)
    have s7 := Same.new' (o := .tup [.str "", .non]) s6 q6
    refine ⟨line100 (by simp only [List.length_cons, List.length_nil]; decide), fun a7 q7 => ?_⟩
    have A11 := A10.step (o := .tup [.str "A", .non]) q7 (.two (c := .str "A") (o := .non) upd_same (.str "A" (by decide +kernel)) .non)
    have s8 := Same.new' (o := .tup [.str "A", .non]) s7 q7
    refine ⟨line100 (by simp only [List.length_cons, List.length_nil]; decide), fun L1 nL1 => ?_⟩
    have A12 := A11.old (o := .lst [.ref a1, .ref a2, .ref a3, .ref a4, .ref a5, .non, .str "ab", .int 7, .ref a6, .ref a7]) nL1
    have s9 := Same.new' (o := .lst [.ref a1, .ref a2, .ref a3, .ref a4, .ref a5, .non, .str "ab", .int 7, .ref a6, .ref a7]) s8 nL1
    have e11 : (upd (upd (upd (upd (upd (upd (upd (upd G0 a1 (.tup [.str one, .str oth])) a2 (.tup [.str one, .non])) a3 (.lst [.str one, .non])) a4 (.tup [.str one])) a5 (.tup [.str one, .non, .non])) a6 (.tup [.str "", .non])) a7 (.tup [.str "A", .non])) L1 (.lst [.ref a1, .ref a2, .ref a3, .ref a4, .ref a5, .non, .str "ab", .int 7, .ref a6, .ref a7])) L1 = some (.lst [.ref a1, .ref a2, .ref a3, .ref a4, .ref a5, .non, .str "ab", .int 7, .ref a6, .ref a7]) := upd_same
    have t1 := s9
    have C1 := A12
    simp only [List.nil_append, List.cons_append] at C1
    generalize (upd (upd (upd (upd (upd (upd (upd (upd G0 a1 (.tup [.str one, .str oth])) a2 (.tup [.str one, .non])) a3 (.lst [.str one, .non])) a4 (.tup [.str one])) a5 (.tup [.str one, .non, .non])) a6 (.tup [.str "", .non])) a7 (.tup [.str "A", .non])) L1 (.lst [.ref a1, .ref a2, .ref a3, .ref a4, .ref a5, .non, .str "ab", .int 7, .ref a6, .ref a7])) = G1 at e11 t1 C1 ⊢
    generalize hx1 : ([.ref a1, .ref a2, .ref a3, .ref a4, .ref a5, .non, .str "ab", .int 7, .ref a6, .ref a7] : List V) = xs1 at e11 C1 ⊢
    have lx1 : xs1.length = 10 := by rw [← hx1]; rfl
    clear hx1
    refine ⟨_, rfl, ?_⟩
    have A13 : AllIt G1 [] := .nil
    have s10 : Same G1 G1 := same_rfl
    refine ⟨line100 (by simp only [List.length_cons, List.length_nil]; decide), fun a8 q8 => ?_⟩
    have A14 := A13.step (o := .tup [.str "abcdefghi", .non]) q8 (.two (c := .str "abcdefghi") (o := .non) upd_same (.str "abcdefghi" (by decide +kernel)) .non)
    have s11 := Same.new' (o := .tup [.str "abcdefghi", .non]) s10 q8
    refine ⟨_, rfl, ?_⟩
    refine ⟨line100 (by simp only [List.length_cons, List.length_nil]; decide), fun a9 q9 => ?_⟩
    have A15 := A14.step (o := .tup [.str one, .str ""]) q9 (.two (c := .str one) (o := .str "") upd_same (.str one h3) (.str "" (by decide +kernel)))
    have s12 := Same.new' (o := .tup [.str one, .str ""]) s11 q9
    refine ⟨_, rfl, ?_⟩
    refine ⟨line100 (by simp only [List.length_cons, List.length_nil]; decide), fun a10 q10 => ?_⟩
    have A16 := A15.step (o := .tup [.str one, .int 7]) q10 (.two (c := .str one) (o := .int 7) upd_same (.str one h3) (.int 7))
    have s13 := Same.new' (o := .tup [.str one, .int 7]) s12 q10
    refine ⟨_, rfl, ?_⟩
    refine ⟨line100 (by simp only [List.length_cons, List.length_nil]; decide), fun a11 q11 => ?_⟩
    have A17 := A16.step (o := .tup [.non, .str one]) q11 (.two (c := .non) (o := .str one) upd_same .non (.str one h3))
    have s14 := Same.new' (o := .tup [.non, .str one]) s13 q11
    refine ⟨_, rfl, ?_⟩
    refine ⟨_, rfl, ?_⟩
    refine ⟨line100 (by simp only [List.length_cons, List.length_nil]; decide), fun a12 q12 => ?_⟩
    have A18 := A17.step (o := .tup [.str one, .str one]) q12 (.two (c := .str one) (o := .str one) upd_same (.str one h3) (.str one h3))
    have s15 := Same.new' (o := .tup [.str one, .str one]) s14 q12
    refine ⟨line100 (by simp only [List.length_cons, List.length_nil]; decide), fun a13 q13 => ?_⟩
    have A19 := A18.step (o := .tup [.bl true, .non]) q13 (.two (c := .bl true) (o := .non) upd_same (.bl true) .non)
    have s16 := Same.new' (o := .tup [.bl true, .non]) s15 q13
    refine ⟨line100 (by simp only [List.length_cons, List.length_nil]; decide), fun b14 m14 => ?_⟩
    have A20 := A19.old (o := .tup [.str "a"]) m14
    have s17 := Same.new' (o := .tup [.str "a"]) s16 m14
    refine ⟨line100 (by simp only [List.length_cons, List.length_nil]; decide), fun a15 q15 => ?_⟩
    have A21 := A20.step (o := .tup [.ref b14, .non]) q15 (.two (c := .ref b14) (o := .non) upd_same (.tup (xs := [.str "a"]) ((Same.new q15) _ _ upd_same)) .non)
    have s18 := Same.new' (o := .tup [.ref b14, .non]) s17 q15
    refine ⟨line100 (by simp only [List.length_cons, List.length_nil]; decide), fun L2 nL2 => ?_⟩
    have A22 := A21.old (o := .lst [.ref a8, .ref a9, .ref a10, .ref a11, .ref a12, .ref a13, .ref a15]) nL2
    have s19 := Same.new' (o := .lst [.ref a8, .ref a9, .ref a10, .ref a11, .ref a12, .ref a13, .ref a15]) s18 nL2
    have e12 : (upd (upd (upd (upd (upd (upd (upd (upd (upd G1 a8 (.tup [.str "abcdefghi", .non])) a9 (.tup [.str one, .str ""])) a10 (.tup [.str one, .int 7])) a11 (.tup [.non, .str one])) a12 (.tup [.str one, .str one])) a13 (.tup [.bl true, .non])) b14 (.tup [.str "a"])) a15 (.tup [.ref b14, .non])) L2 (.lst [.ref a8, .ref a9, .ref a10, .ref a11, .ref a12, .ref a13, .ref a15])) L2 = some (.lst [.ref a8, .ref a9, .ref a10, .ref a11, .ref a12, .ref a13, .ref a15]) := upd_same
    have t2 := s19
    have C2 := A22
    simp only [List.nil_append, List.cons_append] at C2
    generalize (upd (upd (upd (upd (upd (upd (upd (upd (upd G1 a8 (.tup [.str "abcdefghi", .non])) a9 (.tup [.str one, .str ""])) a10 (.tup [.str one, .int 7])) a11 (.tup [.non, .str one])) a12 (.tup [.str one, .str one])) a13 (.tup [.bl true, .non])) b14 (.tup [.str "a"])) a15 (.tup [.ref b14, .non])) L2 (.lst [.ref a8, .ref a9, .ref a10, .ref a11, .ref a12, .ref a13, .ref a15])) = G2 at e12 t2 C2 ⊢
    generalize hx2 : ([.ref a8, .ref a9, .ref a10, .ref a11, .ref a12, .ref a13, .ref a15] : List V) = xs2 at e12 C2 ⊢
    have lx2 : xs2.length = 7 := by rw [← hx2]; rfl
    clear hx2
    have e21 := t2 _ _ e11
    refine ⟨L1, L2, _, _, rfl, rfl, e21, e12, line100 (by omega), fun L3 nL3 => ?_⟩
    have e13 : upd G2 L3 (.lst (xs1 ++ xs2)) L3 = some (.lst (xs1 ++ xs2)) := upd_same
    have t3 := Same.new' (o := .lst (xs1 ++ xs2)) (t1.trans t2) nL3
    have C3 : AllIt (upd G2 L3 (.lst (xs1 ++ xs2))) (xs1 ++ xs2) := ((C1.same t2).app C2).old nL3
    have lx3 : (xs1 ++ xs2).length = 17 := by rw [List.length_append]; omega
    generalize xs1 ++ xs2 = xs3 at e13 t3 C3 lx3 ⊢
    generalize upd G2 L3 (.lst xs3) = G3 at e13 t3 C3 ⊢
    refine ⟨_, rfl, ?_⟩
    have A23 : AllIt G3 [] := .nil
    have s20 : Same G3 G3 := same_rfl
    refine ⟨_, rfl, ?_⟩
    refine ⟨_, rfl, ?_⟩
    refine ⟨line100 (by simp only [List.length_cons, List.length_nil]; decide), fun b16 m16 => ?_⟩
    have A24 := A23.old (o := .lst [.str oth]) m16
    have s21 := Same.new' (o := .lst [.str oth]) s20 m16
    refine ⟨line100 (by simp only [List.length_cons, List.length_nil]; decide), fun a17 q17 => ?_⟩
    have A25 := A24.step (o := .tup [.str one, .ref b16]) q17 (.two (c := .str one) (o := .ref b16) upd_same (.str one h3) (.lst (xs := [.str oth]) ((Same.new q17) _ _ upd_same) (by simp)))
    have s22 := Same.new' (o := .tup [.str one, .ref b16]) s21 q17
    intro b18 m18
    have A26 := A25.old (o := .dK []) m18
    have s23 := Same.new' (o := .dK []) s22 m18
    refine ⟨line100 (by simp only [List.length_cons, List.length_nil]; decide), fun a19 q19 => ?_⟩
    have A27 := A26.step (o := .tup [.ref b18, .non]) q19 (.two (c := .ref b18) (o := .non) upd_same (.dK (kvs := []) ((Same.new q19) _ _ upd_same)) .non)
    have s24 := Same.new' (o := .tup [.ref b18, .non]) s23 q19
    refine ⟨_, rfl, ?_⟩
    refine ⟨line100 (by simp only [List.length_cons, List.length_nil]; decide), fun a20 q20 => ?_⟩
    have A28 := A27.step (o := .tup [.str "a b", .str one]) q20 (.two (c := .str "a b") (o := .str one) upd_same (.str "a b" (by decide +kernel)) (.str one h3))
    have s25 := Same.new' (o := .tup [.str "a b", .str one]) s24 q20
    refine ⟨line100 (by simp only [List.length_cons, List.length_nil]; decide), fun L4 nL4 => ?_⟩
    have A29 := A28.old (o := .lst [.ref a17, .ref a19, .ref a20]) nL4
    have s26 := Same.new' (o := .lst [.ref a17, .ref a19, .ref a20]) s25 nL4
    have e14 : (upd (upd (upd (upd (upd (upd G3 b16 (.lst [.str oth])) a17 (.tup [.str one, .ref b16])) b18 (.dK [])) a19 (.tup [.ref b18, .non])) a20 (.tup [.str "a b", .str one])) L4 (.lst [.ref a17, .ref a19, .ref a20])) L4 = some (.lst [.ref a17, .ref a19, .ref a20]) := upd_same
    have t4 := s26
    have C4 := A29
    simp only [List.nil_append, List.cons_append] at C4
    generalize (upd (upd (upd (upd (upd (upd G3 b16 (.lst [.str oth])) a17 (.tup [.str one, .ref b16])) b18 (.dK [])) a19 (.tup [.ref b18, .non])) a20 (.tup [.str "a b", .str one])) L4 (.lst [.ref a17, .ref a19, .ref a20])) = G4 at e14 t4 C4 ⊢
    generalize hx4 : ([.ref a17, .ref a19, .ref a20] : List V) = xs4 at e14 C4 ⊢
    have lx4 : xs4.length = 3 := by rw [← hx4]; rfl
    clear hx4
    have e31 := t4 _ _ e13
    refine ⟨L3, L4, _, _, rfl, rfl, e31, e14, line100 (by omega), fun L5 nL5 => ?_⟩
    have e15 : upd G4 L5 (.lst (xs3 ++ xs4)) L5 = some (.lst (xs3 ++ xs4)) := upd_same
    have t5 := Same.new' (o := .lst (xs3 ++ xs4)) (t3.trans t4) nL5
    have C5 : AllIt (upd G4 L5 (.lst (xs3 ++ xs4))) (xs3 ++ xs4) := ((C3.same t4).app C4).old nL5
    have lx5 : (xs3 ++ xs4).length = 20 := by rw [List.length_append]; omega
    generalize xs3 ++ xs4 = xs5 at e15 t5 C5 lx5 ⊢
    generalize upd G4 L5 (.lst xs5) = G5 at e15 t5 C5 ⊢
    have t0 := t5
    have w5 : WellAt (n + 1) G5 W := w3.same t0
    have L5W : L5 ≠ W := fun z => by
      obtain ⟨_, _, _, ew, _⟩ := w5
      rw [← z, e15] at ew
      have := congrArg List.length (HO.lst.inj (Option.some.inj ew))
      rw [lx5] at this
      simp at this
    refine ⟨_, rfl, _, rfl, W, 20, n, rfl, by decide, by decide, w5, fun H6 k hk s6 w6 => ?_⟩
    have e6 := s6 _ _ L5W e15
    have C6 := C5.sm s6 ⟨_, w5⟩
    have hk5 : k < xs5.length := by omega
    refine ⟨L5, _, _, xs5[k], rfl, rfl, .of e6, atI_nat (List.getElem?_eq_getElem hk5), ?_⟩
    exact q H6 _ ((m2.trans (.of t0)).trans s6) w6 (C6 _ (List.getElem_mem hk5))
end
end T11

set_option maxHeartbeats 4000000
namespace T11
open PySem L2 PyProof.Rows TX TY
theorem cut_mem {xs : List V} {lo hi : Option Int} : ∀ v ∈ cutV xs lo hi, v ∈ xs := by
  intro v hv
  unfold cutV at hv
  exact List.mem_of_mem_drop (List.mem_of_mem_take hv)
theorem cut_len {xs : List V} {lo hi : Option Int} : (cutV xs lo hi).length ≤ xs.length := by
  unfold cutV
  rw [List.length_take, List.length_drop]
  omega
section
variable {P : Program} {w : World} {K : PySem.W.Frag} {mg : Str → Option Value} {base : Heap}
abbrev N_sp : List Str := ["_law_well_here", "_law_pairs_here", "_law_names_here", "_law_way", "_law_at", "_law_to", "_law_odd_here", "_law_left"]
theorem sc_sp : FnScope N_sp ["_law_well_here", "_law_pairs_here", "_law_names_here"] (defScope s_spoilt) := ⟨rfl, rfl, rfl, by decide +kernel, rfl, by decide +kernel, by decide +kernel⟩
def sp_sp : Sp := fun vs H Q _ => ∃ (W L Nn : Addr) (xs : List V) (ns : List Str) (n : Nat), vs = [.ref W, .ref L, .ref Nn] ∧ H L = some (.lst xs) ∧ L ≠ W ∧ AllIt H xs ∧ xs.length ≤ 100 ∧ H Nn = some (.lst (ns.map V.str)) ∧ Nn ≠ W ∧ 0 < ns.length ∧ ns.length ≤ 26 ∧
  (∀ x ∈ ns, TM.NameOk x) ∧ WellAt (n + 6) H W ∧ ∀ H' p ys, Sm W H H' → WellAt n H' W → p ≠ W → H' p = some (.lst ys) → AllIt H' ys → ys.length ≤ 4 * xs.length + 1 → Q (.ref p) H'
theorem ok_sp {f fD fO : Addr} {fd dD dO : FuncData} (F : Fn K mg "_law_spoilt" s_spoilt ["_law_well_here", "_law_pairs_here", "_law_names_here"] f fd) (B : Bn mg) (D : Fn K mg "_law_draw" s_draw ["_law_well_here", "_law_top"] fD dD)
    (O : Fn K mg "_law_odd" s_odd ["_law_well_here", "_law_names_here"] fO dO) : FnOk P w K mg base CX0 3 f fd ["_law_well_here", "_law_pairs_here", "_law_names_here"] sp_sp := by
  have GD : FnOk P w K mg base CX0 1 fD dD ["_law_well_here", "_law_top"] sp_draw := ok_draw D
  have GO : FnOk P w K mg base CX0 2 fO dO ["_law_well_here", "_law_names_here"] sp_odd := ok_odd O B D
  refine F.F.ok sc_sp (fun vs H Q E h => ?_) (fun cdv A outer s H vs Q E hr h => ?_)
  · obtain ⟨W, L, Nn, xs, ns, n, rfl, _⟩ := h
    rfl
  · obtain ⟨W, L, Nn, xs, ns, n, rfl, hL, hLW, hA, l100, hN, hNW, l0, l26, hok, hW, q⟩ := h
    have nd := sc_sp.nd
    have r1 : Room 1 _ := hr.mono (by decide)
    have hu := hu_of hr
    refine ⟨_, pss_cons (ps_set (i := 3) nd rfl (Or.inl rfl) (pe_call GD r1 rfl D.g D.F.kp D.b .nil pass0 (pa_cons (pv 0) (pa_cons pe_int pa_nil))))
      (pss_cons (ps_set (i := 4) nd rfl (Or.inl rfl) (pe_call GD r1 rfl D.g D.F.kp D.b .nil pass0 (pa_cons (pv 0) (pa_cons (pe_op op_add (pe_callB call_len_seq (by rfl) B.len PySem.boot_len (pa_cons (pv 1) pa_nil)) pe_int) pa_nil))))
      (pss_cons (ps_set (i := 5) nd rfl (Or.inl rfl) (pe_call GD r1 rfl D.g D.F.kp D.b .nil pass0 (pa_cons (pv 0) (pa_cons (pe_op op_add (pe_callB call_len_seq (by rfl) B.len PySem.boot_len (pa_cons (pv 1) pa_nil)) pe_int) pa_nil))))
      (pss_cons (ps_set (i := 6) nd rfl (Or.inl rfl) (pe_call GO hr rfl O.g O.F.kp O.b .nil pass0 (pa_cons (pv 0) (pa_cons (pv 2) pa_nil))))
      (pss_cons (ps_if (pt_cmpR op_eq (pv 3) pe_int (nomark _)) (pss_one (ps_ret (pe_op op_cat (pe_slice sl_list (pv 1) po_none (po_some (pv 4))) (pe_slice sl_list (pv 1) (po_some (pe_op op_add (pv 4) pe_int)) po_none)))) pss_nil)
      (pss_cons (ps_if (PW.pt (pw_and (pt_cmpR op_eq (pv 3) pe_int (nomark _)) (pw_and1 (pt_cmpR op_lt (pv 4) (pe_callB call_len_seq (by rfl) B.len PySem.boot_len (pa_cons (pv 1) pa_nil)) (nomark _)))))
          (pss_cons (ps_set (i := 7) nd rfl (Or.inl rfl) (pe_op op_cat (pe_slice sl_list (pv 1) po_none (po_some (pv 4))) (pe_slice sl_list (pv 1) (po_some (pe_op op_add (pv 4) pe_int)) po_none)))
          (pss_one (ps_ret (pe_op op_cat (pe_op op_cat (pe_slice sl_list (pv 7) po_none (po_some (pv 5))) (pe_lst (pa_cons (pe_ix ix_list (pv 1) (pv 4) (fun _ _ => rfl)) pa_nil))) (pe_slice sl_list (pv 7) (po_some (pv 5)) po_none))))) pss_nil)
      (pss_cons (ps_if (pt_cmpR op_eq (pv 3) pe_int (nomark _)) (pss_one (ps_ret (pe_op op_cat (pe_op op_cat (pe_slice sl_list (pv 1) po_none (po_some (pv 4))) (pe_lst (pa_cons (pv 6) pa_nil))) (pe_slice sl_list (pv 1) (po_some (pe_op op_add (pv 4) pe_int)) po_none)))) pss_nil)
      (pss_one (ps_ret (pe_op op_cat (pe_op op_cat (pe_slice sl_list (pv 1) po_none (po_some (pv 4))) (pe_lst (pa_cons (pv 6) pa_nil))) (pe_slice sl_list (pv 1) (po_some (pv 4)) po_none)))))))))), ?_⟩
    refine ⟨_, rfl, W, 5, n + 5, rfl, by decide, by decide, hW, fun H1 way hway s1 w1 => ?_⟩
    have hL1 := s1 _ _ hLW hL
    refine ⟨_, rfl, _, rfl, L, _, rfl, .inl (.of hL1), _, _, rfl, rfl, W, xs.length + 1, n + 4, by simp, by omega, by omega, w1, fun H2 at' hat s2 w2 => ?_⟩
    have hL2 := s2 _ _ hLW hL1
    refine ⟨_, rfl, _, rfl, L, _, rfl, .inl (.of hL2), _, _, rfl, rfl, W, xs.length + 1, n + 3, by simp, by omega, by omega, w2, fun H3 to hto s3 w3 => ?_⟩
    have hL3 := s3 _ _ hLW hL2
    have m3 := (s1.trans s2).trans s3
    refine ⟨_, rfl, _, rfl, W, Nn, ns, n, rfl, m3 _ _ hNW hN, hNW, l0, l26, hok, w3, fun H4 odd s4 w4 ⟨Do, hodd⟩ => ?_⟩
    have m4 := m3.trans s4
    have hL4 := s4 _ _ hLW hL3
    have hA4 : AllIt H4 xs := hA.sm m4 ⟨_, hW⟩
    have fin : ∀ (H' : Hp) p (ys : List V), Same H4 H' → H4 p = none → H' p = some (.lst ys) → (∀ v ∈ ys, v ∈ xs ∨ v = odd) → ys.length ≤ 4 * xs.length + 1 → Q (.ref p) H' := by
      intro H' p ys s np ep hy hl
      refine q H' p ys (m4.trans (.of s)) (w4.same s) (w4.ne np).symm ep (fun v hv => ?_) hl
      rcases hy v hv with h | h
      · exact (hA4.same s) v h
      · rw [h]
        exact ⟨Do, hodd.same s⟩
    clear s1 s2 s3 s4 m3 w1 w2 w3 hL1 hL2 hL3
    refine ⟨_, rfl, rfl, _, rfl, ?_⟩
    by_cases h0 : way = 0
    · rw [decide_eq_true (show V.int (way : Int) = V.int 0 by rw [h0]; rfl)]
      refine ⟨_, rfl, _, rfl, _, rfl, L, _, rfl, .of hL4, fun p1 n1 => ?_⟩
      refine ⟨_, rfl, _, rfl, _, _, rfl, rfl, _, rfl, L, _, rfl, .of ((Same.new n1) _ _ hL4), fun p2 n2 => ?_⟩
      refine ⟨p1, p2, _, _, rfl, rfl, (Same.new n2) _ _ upd_same, upd_same, ?_, fun p3 n3 => ?_⟩
      · exact line100 (by have := cut_len (xs := xs) (lo := none) (hi := some (at' : Int)); have := cut_len (xs := xs) (lo := some ((at' : Int) + 1)) (hi := none); omega)
      refine fin _ p3 _ (((Same.new n1).trans (Same.new n2)).trans (Same.new n3)) ((Same.new n1).free ((Same.new n2).free n3)) upd_same (fun v hv => ?_) ?_
      · rcases List.mem_append.mp hv with hv | hv
        · exact .inl (cut_mem v hv)
        · exact .inl (cut_mem v hv)
      · rw [List.length_append]
        have := cut_len (xs := xs) (lo := none) (hi := some (at' : Int))
        have := cut_len (xs := xs) (lo := some ((at' : Int) + 1)) (hi := none)
        omega
    rw [decide_eq_false (show ¬ V.int (way : Int) = V.int 0 from fun z => h0 (by have := V.int.inj z; omega))]
    -- one thing elsewhere
    by_cases hb : way = 1 ∧ at' < xs.length
    · obtain ⟨h1, hlt⟩ := hb
      refine ⟨_, rfl, rfl, _, rfl, ?_⟩
      rw [decide_eq_true (show V.int (way : Int) = V.int 1 by rw [h1]; rfl)]
      refine ⟨_, rfl, _, rfl, L, _, rfl, .inl (.of hL4), _, _, rfl, rfl, _, rfl, ?_⟩
      rw [decide_eq_true (show (at' : Int) < (xs.length : Int) by omega)]
      refine ⟨_, rfl, _, rfl, _, rfl, L, _, rfl, .of hL4, fun p1 n1 => ?_⟩
      refine ⟨_, rfl, _, rfl, _, _, rfl, rfl, _, rfl, L, _, rfl, .of ((Same.new n1) _ _ hL4), fun p2 n2 => ?_⟩
      refine ⟨p1, p2, _, _, rfl, rfl, (Same.new n2) _ _ upd_same, upd_same, ?_, fun p3 n3 => ?_⟩
      · exact line100 (by have := cut_len (xs := xs) (lo := none) (hi := some (at' : Int)); have := cut_len (xs := xs) (lo := some ((at' : Int) + 1)) (hi := none); omega)
      have t3 := fun o => ((Same.new (H := H4) n1).trans (Same.new n2)).trans (Same.new (o := o) n3)
      obtain ⟨ys, hys⟩ : ∃ ys, ys = cutV xs none (some (at' : Int)) ++ cutV xs (some ((at' : Int) + 1)) none := ⟨_, rfl⟩
      have ey : ∀ h, upd h p3 (.lst (cutV xs none (some (at' : Int)) ++ cutV xs (some ((at' : Int) + 1)) none)) p3 = some (.lst ys) := fun h => by rw [hys]; exact upd_same
      have lys : ys.length ≤ 2 * xs.length := by
        rw [hys, List.length_append]
        have := cut_len (xs := xs) (lo := none) (hi := some (at' : Int))
        have := cut_len (xs := xs) (lo := some ((at' : Int) + 1)) (hi := none)
        omega
      have mys : ∀ v ∈ ys, v ∈ xs := fun v hv => by
        rw [hys] at hv
        rcases List.mem_append.mp hv with hv | hv
        · exact cut_mem v hv
        · exact cut_mem v hv
      refine ⟨_, rfl, _, rfl, _, rfl, p3, ys, rfl, .of (ey _), fun p4 n4 => ?_⟩
      have t4 := fun o => (t3 _).trans (Same.new (o := o) n4)
      refine ⟨_, rfl, _, rfl, L, xs, _, xs[at'], rfl, rfl, .of (t4 _ _ _ hL4), atI_nat (List.getElem?_eq_getElem hlt), by show 1 ≤ sizeLine; decide, fun p5 n5 => ?_⟩
      refine ⟨p4, p5, _, _, rfl, rfl, (Same.new n5) _ _ upd_same, upd_same, ?_, fun p6 n6 => ?_⟩
      · exact line100 (by have := cut_len (xs := ys) (lo := none) (hi := some (to : Int)); rw [List.length_singleton]; omega)
      have t6 := fun o => ((t4 _).trans (Same.new n5)).trans (Same.new (o := o) n6)
      refine ⟨_, rfl, _, rfl, _, rfl, p3, ys, rfl, .of ((((Same.new n4).trans (Same.new n5)).trans (Same.new n6)) _ _ (ey _)), fun p7 n7 => ?_⟩
      refine ⟨p6, p7, _, _, rfl, rfl, (Same.new n7) _ _ upd_same, upd_same, ?_, fun p8 n8 => ?_⟩
      · rw [List.length_append, List.length_singleton]
        exact line100 (by have := cut_len (xs := ys) (lo := none) (hi := some (to : Int)); have := cut_len (xs := ys) (lo := some (to : Int)) (hi := none); omega)
      refine fin _ p8 _ (((t6 _).trans (Same.new n7)).trans (Same.new n8)) ((t6 _).free ((Same.new n7).free n8)) upd_same (fun v hv => ?_) ?_
      · rcases List.mem_append.mp hv with hv | hv
        · rcases List.mem_append.mp hv with hv | hv
          · exact .inl (mys v (cut_mem v hv))
          · rw [List.mem_singleton.mp hv]
            exact .inl (List.getElem_mem hlt)
        · exact .inl (mys v (cut_mem v hv))
      · rw [List.length_append, List.length_append, List.length_singleton]
        have := cut_len (xs := ys) (lo := none) (hi := some (to : Int))
        have := cut_len (xs := ys) (lo := some (to : Int)) (hi := none)
        omega
    dsimp only
    rw [if_neg Bool.false_ne_true]
    dsimp only [gName, tNext]
    refine sq_no (fun h s5 Q' q' => ?_) fun H5 s5 => ?_
    · refine ⟨_, rfl, rfl, _, rfl, ?_⟩
      by_cases h1 : way = 1
      · rw [decide_eq_true (show V.int (way : Int) = V.int 1 by rw [h1]; rfl)]
        refine ⟨_, rfl, _, rfl, L, _, rfl, .inl (.of (s5 _ _ hL4)), _, _, rfl, rfl, _, rfl, ?_⟩
        rw [decide_eq_false (show ¬ (at' : Int) < (xs.length : Int) from fun z => hb ⟨h1, by omega⟩)]
        exact q' h same_rfl
      · rw [decide_eq_false (show ¬ V.int (way : Int) = V.int 1 from fun z => h1 (by have := V.int.inj z; omega))]
        exact q' h same_rfl
    have hL5 := s5 _ _ hL4
    refine ⟨_, rfl, rfl, _, rfl, ?_⟩
    by_cases h2 : way = 2
    · rw [decide_eq_true (show V.int (way : Int) = V.int 2 by rw [h2]; rfl)]
      refine ⟨_, rfl, _, rfl, _, rfl, L, _, rfl, .of hL5, fun p1 n1 => ?_⟩
      refine ⟨_, rfl, by show 1 ≤ sizeLine; decide, fun p2 n2 => ?_⟩
      refine ⟨p1, p2, _, _, rfl, rfl, (Same.new n2) _ _ upd_same, upd_same, ?_, fun p3 n3 => ?_⟩
      · exact line100 (by have := cut_len (xs := xs) (lo := none) (hi := some (at' : Int)); rw [List.length_singleton]; omega)
      have t3 := fun o => s5.trans (((Same.new n1).trans (Same.new n2)).trans (Same.new (o := o) n3))
      refine ⟨_, rfl, _, rfl, _, _, rfl, rfl, _, rfl, L, _, rfl, .of (t3 _ _ _ hL4), fun p4 n4 => ?_⟩
      refine ⟨p3, p4, _, _, rfl, rfl, (Same.new n4) _ _ upd_same, upd_same, ?_, fun p5 n5 => ?_⟩
      · rw [List.length_append, List.length_singleton]
        exact line100 (by have := cut_len (xs := xs) (lo := none) (hi := some (at' : Int)); have := cut_len (xs := xs) (lo := some ((at' : Int) + 1)) (hi := none); omega)
      refine fin _ p5 _ (((t3 _).trans (Same.new n4)).trans (Same.new n5)) ((t3 _).free ((Same.new n4).free n5)) upd_same (fun v hv => ?_) ?_
      · rcases List.mem_append.mp hv with hv | hv
        · rcases List.mem_append.mp hv with hv | hv
          · exact .inl (cut_mem v hv)
          · exact .inr (List.mem_singleton.mp hv)
        · exact .inl (cut_mem v hv)
      · rw [List.length_append, List.length_append, List.length_singleton]
        have := cut_len (xs := xs) (lo := none) (hi := some (at' : Int))
        have := cut_len (xs := xs) (lo := some ((at' : Int) + 1)) (hi := none)
        omega
    · rw [decide_eq_false (show ¬ V.int (way : Int) = V.int 2 from fun z => h2 (by have := V.int.inj z; omega))]
      refine ⟨_, rfl, _, rfl, _, rfl, L, _, rfl, .of hL5, fun p1 n1 => ?_⟩
      refine ⟨_, rfl, by show 1 ≤ sizeLine; decide, fun p2 n2 => ?_⟩
      refine ⟨p1, p2, _, _, rfl, rfl, (Same.new n2) _ _ upd_same, upd_same, ?_, fun p3 n3 => ?_⟩
      · exact line100 (by have := cut_len (xs := xs) (lo := none) (hi := some (at' : Int)); rw [List.length_singleton]; omega)
      have t3 := fun o => s5.trans (((Same.new n1).trans (Same.new n2)).trans (Same.new (o := o) n3))
      refine ⟨_, rfl, _, rfl, _, rfl, L, _, rfl, .of (t3 _ _ _ hL4), fun p4 n4 => ?_⟩
      refine ⟨p3, p4, _, _, rfl, rfl, (Same.new n4) _ _ upd_same, upd_same, ?_, fun p5 n5 => ?_⟩
      · rw [List.length_append, List.length_singleton]
        exact line100 (by have := cut_len (xs := xs) (lo := none) (hi := some (at' : Int)); have := cut_len (xs := xs) (lo := some (at' : Int)) (hi := none); omega)
      refine fin _ p5 _ (((t3 _).trans (Same.new n4)).trans (Same.new n5)) ((t3 _).free ((Same.new n4).free n5)) upd_same (fun v hv => ?_) ?_
      · rcases List.mem_append.mp hv with hv | hv
        · rcases List.mem_append.mp hv with hv | hv
          · exact .inl (cut_mem v hv)
          · exact .inr (List.mem_singleton.mp hv)
        · exact .inl (cut_mem v hv)
      · rw [List.length_append, List.length_append, List.length_singleton]
        have := cut_len (xs := xs) (lo := none) (hi := some (at' : Int))
        have := cut_len (xs := xs) (lo := some (at' : Int)) (hi := none)
        omega
end
end T11

set_option maxHeartbeats 4000000
namespace T11
open PySem L2 PyProof.Rows TX TY
def dOf (ps : List TM.Pr) : List (Option (V × V)) := ps.map fun q => some (.str q.1, optV q.2)
theorem told_valid : ∀ (r pre : List TM.Pr), TM.Valid [] (pre ++ r) → (pre ++ r).length ≤ 8 → (∀ x ∈ (pre ++ r).map Prod.fst, TM.NameOk x) → told pre (dOf r) = .inr (pre ++ r)
  | [], pre, _, _, _ => by
    rw [List.append_nil]
    rfl
  | (c, o) :: r, pre, va, l, ok => by
    have hat : (pre ++ (c, o) :: r)[pre.length]? = some (c, o) := by simp
    obtain ⟨h1, h2⟩ := TM.valid_at va hat
    rw [List.nil_append, List.take_left] at h1 h2
    have hl : ¬ 8 ≤ pre.length := by
      rw [List.length_append, List.length_cons] at l
      omega
    have hc : nameB c = true := (nameB_iff c).mpr (ok c (List.mem_map.mpr ⟨(c, o), by simp, rfl⟩))
    have e : okp pre (some (.str c, optV o)) = some (c, o) := by
      rw [okp_str, hc, decide_eq_false h1]
      cases o with
      | none => rfl
      | some x =>
        have hx := h2 x rfl
        have hn : nameB x = true := by
          refine (nameB_iff x).mpr (ok x ?_)
          rw [List.map_append]
          exact List.mem_append_left _ hx
        show (if (nameB x && decide (x ∈ pre.map Prod.fst)) = true then _ else _) = _
        rw [hn, decide_eq_true hx]
        rfl
    show told pre (some (.str c, optV o) :: dOf r) = _
    rw [told_go hl e]
    have e2 : pre ++ (c, o) :: r = (pre ++ [(c, o)]) ++ r := by simp
    rw [e2] at va l ok ⊢
    exact told_valid r _ va l ok
theorem its_pairs {H : Hp} {as : List Addr} {ps : List TM.Pr} (t : TupsAt H as ps) (ok : ∀ x ∈ ps.map Prod.fst, TM.NameOk x) (va : TM.Valid [] ps) : Paired (It H) (as.map V.ref) (dOf ps) := by
  have ln : ∀ x, TM.NameOk x → x.length ≤ 100 := fun x h => by have := h.2.1; omega
  have main : ∀ (as : List Addr) (qs : List TM.Pr), TupsAt H as qs → (∀ q ∈ qs, TM.NameOk q.1 ∧ ∀ x, q.2 = some x → TM.NameOk x) → Paired (It H) (as.map V.ref) (dOf qs) := by
    intro as qs t
    unfold TupsAt at t
    induction t with
    | nil => intro _; exact .nil
    | cons hd _ ih =>
      rename_i a q as qs _
      intro h
      refine .cons (.two hd (.str _ (ln _ (h q List.mem_cons_self).1)) ?_) (ih fun r hr => h r (List.mem_cons_of_mem _ hr))
      cases hq : q.2 with
      | none => exact .non
      | some x => exact .str x (ln _ ((h q List.mem_cons_self).2 x hq))
  refine main as ps t fun q hq => ⟨ok _ (List.mem_map.mpr ⟨q, hq, rfl⟩), fun x hx => ok _ ?_⟩
  obtain ⟨i, hi, e⟩ := List.getElem_of_mem hq
  obtain ⟨c, o⟩ := q
  have := (TM.valid_at va (i := i) (c := c) (o := o) (by rw [List.getElem?_eq_getElem hi, e])).2 x hx
  rw [List.nil_append, List.map_take] at this
  exact List.mem_of_mem_take this
theorem AllIt.of_paired {H : Hp} {xs : List V} {Ds : List (Option (V × V))} (h : Paired (It H) xs Ds) : AllIt H xs := by
  induction h with
  | nil => exact AllIt.nil
  | cons hd _ ih =>
    intro v hv
    rcases List.mem_cons.mp hv with e | hv
    · rw [e]
      exact ⟨_, hd⟩
    · exact ih v hv
theorem AllIt.items {H : Hp} {xs : List V} (h : AllIt H xs) : xs.all itemV = true := List.all_eq_true.mpr fun v hv => by
  obtain ⟨D, d⟩ := h v hv
  exact d.item
section
variable {P : Program} {w : World} {K : PySem.W.Frag} {mg : Str → Option Value} {base : Heap}
variable {fN fC fP fT fO : Addr} {dN dC dP dT dO : FuncData}
variable {C fI Ct fi CF Cl Cn : Addr} {dI di : FuncData}
abbrev N_right : List Str := ["_law_well_here", "_law_times", "_law_wide", "_law_names_here", "_law_pairs_here", "_law_k", "_law_handed", "_law_odd_here"]
theorem sc_right : FnScope N_right ["_law_well_here"] (defScope s_right) := ⟨rfl, rfl, rfl, by decide +kernel, rfl, by decide +kernel, by decide +kernel⟩
def sp_right : Sp := fun vs H Q _ => ∃ W : Addr, vs = [.ref W] ∧ WellAt 1000 H W ∧ ∀ H', Sm W H H' → Q (.bl true) H'
/-- the defs of the statement -/
structure Ld (K : PySem.W.Frag) (mg : Str → Option Value) (gD gN gP gO gS gL gU gA : Addr) (eD eN eP eO eS eL eU eA : FuncData) : Prop where
  draw : Fn K mg "_law_draw" s_draw ["_law_well_here", "_law_top"] gD eD
  nms : Fn K mg "_law_names" s_names ["_law_well_here", "_law_count"] gN eN
  prs : Fn K mg "_law_pairs" s_pairs ["_law_well_here", "_law_names_here"] gP eP
  odd : Fn K mg "_law_odd" s_odd ["_law_well_here", "_law_names_here"] gO eO
  sp : Fn K mg "_law_spoilt" s_spoilt ["_law_well_here", "_law_pairs_here", "_law_names_here"] gS eS
  nm : Fn K mg "_law_is_name" s_lawname ["_law_thing"] gL eL
  due : Fn K mg "_law_due" s_due ["_law_pairs_here"] gU eU
  said : Fn K mg "_law_said" s_said ["_law_pairs_here"] gA eA
theorem ok_right {f gD gN gP gO gS gL gU gA : Addr} {fd eD eN eP eO eS eL eU eA : FuncData} (F : Fn K mg "_law_right" s_right ["_law_well_here"] f fd) (T : Kd K mg fN fC fP fT fO dN dC dP dT dO) (D : Td K mg C fI dI) (N : Nt K mg Ct fi di) (Z : Er K mg CF Ct Cl Cn)
    (L : Ld K mg gD gN gP gO gS gL gU gA eD eN eP eO eS eL eU eA) : FnOk P w K mg base CX0 13 f fd ["_law_well_here"] sp_right := by
  have B := T.B
  have GD : FnOk P w K mg base CX0 1 gD eD ["_law_well_here", "_law_top"] sp_draw := ok_draw L.draw
  have GN : FnOk P w K mg base CX0 2 gN eN ["_law_well_here", "_law_count"] sp_names := ok_names L.nms B L.draw
  have GP : FnOk P w K mg base CX0 2 gP eP ["_law_well_here", "_law_names_here"] sp_pairs := ok_pairs L.prs B L.draw
  have GS : FnOk P w K mg base CX0 3 gS eS ["_law_well_here", "_law_pairs_here", "_law_names_here"] sp_sp := ok_sp L.sp B L.draw L.odd
  have GU : FnOk P w K mg base CX0 2 gU eU ["_law_pairs_here"] sp_due := ok_due L.due B L.nm
  have GA : FnOk P w K mg base CX0 12 gA eA ["_law_pairs_here"] (sp_said K) := ok_said L.said T D N Z
  refine F.F.ok sc_right (fun vs H Q E h => ?_) (fun cdv A outer s H vs Q E hr h => ?_)
  · obtain ⟨W, rfl, _⟩ := h
    rfl
  · obtain ⟨W, rfl, hW, q⟩ := h
    have hu := hu_of hr
    have hu0 := hr.units0
    have r1 : Room 1 _ := hr.mono (by decide)
    have r2 : Room 2 _ := hr.mono (by decide)
    have r3 : Room 3 _ := hr.mono (by decide)
    have nd := sc_right.nd
    refine ⟨_, pss_cons (ps_set (i := 1) nd rfl (Or.inl rfl) (pe_op op_add pe_int (pe_call GD r1 rfl L.draw.g L.draw.F.kp L.draw.b .nil pass0 (pa_cons (pv 0) (pa_cons pe_int pa_nil)))))
      (pss_cons (ps_set (i := 2) nd rfl (Or.inl rfl) (pe_ix ix_list (pe_lst (pa_cons pe_int (pa_cons pe_int (pa_cons pe_int (pa_cons pe_int (pa_cons pe_int (pa_cons pe_int (pa_cons pe_int pa_nil)))))))) (pe_call GD r1 rfl L.draw.g L.draw.F.kp L.draw.b .nil pass0 (pa_cons (pv 0) (pa_cons pe_int pa_nil))) (fun _ _ => rfl)))
      (pss_cons (ps_set (i := 3) nd rfl (Or.inl rfl) (pe_call GN r2 rfl L.nms.g L.nms.F.kp L.nms.b .nil pass0 (pa_cons (pv 0) (pa_cons (pe_op op_add (pv 2) pe_int) pa_nil))))
      (pss_cons (ps_set (i := 4) nd rfl (Or.inl rfl) (pe_call GP r2 rfl L.prs.g L.prs.F.kp L.prs.b .nil pass0 (pa_cons (pv 0) (pa_cons (pe_slice sl_list (pv 3) po_none (po_some (pv 2))) pa_nil))))
      (pss_cons (ps_if (pt_cmp (pc_notN (pe_call GA hr rfl L.said.g L.said.F.kp L.said.b .nil pass0 (pa_cons (pe_callTy call_list_of (by rfl) B.list boot_list (pa_cons (pv 4) pa_nil)) pa_nil)))) (pss_one (ps_ret pe_bl)) pss_nil)
      (pss_cons (ps_for PassesOwn.never rfl (pi_range1 rfl B.range (pa_cons (pv 1) pa_nil)) (pg_name (i := 5) nd rfl (Or.inl rfl))
        (pss_cons (ps_set (i := 4) nd rfl (Or.inl rfl) (pe_call GS r3 rfl L.sp.g L.sp.F.kp L.sp.b .nil pass0 (pa_cons (pv 0) (pa_cons (pv 4) (pa_cons (pv 3) pa_nil)))))
        (pss_cons (ps_set (i := 6) nd rfl (Or.inl rfl) (pe_callTy call_list_of (by rfl) B.list boot_list (pa_cons (pv 4) pa_nil)))
        (pss_one (ps_if (PW.pt (pw_or (pt_cmpR op_ne (pe_call GA hr rfl L.said.g L.said.F.kp L.said.b .nil pass0 (pa_cons (pv 6) pa_nil)) (pe_call GU r2 rfl L.due.g L.due.F.kp L.due.b .nil pass0 (pa_cons (pv 4) pa_nil)) (nomark _))
            (pw_or1 (pt_cmpR (op_neSame hu0) (pv 6) (pv 4) (nomark _))))) (pss_one (ps_ret pe_bl)) pss_nil)))))
      (pss_cons (ps_set (i := 7) nd rfl (Or.inl rfl) (pe_ix ix_list (pe_lst (pa_cons pe_non (pa_cons (pe_callTy call_tuple_of (by rfl) B.tuple boot_tuple (pa_cons (pv 4) pa_nil)) (pa_cons pe_dnewK (pa_cons pe_str (pa_cons pe_int pa_nil))))))
          (pe_call GD r1 rfl L.draw.g L.draw.F.kp L.draw.b .nil pass0 (pa_cons (pv 0) (pa_cons pe_int pa_nil))) (fun _ _ => rfl)))
      (pss_one (ps_ret (pe_cmpR op_eq (pe_call GA hr rfl L.said.g L.said.F.kp L.said.b .nil pass0 (pa_cons (pv 7) pa_nil)) (pe_un un_neg pe_int) (nomark _)))))))))), ?_⟩
    -- how often, how wide
    refine ⟨_, rfl, W, 2, 999, rfl, by decide, by decide, hW, fun H1 tm htm s1 w1 => ?_⟩
    refine ⟨_, _, rfl, rfl, ?_⟩
    refine ⟨by decide, fun p1 n1 => ?_⟩
    refine ⟨_, rfl, W, 7, 998, rfl, by decide, by decide, w1.new n1, fun H2 k hk s2 w2 => ?_⟩
    obtain ⟨wd, hwd, hwd8⟩ : ∃ t : Nat, atI [V.int 3, V.int 5, V.int 8, V.int 2, V.int 7, V.int 0, V.int 4] (k : Int) = some (V.int (t : Int)) ∧ t ≤ 8 := by
      have : k = 0 ∨ k = 1 ∨ k = 2 ∨ k = 3 ∨ k = 4 ∨ k = 5 ∨ k = 6 := by omega
      rcases this with e | e | e | e | e | e | e <;> subst e
      · exact ⟨3, rfl, by decide⟩
      · exact ⟨5, rfl, by decide⟩
      · exact ⟨8, rfl, by decide⟩
      · exact ⟨2, rfl, by decide⟩
      · exact ⟨7, rfl, by decide⟩
      · exact ⟨0, rfl, by decide⟩
      · exact ⟨4, rfl, by decide⟩
    have pW1 : p1 ≠ W := (w1.ne n1).symm
    refine ⟨p1, _, _, _, rfl, rfl, .of (s2 _ _ pW1 upd_same), hwd, ?_⟩
    have m2 : Sm W H H2 := (s1.new n1).trans s2
    -- names, pairs
    refine ⟨_, rfl, _, rfl, _, _, rfl, rfl, W, wd + 2, 900, rfl, by omega, w2.mono (by decide), fun H3 Ln ns s3 w3 nLn LnW eLn lns ndn okn => ?_⟩
    have m3 := m2.trans s3
    refine ⟨_, rfl, _, rfl, _, rfl, _, rfl, Ln, _, rfl, .of eLn, fun pa npa => ?_⟩
    obtain ⟨ms, ems, sms, lms⟩ := cut_strs ns none (some (wd : Int))
    rw [HT.sIx_none, HT.sIx_nat] at lms
    have ms8 : ms.length ≤ 8 := by omega
    have paW : pa ≠ W := (w3.ne npa).symm
    refine ⟨W, pa, ms, 800, rfl, by rw [upd_same, ems], paW, sms.nodup ndn, by omega, (w3.new npa).mono (by omega), fun H4 L1 ps s4 w4 nL1 L1W pr1 hf1 va1 => ?_⟩
    have eLn4 : H4 Ln = some (.lst (ns.map V.str)) := s4 _ _ LnW (by rw [upd_ne (ne_of_none eLn npa)]; exact eLn)
    have m4 : Sm W H H4 := (m3.new npa).trans s4
    obtain ⟨as, e1, t1⟩ := pr1
    have l1 : ps.length ≤ 8 := by rw [← List.length_map (f := Prod.fst), hf1]; exact ms8
    have ok1 : ∀ x ∈ ps.map Prod.fst, TM.NameOk x := fun x hx => okn x (sms.subset (hf1 ▸ hx))
    have tv : told [] (dOf ps) = .inr ps := told_valid ps [] va1 l1 ok1
    have ip := its_pairs t1 ok1 va1
    have hal := t1.len
    -- these are a tree's
    refine ⟨_, rfl, L1, _, rfl, .inl (.of e1), fun l nl => ?_⟩
    refine ⟨.ref l, .inr ps, rfl, .inl ⟨l, _, _, rfl, upd_same, its_same ip (Same.new nl), by rw [List.length_map]; omega, by rw [tv]⟩, fun H5 s5 => ?_⟩
    refine ⟨_, rfl, ?_⟩
    rw [show (!decide (dueV (.inr ps) = V.non)) = false from rfl]
    have S5 : Same H4 H5 := (Same.new nl).trans s5
    have w5 : WellAt 800 H5 W := w4.same S5
    have e5 := S5 _ _ e1
    have A5 : AllIt H5 (as.map V.ref) := AllIt.of_paired (its_same ip S5)
    have eLn5 := S5 _ _ eLn4
    have m5 : Sm W H H5 := m4.trans (.of S5)
    have l0 : 0 < ns.length := by omega
    have l26 : ns.length ≤ 26 := by omega
    refine ⟨_, rfl, 1 + (tm : Int), rfl, by omega, by omega, ?_⟩
    refine for_range (lo := 0) (n := (1 + (tm : Int)).toNat) (fun i σ H' => ∃ (L' : Addr) (xs : List V) (v5 v6 : Option V), σ = [some (.ref W), some (.int (1 + (tm : Int))), some (.int (wd : Int)), some (.ref Ln), some (.ref L'), v5, v6, none] ∧
        H' L' = some (.lst xs) ∧ L' ≠ W ∧ AllIt H' xs ∧ xs.length ≤ (if i = 0 then 8 else if i = 1 then 33 else 133) ∧ Sm W H5 H' ∧ WellAt (800 - 10 * i) H' W)
      ⟨L1, _, none, none, rfl, e5, L1W, A5, by rw [List.length_map]; show _ ≤ 8; omega, .rfl', w5⟩ ?_ ?_
    · rintro i σ H6 hi ⟨L', xs, v5, v6, rfl, eL, LW, A6, lx, s6, w6⟩
      have hi1 : i ≤ 1 := by omega
      have lx33 : xs.length ≤ 33 := by
        split at lx
        · omega
        · split at lx <;> omega
      refine ⟨_, rfl, _, rfl, _, rfl, W, L', Ln, xs, ns, 790 - 10 * i, rfl, eL, LW, A6, by omega, s6 _ _ LnW eLn5, LnW, l0, l26, okn, w6.mono (by omega), fun H7 L2 ys s7 w7 L2W e7 A7 l7 => ?_⟩
      have ly : ys.length ≤ (if i + 1 = 0 then 8 else if i + 1 = 1 then 33 else 133) := by
        rw [if_neg (by omega)]
        split
        · rename_i h0
          have : i = 0 := by omega
          rw [if_pos this] at lx
          omega
        · omega
      have ly2 : ys.length ≤ 133 := by omega
      refine ⟨_, rfl, L2, ys, rfl, .inl (.of e7), fun l3 n3 => ?_⟩
      obtain ⟨Ds, ip7⟩ := A7.paired
      have e3 : upd H7 l3 (.lst ys) l3 = some (.lst ys) := upd_same
      have t7 : Same H7 (upd H7 l3 (.lst ys)) := Same.new n3
      generalize upd H7 l3 (.lst ys) = H8 at e3 t7 ⊢
      refine ⟨_, rfl, .ref l3, _, rfl, .inl ⟨l3, ys, Ds, rfl, e3, its_same ip7 t7, by omega, rfl⟩, fun H9 s9 => ?_⟩
      have t9 := t7.trans s9
      refine ⟨_, rfl, L2, ys, Ds, rfl, t9 _ _ e7, its_same ip7 t9, by omega, fun H10 s10 => ?_⟩
      have t10 := t9.trans s10
      refine ⟨by cases told [] Ds <;> rfl, false, congrArg V.bl (by cases told [] Ds <;> simp [dueV]), ?_⟩
      refine ⟨_, rfl, _, rfl, l3, L2, ys, rfl, rfl, .of ((s9.trans s10) _ _ e3), .of (t10 _ _ e7), A7.items, _, rfl, ?_⟩
      exact ⟨L2, ys, _, _, rfl, t10 _ _ e7, L2W, A7.same t10, ly, (s6.trans s7).trans (.of t10), (w7.same t10).mono (by omega)⟩
    · rintro σ H6 ⟨L', xs, v5, v6, rfl, eL, LW, A6, lx, s6, w6⟩
      have hi2 : (1 + (tm : Int)).toNat ≤ 2 := by omega
      have lx133 : xs.length ≤ 133 := by
        split at lx
        · omega
        · split at lx <;> omega
      refine ⟨_, rfl, L', xs, rfl, .inl ⟨.of eL, fun t nt => ?_⟩⟩
      intro d nd'
      refine ⟨line100 (by simp only [List.length_cons, List.length_nil]; decide), fun p np => ?_⟩
      have st := ((Same.new (o := .tup xs) nt).trans (Same.new (o := .dK []) nd')).trans (Same.new (o := .lst [.non, .ref t, .ref d, .str "ab", .int 7]) np)
      have et : upd (upd (upd H6 t (.tup xs)) d (.dK [])) p (.lst [.non, .ref t, .ref d, .str "ab", .int 7]) t = some (.tup xs) := ((Same.new nd').trans (Same.new np)) _ _ upd_same
      have ed : upd (upd (upd H6 t (.tup xs)) d (.dK [])) p (.lst [.non, .ref t, .ref d, .str "ab", .int 7]) d = some (.dK []) := (Same.new np) _ _ upd_same
      have ep : upd (upd (upd H6 t (.tup xs)) d (.dK [])) p (.lst [.non, .ref t, .ref d, .str "ab", .int 7]) p = some (.lst [.non, .ref t, .ref d, .str "ab", .int 7]) := upd_same
      have w7 := (w6.mono (m := 700) (by omega)).same st
      generalize upd (upd (upd H6 t (.tup xs)) d (.dK [])) p (.lst [.non, .ref t, .ref d, .str "ab", .int 7]) = H7 at st et ed ep w7 ⊢
      have ne : ∀ {a o}, H7 a = some o → (∀ ys, ys.length = 3 → o ≠ .lst ys) → a ≠ W := fun {a o} e h z => by
        obtain ⟨x, y, u, ew, _⟩ := w7
        rw [z, ew] at e
        exact h _ rfl (Option.some.inj e).symm
      have tW : t ≠ W := ne et fun ys _ z => by cases z
      have dW : d ≠ W := ne ed fun ys _ z => by cases z
      have pW : p ≠ W := ne ep fun ys h z => by
        have := HO.lst.inj z
        rw [← this] at h
        simp at h
      refine ⟨_, rfl, W, 5, 699, rfl, by decide, by decide, w7, fun H8 k hk s8 w8 => ?_⟩
      obtain ⟨v, hv, hno⟩ : ∃ v, atI [V.non, V.ref t, V.ref d, V.str "ab", V.int 7] (k : Int) = some v ∧ NoL H8 v := by
        have : k = 0 ∨ k = 1 ∨ k = 2 ∨ k = 3 ∨ k = 4 := by omega
        rcases this with e | e | e | e | e <;> subst e
        · exact ⟨_, rfl, .non⟩
        · exact ⟨_, rfl, .tup (s8 _ _ tW et)⟩
        · exact ⟨_, rfl, .dK (s8 _ _ dW ed)⟩
        · exact ⟨_, rfl, .str _⟩
        · exact ⟨_, rfl, .int _⟩
      refine ⟨p, _, _, v, rfl, rfl, .of (s8 _ _ pW ep), hv, ?_⟩
      refine ⟨_, rfl, v, .inl (-1), rfl, .inr ⟨hno, rfl⟩, fun H9 s9 => ?_⟩
      refine ⟨_, rfl, rfl, ?_⟩
      exact q H9 ((m5.trans s6).trans (((Sm.of st).trans s8).trans (.of s9)))
end
end T11

set_option maxHeartbeats 2000000
namespace T11
open PySem L2 PyProof.Rows TX TY
section
variable {P : Program} {w : World} {K : PySem.W.Frag} {mg : Str → Option Value} {base : Heap}
variable {fN fC fP fT fO : Addr} {dN dC dP dT dO : FuncData}
variable {C fI Ct fi CF Cl Cn : Addr} {dI di : FuncData}
theorem told_abc : told [] [some (.str "a", .non), some (.str "b", .str "c"), some (.str "c", .non)] = .inl 1 := by
  have ha : nameB "a" = true := by decide +kernel
  have hb : nameB "b" = true := by decide +kernel
  have e1 : okp [] (some (.str "a", .non)) = some (("a" : Str), (none : Option Str)) := by
    rw [okp_str, ha]
    rfl
  have e2 : okp [(("a" : Str), (none : Option Str))] (some (.str "b", .str "c")) = none := by
    rw [okp_str, hb, show decide (("b" : Str) ∈ [(("a" : Str), (none : Option Str))].map Prod.fst) = false by decide +kernel]
    show (if (nameB "c" && decide (("c" : Str) ∈ [(("a" : Str), (none : Option Str))].map Prod.fst)) = true then some (("b" : Str), some ("c" : Str)) else none) = none
    rw [show decide (("c" : Str) ∈ [(("a" : Str), (none : Option Str))].map Prod.fst) = false by decide +kernel, Bool.and_false]
    rfl
  exact (told_go (by decide) e1).trans (told_stop e2)
theorem sc_law : FnScope ["_law_script", "_law_k", "_law_cell"] ["_law_script"] (defScope s_law) := ⟨rfl, rfl, rfl, by decide +kernel, rfl, by decide +kernel, by decide +kernel⟩
def sp_law (K : PySem.W.Frag) : Sp := fun vs H Q _ => ∃ (a : Addr) (ns : List Int), vs = [.ref a] ∧ SqL K H a (ns.map V.int) ∧ ns.length ≤ 63 ∧ ∀ H', Q (.bl true) H'
theorem ok_law {f gW gR gD gN gP gO gS gL gU gA : Addr} {fd eW eR eD eN eP eO eS eL eU eA : FuncData} (F : Fn K mg "law" s_law ["_law_script"] f fd) (FW : Fn K mg "_law_well" s_well ["_law_cell", "_law_k"] gW eW) (FR : Fn K mg "_law_right" s_right ["_law_well_here"] gR eR)
    (T : Kd K mg fN fC fP fT fO dN dC dP dT dO) (D : Td K mg C fI dI) (N : Nt K mg Ct fi di) (Z : Er K mg CF Ct Cl Cn) (L : Ld K mg gD gN gP gO gS gL gU gA eD eN eP eO eS eL eU eA) : FnOk P w K mg base CX0 14 f fd ["_law_script"] (sp_law K) := by
  have B := T.B
  have GW : FnOk P w K mg base CX0 1 gW eW ["_law_cell", "_law_k"] sp_well := ok_well FW B
  have GA : FnOk P w K mg base CX0 12 gA eA ["_law_pairs_here"] (sp_said K) := ok_said L.said T D N Z
  have GR : FnOk P w K mg base CX0 13 gR eR ["_law_well_here"] sp_right := ok_right FR T D N Z L
  refine F.F.ok sc_law (fun vs H Q E h => ?_) (fun cdv A outer s H vs Q E hr h => ?_)
  · obtain ⟨a, ns, rfl, _⟩ := h
    rfl
  · obtain ⟨a, ns, rfl, hS, hl, q⟩ := h
    have r1 : Room 1 _ := hr.mono (by decide)
    have r12 : Room 12 _ := hr.mono (by decide)
    refine ⟨_, pss_cons (ps_for PassesOwn.never rfl (pi_enum rfl B.enum (pa_cons (pe_op op_cat (pe_lst (pa_cons pe_int pa_nil)) (pe_slice sl_list (pv 0) po_none (po_some pe_int))) pa_nil))
        (pg_tup rfl (pgs_cons (pg_name (i := 1) sc_law.nd rfl (Or.inl rfl)) (pgs_cons (pg_name (i := 2) sc_law.nd rfl (Or.inl rfl)) pgs_nil)))
        (pss_one (ps_if (pt_not (pt_val (pe_call GR hr rfl FR.g FR.F.kp FR.b .nil pass0 (pa_cons (pe_call GW r1 rfl FW.g FW.F.kp FW.b .nil pass0 (pa_cons (pv 2) (pa_cons (pv 1) pa_nil))) pa_nil)))) (pss_one (ps_ret pe_bl)) pss_nil)))
      (pss_one (ps_ret (pe_cmpR op_eq (pe_call GA r12 rfl L.said.g L.said.F.kp L.said.b .nil pass0 (pa_cons (pe_lst (pa_cons (pe_tup (pa_cons pe_str (pa_cons pe_non pa_nil))) (pa_cons (pe_tup (pa_cons pe_str (pa_cons pe_str pa_nil))) (pa_cons (pe_tup (pa_cons pe_str (pa_cons pe_non pa_nil))) pa_nil)))) pa_nil)) pe_int (nomark _)))), ?_⟩
    refine ⟨by decide, fun p1 n1 => ?_⟩
    have hS1 : SqL K (upd H p1 (.lst [.int 0])) a (ns.map V.int) := (Same.new n1).seq hS
    refine ⟨_, rfl, _, rfl, a, _, rfl, hS1, fun p2 n2 => ?_⟩
    obtain ⟨ms, ems, lms⟩ : ∃ ms : List Int, cutV (ns.map V.int) none (some 10) = ms.map V.int ∧ ms.length ≤ 10 := by
      refine ⟨(ns.drop (HT.sIx ns.length 0 none)).take (HT.sIx ns.length ns.length (some 10) - HT.sIx ns.length 0 none), ?_, ?_⟩
      · unfold cutV
        rw [List.length_map, List.map_take, List.map_drop]
      · rw [List.length_take, HT.sIx_none, show (some (10 : Int)) = some ((10 : Nat) : Int) from rfl, HT.sIx_nat]
        omega
    have e1 : upd (upd H p1 (.lst [.int 0])) p2 (.lst (cutV (ns.map V.int) none (some 10))) p1 = some (.lst [.int 0]) := by rw [upd_ne (ne_of_none upd_same n2)]; exact upd_same
    refine ⟨p1, p2, _, _, rfl, rfl, e1, upd_same, ?_, fun p3 n3 => ?_⟩
    · rw [ems, List.length_map]
      show 1 + _ ≤ sizeLine
      exact line100 (by omega)
    rw [ems]
    have e3 : ∀ h, upd h p3 (.lst ([V.int 0] ++ ms.map V.int)) p3 = some (.lst ((0 :: ms).map V.int)) := fun h => upd_same
    refine ⟨p3, (0 :: ms).map V.int, rfl, .of (e3 _), ?_⟩
    refine for_it (walk_enum (xs := (0 :: ms).map V.int)) (fun i σ H' => ∃ v1 v2 : Option V, σ = [some (.ref a), v1, v2] ∧ H' p3 = some (.lst ((0 :: ms).map V.int)))
      ⟨none, none, rfl, e3 _⟩ (fun i σ H1 _ ⟨_, _, _, e⟩ => .of e) ?_ ?_
    · rintro i x σ H1 H1' hi ⟨v1, v2, rfl, e4⟩ ⟨T', x1, x2, rfl, nT, rfl, hx1, hx2⟩
      rw [List.length_map] at hi
      obtain rfl : V.int (i : Int) = x1 := Option.some.inj hx1
      obtain ⟨cell, rfl⟩ : ∃ c : Int, x2 = V.int c := by
        have h2 : ((0 :: ms).map V.int)[i]? = some x2 := hx2
        rw [List.getElem?_map, List.getElem?_eq_getElem hi] at h2
        exact ⟨_, (Option.some.inj h2).symm⟩
      have hi11 : i < 11 := by
        rw [List.length_cons] at hi
        omega
      have e5 : upd H1 T' (.tup [.int (i : Int), .int cell]) p3 = some (.lst ((0 :: ms).map V.int)) := by rw [upd_ne (ne_of_none e4 nT)]; exact e4
      refine ⟨T', _, rfl, .of upd_same, rfl, _, _, rfl, _, _, rfl, rfl, ?_⟩
      refine ⟨_, rfl, _, rfl, cell, (i : Int), rfl, by omega, by omega, fun H2 W s2 nW wW => ?_⟩
      have hne : p3 ≠ W := ne_of_none e5 nW
      refine ⟨W, rfl, wW.mono (by decide), fun H3 s3 => ⟨true, rfl, ?_⟩⟩
      exact ⟨_, _, rfl, s3 _ _ hne (s2 _ _ e5)⟩
    · rintro σ H1 ⟨v1, v2, rfl, e4⟩
      refine ⟨two_le, fun a1 m1 => ?_⟩
      refine ⟨two_le, fun a2 m2 => ?_⟩
      refine ⟨two_le, fun a3 m3 => ?_⟩
      refine ⟨line100 (by simp only [List.length_cons, List.length_nil]; decide), fun l ml => ?_⟩
      have ip : Paired (It (upd (upd (upd (upd H1 a1 (.tup [.str "a", .non])) a2 (.tup [.str "b", .str "c"])) a3 (.tup [.str "c", .non])) l (.lst [.ref a1, .ref a2, .ref a3]))) [.ref a1, .ref a2, .ref a3]
          [some (.str "a", .non), some (.str "b", .str "c"), some (.str "c", .non)] :=
        .cons (.two ((((Same.new m2).trans (Same.new m3)).trans (Same.new ml)) _ _ upd_same) (.str "a" (by decide +kernel)) .non)
          (.cons (.two (((Same.new m3).trans (Same.new ml)) _ _ upd_same) (.str "b" (by decide +kernel)) (.str "c" (by decide +kernel)))
          (.cons (.two ((Same.new ml) _ _ upd_same) (.str "c" (by decide +kernel)) .non) .nil))
      refine ⟨.ref l, .inl 1, rfl, .inl ⟨l, [.ref a1, .ref a2, .ref a3], _, rfl, upd_same, ip, by simp, by rw [told_abc]; rfl⟩, fun H2 s2 => ?_⟩
      refine ⟨rfl, ?_⟩
      exact q H2
end
end T11

set_option maxHeartbeats 4000000
namespace T11
open PySem L2 PyProof.Rows TX TY
theorem all_mk {l : PySem.W.OpenLaw} {w : World} {K : PySem.W.Frag} {h : Heap} {mg : Str → Option Value} {fa f_is_name f_is_name_in f__told_overs f__is_pair f__in_order f__law_well f__law_draw f__law_names f__law_pairs f__law_odd f__law_spoilt f__law_is_name f__law_due f__law_said f__law_right f_law c_Tree f_Tree___init__ c_FoldError c_NoColumns c_NoColumn c_NoTree f_NoTree___init__ : Addr} (X : K.In h) (G : h.Ns mainGlobals mg) (hfa : mg "law" = some (.ref fa))
    {od1 an1 : Option Addr} {sl1 : Array (Option Value)} {oc1 kV1 dc1 pm1 cd1 ct1 : Value}
    {od2 an2 : Option Addr} {sl2 : Array (Option Value)} {oc2 kV2 dc2 pm2 cd2 ct2 : Value}
    {od3 an3 : Option Addr} {sl3 : Array (Option Value)} {oc3 kV3 dc3 pm3 cd3 ct3 : Value}
    {od4 an4 : Option Addr} {sl4 : Array (Option Value)} {oc4 kV4 dc4 pm4 cd4 ct4 : Value}
    {od5 an5 : Option Addr} {sl5 : Array (Option Value)} {oc5 kV5 dc5 pm5 cd5 ct5 : Value}
    {od6 an6 : Option Addr} {sl6 : Array (Option Value)} {oc6 kV6 dc6 pm6 cd6 ct6 : Value}
    {od7 an7 : Option Addr} {sl7 : Array (Option Value)} {oc7 kV7 dc7 pm7 cd7 ct7 : Value}
    {od8 an8 : Option Addr} {sl8 : Array (Option Value)} {oc8 kV8 dc8 pm8 cd8 ct8 : Value}
    {od9 an9 : Option Addr} {sl9 : Array (Option Value)} {oc9 kV9 dc9 pm9 cd9 ct9 : Value}
    {od10 an10 : Option Addr} {sl10 : Array (Option Value)} {oc10 kV10 dc10 pm10 cd10 ct10 : Value}
    {od11 an11 : Option Addr} {sl11 : Array (Option Value)} {oc11 kV11 dc11 pm11 cd11 ct11 : Value}
    {od12 an12 : Option Addr} {sl12 : Array (Option Value)} {oc12 kV12 dc12 pm12 cd12 ct12 : Value}
    {od13 an13 : Option Addr} {sl13 : Array (Option Value)} {oc13 kV13 dc13 pm13 cd13 ct13 : Value}
    {od14 an14 : Option Addr} {sl14 : Array (Option Value)} {oc14 kV14 dc14 pm14 cd14 ct14 : Value}
    {od15 an15 : Option Addr} {sl15 : Array (Option Value)} {oc15 kV15 dc15 pm15 cd15 ct15 : Value}
    {od16 an16 : Option Addr} {sl16 : Array (Option Value)} {oc16 kV16 dc16 pm16 cd16 ct16 : Value}
    {od17 an17 : Option Addr} {sl17 : Array (Option Value)} {oc17 kV17 dc17 pm17 cd17 ct17 : Value}
    {od18 an18 : Option Addr} {sl18 : Array (Option Value)} {oc18 kV18 dc18 pm18 cd18 ct18 : Value}
    {t_longest : Tok}
    {t_most : Tok}
    (a_is_name : PySem.W.nsIn K mainGlobals "is_name" = some (some (.ref f_is_name)))
    (l_is_name : K.lookup f_is_name = some ⟨oc1, od1, .func (PySem.W.fnOf "is_name" "is_name" (defArgs s_is_name) (defBody s_is_name) (defScope s_is_name) .none kV1 dc1 pm1 an1 cd1 ct1), sl1⟩)
    (o_is_name : PySem.W.codeIn K cd1 "is_name" = true)
    (k_is_name : PySem.W.keepIn K (.ref f_is_name) = true)
    (a_is_name_in : PySem.W.nsIn K mainGlobals "is_name_in" = some (some (.ref f_is_name_in)))
    (l_is_name_in : K.lookup f_is_name_in = some ⟨oc2, od2, .func (PySem.W.fnOf "is_name_in" "is_name_in" (defArgs s_is_name_in) (defBody s_is_name_in) (defScope s_is_name_in) .none kV2 dc2 pm2 an2 cd2 ct2), sl2⟩)
    (o_is_name_in : PySem.W.codeIn K cd2 "is_name_in" = true)
    (k_is_name_in : PySem.W.keepIn K (.ref f_is_name_in) = true)
    (a__told_overs : PySem.W.nsIn K mainGlobals "_told_overs" = some (some (.ref f__told_overs)))
    (l__told_overs : K.lookup f__told_overs = some ⟨oc3, od3, .func (PySem.W.fnOf "_told_overs" "_told_overs" (defArgs s_told) (defBody s_told) (defScope s_told) .none kV3 dc3 pm3 an3 cd3 ct3), sl3⟩)
    (o__told_overs : PySem.W.codeIn K cd3 "_told_overs" = true)
    (k__told_overs : PySem.W.keepIn K (.ref f__told_overs) = true)
    (a__is_pair : PySem.W.nsIn K mainGlobals "_is_pair" = some (some (.ref f__is_pair)))
    (l__is_pair : K.lookup f__is_pair = some ⟨oc4, od4, .func (PySem.W.fnOf "_is_pair" "_is_pair" (defArgs s_is_pair) (defBody s_is_pair) (defScope s_is_pair) .none kV4 dc4 pm4 an4 cd4 ct4), sl4⟩)
    (o__is_pair : PySem.W.codeIn K cd4 "_is_pair" = true)
    (k__is_pair : PySem.W.keepIn K (.ref f__is_pair) = true)
    (a__in_order : PySem.W.nsIn K mainGlobals "_in_order" = some (some (.ref f__in_order)))
    (l__in_order : K.lookup f__in_order = some ⟨oc5, od5, .func (PySem.W.fnOf "_in_order" "_in_order" (defArgs s_in_order) (defBody s_in_order) (defScope s_in_order) .none kV5 dc5 pm5 an5 cd5 ct5), sl5⟩)
    (o__in_order : PySem.W.codeIn K cd5 "_in_order" = true)
    (k__in_order : PySem.W.keepIn K (.ref f__in_order) = true)
    (a__law_well : PySem.W.nsIn K mainGlobals "_law_well" = some (some (.ref f__law_well)))
    (l__law_well : K.lookup f__law_well = some ⟨oc6, od6, .func (PySem.W.fnOf "_law_well" "_law_well" (defArgs s_well) (defBody s_well) (defScope s_well) .none kV6 dc6 pm6 an6 cd6 ct6), sl6⟩)
    (o__law_well : PySem.W.codeIn K cd6 "_law_well" = true)
    (k__law_well : PySem.W.keepIn K (.ref f__law_well) = true)
    (a__law_draw : PySem.W.nsIn K mainGlobals "_law_draw" = some (some (.ref f__law_draw)))
    (l__law_draw : K.lookup f__law_draw = some ⟨oc7, od7, .func (PySem.W.fnOf "_law_draw" "_law_draw" (defArgs s_draw) (defBody s_draw) (defScope s_draw) .none kV7 dc7 pm7 an7 cd7 ct7), sl7⟩)
    (o__law_draw : PySem.W.codeIn K cd7 "_law_draw" = true)
    (k__law_draw : PySem.W.keepIn K (.ref f__law_draw) = true)
    (a__law_names : PySem.W.nsIn K mainGlobals "_law_names" = some (some (.ref f__law_names)))
    (l__law_names : K.lookup f__law_names = some ⟨oc8, od8, .func (PySem.W.fnOf "_law_names" "_law_names" (defArgs s_names) (defBody s_names) (defScope s_names) .none kV8 dc8 pm8 an8 cd8 ct8), sl8⟩)
    (o__law_names : PySem.W.codeIn K cd8 "_law_names" = true)
    (k__law_names : PySem.W.keepIn K (.ref f__law_names) = true)
    (a__law_pairs : PySem.W.nsIn K mainGlobals "_law_pairs" = some (some (.ref f__law_pairs)))
    (l__law_pairs : K.lookup f__law_pairs = some ⟨oc9, od9, .func (PySem.W.fnOf "_law_pairs" "_law_pairs" (defArgs s_pairs) (defBody s_pairs) (defScope s_pairs) .none kV9 dc9 pm9 an9 cd9 ct9), sl9⟩)
    (o__law_pairs : PySem.W.codeIn K cd9 "_law_pairs" = true)
    (k__law_pairs : PySem.W.keepIn K (.ref f__law_pairs) = true)
    (a__law_odd : PySem.W.nsIn K mainGlobals "_law_odd" = some (some (.ref f__law_odd)))
    (l__law_odd : K.lookup f__law_odd = some ⟨oc10, od10, .func (PySem.W.fnOf "_law_odd" "_law_odd" (defArgs s_odd) (defBody s_odd) (defScope s_odd) .none kV10 dc10 pm10 an10 cd10 ct10), sl10⟩)
    (o__law_odd : PySem.W.codeIn K cd10 "_law_odd" = true)
    (k__law_odd : PySem.W.keepIn K (.ref f__law_odd) = true)
    (a__law_spoilt : PySem.W.nsIn K mainGlobals "_law_spoilt" = some (some (.ref f__law_spoilt)))
    (l__law_spoilt : K.lookup f__law_spoilt = some ⟨oc11, od11, .func (PySem.W.fnOf "_law_spoilt" "_law_spoilt" (defArgs s_spoilt) (defBody s_spoilt) (defScope s_spoilt) .none kV11 dc11 pm11 an11 cd11 ct11), sl11⟩)
    (o__law_spoilt : PySem.W.codeIn K cd11 "_law_spoilt" = true)
    (k__law_spoilt : PySem.W.keepIn K (.ref f__law_spoilt) = true)
    (a__law_is_name : PySem.W.nsIn K mainGlobals "_law_is_name" = some (some (.ref f__law_is_name)))
    (l__law_is_name : K.lookup f__law_is_name = some ⟨oc12, od12, .func (PySem.W.fnOf "_law_is_name" "_law_is_name" (defArgs s_lawname) (defBody s_lawname) (defScope s_lawname) .none kV12 dc12 pm12 an12 cd12 ct12), sl12⟩)
    (o__law_is_name : PySem.W.codeIn K cd12 "_law_is_name" = true)
    (k__law_is_name : PySem.W.keepIn K (.ref f__law_is_name) = true)
    (a__law_due : PySem.W.nsIn K mainGlobals "_law_due" = some (some (.ref f__law_due)))
    (l__law_due : K.lookup f__law_due = some ⟨oc13, od13, .func (PySem.W.fnOf "_law_due" "_law_due" (defArgs s_due) (defBody s_due) (defScope s_due) .none kV13 dc13 pm13 an13 cd13 ct13), sl13⟩)
    (o__law_due : PySem.W.codeIn K cd13 "_law_due" = true)
    (k__law_due : PySem.W.keepIn K (.ref f__law_due) = true)
    (a__law_said : PySem.W.nsIn K mainGlobals "_law_said" = some (some (.ref f__law_said)))
    (l__law_said : K.lookup f__law_said = some ⟨oc14, od14, .func (PySem.W.fnOf "_law_said" "_law_said" (defArgs s_said) (defBody s_said) (defScope s_said) .none kV14 dc14 pm14 an14 cd14 ct14), sl14⟩)
    (o__law_said : PySem.W.codeIn K cd14 "_law_said" = true)
    (k__law_said : PySem.W.keepIn K (.ref f__law_said) = true)
    (a__law_right : PySem.W.nsIn K mainGlobals "_law_right" = some (some (.ref f__law_right)))
    (l__law_right : K.lookup f__law_right = some ⟨oc15, od15, .func (PySem.W.fnOf "_law_right" "_law_right" (defArgs s_right) (defBody s_right) (defScope s_right) .none kV15 dc15 pm15 an15 cd15 ct15), sl15⟩)
    (o__law_right : PySem.W.codeIn K cd15 "_law_right" = true)
    (k__law_right : PySem.W.keepIn K (.ref f__law_right) = true)
    (a_law : PySem.W.nsIn K mainGlobals "law" = some (some (.ref f_law)))
    (l_law : K.lookup f_law = some ⟨oc16, od16, .func (PySem.W.fnOf "law" "law" (defArgs s_law) (defBody s_law) (defScope s_law) .none kV16 dc16 pm16 an16 cd16 ct16), sl16⟩)
    (o_law : PySem.W.codeIn K cd16 "law" = true)
    (k_law : PySem.W.keepIn K (.ref f_law) = true)
    (a_Tree : PySem.W.nsIn K mainGlobals "Tree" = some (some (.ref c_Tree)))
    (a_Tree___init__ : PySem.W.findIn K (.ref c_Tree) "__init__" = some (some (.ref f_Tree___init__)))
    (i_Tree___init__ : PySem.W.isFn K (.ref f_Tree___init__) = true)
    (l_Tree___init__ : K.lookup f_Tree___init__ = some ⟨oc17, od17, .func (PySem.W.fnOf "__init__" "Tree.__init__" (defArgs s_tinit) (defBody s_tinit) (defScope s_tinit) .none kV17 dc17 pm17 an17 cd17 ct17), sl17⟩)
    (o_Tree___init__ : PySem.W.codeIn K cd17 "Tree.__init__" = true)
    (k_Tree___init__ : PySem.W.keepIn K (.ref f_Tree___init__) = true)
    (pg_Tree : PySem.W.plainGet K c_Tree Str.empty = true)
    (hd_Tree : PySem.W.hasDictIn K c_Tree = true)
    (po_Tree : PySem.W.plainOver K c_Tree = true)
    (sa_Tree : PySem.W.findIn K (.ref c_Tree) "__setattr__" = some (some (.builtin "object.__setattr__")))
    (mk_Tree : PySem.W.makesIn K c_Tree = true)
    (kc_Tree : PySem.W.keepIn K (.ref c_Tree) = true)
    (ha_Tree : PySem.W.findIn K (.ref c_Tree) "__class__" = some (some (.builtin "object.__class__")))
    (hm_Tree : PySem.W.mroIn K c_Tree (.type "object") = some true)
    (me_Tree : PySem.W.kitOne K (.ref c_Tree) (.ref c_Tree) = some true)
    (n_Tree_columns : PySem.W.findIn K (.ref c_Tree) "_columns" = some none)
    (n_Tree_over : PySem.W.findIn K (.ref c_Tree) "_over" = some none)
    (hn : PySem.W.specialIn K (.builtin "object.__class__") "__get__" = some (some (.builtin "getset_descriptor.__get__")))
    (ht : PySem.W.takesIn K (.builtin "object.__class__") = some true)
    (a_FoldError : PySem.W.nsIn K mainGlobals "FoldError" = some (some (.ref c_FoldError)))
    (a_NoColumns : PySem.W.nsIn K mainGlobals "NoColumns" = some (some (.ref c_NoColumns)))
    (a_NoColumn : PySem.W.nsIn K mainGlobals "NoColumn" = some (some (.ref c_NoColumn)))
    (a_NoTree : PySem.W.nsIn K mainGlobals "NoTree" = some (some (.ref c_NoTree)))
    (a_NoTree___init__ : PySem.W.findIn K (.ref c_NoTree) "__init__" = some (some (.ref f_NoTree___init__)))
    (l_NoTree___init__ : K.lookup f_NoTree___init__ = some ⟨oc18, od18, .func (PySem.W.fnOf "__init__" "NoTree.__init__" (defArgs s_notree) (defBody s_notree) (defScope s_notree) .none kV18 dc18 pm18 an18 cd18 ct18), sl18⟩)
    (o_NoTree___init__ : PySem.W.codeIn K cd18 "NoTree.__init__" = true)
    (k_NoTree___init__ : PySem.W.keepIn K (.ref f_NoTree___init__) = true)
    (y_NoTree___init__ : PySem.W.typeIn K (.ref f_NoTree___init__) = some (.type "function"))
    (g_longest : PySem.W.nsIn K mainGlobals "LONGEST_NAME" = some (some (.int 8 t_longest)))
    (g_most : PySem.W.nsIn K mainGlobals "MOST_COLUMNS" = some (some (.int 8 t_most)))
    (z_len : PySem.W.nsIn K mainGlobals "len" = some none)
    (z_isi : PySem.W.nsIn K mainGlobals "isinstance" = some none)
    (z_str : PySem.W.nsIn K mainGlobals "str" = some none)
    (z_list : PySem.W.nsIn K mainGlobals "list" = some none)
    (z_tuple : PySem.W.nsIn K mainGlobals "tuple" = some none)
    (z_dict : PySem.W.nsIn K mainGlobals "dict" = some none)
    (z_int : PySem.W.nsIn K mainGlobals "int" = some none)
    (z_range : PySem.W.nsIn K mainGlobals "range" = some none)
    (z_enum : PySem.W.nsIn K mainGlobals "enumerate" = some none)
    (z_all : PySem.W.nsIn K mainGlobals "all" = some none)
    (z_any : PySem.W.nsIn K mainGlobals "any" = some none)
    (z_max : PySem.W.nsIn K mainGlobals "max" = some none)
    (z_sorted : PySem.W.nsIn K mainGlobals "sorted" = some none)
    (ox : oexB K c_NoTree = true)
    (sx : PySem.W.findIn K (.ref c_NoTree) "__setattr__" = some (some (.builtin "object.__setattr__")))
    (kx : PySem.W.keepIn K (.ref c_NoTree) = true)
    (bx : PySem.W.subIn K (.ref c_NoTree) (.type "BaseException") = some true)
    (tx : PySem.W.typeIn K (.ref c_NoTree) = some (.type "type"))
    (nx : PySem.W.findIn K (.ref c_NoTree) "at" = some none)
    (zbool : PySem.W.nsIn K mainGlobals "bool" = some none)
    (bf : PySem.W.subIn K (.ref c_FoldError) (.type "BaseException") = some true)
    (hf : PySem.W.hasDictIn K c_FoldError = true)
    (tf : PySem.W.typeIn K (.ref c_FoldError) = some (.type "type"))
    (snf : PySem.W.subIn K (.ref c_NoTree) (.ref c_FoldError) = some true)
    (xg : PySem.W.findIn K (.ref c_NoTree) "__getattribute__" = some (some (.builtin "BaseException.__getattribute__")))
    (xk : PySem.W.findIn K (.ref c_NoTree) "__getattr__" = some none)
    (xd : PySem.W.hasDictIn K c_NoTree = true)
    (xa : PySem.W.findIn K (.ref c_NoTree) "__class__" = some (some (.builtin "object.__class__")))
    (xm : PySem.W.mroIn K c_NoTree (.type "object") = some true)
    (j1 : PySem.W.kitOne K (.ref c_NoTree) (.ref c_NoTree) = some true)
    (j2 : PySem.W.kitOne K (.ref c_NoTree) (.ref c_NoColumn) = some false)
    (j3 : PySem.W.kitOne K (.ref c_NoTree) (.ref c_NoColumns) = some false)
    : ∃ fd : FuncData, (∀ (s : Shared) (v : Value), BindsTo s fd ⟨[v], []⟩ [("_law_script", v)]) ∧ ∀ base : Heap, K.In base → base.Ns mainGlobals mg → FnOk l.prog w K mg base CX0 14 fa fd ["_law_script"] (sp_law K) := by
  have e := hfa.symm.trans (PySem.W.mg_of X G a_law)
  cases e
  have F_is_name := fun_mk (st := s_is_name) l_is_name o_is_name k_is_name
  have b_is_name := F_is_name.binds (ps := ["thing"]) fun _ _ _ _ _ _ us hl => match us, hl with | [_], _ => rfl
  have N_is_name : Fn K mg "is_name" s_is_name ["thing"] f_is_name _ := ⟨F_is_name, PySem.W.mg_of X G a_is_name, b_is_name⟩
  have F_is_name_in := fun_mk (st := s_is_name_in) l_is_name_in o_is_name_in k_is_name_in
  have b_is_name_in := F_is_name_in.binds (ps := ["thing", "names"]) fun _ _ _ _ _ _ us hl => match us, hl with | [_, _], _ => rfl
  have N_is_name_in : Fn K mg "is_name_in" s_is_name_in ["thing", "names"] f_is_name_in _ := ⟨F_is_name_in, PySem.W.mg_of X G a_is_name_in, b_is_name_in⟩
  have F__told_overs := fun_mk (st := s_told) l__told_overs o__told_overs k__told_overs
  have b__told_overs := F__told_overs.binds (ps := ["pairs"]) fun _ _ _ _ _ _ us hl => match us, hl with | [_], _ => rfl
  have N__told_overs : Fn K mg "_told_overs" s_told ["pairs"] f__told_overs _ := ⟨F__told_overs, PySem.W.mg_of X G a__told_overs, b__told_overs⟩
  have F__is_pair := fun_mk (st := s_is_pair) l__is_pair o__is_pair k__is_pair
  have b__is_pair := F__is_pair.binds (ps := ["thing", "overs"]) fun _ _ _ _ _ _ us hl => match us, hl with | [_, _], _ => rfl
  have N__is_pair : Fn K mg "_is_pair" s_is_pair ["thing", "overs"] f__is_pair _ := ⟨F__is_pair, PySem.W.mg_of X G a__is_pair, b__is_pair⟩
  have F__in_order := fun_mk (st := s_in_order) l__in_order o__in_order k__in_order
  have b__in_order := F__in_order.binds (ps := ["overs", "upper"]) fun _ _ _ _ _ _ us hl => match us, hl with | [_, _], _ => rfl
  have N__in_order : Fn K mg "_in_order" s_in_order ["overs", "upper"] f__in_order _ := ⟨F__in_order, PySem.W.mg_of X G a__in_order, b__in_order⟩
  have F__law_well := fun_mk (st := s_well) l__law_well o__law_well k__law_well
  have b__law_well := F__law_well.binds (ps := ["_law_cell", "_law_k"]) fun _ _ _ _ _ _ us hl => match us, hl with | [_, _], _ => rfl
  have N__law_well : Fn K mg "_law_well" s_well ["_law_cell", "_law_k"] f__law_well _ := ⟨F__law_well, PySem.W.mg_of X G a__law_well, b__law_well⟩
  have F__law_draw := fun_mk (st := s_draw) l__law_draw o__law_draw k__law_draw
  have b__law_draw := F__law_draw.binds (ps := ["_law_well_here", "_law_top"]) fun _ _ _ _ _ _ us hl => match us, hl with | [_, _], _ => rfl
  have N__law_draw : Fn K mg "_law_draw" s_draw ["_law_well_here", "_law_top"] f__law_draw _ := ⟨F__law_draw, PySem.W.mg_of X G a__law_draw, b__law_draw⟩
  have F__law_names := fun_mk (st := s_names) l__law_names o__law_names k__law_names
  have b__law_names := F__law_names.binds (ps := ["_law_well_here", "_law_count"]) fun _ _ _ _ _ _ us hl => match us, hl with | [_, _], _ => rfl
  have N__law_names : Fn K mg "_law_names" s_names ["_law_well_here", "_law_count"] f__law_names _ := ⟨F__law_names, PySem.W.mg_of X G a__law_names, b__law_names⟩
  have F__law_pairs := fun_mk (st := s_pairs) l__law_pairs o__law_pairs k__law_pairs
  have b__law_pairs := F__law_pairs.binds (ps := ["_law_well_here", "_law_names_here"]) fun _ _ _ _ _ _ us hl => match us, hl with | [_, _], _ => rfl
  have N__law_pairs : Fn K mg "_law_pairs" s_pairs ["_law_well_here", "_law_names_here"] f__law_pairs _ := ⟨F__law_pairs, PySem.W.mg_of X G a__law_pairs, b__law_pairs⟩
  have F__law_odd := fun_mk (st := s_odd) l__law_odd o__law_odd k__law_odd
  have b__law_odd := F__law_odd.binds (ps := ["_law_well_here", "_law_names_here"]) fun _ _ _ _ _ _ us hl => match us, hl with | [_, _], _ => rfl
  have N__law_odd : Fn K mg "_law_odd" s_odd ["_law_well_here", "_law_names_here"] f__law_odd _ := ⟨F__law_odd, PySem.W.mg_of X G a__law_odd, b__law_odd⟩
  have F__law_spoilt := fun_mk (st := s_spoilt) l__law_spoilt o__law_spoilt k__law_spoilt
  have b__law_spoilt := F__law_spoilt.binds (ps := ["_law_well_here", "_law_pairs_here", "_law_names_here"]) fun _ _ _ _ _ _ us hl => match us, hl with | [_, _, _], _ => rfl
  have N__law_spoilt : Fn K mg "_law_spoilt" s_spoilt ["_law_well_here", "_law_pairs_here", "_law_names_here"] f__law_spoilt _ := ⟨F__law_spoilt, PySem.W.mg_of X G a__law_spoilt, b__law_spoilt⟩
  have F__law_is_name := fun_mk (st := s_lawname) l__law_is_name o__law_is_name k__law_is_name
  have b__law_is_name := F__law_is_name.binds (ps := ["_law_thing"]) fun _ _ _ _ _ _ us hl => match us, hl with | [_], _ => rfl
  have N__law_is_name : Fn K mg "_law_is_name" s_lawname ["_law_thing"] f__law_is_name _ := ⟨F__law_is_name, PySem.W.mg_of X G a__law_is_name, b__law_is_name⟩
  have F__law_due := fun_mk (st := s_due) l__law_due o__law_due k__law_due
  have b__law_due := F__law_due.binds (ps := ["_law_pairs_here"]) fun _ _ _ _ _ _ us hl => match us, hl with | [_], _ => rfl
  have N__law_due : Fn K mg "_law_due" s_due ["_law_pairs_here"] f__law_due _ := ⟨F__law_due, PySem.W.mg_of X G a__law_due, b__law_due⟩
  have F__law_said := fun_mk (st := s_said) l__law_said o__law_said k__law_said
  have b__law_said := F__law_said.binds (ps := ["_law_pairs_here"]) fun _ _ _ _ _ _ us hl => match us, hl with | [_], _ => rfl
  have N__law_said : Fn K mg "_law_said" s_said ["_law_pairs_here"] f__law_said _ := ⟨F__law_said, PySem.W.mg_of X G a__law_said, b__law_said⟩
  have F__law_right := fun_mk (st := s_right) l__law_right o__law_right k__law_right
  have b__law_right := F__law_right.binds (ps := ["_law_well_here"]) fun _ _ _ _ _ _ us hl => match us, hl with | [_], _ => rfl
  have N__law_right : Fn K mg "_law_right" s_right ["_law_well_here"] f__law_right _ := ⟨F__law_right, PySem.W.mg_of X G a__law_right, b__law_right⟩
  have F_law := fun_mk (st := s_law) l_law o_law k_law
  have b_law := F_law.binds (ps := ["_law_script"]) fun _ _ _ _ _ _ us hl => match us, hl with | [_], _ => rfl
  have N_law : Fn K mg "law" s_law ["_law_script"] fa _ := ⟨F_law, PySem.W.mg_of X G a_law, b_law⟩
  have F_Tree___init__ := fun_mk (st := s_tinit) l_Tree___init__ o_Tree___init__ k_Tree___init__
  have b_Tree___init__ := F_Tree___init__.binds (ps := ["self", "pairs"]) fun _ _ _ _ _ _ us hl => match us, hl with | [_, _], _ => rfl
  have M_Tree___init__ : Mt K c_Tree "__init__" "Tree.__init__" s_tinit ["self", "pairs"] f_Tree___init__ _ := ⟨F_Tree___init__, ⟨a_Tree___init__, i_Tree___init__, k_Tree___init__⟩, b_Tree___init__⟩
  have F_NoTree___init__ := fun_mk (st := s_notree) l_NoTree___init__ o_NoTree___init__ k_NoTree___init__
  have b_NoTree___init__ := F_NoTree___init__.binds (ps := ["self", "at"]) fun _ _ _ _ _ _ us hl => match us, hl with | [_, _], _ => rfl
  have B : Bn mg := ⟨PySem.W.mg_none_of X G z_len, PySem.W.mg_none_of X G z_isi, PySem.W.mg_none_of X G z_str, PySem.W.mg_none_of X G z_list, PySem.W.mg_none_of X G z_tuple, PySem.W.mg_none_of X G z_dict, PySem.W.mg_none_of X G z_int, PySem.W.mg_none_of X G z_range, PySem.W.mg_none_of X G z_enum, PySem.W.mg_none_of X G z_all, PySem.W.mg_none_of X G z_any, PySem.W.mg_none_of X G z_max, PySem.W.mg_none_of X G z_sorted⟩
  have Tk : Kd K mg f_is_name f_is_name_in f__is_pair f__told_overs f__in_order _ _ _ _ _ := ⟨B, ⟨⟨_, PySem.W.mg_of X G g_longest⟩, ⟨_, PySem.W.mg_of X G g_most⟩⟩, N_is_name, N_is_name_in, N__is_pair, N__told_overs, N__in_order⟩
  have Dk : Td K mg c_Tree f_Tree___init__ _ := ⟨⟨⟨pg_Tree, hd_Tree, po_Tree, sa_Tree⟩, n_Tree_columns, n_Tree_over, PySem.W.mg_of X G a_Tree, ⟨ha_Tree, hn, ht, hm_Tree, me_Tree⟩⟩, F_Tree___init__, ⟨mk_Tree, a_Tree___init__, i_Tree___init__, kc_Tree⟩, b_Tree___init__⟩
  have Nk : Nt K mg c_NoTree f_NoTree___init__ _ := ⟨⟨oexB_ok ox, sx, bx, tx, kx⟩, a_NoTree___init__, y_NoTree___init__, F_NoTree___init__, b_NoTree___init__, PySem.W.mg_of X G a_NoTree, nx⟩
  have Zk : Er K mg c_FoldError c_NoTree c_NoColumn c_NoColumns := ⟨PySem.W.mg_of X G a_FoldError, PySem.W.mg_of X G a_NoColumn, PySem.W.mg_of X G a_NoColumns, PySem.W.exm_ref bf hf tf snf, ⟨xg, xk, bx, xd, xa, hn, ht, xm⟩, j1, j2, j3, PySem.W.mg_none_of X G zbool⟩
  have Lk : Ld K mg f__law_draw f__law_names f__law_pairs f__law_odd f__law_spoilt f__law_is_name f__law_due f__law_said _ _ _ _ _ _ _ _ := ⟨N__law_draw, N__law_names, N__law_pairs, N__law_odd, N__law_spoilt, N__law_is_name, N__law_due, N__law_said⟩
  exact ⟨PySem.W.fnOf "law" "law" (defArgs s_law) (defBody s_law) (defScope s_law) .none kV16 dc16 pm16 an16 cd16 ct16, fun s v => .of_eq rfl, fun base _ _ => ok_law N_law N__law_well N__law_right Tk Dk Nk Zk Lk⟩
end T11
open PySem PySem.W PyProof.Rows
set_option maxRecDepth 100000 in
set_option maxHeartbeats 0 in
theorem PySem.Challenge.cw_foldbough_k11_what_is_no_tree_holds : PySem.Challenge.rw_foldbough_k11_what_is_no_tree.Holds := by
  w_on; o_law; k_head; (case hw => w_witness2)
  k_fill
  refine L2.walk_of (l := PySem.Challenge.rw_foldbough_k11_what_is_no_tree) (n := 63) (k := 14) (x := "_law_script") (CX := fun _ => L2.CX0) (sp := fun w => T11.sp_law (_)) rfl (by decide) rfl ⟨rfl, by decide, by decide⟩ (fun w h Y => PySem.W.kIn_of Y) ?F (fun _ _ a ns hl _ hS => ⟨a, ns, rfl, hS, hl, fun _ => rfl⟩) (fun _ _ _ _ _ z => z)
  case F =>
    intro w mg fa h KX G hmg
    refine' T11.all_mk KX G hmg ?a_is_name ?l_is_name ?o_is_name ?k_is_name ?a_is_name_in ?l_is_name_in ?o_is_name_in ?k_is_name_in ?a__told_overs ?l__told_overs ?o__told_overs ?k__told_overs ?a__is_pair ?l__is_pair ?o__is_pair ?k__is_pair ?a__in_order ?l__in_order ?o__in_order ?k__in_order ?a__law_well ?l__law_well ?o__law_well ?k__law_well ?a__law_draw ?l__law_draw ?o__law_draw ?k__law_draw ?a__law_names ?l__law_names ?o__law_names ?k__law_names ?a__law_pairs ?l__law_pairs ?o__law_pairs ?k__law_pairs ?a__law_odd ?l__law_odd ?o__law_odd ?k__law_odd ?a__law_spoilt ?l__law_spoilt ?o__law_spoilt ?k__law_spoilt ?a__law_is_name ?l__law_is_name ?o__law_is_name ?k__law_is_name ?a__law_due ?l__law_due ?o__law_due ?k__law_due ?a__law_said ?l__law_said ?o__law_said ?k__law_said ?a__law_right ?l__law_right ?o__law_right ?k__law_right ?a_law ?l_law ?o_law ?k_law ?a_Tree ?a_Tree___init__ ?i_Tree___init__ ?l_Tree___init__ ?o_Tree___init__ ?k_Tree___init__ ?pg_Tree ?hd_Tree ?po_Tree ?sa_Tree ?mk_Tree ?kc_Tree ?ha_Tree ?hm_Tree ?me_Tree ?n_Tree_columns ?n_Tree_over ?hn ?ht ?a_FoldError ?a_NoColumns ?a_NoColumn ?a_NoTree ?a_NoTree___init__ ?l_NoTree___init__ ?o_NoTree___init__ ?k_NoTree___init__ ?y_NoTree___init__ ?g_longest ?g_most ?z_len ?z_isi ?z_str ?z_list ?z_tuple ?z_dict ?z_int ?z_range ?z_enum ?z_all ?z_any ?z_max ?z_sorted ?ox ?sx ?kx ?bx ?tx ?nx ?zbool ?bf ?hf ?tf ?snf ?xg ?xk ?xd ?xa ?xm ?j1 ?j2 ?j3
    (case a_is_name => k_is)
    (case l_is_name => k_is)
    (case o_is_name => k_is)
    (case k_is_name => k_is)
    (case a_is_name_in => k_is)
    (case l_is_name_in => k_is)
    (case o_is_name_in => k_is)
    (case k_is_name_in => k_is)
    (case a__told_overs => k_is)
    (case l__told_overs => k_is)
    (case o__told_overs => k_is)
    (case k__told_overs => k_is)
    (case a__is_pair => k_is)
    (case l__is_pair => k_is)
    (case o__is_pair => k_is)
    (case k__is_pair => k_is)
    (case a__in_order => k_is)
    (case l__in_order => k_is)
    (case o__in_order => k_is)
    (case k__in_order => k_is)
    (case a__law_well => k_is)
    (case l__law_well => k_is)
    (case o__law_well => k_is)
    (case k__law_well => k_is)
    (case a__law_draw => k_is)
    (case l__law_draw => k_is)
    (case o__law_draw => k_is)
    (case k__law_draw => k_is)
    (case a__law_names => k_is)
    (case l__law_names => k_is)
    (case o__law_names => k_is)
    (case k__law_names => k_is)
    (case a__law_pairs => k_is)
    (case l__law_pairs => k_is)
    (case o__law_pairs => k_is)
    (case k__law_pairs => k_is)
    (case a__law_odd => k_is)
    (case l__law_odd => k_is)
    (case o__law_odd => k_is)
    (case k__law_odd => k_is)
    (case a__law_spoilt => k_is)
    (case l__law_spoilt => k_is)
    (case o__law_spoilt => k_is)
    (case k__law_spoilt => k_is)
    (case a__law_is_name => k_is)
    (case l__law_is_name => k_is)
    (case o__law_is_name => k_is)
    (case k__law_is_name => k_is)
    (case a__law_due => k_is)
    (case l__law_due => k_is)
    (case o__law_due => k_is)
    (case k__law_due => k_is)
    (case a__law_said => k_is)
    (case l__law_said => k_is)
    (case o__law_said => k_is)
    (case k__law_said => k_is)
    (case a__law_right => k_is)
    (case l__law_right => k_is)
    (case o__law_right => k_is)
    (case k__law_right => k_is)
    (case a_law => k_is)
    (case l_law => k_is)
    (case o_law => k_is)
    (case k_law => k_is)
    (case a_Tree => k_is)
    (case a_Tree___init__ => k_is)
    (case i_Tree___init__ => k_is)
    (case l_Tree___init__ => k_is)
    (case o_Tree___init__ => k_is)
    (case k_Tree___init__ => k_is)
    (case pg_Tree => k_is)
    (case hd_Tree => k_is)
    (case po_Tree => k_is)
    (case sa_Tree => k_is)
    (case mk_Tree => k_is)
    (case kc_Tree => k_is)
    (case ha_Tree => k_is)
    (case hm_Tree => k_is)
    (case me_Tree => kit_is)
    (case n_Tree_columns => k_is)
    (case n_Tree_over => k_is)
    (case hn => k_is)
    (case ht => k_is)
    (case a_FoldError => k_is)
    (case a_NoColumns => k_is)
    (case a_NoColumn => k_is)
    (case a_NoTree => k_is)
    (case a_NoTree___init__ => k_is)
    (case l_NoTree___init__ => k_is)
    (case o_NoTree___init__ => k_is)
    (case k_NoTree___init__ => k_is)
    (case y_NoTree___init__ => k_is)
    (case g_longest => k_is)
    (case g_most => k_is)
    (case z_len => k_is)
    (case z_isi => k_is)
    (case z_str => k_is)
    (case z_list => k_is)
    (case z_tuple => k_is)
    (case z_dict => k_is)
    (case z_int => k_is)
    (case z_range => k_is)
    (case z_enum => k_is)
    (case z_all => k_is)
    (case z_any => k_is)
    (case z_max => k_is)
    (case z_sorted => k_is)
    (case ox => first | decide +kernel | rfl)
    (case sx => k_is)
    (case kx => k_is)
    (case bx => k_is)
    (case tx => k_is)
    (case nx => k_is)
    (case zbool => k_is)
    (case bf => k_is)
    (case hf => k_is)
    (case tf => k_is)
    (case snf => k_is)
    (case xg => k_is)
    (case xk => k_is)
    (case xd => k_is)
    (case xa => k_is)
    (case xm => k_is)
    (case j1 => kit_is)
    (case j2 => kit_is)
    (case j3 => kit_is)

