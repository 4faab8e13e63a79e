import PyProof.Rows.All
import Wide.All
import OpenK.AllK
import Wide.FinOn
import HandS.ForMost
import HandS.Exc
import HandS.TryOnly
import HandS.ExcOwn
import HandS.WordsExc
import HandS.IsInst
import HandS.ExcIs
import HandS.DictComp
import HandS.Walk
import HandS.Conv
import HandS.Codes
import HandS.OwnEq
import KE.KExcIs
import HandS.ExcInit
import HandS.ExcField
import HandS.TupSets
import HandS.SortOrd
import HandS.SetBool
import HandS.TupAny
import HandS.Strs
import HandS.Defaults
import PyProof.Rows.Range3
import HandS.FStr
import HandS.Nested
import HandS.Comp
import HandS.Style
import HandS.Deep
import HandS.SetKeys
import PyProof.DictMoreH
import KE.DataCmp
import PyProof.StrOps2
import KE.DataMinMax
import PyProof.P3Eq
import HandS.TupMul
import HandS.Ends
import KE.KExcStr
import KE.RegKIsAll
import HandS.MakeKw
import PySem.Challenge.RW_foldbough_k07_whole_tables_in_any_order
set_option Elab.async false
set_option linter.all false
set_option maxRecDepth 100000
/-! Mathematics of forests of names told as lists of pairs. -/
namespace TM
open PySem L2
/-- one to eight small letters -/
def NameOk (s : Str) : Prop := 1 ≤ s.length ∧ s.length ≤ 8 ∧ ∀ c ∈ s.cps.toList, 97 ≤ c ∧ c ≤ 122
inductive Fo where
  | nil
  | cons (c : Str) (kids rest : Fo)
abbrev Pr := Str × Option Str
def flat : Fo → Option Str → List Pr
  | .nil, _ => []
  | .cons c k r, u => (c, u) :: (flat k (some c) ++ flat r u)
def names : Fo → List Str
  | .nil => []
  | .cons c k r => c :: (names k ++ names r)
def app : Fo → Fo → Fo
  | .nil, g => g
  | .cons c k r, g => .cons c k (app r g)
/-- the forest beneath u of a list of pairs in which overs stand ahead -/
def mk : List Pr → Option Str → Fo
  | [], _ => .nil
  | (c, o) :: r, u => if o = u then .cons c (mk r (some c)) (mk r u) else mk r u
def ord (ps : List Pr) (u : Option Str) : List Str := names (mk ps u)
theorem ord_nil (u : Option Str) : ord [] u = [] := rfl
theorem ord_cons (c : Str) (o : Option Str) (r : List Pr) (u : Option Str) : ord ((c, o) :: r) u = if o = u then c :: (ord r (some c) ++ ord r u) else ord r u := by
  unfold ord
  show names (if o = u then .cons c (mk r (some c)) (mk r u) else mk r u) = _
  split <;> rfl
theorem flat_names : ∀ (f : Fo) (u : Option Str), (flat f u).map Prod.fst = names f
  | .nil, _ => rfl
  | .cons c k r, u => by
    show c :: ((flat k (some c) ++ flat r u).map Prod.fst) = c :: (names k ++ names r)
    rw [List.map_append, flat_names k, flat_names r]
theorem flat_app : ∀ (f g : Fo) (u : Option Str), flat (app f g) u = flat f u ++ flat g u
  | .nil, _, _ => rfl
  | .cons c k r, g, u => by
    show (c, u) :: (flat k (some c) ++ flat (app r g) u) = (c, u) :: (flat k (some c) ++ flat r u) ++ flat g u
    rw [flat_app r g u, List.cons_append, List.append_assoc]
theorem names_app : ∀ (f g : Fo), names (app f g) = names f ++ names g
  | .nil, _ => rfl
  | .cons c k r, g => by
    show c :: (names k ++ names (app r g)) = c :: (names k ++ names r) ++ names g
    rw [names_app r g, List.cons_append, List.append_assoc]
theorem app_nil : ∀ f : Fo, app f .nil = f
  | .nil => rfl
  | .cons c k r => by show Fo.cons c k (app r .nil) = _; rw [app_nil r]
/-- every over told is none, or a name that is told ahead; names unlike -/
def Valid : List Str → List Pr → Prop
  | _, [] => True
  | seen, (c, o) :: r => c ∉ seen ∧ (∀ x, o = some x → x ∈ seen) ∧ Valid (seen ++ [c]) r
theorem valid_notin : ∀ {ps : List Pr} {seen : List Str} {x : Str}, Valid seen ps → x ∈ seen → x ∉ ps.map Prod.fst
  | [], _, _, _, _ => by simp
  | (c, o) :: r, seen, x, h, hx => by
    obtain ⟨h1, _, h3⟩ := h
    have ih := valid_notin (x := x) h3 (List.mem_append_left _ hx)
    simp only [List.map_cons, List.mem_cons, not_or]
    exact ⟨fun e => h1 (e ▸ hx), ih⟩
theorem valid_nodup : ∀ {ps : List Pr} {seen : List Str}, Valid seen ps → (ps.map Prod.fst).Nodup
  | [], _, _ => by simp
  | (c, o) :: r, seen, h => by
    obtain ⟨_, _, h3⟩ := h
    simp only [List.map_cons, List.nodup_cons]
    exact ⟨valid_notin h3 (by simp), valid_nodup h3⟩
/-- nothing stands beneath a name that is told nowhere as an over -/
theorem mk_none : ∀ {ps : List Pr} {u : Option Str}, (∀ p ∈ ps, p.2 ≠ u) → mk ps u = .nil
  | [], _, _ => rfl
  | (c, o) :: r, u, h => by
    show (if o = u then _ else mk r u) = _
    rw [if_neg (h (c, o) List.mem_cons_self)]
    exact mk_none fun p hp => h p (List.mem_cons_of_mem _ hp)
/-- a forest told in its own order, and what comes behind -/
theorem mk_flat : ∀ (f : Fo) (r : List Pr) (u : Option Str), (names f).Nodup → (∀ x ∈ names f, u ≠ some x) → (∀ p ∈ r, ∀ x ∈ names f, p.2 ≠ some x) →
    mk (flat f u ++ r) u = app f (mk r u) ∧ ∀ v, v ≠ u → (∀ x ∈ names f, v ≠ some x) → mk (flat f u ++ r) v = mk r v
  | .nil, r, u, _, _, _ => ⟨rfl, fun v _ _ => rfl⟩
  | .cons c k s, r, u, hn, hu, hr => by
    have hn' : (c :: (names k ++ names s)).Nodup := hn
    rw [List.nodup_cons, List.nodup_append] at hn'
    obtain ⟨hc, hk, hs, hks⟩ := hn'
    have hck : c ∉ names k := fun z => hc (List.mem_append_left _ z)
    have hcs : c ∉ names s := fun z => hc (List.mem_append_right _ z)
    have mem_k : ∀ x ∈ names k, x ∈ names (Fo.cons c k s) := fun x hx => List.mem_cons_of_mem _ (List.mem_append_left _ hx)
    have mem_s : ∀ x ∈ names s, x ∈ names (Fo.cons c k s) := fun x hx => List.mem_cons_of_mem _ (List.mem_append_right _ hx)
    have mem_c : c ∈ names (Fo.cons c k s) := List.mem_cons_self
    have huc : u ≠ some c := hu c mem_c
    -- the rest behind the kids
    have over_s : ∀ p ∈ flat s u, p.2 = u ∨ ∃ x ∈ names s, p.2 = some x := by
      have gen : ∀ (f : Fo) (u : Option Str), ∀ p ∈ flat f u, p.2 = u ∨ ∃ x ∈ names f, p.2 = some x := by
        intro f
        induction f with
        | nil => intro u p hp; cases hp
        | cons c k r ihk ihr =>
          intro u p hp
          have hp' : p ∈ (c, u) :: (flat k (some c) ++ flat r u) := hp
          rcases List.mem_cons.mp hp' with e | hp'
          · left; rw [e]
          · rcases List.mem_append.mp hp' with hp' | hp'
            · rcases ihk _ p hp' with e | ⟨x, hx, e⟩
              · exact .inr ⟨c, List.mem_cons_self, e⟩
              · exact .inr ⟨x, List.mem_cons_of_mem _ (List.mem_append_left _ hx), e⟩
            · rcases ihr _ p hp' with e | ⟨x, hx, e⟩
              · exact .inl e
              · exact .inr ⟨x, List.mem_cons_of_mem _ (List.mem_append_right _ hx), e⟩
      exact gen s u
    have hR : ∀ p ∈ flat s u ++ r, ∀ x ∈ names k, p.2 ≠ some x := by
      intro p hp x hx e
      rcases List.mem_append.mp hp with hp | hp
      · rcases over_s p hp with e2 | ⟨y, hy, e2⟩
        · exact hu x (mem_k x hx) (e2 ▸ e)
        · rw [e2] at e
          exact hks x hx y hy (Option.some.inj e).symm
      · exact hr p hp x (mem_k x hx) e
    obtain ⟨k1, k2⟩ := mk_flat k (flat s u ++ r) (some c) hk (fun x hx e => hck (Option.some.inj e ▸ hx)) hR
    obtain ⟨s1, s2⟩ := mk_flat s r u hs (fun x hx => hu x (mem_s x hx)) (fun p hp x hx => hr p hp x (mem_s x hx))
    have rc : mk r (some c) = .nil := mk_none fun p hp => hr p hp c mem_c
    have sc : mk (flat s u ++ r) (some c) = .nil := by
      rw [s2 (some c) huc.symm (fun x hx e => hcs (Option.some.inj e ▸ hx)), rc]
    have e0 : flat (Fo.cons c k s) u ++ r = (c, u) :: (flat k (some c) ++ (flat s u ++ r)) := by
      show (c, u) :: (flat k (some c) ++ flat s u) ++ r = _
      rw [List.cons_append, List.append_assoc]
    rw [e0]
    refine ⟨?_, fun v hvu hv => ?_⟩
    · show (if u = u then Fo.cons c (mk (flat k (some c) ++ (flat s u ++ r)) (some c)) (mk (flat k (some c) ++ (flat s u ++ r)) u) else _) = Fo.cons c k (app s (mk r u))
      rw [if_pos rfl, k1, sc, app_nil, k2 u huc (fun x hx => hu x (mem_k x hx)), s1]
    · show (if u = v then _ else mk (flat k (some c) ++ (flat s u ++ r)) v) = _
      rw [if_neg (fun e => hvu e.symm), k2 v (hv c mem_c) (fun x hx => hv x (mem_k x hx)), s2 v hvu (fun x hx => hv x (mem_s x hx))]
theorem mk_own {f : Fo} (hn : (names f).Nodup) : mk (flat f none) none = f := by
  have h := (mk_flat f [] none hn (fun _ _ e => nomatch e) (fun p hp => nomatch hp)).1
  rw [List.append_nil] at h
  rw [h]
  exact app_nil f
theorem mk_two {f g : Fo} (hn : (names (app f g)).Nodup) : mk (flat f none ++ flat g none) none = app f g := by
  rw [← flat_app]
  exact mk_own hn
/-- a forest told in its own order is validly told -/
theorem valid_app : ∀ {ps qs : List Pr} {seen : List Str}, Valid seen ps → Valid (seen ++ ps.map Prod.fst) qs → Valid seen (ps ++ qs)
  | [], qs, seen, _, h => by simpa using h
  | (c, o) :: r, qs, seen, ⟨h1, h2, h3⟩, h => by
    refine ⟨h1, h2, valid_app h3 ?_⟩
    simpa [List.append_assoc] using h
theorem valid_flat : ∀ (f : Fo) (seen : List Str) (u : Option Str), (∀ x, u = some x → x ∈ seen) → (seen ++ names f).Nodup → Valid seen (flat f u)
  | .nil, _, _, _, _ => trivial
  | .cons c k r, seen, u, hu, hn => by
    have hn' : (seen ++ c :: (names k ++ names r)).Nodup := hn
    have e1 : seen ++ c :: (names k ++ names r) = seen ++ [c] ++ names k ++ names r := by simp [List.append_assoc]
    rw [e1] at hn'
    have n1 : (seen ++ [c] ++ names k).Nodup := (List.nodup_append.mp hn').1
    have n2 : (seen ++ [c]).Nodup := (List.nodup_append.mp n1).1
    refine ⟨fun hc => ?_, hu, valid_app (valid_flat k _ (some c) (fun x e => by cases e; simp) n1) ?_⟩
    · have := (List.nodup_append.mp n2).2.2
      exact this c hc c (by simp) rfl
    · rw [flat_names]
      exact valid_flat r _ u (fun x e => List.mem_append_left _ (List.mem_append_left _ (hu x e))) hn'
theorem over_flat : ∀ (f : Fo) (u : Option Str), ∀ p ∈ flat f u, p.2 = u ∨ ∃ x ∈ names f, p.2 = some x := by
  intro f
  induction f with
  | nil => intro u p hp; cases hp
  | cons c k r ihk ihr =>
    intro u p hp
    have hp' : p ∈ (c, u) :: (flat k (some c) ++ flat r u) := hp
    rcases List.mem_cons.mp hp' with e | hp'
    · left; rw [e]
    · rcases List.mem_append.mp hp' with hp' | hp'
      · rcases ihk _ p hp' with e | ⟨x, hx, e⟩
        · exact .inr ⟨c, List.mem_cons_self, e⟩
        · exact .inr ⟨x, List.mem_cons_of_mem _ (List.mem_append_left _ hx), e⟩
      · rcases ihr _ p hp' with e | ⟨x, hx, e⟩
        · exact .inl e
        · exact .inr ⟨x, List.mem_cons_of_mem _ (List.mem_append_right _ hx), e⟩
end TM
namespace TM
open PySem L2
theorem valid_at : ∀ {ps : List Pr} {seen : List Str} {i : Nat} {c : Str} {o : Option Str}, Valid seen ps → ps[i]? = some (c, o) → c ∉ seen ++ (ps.take i).map Prod.fst ∧ ∀ x, o = some x → x ∈ seen ++ (ps.take i).map Prod.fst
  | [], _, _, _, _, _, h => by simp at h
  | (a, b) :: r, seen, 0, c, o, ⟨h1, h2, _⟩, h => by
    simp only [List.getElem?_cons_zero, Option.some.injEq, Prod.mk.injEq] at h
    obtain ⟨rfl, rfl⟩ := h
    simpa using ⟨h1, h2⟩
  | (a, b) :: r, seen, i + 1, c, o, ⟨h1, h2, h3⟩, h => by
    have h' : r[i]? = some (c, o) := by simpa using h
    have ih := valid_at h3 h'
    simpa [List.append_assoc] using ih
theorem valid_take : ∀ {ps : List Pr} {seen : List Str} (i : Nat), Valid seen ps → Valid seen (ps.take i)
  | [], _, i, _ => by simp [Valid]
  | (a, b) :: r, seen, 0, _ => trivial
  | (a, b) :: r, seen, i + 1, ⟨h1, h2, h3⟩ => ⟨h1, h2, valid_take i h3⟩
/-- nothing ahead of a suffix stands right beneath u -/
def Below (ps : List Pr) (u : Option Str) (n : Nat) : Prop := ∃ pre t, ps = pre ++ t ∧ t.length < n ∧ ∀ p ∈ pre, p.2 ≠ u
theorem below_top (ps : List Pr) {n : Nat} (h : ps.length < n) : Below ps none n := ⟨[], ps, rfl, h, fun _ h => nomatch h⟩
/-- the over of a name stands nowhere ahead of it -/
theorem ahead : ∀ {ps : List Pr} {seen : List Str} {x : Str}, Valid seen ps → x ∉ seen → x ∉ ps.map Prod.fst → ∀ p ∈ ps, p.2 ≠ some x
  | [], _, _, _, _, _, p, hp => nomatch hp
  | (a, b) :: r, seen, x, ⟨h1, h2, h3⟩, hs, hx, p, hp => by
    rw [List.map_cons, List.mem_cons, not_or] at hx
    rcases List.mem_cons.mp hp with e | hp
    · rw [e]
      intro e2
      exact hs (h2 x e2)
    · exact ahead h3 (by simp [hs, hx.1]) hx.2 p hp
/-- beneath a column there is only what stands behind it -/
theorem ahead_at {ps : List Pr} {i : Nat} {c : Str} {o : Option Str} (va : Valid [] ps) (h : ps[i]? = some (c, o)) : ∀ p ∈ ps.take (i + 1), p.2 ≠ some c := by
  have hc := (valid_at va h).1
  rw [List.nil_append] at hc
  have e : ps.take (i + 1) = ps.take i ++ [(c, o)] := by rw [List.take_add_one, h]; rfl
  intro p hp
  rw [e] at hp
  rcases List.mem_append.mp hp with hp | hp
  · exact ahead (valid_take i va) (by simp) hc p hp
  · rw [List.mem_singleton.mp hp]
    intro e2
    have h2 := (valid_at va h).2 c e2
    rw [List.nil_append] at h2
    exact hc h2
theorem below_at {ps : List Pr} {i : Nat} {c : Str} {o : Option Str} {n : Nat} (va : Valid [] ps) (h : ps[i]? = some (c, o)) (b : Below ps o (n + 1)) : Below ps (some c) n := by
  obtain ⟨pre, t, e, hl, hp⟩ := b
  have hi : i < ps.length := (List.getElem?_eq_some_iff.mp h).1
  have hpi : pre.length ≤ i := by
    refine Nat.le_of_not_lt fun hlt => ?_
    have : pre[i]? = some (c, o) := by
      rw [e, List.getElem?_append_left hlt] at h
      exact h
    exact hp _ (List.mem_of_getElem? this) rfl
  refine ⟨ps.take (i + 1), ps.drop (i + 1), (List.take_append_drop _ _).symm, ?_, ahead_at va h⟩
  rw [List.length_drop]
  have := congrArg List.length e
  rw [List.length_append] at this
  omega
theorem mk_skip : ∀ {pre t : List Pr} {u : Option Str}, (∀ p ∈ pre, p.2 ≠ u) → mk (pre ++ t) u = mk t u
  | [], _, _, _ => rfl
  | (c, o) :: r, t, u, h => by
    show (if o = u then _ else mk (r ++ t) u) = _
    rw [if_neg (h (c, o) List.mem_cons_self)]
    exact mk_skip fun p hp => h p (List.mem_cons_of_mem _ hp)
/-- the order, told as the program tells it -/
def step (ps : List Pr) (u : Option Str) (p : Pr) : List Str := if p.2 = u then p.1 :: ord ps (some p.1) else []
theorem ord_suffix {ps : List Pr} (va : Valid [] ps) (u : Option Str) : ∀ (t pre : List Pr), ps = pre ++ t → ord t u = t.flatMap (step ps u)
  | [], _, _ => rfl
  | (c, o) :: r, pre, e => by
    have hi : ps[pre.length]? = some (c, o) := by rw [e]; simp
    have h1 : ord ps (some c) = ord r (some c) := by
      have h2 := ahead_at va hi
      have e2 : ps = ps.take (pre.length + 1) ++ r := by
        have e3 : pre ++ (c, o) :: r = (pre ++ [(c, o)]) ++ r := by simp
        have e4 : ps.take (pre.length + 1) = pre ++ [(c, o)] := by
          rw [e, e3, List.take_append_of_le_length (by simp)]
          rw [List.take_of_length_le (by simp)]
        rw [e4, ← e3]
        exact e
      unfold ord
      rw [e2, mk_skip h2]
    have ih := ord_suffix va u r (pre ++ [(c, o)]) (by rw [e]; simp)
    rw [ord_cons, List.flatMap_cons, ← ih]
    unfold step
    rw [h1]
    by_cases ho : o = u
    · simp [ho]
    · simp [ho]
theorem ord_flat {ps : List Pr} (va : Valid [] ps) (u : Option Str) : ord ps u = ps.flatMap (step ps u) := ord_suffix va u ps [] rfl
theorem ord_take {ps : List Pr} {u : Option Str} {i : Nat} {q : Pr} (h : ps[i]? = some q) : (ps.take (i + 1)).flatMap (step ps u) = (ps.take i).flatMap (step ps u) ++ step ps u q := by
  rw [List.take_add_one, h, List.flatMap_append]
  show _ ++ (step ps u q ++ []) = _
  rw [List.append_nil]
/-- the names in the tree's order are the names told -/
theorem pick : ∀ {us : List (Option Str)} {o : Option Str} {A : List Str} {g : Option Str → List Str}, us.Nodup → o ∈ us → (us.flatMap fun u => if o = u then A ++ g u else g u).Perm (A ++ us.flatMap g)
  | [], _, _, _, _, h => nomatch h
  | v :: us, o, A, g, hn, h => by
    rw [List.nodup_cons] at hn
    by_cases e : o = v
    · have hn2 : o ∉ us := e ▸ hn.1
      have e2 : (us.flatMap fun u => if o = u then A ++ g u else g u) = us.flatMap g := by
        clear hn h
        induction us with
        | nil => rfl
        | cons x r ih =>
          rw [List.mem_cons, not_or] at hn2
          rw [List.flatMap_cons, List.flatMap_cons, ih hn2.2, if_neg hn2.1]
      rw [List.flatMap_cons, List.flatMap_cons, e2, if_pos e, List.append_assoc]
    · have h2 : o ∈ us := (List.mem_cons.mp h).resolve_left e
      rw [List.flatMap_cons, List.flatMap_cons, if_neg e]
      have ih := pick (A := A) (g := g) hn.2 h2
      refine ((List.Perm.append_left (g v) ih).trans ?_)
      rw [← List.append_assoc, ← List.append_assoc]
      exact List.Perm.append_right _ List.perm_append_comm
theorem ords_perm : ∀ {ps : List Pr} {seen : List Str}, seen.Nodup → Valid seen ps → ((none :: seen.map some).flatMap (ord ps)).Perm (ps.map Prod.fst)
  | [], seen, _, _ => by
    have : ∀ us : List (Option Str), us.flatMap (ord []) = [] := by
      intro us
      induction us with
      | nil => rfl
      | cons u us ih => rw [List.flatMap_cons, ih]; rfl
    rw [this]
    exact List.Perm.nil
  | (c, o) :: r, seen, hn, ⟨h1, h2, h3⟩ => by
    have hn2 : (seen ++ [c]).Nodup := by
      rw [List.nodup_append]
      refine ⟨hn, by simp, fun a ha b hb => ?_⟩
      rw [List.mem_singleton.mp hb]
      exact fun e => h1 (e ▸ ha)
    have ih := ords_perm hn2 h3
    have hu : (none :: seen.map some : List (Option Str)).Nodup := by
      rw [List.nodup_cons]
      refine ⟨by simp, ?_⟩
      rw [List.nodup_iff_pairwise_ne, List.pairwise_map]
      exact List.Pairwise.imp (fun h e => h (Option.some.inj e)) (List.nodup_iff_pairwise_ne.mp hn)
    have ho : o ∈ (none :: seen.map some : List (Option Str)) := by
      cases o with
      | none => exact List.mem_cons_self
      | some x => exact List.mem_cons_of_mem _ (List.mem_map.mpr ⟨x, h2 x rfl, rfl⟩)
    have e1 : (none :: seen.map some).flatMap (ord ((c, o) :: r)) = (none :: seen.map some).flatMap fun u => if o = u then (c :: ord r (some c)) ++ ord r u else ord r u := by
      congr 1
      funext u
      rw [ord_cons]
      split <;> rfl
    rw [e1]
    refine (pick hu ho).trans ?_
    rw [List.map_cons, List.cons_append]
    refine List.Perm.cons c ?_
    refine List.Perm.trans ?_ ih
    rw [List.map_append, ← List.cons_append, List.flatMap_append]
    have e3 : List.flatMap (ord r) (List.map some [c]) = ord r (some c) := by
      show ord r (some c) ++ [] = _
      rw [List.append_nil]
    rw [e3]
    exact List.perm_append_comm
theorem ord_perm {ps : List Pr} (va : Valid [] ps) : (ord ps none).Perm (ps.map Prod.fst) := by
  have := ords_perm List.nodup_nil va
  simpa using this
theorem ord_nodup {ps : List Pr} (va : Valid [] ps) : (ord ps none).Nodup := (List.Perm.nodup_iff (ord_perm va)).mpr (valid_nodup va)
/-- the pairs in the tree's order are pairs told -/
theorem mk_sub : ∀ {ps : List Pr} {u : Option Str} {p : Pr}, p ∈ flat (mk ps u) u → p ∈ ps
  | [], _, _, h => nomatch h
  | (c, o) :: r, u, p, h => by
    have h' : p ∈ flat (if o = u then .cons c (mk r (some c)) (mk r u) else mk r u) u := h
    by_cases e : o = u
    · rw [if_pos e] at h'
      have h'' : p ∈ (c, u) :: (flat (mk r (some c)) (some c) ++ flat (mk r u) u) := h'
      rcases List.mem_cons.mp h'' with e2 | h2
      · rw [e2, e]
        exact List.mem_cons_self
      · rcases List.mem_append.mp h2 with h2 | h2
        · exact List.mem_cons_of_mem _ (mk_sub h2)
        · exact List.mem_cons_of_mem _ (mk_sub h2)
    · rw [if_neg e] at h'
      exact List.mem_cons_of_mem _ (mk_sub h')
end TM
namespace TM
open PySem L2
theorem flat_le {α β : Type} {f : α → List β} {k : Nat} : ∀ {l : List α}, (∀ a ∈ l, (f a).length ≤ k) → (l.flatMap f).length ≤ k * l.length
  | [], _ => by simp
  | a :: r, h => by
    rw [List.flatMap_cons, List.length_append, List.length_cons, Nat.mul_succ]
    have h1 := h a List.mem_cons_self
    have h2 := flat_le (l := r) fun b hb => h b (List.mem_cons_of_mem _ hb)
    omega
theorem flat_no {ps : List Pr} {c : Str} {o : Option Str} {us : List (Option Str)} (h : o ∉ us) : us.flatMap (ord ((c, o) :: ps)) = us.flatMap (ord ps) := by
  induction us with
  | nil => rfl
  | cons u r ih =>
    rw [List.mem_cons, not_or] at h
    rw [List.flatMap_cons, List.flatMap_cons, ih h.2, ord_cons, if_neg h.1]
theorem ords_le : ∀ {ps : List Pr} {seen : List Str} {us : List (Option Str)}, us.Nodup → Valid seen ps → (∀ x ∈ ps.map Prod.fst, some x ∉ us) → (us.flatMap (ord ps)).length ≤ ps.length
  | [], _, us, _, _, _ => by
    induction us with
    | nil => exact Nat.le_refl _
    | cons u us ih =>
      rw [List.flatMap_cons, List.length_append]
      rename_i h _ _
      have := ih (List.nodup_cons.mp (by assumption)).2 (fun x hx => nomatch hx)
      rw [ord_nil]
      simpa using this
  | (c, o) :: r, seen, us, hu, ⟨h1, h2, h3⟩, hx => by
    by_cases ho : o ∈ us
    · have e1 : us.flatMap (ord ((c, o) :: r)) = us.flatMap fun u => if o = u then (c :: ord r (some c)) ++ ord r u else ord r u := by
        congr 1
        funext u
        rw [ord_cons]
        split <;> rfl
      rw [e1, (pick (A := c :: ord r (some c)) (g := ord r) hu ho).length_eq]
      have hc : some c ∉ us := hx c (by simp)
      have ih := ords_le (us := some c :: us) (List.nodup_cons.mpr ⟨hc, hu⟩) h3 (fun x hx2 h => by
        rcases List.mem_cons.mp h with e | h
        · have := valid_notin h3 (x := c) (by simp)
          exact this (Option.some.inj e ▸ hx2)
        · exact hx x (List.mem_cons_of_mem _ hx2) h)
      rw [List.flatMap_cons, List.length_append] at ih
      simp only [List.length_append, List.length_cons]
      omega
    · rw [flat_no ho]
      have ih := ords_le hu h3 (fun x hx2 => hx x (List.mem_cons_of_mem _ hx2))
      rw [List.length_cons]
      omega
theorem valid_drop : ∀ {ps : List Pr} {seen : List Str} (i : Nat), Valid seen ps → ∃ s, Valid s (ps.drop i)
  | [], seen, i, _ => ⟨seen, by simp [Valid]⟩
  | (a, b) :: r, seen, 0, h => ⟨seen, h⟩
  | (a, b) :: r, seen, i + 1, ⟨_, _, h3⟩ => valid_drop i h3
theorem ord_le {ps : List Pr} (va : Valid [] ps) (u : Option Str) : (ord ps u).length ≤ ps.length := by
  have one : ∀ (qs : List Pr) (s : List Str), Valid s qs → (∀ x ∈ qs.map Prod.fst, u ≠ some x) → (ord qs u).length ≤ qs.length := fun qs s v h => by
    have := ords_le (us := [u]) (by simp) v (fun x hx e => h x hx (List.mem_singleton.mp e).symm)
    simpa using this
  by_cases h : ∃ c, u = some c ∧ c ∈ ps.map Prod.fst
  · obtain ⟨c, rfl, hc⟩ := h
    obtain ⟨⟨c', o⟩, hm, rfl⟩ := List.mem_map.mp hc
    obtain ⟨i, hi, hie⟩ := List.getElem_of_mem hm
    have hq : ps[i]? = some (c', o) := by rw [List.getElem?_eq_getElem hi, hie]
    have e : ord ps (some c') = ord (ps.drop (i + 1)) (some c') := by
      unfold ord
      have := mk_skip (t := ps.drop (i + 1)) (ahead_at va hq)
      rw [List.take_append_drop] at this
      rw [this]
    obtain ⟨s, vs⟩ := valid_drop (i + 1) va
    have hnd := valid_nodup va
    rw [e]
    refine Nat.le_trans (one _ s vs fun x hx e2 => ?_) (by rw [List.length_drop]; omega)
    cases e2
    rw [List.map_drop] at hx
    obtain ⟨j, hj, hje⟩ := List.getElem_of_mem hx
    rw [List.getElem_drop] at hje
    have h1 : (ps.map Prod.fst)[i]'(by simpa using hi) = c' := by rw [List.getElem_map, hie]
    have := (List.getElem_inj hnd).mp (hje.trans h1.symm)
    omega
  · exact one ps [] va fun x hx e => h ⟨x, e, hx⟩
end TM

/-! Where a name stands in a forest: what is above it, what is beneath. -/
namespace TM
open PySem L2
/-- what is above a name, and the forest beneath it -/
def loc : Fo → Str → Option (List Str × Fo)
  | .nil, _ => none
  | .cons d k r, c => if d = c then some ([], k) else match loc k c with
    | some (a, q) => some (d :: a, q)
    | none => loc r c
def tops : Fo → List Str
  | .nil => []
  | .cons c _ r => c :: tops r
theorem loc_names : ∀ {f : Fo} {c : Str}, c ∈ names f → ∃ a q, loc f c = some (a, q)
  | .nil, _, h => nomatch h
  | .cons d k r, c, h => by
    unfold loc
    by_cases e : d = c
    · exact ⟨_, _, if_pos e⟩
    · rw [if_neg e]
      cases hk : loc k c with
      | some p => exact ⟨_, _, rfl⟩
      | none =>
        have h' : c ∈ d :: (names k ++ names r) := h
        rcases List.mem_cons.mp h' with e2 | h2
        · exact absurd e2.symm e
        · rcases List.mem_append.mp h2 with h2 | h2
          · obtain ⟨a, q, e3⟩ := loc_names h2
            rw [hk] at e3
            cases e3
          · exact loc_names h2
theorem loc_mem : ∀ {f : Fo} {c : Str} {a : List Str} {q : Fo}, loc f c = some (a, q) → c ∈ names f
  | .nil, _, _, _, h => by unfold loc at h; cases h
  | .cons d k r, c, a, q, h => by
    unfold loc at h
    show c ∈ d :: (names k ++ names r)
    by_cases e : d = c
    · rw [e]; exact List.mem_cons_self
    · rw [if_neg e] at h
      cases hk : loc k c with
      | some p =>
        obtain ⟨b, p⟩ := p
        exact List.mem_cons_of_mem _ (List.mem_append_left _ (loc_mem hk))
      | none =>
        rw [hk] at h
        exact List.mem_cons_of_mem _ (List.mem_append_right _ (loc_mem h))
theorem loc_none {f : Fo} {c : Str} (h : c ∉ names f) : loc f c = none := by
  cases e : loc f c with
  | none => rfl
  | some p => exact absurd (loc_mem (a := p.1) (q := p.2) e) h
theorem nd_parts {d : Str} {k r : Fo} (h : (names (.cons d k r)).Nodup) : d ∉ names k ∧ d ∉ names r ∧ (names k).Nodup ∧ (names r).Nodup ∧ ∀ x ∈ names k, x ∉ names r := by
  have h' : (d :: (names k ++ names r)).Nodup := h
  rw [List.nodup_cons, List.nodup_append] at h'
  exact ⟨fun z => h'.1 (List.mem_append_left _ z), fun z => h'.1 (List.mem_append_right _ z), h'.2.1, h'.2.2.1, fun x hx hy => h'.2.2.2 x hx x hy rfl⟩
/-- the three ways in which a name stands in a forest -/
theorem loc_cases {d : Str} {k r : Fo} {c : Str} {a : List Str} {q : Fo} (h : loc (.cons d k r) c = some (a, q)) : (d = c ∧ a = [] ∧ q = k) ∨ (d ≠ c ∧ ∃ b, a = d :: b ∧ loc k c = some (b, q)) ∨ (d ≠ c ∧ loc k c = none ∧ loc r c = some (a, q)) := by
  unfold loc at h
  by_cases e : d = c
  · rw [if_pos e] at h
    cases h
    exact .inl ⟨e, rfl, rfl⟩
  · rw [if_neg e] at h
    cases hk : loc k c with
    | some p =>
      obtain ⟨b, p⟩ := p
      rw [hk] at h
      cases h
      exact .inr (.inl ⟨e, b, rfl, rfl⟩)
    | none =>
      rw [hk] at h
      exact .inr (.inr ⟨e, rfl, h⟩)
theorem loc_here {d : Str} {k r : Fo} : loc (.cons d k r) d = some ([], k) := by unfold loc; exact if_pos rfl
theorem loc_in {d c : Str} {k r : Fo} {b : List Str} {q : Fo} (e : d ≠ c) (h : loc k c = some (b, q)) : loc (.cons d k r) c = some (d :: b, q) := by
  unfold loc
  rw [if_neg e, h]
theorem loc_by {d c : Str} {k r : Fo} (e : d ≠ c) (h : loc k c = none) : loc (.cons d k r) c = loc r c := by
  rw [loc.eq_def]
  dsimp only
  rw [if_neg e, h]
theorem loc_sub : ∀ {f : Fo} {c : Str} {a : List Str} {q : Fo}, loc f c = some (a, q) → (a ++ [c]).Sublist (names f)
  | .nil, _, _, _, h => by unfold loc at h; cases h
  | .cons d k r, c, a, q, h => by
    show (a ++ [c]).Sublist (d :: (names k ++ names r))
    rcases loc_cases h with ⟨rfl, rfl, rfl⟩ | ⟨_, b, rfl, g⟩ | ⟨_, _, g⟩
    · exact List.Sublist.cons_cons _ (List.nil_sublist _)
    · exact List.Sublist.cons_cons _ ((loc_sub g).trans (List.sublist_append_left _ _))
    · exact List.Sublist.cons _ ((loc_sub g).trans (List.sublist_append_right _ _))
/-- what is beneath a name stands behind it, in one piece -/
theorem loc_seg : ∀ {f : Fo} {c : Str} {a : List Str} {q : Fo}, loc f c = some (a, q) → ∃ A B, names f = A ++ (c :: names q) ++ B
  | .nil, _, _, _, h => by unfold loc at h; cases h
  | .cons d k r, c, a, q, h => by
    have e0 : names (.cons d k r) = d :: (names k ++ names r) := rfl
    rcases loc_cases h with ⟨rfl, rfl, rfl⟩ | ⟨_, b, rfl, g⟩ | ⟨_, _, g⟩
    · exact ⟨[], names r, rfl⟩
    · obtain ⟨A, B, e⟩ := loc_seg g
      exact ⟨d :: A, B ++ names r, by rw [e0, e]; simp⟩
    · obtain ⟨A, B, e⟩ := loc_seg g
      exact ⟨d :: (names k ++ A), B, by rw [e0, e]; simp⟩
/-- the column right above -/
def lastOr (a : List Str) (u : Option Str) : Option Str := match a.getLast? with
  | some x => some x
  | none => u
theorem lastOr_snoc (a : List Str) (x : Str) (u : Option Str) : lastOr (a ++ [x]) u = some x := by unfold lastOr; rw [List.getLast?_concat]
theorem lastOr_cons (d : Str) (a : List Str) (u : Option Str) : lastOr (d :: a) u = lastOr a (some d) := by
  cases a with
  | nil => rfl
  | cons x r =>
    unfold lastOr
    rw [List.getLast?_cons_cons]
    rw [List.getLast?_eq_some_getLast (by simp)]
theorem loc_flat : ∀ {f : Fo} {c : Str} {a : List Str} {q : Fo} (u : Option Str), loc f c = some (a, q) → (c, lastOr a u) ∈ flat f u
  | .nil, _, _, _, _, h => by unfold loc at h; cases h
  | .cons d k r, c, a, q, u, h => by
    show _ ∈ (d, u) :: (flat k (some d) ++ flat r u)
    rcases loc_cases h with ⟨rfl, rfl, rfl⟩ | ⟨_, b, rfl, g⟩ | ⟨_, _, g⟩
    · exact List.mem_cons_self
    · rw [lastOr_cons]
      exact List.mem_cons_of_mem _ (List.mem_append_left _ (loc_flat (some d) g))
    · exact List.mem_cons_of_mem _ (List.mem_append_right _ (loc_flat u g))
/-- each one above, with what is above it -/
theorem loc_up : ∀ {f : Fo} {c : Str} {a : List Str} {q : Fo}, (names f).Nodup → loc f c = some (a, q) → ∀ (a1 a2 : List Str) (x : Str), a = a1 ++ x :: a2 → ∃ q1, loc f x = some (a1, q1) ∧ c ∈ names q1
  | .nil, _, _, _, _, h => by unfold loc at h; cases h
  | .cons d k r, c, a, q, hn, h => by
    intro a1 a2 x e
    obtain ⟨n1, n2, n3, n4, n5⟩ := nd_parts hn
    rcases loc_cases h with ⟨rfl, rfl, rfl⟩ | ⟨hd, b, rfl, g⟩ | ⟨hd, hk, g⟩
    · simp at e
    · cases a1 with
      | nil =>
        have e' : d :: b = x :: a2 := e
        injection e' with e1 e2
        subst e1
        exact ⟨k, loc_here, loc_mem g⟩
      | cons y a1 =>
        have e' : d :: b = y :: (a1 ++ x :: a2) := e
        injection e' with e1 e2
        subst e1
        obtain ⟨q1, h1, h2⟩ := loc_up n3 g _ _ _ e2
        exact ⟨q1, loc_in (fun z => n1 (z ▸ loc_mem h1)) h1, h2⟩
    · obtain ⟨q1, h1, h2⟩ := loc_up n4 g _ _ _ e
      have hx := loc_mem h1
      exact ⟨q1, (loc_by (fun (z : d = x) => n2 (z ▸ hx)) (loc_none fun z => n5 _ z hx)).trans h1, h2⟩
/-- each one beneath -/
theorem loc_down : ∀ {f : Fo} {c o : Str} {a a2 : List Str} {q q2 : Fo}, (names f).Nodup → loc f c = some (a, q) → loc q o = some (a2, q2) → loc f o = some (a ++ c :: a2, q2)
  | .nil, _, _, _, _, _, _, _, h, _ => by unfold loc at h; cases h
  | .cons d k r, c, o, a, a2, q, q2, hn, h, h2 => by
    obtain ⟨n1, n2, n3, n4, n5⟩ := nd_parts hn
    rcases loc_cases h with ⟨rfl, rfl, rfl⟩ | ⟨hd, b, rfl, g⟩ | ⟨hd, hk, g⟩
    · exact loc_in (fun z => n1 (z ▸ loc_mem h2)) h2
    · have ih := loc_down n3 g h2
      exact loc_in (fun z => n1 (z ▸ loc_mem ih)) ih
    · have ih := loc_down n4 g h2
      have hx := loc_mem ih
      exact (loc_by (fun (z : d = o) => n2 (z ▸ hx)) (loc_none fun z => n5 _ z hx)).trans ih
theorem loc_top : ∀ {f : Fo} {c : Str}, (names f).Nodup → (c ∈ tops f ↔ ∃ q, loc f c = some ([], q))
  | .nil, c, _ => ⟨(fun h => nomatch h), (fun ⟨q, h⟩ => by unfold loc at h; cases h)⟩
  | .cons d k r, c, hn => by
    obtain ⟨n1, n2, n3, n4, n5⟩ := nd_parts hn
    constructor
    · intro h
      have h' : c ∈ d :: tops r := h
      rcases List.mem_cons.mp h' with e | h2
      · subst e
        exact ⟨k, loc_here⟩
      · obtain ⟨q, e⟩ := (loc_top n4).mp h2
        have hx := loc_mem e
        exact ⟨q, (loc_by (fun (z : d = c) => n2 (z ▸ hx)) (loc_none fun z => n5 _ z hx)).trans e⟩
    · rintro ⟨q, h⟩
      show c ∈ d :: tops r
      rcases loc_cases h with ⟨rfl, _, _⟩ | ⟨_, b, e, _⟩ | ⟨_, _, h⟩
      · exact List.mem_cons_self
      · cases e
      · exact List.mem_cons_of_mem _ ((loc_top n4).mpr ⟨q, h⟩)
theorem tops_sub : ∀ f : Fo, (tops f).Sublist (names f)
  | .nil => List.Sublist.slnil
  | .cons d k r => List.Sublist.cons_cons _ ((tops_sub r).trans (List.sublist_append_right _ _))
theorem filter_mem : ∀ {l s : List Str}, l.Nodup → s.Sublist l → (l.filter fun x => decide (x ∈ s)) = s
  | [], s, _, h => by
    cases h
    rfl
  | x :: l, s, hn, h => by
    rw [List.nodup_cons] at hn
    cases h with
    | cons _ h =>
      have hx : x ∉ s := fun z => hn.1 (h.subset z)
      rw [List.filter_cons_of_neg (by simpa using hx)]
      exact filter_mem hn.2 h
    | cons_cons _ h =>
      rename_i s
      rw [List.filter_cons_of_pos (by simp)]
      congr 1
      have e : (l.filter fun y => decide (y ∈ x :: s)) = l.filter fun y => decide (y ∈ s) := by
        refine List.filter_congr fun y hy => ?_
        have : y ≠ x := fun z => hn.1 (z ▸ hy)
        simp [this]
      rw [e]
      exact filter_mem hn.2 h
/-- above and beneath are one thing, told from both ends -/
theorem up_down {f : Fo} {c o : Str} {a a' : List Str} {q q' : Fo} (hn : (names f).Nodup) (hc : loc f c = some (a, q)) (ho : loc f o = some (a', q')) : c ∈ a' ↔ o ∈ names q := by
  constructor
  · intro h
    obtain ⟨a1, a2, e⟩ := List.append_of_mem h
    obtain ⟨q1, h1, h2⟩ := loc_up hn ho _ _ _ e
    rw [hc] at h1
    cases h1
    exact h2
  · intro h
    obtain ⟨a2, q2, h2⟩ := loc_names h
    have := loc_down hn hc h2
    rw [ho] at this
    cases this
    simp
/-- what is right beneath a name -/
theorem kid_iff {f : Fo} {c o : Str} {a a' : List Str} {q q' : Fo} (hn : (names f).Nodup) (hq : (names q).Nodup) (hc : loc f c = some (a, q)) (ho : loc f o = some (a', q')) : a'.getLast? = some c ↔ o ∈ tops q := by
  constructor
  · intro h
    obtain ⟨a1, e⟩ : ∃ a1, a' = a1 ++ [c] := by
      rw [List.getLast?_eq_some_iff] at h
      exact h
    obtain ⟨q1, h1, h2⟩ := loc_up hn ho a1 [] c e
    rw [hc] at h1
    cases h1
    obtain ⟨a2, q2, h3⟩ := loc_names h2
    have h4 := loc_down hn hc h3
    rw [ho] at h4
    obtain ⟨e4, _⟩ := Prod.mk.inj (Option.some.inj h4)
    rw [e] at e4
    have e5 : [c] = c :: a2 := List.append_cancel_left e4
    have e6 : a2 = [] := by
      have := (List.cons.inj e5).2
      exact this.symm
    subst e6
    exact (loc_top hq).mpr ⟨q2, h3⟩
  · intro h
    obtain ⟨q2, h3⟩ := (loc_top hq).mp h
    have h4 := loc_down hn hc h3
    rw [ho] at h4
    obtain ⟨e4, _⟩ := Prod.mk.inj (Option.some.inj h4)
    rw [e4, List.getLast?_concat]
theorem sub_nodup {f : Fo} {c : Str} {a : List Str} {q : Fo} (hn : (names f).Nodup) (h : loc f c = some (a, q)) : (c :: names q).Nodup := by
  obtain ⟨A, B, e⟩ := loc_seg h
  rw [e, List.append_assoc, List.nodup_append] at hn
  exact (List.nodup_append.mp hn.2.1).1
theorem seg_sub {f : Fo} {c : Str} {a : List Str} {q : Fo} (h : loc f c = some (a, q)) : (c :: names q).Sublist (names f) := by
  obtain ⟨A, B, e⟩ := loc_seg h
  rw [e, List.append_assoc]
  exact (List.sublist_append_left _ _).trans (List.sublist_append_right _ _)
/-- the names beneath, child by child -/
def kidsOf (f : Fo) (c : Str) : List Str := match loc f c with
  | some (_, q) => c :: names q
  | none => []
theorem kids_flat : ∀ {q : Fo}, (names q).Nodup → (tops q).flatMap (kidsOf q) = names q
  | .nil, _ => rfl
  | .cons d k r, hn => by
    obtain ⟨n1, n2, n3, n4, n5⟩ := nd_parts hn
    show (d :: tops r).flatMap (kidsOf (.cons d k r)) = d :: (names k ++ names r)
    rw [List.flatMap_cons]
    have e1 : kidsOf (.cons d k r) d = d :: names k := by unfold kidsOf; rw [loc_here]
    have e2 : (tops r).flatMap (kidsOf (.cons d k r)) = (tops r).flatMap (kidsOf r) := by
      have : ∀ l : List Str, (∀ x ∈ l, x ∈ names r) → l.flatMap (kidsOf (.cons d k r)) = l.flatMap (kidsOf r) := by
        intro l
        induction l with
        | nil => intro _; rfl
        | cons x t ih =>
          intro h
          rw [List.flatMap_cons, List.flatMap_cons, ih fun y hy => h y (List.mem_cons_of_mem _ hy)]
          congr 1
          have hx := h x List.mem_cons_self
          unfold kidsOf
          rw [loc_by (fun (z : d = x) => n2 (z ▸ hx)) (loc_none fun z => n5 _ z hx)]
      exact this _ fun x hx => (tops_sub r).subset hx
    rw [e1, e2, kids_flat n4, List.cons_append]
end TM
namespace TM
open PySem L2
theorem perm_eq {α : Type} {R : α → α → Prop} (anti : ∀ a b, R a b → R b a → a = b) : ∀ {l m : List α}, l.Perm m → l.Pairwise R → m.Pairwise R → l = m
  | [], m, h, _, _ => by
    have := h.length_eq
    cases m with
    | nil => rfl
    | cons b m => simp at this
  | a :: l, [], h, _, _ => by
    have := h.length_eq
    simp at this
  | a :: l, b :: m, h, h1, h2 => by
    have hab : a = b := by
      have ha : a ∈ b :: m := h.subset List.mem_cons_self
      have hb : b ∈ a :: l := h.symm.subset List.mem_cons_self
      rcases List.mem_cons.mp ha with e | ha
      · exact e
      · rcases List.mem_cons.mp hb with e | hb
        · exact e.symm
        · exact anti a b ((List.pairwise_cons.mp h1).1 b hb) ((List.pairwise_cons.mp h2).1 a ha)
    subst hab
    rw [perm_eq anti (List.Perm.cons_inv h) (List.pairwise_cons.mp h1).2 (List.pairwise_cons.mp h2).2]
/-- the first i trees of a forest -/
def takeF : Nat → Fo → Fo
  | 0, _ => .nil
  | _ + 1, .nil => .nil
  | i + 1, .cons c k r => .cons c k (takeF i r)
theorem takeF_all : ∀ f : Fo, takeF (tops f).length f = f
  | .nil => rfl
  | .cons c k r => by
    show Fo.cons c k (takeF (tops r).length r) = _
    rw [takeF_all r]
theorem takeF_next : ∀ {f : Fo} {i : Nat} {c : Str}, (names f).Nodup → (tops f)[i]? = some c → ∃ k, loc f c = some ([], k) ∧ takeF (i + 1) f = app (takeF i f) (.cons c k .nil)
  | .nil, i, c, _, h => by simp [tops] at h
  | .cons d k r, 0, c, _, h => by
    have e : d = c := by simpa [tops] using h
    subst e
    exact ⟨k, loc_here, rfl⟩
  | .cons d k r, i + 1, c, hn, h => by
    have h' : (tops r)[i]? = some c := by simpa [tops] using h
    obtain ⟨n1, n2, n3, n4, n5⟩ := nd_parts hn
    obtain ⟨q, h1, h2⟩ := takeF_next n4 h'
    have hx := loc_mem h1
    refine ⟨q, (loc_by (fun (z : d = c) => n2 (z ▸ hx)) (loc_none fun z => n5 _ z hx)).trans h1, ?_⟩
    show Fo.cons d k (takeF (i + 1) r) = Fo.cons d k (app (takeF i r) (.cons c q .nil))
    rw [h2]
theorem takeF_sub : ∀ (f : Fo) (i : Nat), (names (takeF i f)).Sublist (names f)
  | _, 0 => List.nil_sublist _
  | .nil, i + 1 => List.Sublist.slnil
  | .cons c k r, i + 1 => by
    show (c :: (names k ++ names (takeF i r))).Sublist (c :: (names k ++ names r))
    exact List.Sublist.cons_cons _ (List.Sublist.append_left (takeF_sub r i) _)
/-- the pairs of one tree, picked out of a forest's -/
theorem pick_tree : ∀ {f : Fo} {c : Str} {k : Fo}, (names f).Nodup → loc f c = some ([], k) → (flat f none).filter (fun q => decide (q.1 ∈ c :: names k)) = flat (.cons c k .nil) none
  | .nil, _, _, _, h => by unfold loc at h; cases h
  | .cons d k' r, c, k, hn, h => by
    obtain ⟨n1, n2, n3, n4, n5⟩ := nd_parts hn
    have keep : ∀ (l : List Pr), (∀ q ∈ l, q.1 ∈ c :: names k) → l.filter (fun q => decide (q.1 ∈ c :: names k)) = l := fun l hl => List.filter_eq_self.mpr fun q hq => decide_eq_true (hl q hq)
    have drop : ∀ (l : List Pr), (∀ q ∈ l, q.1 ∉ c :: names k) → l.filter (fun q => decide (q.1 ∈ c :: names k)) = [] := fun l hl => List.filter_eq_nil_iff.mpr fun q hq z => hl q hq (of_decide_eq_true z)
    have nm : ∀ {g : Fo} {u : Option Str} {q : Pr}, q ∈ flat g u → q.1 ∈ names g := fun {g u q} hq => by rw [← flat_names g u]; exact List.mem_map.mpr ⟨q, hq, rfl⟩
    show ((d, none) :: (flat k' (some d) ++ flat r none)).filter _ = (c, none) :: (flat k (some c) ++ [])
    rcases loc_cases h with ⟨rfl, _, rfl⟩ | ⟨_, b, e, _⟩ | ⟨hd, hk, g⟩
    · rw [List.filter_cons_of_pos (by simp), List.filter_append, keep (flat k (some d)) fun q hq => List.mem_cons_of_mem _ (nm hq), drop (flat r none) fun q hq z => ?_]
      rcases List.mem_cons.mp z with z | z
      · exact n2 (z ▸ nm hq)
      · exact n5 _ z (nm hq)
    · cases e
    · have hs := seg_sub g
      rw [List.filter_cons_of_neg (by
        intro z
        exact n2 (hs.subset (of_decide_eq_true z))), List.filter_append, drop (flat k' (some d)) fun q hq z => n5 _ (nm hq) (hs.subset z), List.nil_append]
      exact pick_tree n4 g
end TM

set_option maxHeartbeats 2000000
/-! Words of our own, over any row. -/
namespace TX
open PySem L2 PyProof.Rows
/-- the built-in names that the text leaves alone -/
structure Bn (mg : Str → Option Value) : Prop where
  len : mg "len" = none
  isi : mg "isinstance" = none
  str : mg "str" = none
  list : mg "list" = none
  tuple : mg "tuple" = none
  dict : mg "dict" = none
  int : mg "int" = none
  range : mg "range" = none
  enum : mg "enumerate" = none
  all : mg "all" = none
  any : mg "any" = none
  max : mg "max" = none
  sorted : mg "sorted" = none
/-- a def of the module, ready to be called -/
structure Fn (K : PySem.W.Frag) (mg : Str → Option Value) (x : Str) (st : Stmt) (ps : List Str) (f : Addr) (fd : FuncData) : Prop where
  F : Fun K x x st f fd
  g : mg x = some (.ref f)
  b : Binds K fd ps []
/-- all that was tracked but at W is as it was -/
def Sm (W : Addr) (H H' : Hp) : Prop := ∀ b o, b ≠ W → H b = some o → H' b = some o
theorem Sm.rfl' {W : Addr} {H : Hp} : Sm W H H := fun _ _ _ h => h
theorem Sm.trans {W : Addr} {H H1 H2 : Hp} (a : Sm W H H1) (b : Sm W H1 H2) : Sm W H H2 := fun c o n h => b c o n (a c o n h)
theorem Sm.of {W : Addr} {H H' : Hp} (s : Same H H') : Sm W H H' := fun c o _ h => s c o h
theorem Same.new {H : Hp} {p : Addr} {o : HO} (h : H p = none) : Same H (upd H p o) := fun a u e => by rw [upd_ne (ne_of_none e h)]; exact e
theorem Same.new' {H H1 : Hp} {p : Addr} {o : HO} (s : Same H H1) (h : H1 p = none) : Same H (upd H1 p o) := s.trans (Same.new h)
theorem Sm.new {W : Addr} {H H1 : Hp} {p : Addr} {o : HO} (s : Sm W H H1) (h : H1 p = none) : Sm W H (upd H1 p o) := s.trans (.of (Same.new h))
theorem Sm.put {W : Addr} {H H1 : Hp} {o : HO} (s : Sm W H H1) : Sm W H (upd H1 W o) := fun a u n e => by rw [upd_ne n]; exact s a u n e
/-- a well: three ints; n draws may follow -/
def WellAt (n : Nat) (H : Hp) (W : Addr) : Prop := ∃ a b c : Int, H W = some (.lst [.int a, .int b, .int c]) ∧ 0 ≤ b ∧ b < 2147483648 ∧ 0 ≤ c ∧ c + n ≤ 1000000000000
theorem WellAt.mono {n m : Nat} {H : Hp} {W : Addr} (h : WellAt n H W) (hm : m ≤ n) : WellAt m H W := by
  obtain ⟨a, b, c, e, h1, h2, h3, h4⟩ := h
  exact ⟨a, b, c, e, h1, h2, h3, by omega⟩
theorem WellAt.same {n : Nat} {H H' : Hp} {W : Addr} (h : WellAt n H W) (s : Same H H') : WellAt n H' W := by
  obtain ⟨a, b, c, e, r⟩ := h
  exact ⟨a, b, c, s _ _ e, r⟩
theorem WellAt.new {n : Nat} {H : Hp} {W p : Addr} {o : HO} (h : WellAt n H W) (hp : H p = none) : WellAt n (upd H p o) W := h.same (Same.new hp)
theorem WellAt.ne {n : Nat} {H : Hp} {W p : Addr} (h : WellAt n H W) (hp : H p = none) : W ≠ p := by
  obtain ⟨a, b, c, e, r⟩ := h
  exact ne_of_none e hp
/-- a turn's or a test's joint: what is known of the slots and the heap behind -/
theorem two_le : (2 : Nat) ≤ sizeLine := by decide
theorem small100 {n : Nat} (h : n ≤ 1000) : n ≤ sizeLine := Nat.le_trans h (by decide)
end TX
namespace TX
open PySem L2 PyProof.Rows
theorem Same.mut {H H1 : Hp} {p : Addr} {o : HO} (s : Same H H1) (h : H p = none) : Same H (upd H1 p o) := fun a u e => by rw [upd_ne (ne_of_none e h)]; exact s a u e
theorem Sm.mut {W : Addr} {H H1 : Hp} {p : Addr} {o : HO} (s : Sm W H H1) (h : H p = none) : Sm W H (upd H1 p o) := fun a u n e => by rw [upd_ne (ne_of_none e h)]; exact s a u n e
theorem WellAt.upd {n : Nat} {H : Hp} {W p : Addr} {o : HO} (h : WellAt n H W) (hp : W ≠ p) : WellAt n (L2.upd H p o) W := by
  obtain ⟨a, b, c, e, r⟩ := h
  exact ⟨a, b, c, by rw [upd_ne hp]; exact e, r⟩
theorem Sm.free {W : Addr} {H H' : Hp} (e : Sm W H H') {n : Nat} (hW : WellAt n H W) {l : Addr} (h : H' l = Option.none) (hW' : ∃ m, WellAt m H' W) : H l = Option.none := by
  cases q : H l with
  | none => rfl
  | some o =>
    obtain ⟨m, a, b, c, z, _⟩ := hW'
    have : l ≠ W := fun x => by rw [x, z] at h; cases h
    rw [e l o this q] at h
    cases h
/-- signs as texts -/
def S (l : List Nat) : Str := ⟨l.toArray⟩
theorem S_len (l : List Nat) : (S l).length = l.length := by show l.toArray.size = _; rw [List.size_toArray]
theorem S_cps (l : List Nat) : (S l).cps.toList = l := rfl
theorem S_inj {l m : List Nat} (h : S l = S m) : l = m := by
  have := congrArg (fun s : Str => s.cps.toList) h
  exact this
theorem S_eta (s : Str) : s = S s.cps.toList := by
  obtain ⟨⟨l⟩⟩ := s
  rfl
theorem S_app (l m : List Nat) : S l ++ S m = S (l ++ m) := by
  show (⟨l.toArray ++ m.toArray⟩ : Str) = ⟨(l ++ m).toArray⟩
  simp
theorem join_empty : ∀ ys : List (List Nat), Txt.join (S []) (ys.map S) = S ys.flatten := by
  intro ys
  show Builtin.Str.glued (S []) (ys.map S) = _
  rw [StrLaws.glued_eq_join]
  induction ys with
  | nil => rfl
  | cons y r ih =>
    cases r with
    | nil =>
      show S y = S ([y].flatten)
      simp
    | cons z r =>
      show S y ++ S [] ++ Str.join (S []) ((z :: r).map S) = _
      rw [ih, S_app, S_app]
      simp
theorem cutS_S (l : List Nat) (lo hi : Option Int) : cutS (S l) lo hi = S ((l.drop (HT.sIx l.length 0 lo)).take (HT.sIx l.length l.length hi - HT.sIx l.length 0 lo)) := by
  unfold cutS
  rw [S_len]
  rfl
/-- the letters -/
def abc : Str := Str.ofString "abcdefghijklmnopqrstuvwxyz"
theorem abc_eq : abc = S [97, 98, 99, 100, 101, 102, 103, 104, 105, 106, 107, 108, 109, 110, 111, 112, 113, 114, 115, 116, 117, 118, 119, 120, 121, 122] := by decide +kernel
theorem abc_at {j : Nat} (h : j < 26) : atI abc.cps.toList (j : Int) = some (97 + j) := by
  rw [abc_eq]
  refine atI_nat ?_
  rw [S_cps]
  revert j
  decide
theorem abc_len : abc.length ≤ sizeLine := by rw [abc_eq, S_len]; decide
/-- the k-th name of a well's -/
def nmOf (base : List Nat) (spot more bg ap k : Nat) : Str := S (base.take spot ++ (97 + (bg + ap * k) % 26) :: (base.drop spot).take more)
theorem nm_ok {base : List Nat} {spot more bg ap k : Nat} (hb : base.length = 7) (hc : ∀ c ∈ base, 97 ≤ c ∧ c ≤ 122) (hs : spot + more ≤ 7) : TM.NameOk (nmOf base spot more bg ap k) := by
  unfold TM.NameOk nmOf
  rw [S_len, S_cps]
  simp only [List.length_append, List.length_cons, List.length_take, List.length_drop, hb]
  refine ⟨by omega, by omega, fun c h => ?_⟩
  rcases List.mem_append.mp h with h | h
  · exact hc c (List.mem_of_mem_take h)
  · rcases List.mem_cons.mp h with h | h
    · have := Nat.mod_lt (bg + ap * k) (show 26 > 0 by decide)
      omega
    · exact hc c (List.mem_of_mem_drop (List.mem_of_mem_take h))
theorem nm_inj {base : List Nat} {spot more bg ap k k' : Nat} (ha : ap ∈ [1, 3, 5, 7, 9, 11, 15, 17]) (hk : k < 26) (hk' : k' < 26) (h : nmOf base spot more bg ap k = nmOf base spot more bg ap k') : k = k' := by
  have h1 := S_inj h
  have h2 := (List.append_inj h1 rfl).2
  have h3 : 97 + (bg + ap * k) % 26 = 97 + (bg + ap * k') % 26 := (List.cons.inj h2).1
  simp only [List.mem_cons, List.not_mem_nil, or_false] at ha
  rcases ha with e | e | e | e | e | e | e | e <;> subst e <;> omega
theorem nm_nodup {base : List Nat} {spot more bg ap n : Nat} (ha : ap ∈ [1, 3, 5, 7, 9, 11, 15, 17]) (hn : n ≤ 26) : ((List.range n).map (nmOf base spot more bg ap)).Nodup := by
  rw [List.nodup_iff_pairwise_ne, List.pairwise_map]
  refine List.Pairwise.imp_of_mem ?_ (List.nodup_iff_pairwise_ne.mp List.nodup_range)
  intro a b ha' hb' hne e
  exact hne (nm_inj ha (by have := List.mem_range.mp ha'; omega) (by have := List.mem_range.mp hb'; omega) e)
end TX
namespace TX
open PySem L2 PyProof.Rows
theorem sum_signs (cs : List Nat) : (List.map (fun x : Str => x.length) (cs.map fun c => S [c])).sum = cs.length := by
  induction cs with
  | nil => rfl
  | cons c r ih =>
    rw [List.map_cons, List.map_cons, List.sum_cons, ih, S_len, List.length_cons]
    simp
    omega
theorem join_signs (cs : List Nat) : Txt.join (Str.ofString "") (cs.map fun c => S [c]) = S cs := by
  have e1 : Str.ofString "" = S [] := by decide +kernel
  have e2 : cs.map (fun c => S [c]) = (cs.map fun c => [c]).map S := by rw [List.map_map]; rfl
  have e3 : (cs.map fun c => [c]).flatten = cs := by
    clear e2
    induction cs with
    | nil => rfl
    | cons c r ih => rw [List.map_cons, List.flatten_cons, ih]; rfl
  rw [e1, e2, join_empty, e3]
theorem len_empty : (Str.ofString "").length = 0 := by decide +kernel
end TX
namespace TX
open PySem L2 PyProof.Rows
theorem line100 {n : Nat} (h : n ≤ 1000) : n ≤ sizeLine := Nat.le_trans h (by decide)
theorem line100' {n : Nat} (h : n ≤ 1000) : n < sizeLine := Nat.lt_of_le_of_lt h (by decide)
theorem sapp_len (a b : Str) : (a ++ b).length = a.length + b.length := by
  show (a.cps ++ b.cps).size = _
  rw [Array.size_append]
  rfl
end TX
namespace TX
open PySem L2 PyProof.Rows TM
def optV : Option Str → V
  | none => .non
  | some x => .str x
/-- tuples of a name and what stands over it -/
def TupsAt (H : Hp) : List Addr → List Pr → Prop := Paired fun a q => H a = some (.tup [.str q.1, optV q.2])
def PairsAt (H : Hp) (p : Addr) (ps : List Pr) : Prop := ∃ as, H p = some (.lst (as.map V.ref)) ∧ TupsAt H as ps
theorem TupsAt.sm {W : Addr} {H H' : Hp} {as : List Addr} {ps : List Pr} (h : TupsAt H as ps) (s : Sm W H H') (w : ∃ n, WellAt n H W) : TupsAt H' as ps :=
  Paired.mapP h fun a q e => s a _ (by obtain ⟨n, x, y, z, e2, _⟩ := w; exact ne_of e e2 (by intro z; cases z)) e
theorem TupsAt.same {H H' : Hp} {as : List Addr} {ps : List Pr} (h : TupsAt H as ps) (s : Same H H') : TupsAt H' as ps := Paired.mapP h fun a q e => s a _ e
theorem TupsAt.put {H : Hp} {as : List Addr} {ps : List Pr} {p : Addr} {xs : List V} {o : HO} (h : TupsAt H as ps) (hp : H p = some (.lst xs)) : TupsAt (upd H p o) as ps :=
  Paired.mapP h fun a q e => by rw [upd_ne (ne_of e hp (by intro z; cases z))]; exact e
theorem TupsAt.snoc {H : Hp} {as : List Addr} {ps : List Pr} {a : Addr} {q : Pr} (h : TupsAt H as ps) (e : H a = some (.tup [.str q.1, optV q.2])) : TupsAt H (as ++ [a]) (ps ++ [q]) := by
  unfold TupsAt at *
  induction h with
  | nil => exact .cons e .nil
  | cons h _ ih => exact .cons h ih
theorem TupsAt.len {H : Hp} {as : List Addr} {ps : List Pr} (h : TupsAt H as ps) : as.length = ps.length := Paired.length h
theorem PairsAt.same {H H' : Hp} {p : Addr} {ps : List Pr} (h : PairsAt H p ps) (s : Same H H') : PairsAt H' p ps := by
  obtain ⟨as, e, t⟩ := h
  exact ⟨as, s _ _ e, t.same s⟩
theorem PairsAt.sm {W : Addr} {H H' : Hp} {p : Addr} {ps : List Pr} (h : PairsAt H p ps) (s : Sm W H H') (w : ∃ n, WellAt n H W) (hp : p ≠ W) : PairsAt H' p ps := by
  obtain ⟨as, e, t⟩ := h
  exact ⟨as, s _ _ hp e, t.sm s w⟩
end TX
namespace TX
open PySem L2 PyProof.Rows TM
def kvsOf (ps : List Pr) : List (Key × V) := ps.map fun q => ((Sum.inr q.1 : Key), optV q.2)
theorem kvs_none : ∀ {ps : List Pr} {x : Str}, x ∉ ps.map Prod.fst → valV (kvsOf ps) (Sum.inr x : Key) = none
  | [], _, _ => rfl
  | (c, o) :: r, x, h => by
    have hne : ¬ ((Sum.inr c : Key) = Sum.inr x) := fun e => by
      injection e with e
      exact h (by rw [e]; exact List.mem_cons_self)
    show valV (((Sum.inr c : Key), optV o) :: kvsOf r) _ = none
    rw [valV_neg hne]
    exact kvs_none fun hx => h (List.mem_cons_of_mem _ hx)
theorem kvs_some : ∀ {ps : List Pr} {x : Str} {o : Option Str}, (ps.map Prod.fst).Nodup → (x, o) ∈ ps → valV (kvsOf ps) (Sum.inr x : Key) = some (optV o)
  | [], _, _, _, h => nomatch h
  | (c, p) :: r, x, o, hn, h => by
    rw [List.map_cons, List.nodup_cons] at hn
    rcases List.mem_cons.mp h with e | h
    · obtain ⟨rfl, rfl⟩ := Prod.mk.inj e
      exact valV_pos (p := ((Sum.inr x : Key), optV o)) rfl
    · have hne : ¬ ((Sum.inr c : Key) = Sum.inr x) := fun e => by
        injection e with e
        exact hn.1 (by rw [e]; exact List.mem_map.mpr ⟨(x, o), h, rfl⟩)
      show valV (((Sum.inr c : Key), optV p) :: kvsOf r) _ = _
      rw [valV_neg hne]
      exact kvs_some hn.2 h
theorem optV_inj {o o' : Option Str} (h : optV o = optV o') : o = o' := by
  cases o with
  | none =>
    cases o' with
    | none => rfl
    | some y => cases h
  | some x =>
    cases o' with
    | none => cases h
    | some y =>
      have h' : V.str x = V.str y := h
      injection h' with h'
      rw [h']
/-- in a list or in a dict -/
theorem PC.or {X : Cx} {op : CmpOp} {a b : Expr} {t u : TE} (h1 : PC X op a b t) (h2 : PC X op a b u) : PC X op a b (fun σ H Q => t σ H Q ∨ u σ H Q) :=
  ⟨fun pins s σ H Q I h => h.elim (h1.run pins s σ H Q I) (h2.run pins s σ H Q I)⟩
theorem PC.ofR {X : Cx} {op : CmpOp} {a b : Expr} {ta tb : TE} {r : R2} (ho : OpR X (compareOp op) r) (ha : PE X a ta) (hb : PE X b tb) : PC X op a b (tOp r ta tb) :=
  ⟨fun pins s σ H Q I h => thn (ha.run pins s σ H _ I h) fun u s1 ⟨x, H1, I1, rx, h1⟩ => thn (hb.run pins s1 σ H1 _ I1 h1) fun v s2 ⟨y, H2, I2, ry, h2⟩ => ho pins s2 σ H2 x y u v Q I2 rx ry h2⟩
/-- the order of one sign and a letter -/
theorem lt_sign (c d : Nat) : ([c] < [d]) ↔ c < d := by
  constructor
  · intro h
    cases h with
    | rel h => exact h
    | cons h => cases h
  · intro h
    exact List.Lex.rel h
theorem str_a : Str.ofString "a" = S [97] := by decide +kernel
theorem str_z : Str.ofString "z" = S [122] := by decide +kernel
end TX
namespace TX
open PySem L2 PyProof.Rows TM
theorem TupsAt.get {H : Hp} {as : List Addr} {ps : List Pr} (h : TupsAt H as ps) : ∀ {i : Nat} {a : Addr}, as[i]? = some a → ∃ q, ps[i]? = some q ∧ H a = some (.tup [.str q.1, optV q.2]) := by
  unfold TupsAt at h
  induction h with
  | nil => intro i a e; simp at e
  | cons h _ ih =>
    intro i a e
    cases i with
    | zero =>
      simp at e
      subst e
      exact ⟨_, by simp, h⟩
    | succ i =>
      obtain ⟨q, h1, h2⟩ := ih (by simpa using e)
      exact ⟨q, by simpa using h1, h2⟩
theorem kvs_put {ps : List Pr} {c : Str} {o : Option Str} (h : c ∉ ps.map Prod.fst) : putK (kvsOf ps) (Sum.inr c : Key) (optV o) = kvsOf (ps ++ [(c, o)]) := by
  rw [putK_new _ (kvs_none h)]
  unfold kvsOf
  rw [List.map_append]
  rfl
theorem kvs_len (ps : List Pr) : (kvsOf ps).length = ps.length := by unfold kvsOf; rw [List.length_map]
theorem kvs_get {ps : List Pr} {i : Nat} : (kvsOf ps)[i]? = ps[i]?.map fun q => ((Sum.inr q.1 : Key), optV q.2) := by unfold kvsOf; rw [List.getElem?_map]
end TX
namespace TX
open PySem L2 PyProof.Rows TM
/-- a dict comprehension over a walk: Pr by the turn and the heap -/
theorem dc_walk {J : It} {n : Nat} {G : Hp → Prop} {Y : Nat → Hp → V → Hp → Prop} (wk : Walk J n G Y) {tgt : TG} {cond : TT} {key val : TE} {own : List Nat} {slots : L2.St} {Hs : Hp} {Dn : Addr} {Qf : Hp → Prop}
    (Pw : Nat → Hp → Prop) (start : Pw 0 (upd Hs Dn (.dK []))) (good : ∀ i h, i ≤ n → Pw i h → G h)
    (turn : ∀ i v h h', i < n → Pw i h → Y i h v h' → tgt v (wipe slots own) h' fun s2 h2 => wipe s2 own = wipe slots own ∧ cond s2 h2 fun b h3 =>
      (if b = true then (key s2 h3 fun ky h4 => val s2 h4 fun vl h5 => ∃ es kk, ky = kV kk ∧ h5 Dn = some (.dK es) ∧ es.length < sizeLine ∧ Pw (i + 1) (upd h5 Dn (.dK (putK es kk vl)))) else Pw (i + 1) h3))
    (fin : ∀ h, Pw n h → Qf h) :
    ∃ Z : Nat → Nat → Hp → Prop, (∃ m, Z 0 m (upd Hs Dn (.dK []))) ∧ ∀ i m h, Z i m h → (J.stop i h ∧ Qf h) ∨ (J.go i h ∧ ∃ Nx : Hp → Prop, (∀ h', Nx h' → ∃ m', m' < m ∧ Z (i + 1) m' h') ∧
      ∀ v h', J.yld i h v h' → tgt v (wipe slots own) h' fun s2 h2 => wipe s2 own = wipe slots own ∧ cond s2 h2 fun b h3 =>
        (if b = true then (key s2 h3 fun ky h4 => val s2 h4 fun vl h5 => ∃ es kk, ky = kV kk ∧ h5 Dn = some (.dK es) ∧ es.length < sizeLine ∧ Nx (upd h5 Dn (.dK (putK es kk vl)))) else Nx h3)) := by
  refine ⟨fun i m h => i ≤ n ∧ m = n - i ∧ Pw i h, ⟨n, Nat.zero_le _, by simp, start⟩, ?_⟩
  rintro i m h ⟨hi, rfl, pw⟩
  have g := good i h hi pw
  rcases Nat.lt_or_ge i n with hlt | hge
  · exact .inr ⟨wk.goes i h hlt g, Pw (i + 1), fun h' p' => ⟨n - (i + 1), by omega, hlt, rfl, p'⟩, fun v h' y => turn i v h h' hlt pw (wk.yields i h v h' hlt g y)⟩
  · obtain rfl : i = n := by omega
    exact .inl ⟨wk.stops h g, fin h pw⟩
/-- what is asked of a tree's names -/
structure FoOk (f : Fo) : Prop where
  nd : (names f).Nodup
  le : (names f).length ≤ 8
  ok : ∀ x ∈ names f, NameOk x
theorem foOk_mk {ps : List Pr} (va : Valid [] ps) (hl : ps.length ≤ 8) (hn : ∀ x ∈ ps.map Prod.fst, NameOk x) : FoOk (mk ps none) :=
  ⟨ord_nodup va, Nat.le_trans (ord_le va none) hl, fun x hx => hn x ((ord_perm va).mem_iff.mp hx)⟩
theorem kcol : ¬ (("_columns" : Str) = "_over") := by decide +kernel
/-- the attributes of a tree, in the order in which they are stored -/
def tflds (l d : Addr) : List (Str × V) := putF "_over" (.ref d) (putF "_columns" (.ref l) [])
theorem tflds_col (l d : Addr) : (tflds l d).lookup ("_columns" : Str) = some (.ref l) := by
  unfold tflds
  rw [lookup_putF, if_neg kcol, lookup_putF, if_pos rfl]
theorem tflds_over (l d : Addr) : (tflds l d).lookup ("_over" : Str) = some (.ref d) := by
  unfold tflds
  rw [lookup_putF, if_pos rfl]
theorem tflds_no (l d : Addr) {m : Str} (h1 : ¬ m = "_over") (h2 : ¬ m = "_columns") : (tflds l d).lookup m = none := by
  unfold tflds
  rw [lookup_putF, if_neg h1, lookup_putF, if_neg h2]
  rfl
theorem tflds_len (l d : Addr) : (tflds l d).length < 1000 := by
  unfold tflds
  show (if ("_columns" : Str) = "_over" then [(("_columns" : Str), V.ref d)] else (("_columns" : Str), V.ref l) :: putF "_over" (V.ref d) []).length < 1000
  rw [if_neg kcol]
  show 2 < 1000
  decide
/-- a tree stands at p -/
def TreeAt (C : Addr) (H : Hp) (p : Addr) (f : Fo) : Prop := ∃ dx l d, H p = some (.ins C dx (tflds l d)) ∧ H l = some (.lst ((names f).map V.str)) ∧ H d = some (.dK (kvsOf (flat f none)))
theorem TreeAt.same {C : Addr} {H H' : Hp} {p : Addr} {f : Fo} (t : TreeAt C H p f) (s : Same H H') : TreeAt C H' p f := by
  obtain ⟨dx, l, d, h1, h2, h3⟩ := t
  exact ⟨dx, l, d, s _ _ h1, s _ _ h2, s _ _ h3⟩
/-- an own class that isinstance may be asked of -/
structure Ic (K : PySem.W.Frag) (C : Addr) : Prop where
  ha : PySem.W.findIn K (.ref C) "__class__" = some (some (.builtin "object.__class__"))
  hn : PySem.W.specialIn K (.builtin "object.__class__") "__get__" = some (some (.builtin "getset_descriptor.__get__"))
  htk : PySem.W.takesIn K (.builtin "object.__class__") = some true
  hm : PySem.W.mroIn K C (.type "object") = some true
  me : PySem.W.kitOne K (.ref C) (.ref C) = some true
/-- what the top says of the class -/
structure Tc (K : PySem.W.Frag) (mg : Str → Option Value) (C : Addr) : Prop where
  cl : Cls K C
  nC : NoAttr K C "_columns"
  nO : NoAttr K C "_over"
  g : mg "Tree" = some (.ref C)
  ins : Ic K C
end TX
namespace TX
open PySem L2 PyProof.Rows TM
theorem strOk_name {x : Str} (h : NameOk x) : PyData.strOk x = true := by
  unfold PyData.strOk
  rw [Array.all_eq_true']
  intro c hc
  have := h.2.2 c (Array.mem_toList_iff.mpr hc)
  exact decide_eq_true (by omega)
def dS (ns : List Str) : PyData := .list (ns.map .str)
def dO : Option Str → PyData
  | none => .none
  | some x => .str x
def dP (ps : List Pr) : PyData := .list (ps.map fun q => .tuple [.str q.1, dO q.2])
theorem canS : ∀ {ns : List Str}, (∀ x ∈ ns, NameOk x) → PyData.canLayAll0 (ns.map .str) = true
  | [], _ => rfl
  | x :: r, h => by
    rw [List.map_cons]
    unfold PyData.canLayAll0
    rw [show PyData.canLay0 (.str x) = true from strOk_name (h x List.mem_cons_self), canS fun y hy => h y (List.mem_cons_of_mem _ hy)]
    rfl
theorem depS : ∀ (ns : List Str), PyData.depthAll (ns.map .str) = 0
  | [] => rfl
  | x :: r => by
    rw [List.map_cons]
    unfold PyData.depthAll
    rw [depS r]
    rfl
theorem shS {ns : List Str} (h : ∀ x ∈ ns, NameOk x) : SeqAt.shaped (dS ns) = true := by
  unfold SeqAt.shaped dS
  have h1 : PyData.canLay0 (.list (ns.map .str)) = true := by unfold PyData.canLay0; exact canS h
  have h2 : PyData.depth (.list (ns.map .str)) ≤ 64 := by unfold PyData.depth; rw [depS]; decide
  rw [h1, decide_eq_true h2]
  rfl
theorem eqvS : ∀ (ns ms : List Str), PyData.eqvAll (ns.map .str) (ms.map .str) = decide (ns = ms)
  | [], [] => rfl
  | [], _ :: _ => rfl
  | _ :: _, [] => rfl
  | x :: r, y :: t => by
    rw [List.map_cons, List.map_cons]
    unfold PyData.eqvAll PyData.eqv
    rw [eqvS r t]
    by_cases h : x = y <;> by_cases h2 : r = t <;> simp [h, h2]
theorem DpAll_strs {K : PySem.W.Frag} {H : Hp} : ∀ (ns : List Str), DpAll K H (ns.map V.str) (ns.map .str)
  | [] => .nil
  | x :: r => .cons (.str x) (DpAll_strs r)
theorem DpS {K : PySem.W.Frag} {H : Hp} {a : Addr} {ns : List Str} (h : H a = some (.lst (ns.map V.str))) : Dp K H (.ref a) (dS ns) := .lst (.of h) (DpAll_strs ns)
end TX
namespace TX
open PySem L2 PyProof.Rows TM
/-- all names of a list of pairs are names -/
def PsOk (ps : List Pr) : Prop := ∀ q ∈ ps, NameOk q.1 ∧ ∀ x, q.2 = some x → NameOk x
theorem PsOk.flat {f : Fo} (h : FoOk f) : PsOk (flat f none) := fun q hq => by
  refine ⟨h.ok _ ?_, fun x hx => ?_⟩
  · rw [← flat_names f none]
    exact List.mem_map.mpr ⟨q, hq, rfl⟩
  · rcases over_flat f none q hq with e | ⟨y, hy, e⟩
    · rw [e] at hx; cases hx
    · rw [e] at hx
      cases hx
      exact h.ok _ hy
theorem can_pair {q : Pr} (h : NameOk q.1 ∧ ∀ x, q.2 = some x → NameOk x) : PyData.canLay0 (.tuple [.str q.1, dO q.2]) = true := by
  obtain ⟨c, o⟩ := q
  have h1 : PyData.canLay0 (.str c) = true := strOk_name h.1
  have h2 : PyData.canLay0 (dO o) = true := by
    cases o with
    | none => rfl
    | some x => exact strOk_name (h.2 x rfl)
  unfold PyData.canLay0 PyData.canLayAll0 PyData.canLayAll0 PyData.canLayAll0
  rw [h1, h2]
  rfl
theorem canP : ∀ {ps : List Pr}, PsOk ps → PyData.canLayAll0 (ps.map fun q => .tuple [.str q.1, dO q.2]) = true
  | [], _ => rfl
  | x :: r, h => by
    rw [List.map_cons]
    unfold PyData.canLayAll0
    rw [can_pair (h x List.mem_cons_self), canP fun y hy => h y (List.mem_cons_of_mem _ hy)]
    rfl
theorem dep_dO (o : Option Str) : PyData.depth (dO o) = 0 := by cases o <;> rfl
theorem depP : ∀ (ps : List Pr), PyData.depthAll (ps.map fun q => .tuple [.str q.1, dO q.2]) ≤ 1
  | [] => Nat.zero_le _
  | x :: r => by
    rw [List.map_cons]
    unfold PyData.depthAll
    have h1 : PyData.depth (.tuple [.str x.1, dO x.2]) = 1 := by
      unfold PyData.depth PyData.depthAll PyData.depthAll PyData.depthAll
      rw [dep_dO]
      rfl
    have := depP r
    rw [h1]
    omega
theorem shP {ps : List Pr} (h : PsOk ps) : SeqAt.shaped (dP ps) = true := by
  unfold SeqAt.shaped dP
  have h1 : PyData.canLay0 (.list (ps.map fun q => .tuple [.str q.1, dO q.2])) = true := by unfold PyData.canLay0; exact canP h
  have h2 : PyData.depth (.list (ps.map fun q => .tuple [.str q.1, dO q.2])) ≤ 64 := by
    unfold PyData.depth
    have := depP ps
    omega
  rw [h1, decide_eq_true h2]
  rfl
theorem eqv_dO : ∀ (o p : Option Str), PyData.eqv (dO o) (dO p) = decide (o = p)
  | none, none => rfl
  | none, some _ => rfl
  | some _, none => rfl
  | some x, some y => by
    show PyData.eqv (.str x) (.str y) = _
    unfold PyData.eqv
    by_cases h : x = y <;> simp [h]
theorem eqv_pair (q r : Pr) : PyData.eqv (.tuple [.str q.1, dO q.2]) (.tuple [.str r.1, dO r.2]) = decide (q = r) := by
  obtain ⟨a, b⟩ := q
  obtain ⟨c, d⟩ := r
  unfold PyData.eqv PyData.eqvAll PyData.eqvAll PyData.eqvAll
  rw [eqv_dO]
  have : PyData.eqv (.str a) (.str c) = decide (a = c) := by unfold PyData.eqv; by_cases h : a = c <;> simp [h]
  show (PyData.eqv (.str a) (.str c) && (decide (b = d) && true)) = _
  rw [this]
  by_cases h : a = c <;> by_cases h2 : b = d <;> simp [h, h2]
theorem eqvP : ∀ (ps qs : List Pr), PyData.eqvAll (ps.map fun q => .tuple [.str q.1, dO q.2]) (qs.map fun q => .tuple [.str q.1, dO q.2]) = decide (ps = qs)
  | [], [] => rfl
  | [], _ :: _ => rfl
  | _ :: _, [] => rfl
  | x :: r, y :: t => by
    rw [List.map_cons, List.map_cons]
    unfold PyData.eqvAll
    rw [eqvP r t, eqv_pair]
    by_cases h : x = y <;> by_cases h2 : r = t <;> simp [h, h2]
theorem Dp_optV {K : PySem.W.Frag} {H : Hp} : ∀ (o : Option Str), Dp K H (optV o) (dO o)
  | none => .non
  | some x => .str x
theorem DpAll_tups {K : PySem.W.Frag} {H : Hp} {as : List Addr} {ps : List Pr} (h : TupsAt H as ps) : DpAll K H (as.map V.ref) (ps.map fun q => .tuple [.str q.1, dO q.2]) := by
  unfold TupsAt at h
  induction h with
  | nil => exact .nil
  | cons h _ ih => exact .cons (.tup (.of h) (.cons (.str _) (.cons (Dp_optV _) .nil))) ih
theorem PairsAt.dp {K : PySem.W.Frag} {H : Hp} {a : Addr} {ps : List Pr} (h : PairsAt H a ps) : Dp K H (.ref a) (dP ps) := by
  obtain ⟨as, e, t⟩ := h
  exact .lst (.of e) (DpAll_tups t)
theorem eqv_dS (ns ms : List Str) : PyData.eqv (dS ns) (dS ms) = decide (ns = ms) := by
  unfold dS PyData.eqv
  exact eqvS ns ms
theorem eqv_dP (ps qs : List Pr) : PyData.eqv (dP ps) (dP qs) = decide (ps = qs) := by
  unfold dP PyData.eqv
  exact eqvP ps qs
end TX
namespace TX
open PySem L2 PyProof.Rows TM
/-- a method of a class, ready to be called -/
structure Mt (K : PySem.W.Frag) (C : Addr) (m qual : Str) (st : Stmt) (ps : List Str) (f : Addr) (fd : FuncData) : Prop where
  F : Fun K m qual st f fd
  me : Meth K C m f
  b : Binds K fd ps []
theorem TupsAt.app {H : Hp} {as bs : List Addr} {ps qs : List Pr} (h : TupsAt H as ps) (k : TupsAt H bs qs) : TupsAt H (as ++ bs) (ps ++ qs) := by
  unfold TupsAt at *
  induction h with
  | nil => exact k
  | cons h _ ih => exact .cons h ih
/-- an error class of our own that is raised with a text -/
structure Ec (K : PySem.W.Frag) (mg : Str → Option Value) (x : Str) (C : Addr) : Prop where
  ex : PySem.W.excIn K C [.type "ValueError", .type "Exception", .type "BaseException", .type "object"] "ValueError.__new__" = true
  g : mg x = some (.ref C)
  k : PySem.W.keepIn K (.ref C) = true
  b : PySem.W.subIn K (.ref C) (.type "BaseException") = some true
  t : PySem.W.typeIn K (.ref C) = some (.type "type")
theorem FoOk.app {f g : Fo} (hf : FoOk f) (hg : FoOk g) (hd : ∀ x ∈ names f, x ∉ names g) (hl : (names f).length + (names g).length ≤ 8) : FoOk (app f g) := by
  refine ⟨?_, ?_, fun x hx => ?_⟩
  · rw [names_app, List.nodup_append]
    exact ⟨hf.nd, hg.nd, fun a ha b hb e => hd a ha (e ▸ hb)⟩
  · rw [names_app, List.length_append]
    exact hl
  · rw [names_app] at hx
    rcases List.mem_append.mp hx with hx | hx
    · exact hf.ok x hx
    · exact hg.ok x hx
theorem inV_str (x : Str) (ns : List Str) : inV (.str x) (ns.map V.str) = decide (x ∈ ns) := by
  unfold inV
  induction ns with
  | nil => rfl
  | cons y r ih =>
    rw [List.map_cons, List.any_cons, ih]
    show ((y == x) || decide (x ∈ r)) = _
    by_cases h : x = y
    · simp [h]
    · have h' : ¬ y = x := fun e => h e.symm
      simp [h, h']
theorem flat_strs (ns : List Str) : (ns.map V.str).all flatV = true := by
  rw [List.all_map, List.all_eq_true]
  intro x _
  rfl
end TX
namespace TX
open PySem L2 PyProof.Rows TM
theorem merge_kvs : ∀ (qs pre : List Pr), ((pre ++ qs).map Prod.fst).Nodup → mergeK (kvsOf pre) (kvsOf qs) = kvsOf (pre ++ qs)
  | [], pre, _ => by rw [List.append_nil]; rfl
  | (c, o) :: r, pre, h => by
    have hc : c ∉ pre.map Prod.fst := by
      rw [List.map_append, List.nodup_append] at h
      intro hm
      exact h.2.2 c hm c (by simp) rfl
    show mergeK (putK (kvsOf pre) (Sum.inr c : Key) (optV o)) (kvsOf r) = _
    rw [kvs_put hc, merge_kvs r (pre ++ [(c, o)]) (by simpa using h)]
    simp
theorem merge_nil {ps : List Pr} (h : (ps.map Prod.fst).Nodup) : mergeK [] (kvsOf ps) = kvsOf ps := by
  have := merge_kvs ps [] (by simpa using h)
  rw [List.nil_append] at this
  exact this
theorem kvs_isSome {ps : List Pr} (h : (ps.map Prod.fst).Nodup) (x : Str) : (valV (kvsOf ps) (Sum.inr x : Key)).isSome = decide (x ∈ ps.map Prod.fst) := by
  by_cases hx : x ∈ ps.map Prod.fst
  · obtain ⟨⟨x', o⟩, hm, rfl⟩ := List.mem_map.mp hx
    rw [kvs_some h hm, decide_eq_true hx]
    rfl
  · rw [kvs_none hx, decide_eq_false hx]
    rfl
theorem cut_strs (ns : List Str) (lo hi : Option Int) : ∃ ms : List Str, cutV (ns.map V.str) lo hi = ms.map V.str ∧ ms.Sublist ns ∧ ms.length ≤ HT.sIx ns.length ns.length hi - HT.sIx ns.length 0 lo := by
  refine ⟨(ns.drop (HT.sIx ns.length 0 lo)).take (HT.sIx ns.length ns.length hi - HT.sIx ns.length 0 lo), ?_, ?_, ?_⟩
  · unfold cutV
    rw [List.length_map, List.map_take, List.map_drop]
  · exact (List.take_sublist _ _).trans (List.drop_sublist _ _)
  · rw [List.length_take]
    exact Nat.min_le_left _ _
/-- dict(pairs) -/
def rDP (K : PySem.W.Frag) : List V → Hp → VK → Prop := fun vs H Q => ∃ (L : Addr) (as : List Addr) (es : List (Key × V)), vs = [.ref L] ∧ SqL K H L (as.map V.ref) ∧
  Paired (fun a e => SqT K H a [kV e.1, e.2]) as es ∧ ∀ d, H d = none → Q (.ref d) (upd H d (.dK (mergeK [] es)))
theorem call_dP {X : Cx} (hc : X.calm = true) : CallR X (.type "dict") (rDP X.K) := call_dictP hc
theorem pairs_es {K : PySem.W.Frag} {H : Hp} {as : List Addr} {ps : List Pr} (h : TupsAt H as ps) : Paired (fun a (e : Key × V) => SqT K H a [kV e.1, e.2]) as (kvsOf ps) := by
  unfold TupsAt at h
  induction h with
  | nil => exact .nil
  | cons h _ ih => exact .cons (.of h) ih
theorem PairsAt.nil {H : Hp} {p : Addr} (h : H p = some (.lst [])) : PairsAt H p [] := ⟨[], h, .nil⟩
theorem ord_len {ps : List Pr} (va : Valid [] ps) : (names (mk ps none)).length = ps.length := by
  have := (ord_perm va).length_eq
  rw [List.length_map] at this
  exact this
theorem foOk_nil : FoOk .nil := ⟨List.nodup_nil, Nat.zero_le _, fun _ h => nomatch h⟩
theorem PairsAt.app {H H' : Hp} {a b p : Addr} {ps qs : List Pr} {as bs : List Addr} (h : TupsAt H as ps) (k : TupsAt H bs qs) (s : Same H H') (e : H' p = some (.lst (as.map V.ref ++ bs.map V.ref))) : PairsAt H' p (ps ++ qs) :=
  ⟨as ++ bs, by rw [e, List.map_append], (h.app k).same s⟩
theorem PsOk.app {ps qs : List Pr} (h : PsOk ps) (k : PsOk qs) : PsOk (ps ++ qs) := fun q hq => (List.mem_append.mp hq).elim (h q) (k q)
/-- [pairs, pairs] -/
theorem sh2 {ps qs : List Pr} (h : PsOk ps) (k : PsOk qs) : SeqAt.shaped (.list [dP ps, dP qs]) = true := by
  unfold SeqAt.shaped
  have a1 : PyData.canLay0 (dP ps) = true := (Bool.and_eq_true_iff.mp (shP h)).1
  have a2 : PyData.canLay0 (dP qs) = true := (Bool.and_eq_true_iff.mp (shP k)).1
  have b1 : PyData.depth (dP ps) ≤ 2 := by unfold dP PyData.depth; have := depP ps; omega
  have b2 : PyData.depth (dP qs) ≤ 2 := by unfold dP PyData.depth; have := depP qs; omega
  have h1 : PyData.canLay0 (.list [dP ps, dP qs]) = true := by
    unfold PyData.canLay0 PyData.canLayAll0 PyData.canLayAll0 PyData.canLayAll0
    rw [a1, a2]
    rfl
  have h2 : PyData.depth (.list [dP ps, dP qs]) ≤ 64 := by
    unfold PyData.depth PyData.depthAll PyData.depthAll PyData.depthAll
    omega
  rw [h1, decide_eq_true h2]
  rfl
theorem eqv_refl2 (ps qs : List Pr) : PyData.eqv (.list [dP ps, dP qs]) (.list [dP ps, dP qs]) = true := by
  unfold PyData.eqv PyData.eqvAll PyData.eqvAll PyData.eqvAll
  rw [eqv_dP, eqv_dP, decide_eq_true rfl, decide_eq_true rfl]
  rfl
theorem Dp2 {K : PySem.W.Frag} {H : Hp} {p a b : Addr} {ps qs : List Pr} (h : H p = some (.lst [.ref a, .ref b])) (ha : PairsAt H a ps) (hb : PairsAt H b qs) : Dp K H (.ref p) (.list [dP ps, dP qs]) :=
  .lst (.of h) (.cons ha.dp (.cons hb.dp .nil))
end TX
namespace TX
open PySem L2 PyProof.Rows TM
theorem optV_ne_none {o : Option Str} : decide (optV o = .non) = o.isNone := by
  cases o with
  | none => rfl
  | some x => rfl
/-- the over of a name, found in the dict -/
theorem over_get {f : Fo} (ok : FoOk f) {c : Str} {a : List Str} {q : Fo} (h : loc f c = some (a, q)) : valV (kvsOf (flat f none)) (Sum.inr c : Key) = some (optV (lastOr a none)) :=
  kvs_some (by rw [flat_names]; exact ok.nd) (loc_flat none h)
end TX
namespace TX
open PySem L2 PyProof.Rows TM
/-- an expression that is v whatever is asked behind, and only makes objects -/
def Ee (te : TE) (s : L2.St) (H : Hp) (v : V) : Prop := ∀ h, Same H h → ∀ Q : VK, (∀ h', Same h h' → Q v h') → te s h Q
def Et (tt : TT) (s : L2.St) (H : Hp) (b : Bool) : Prop := ∀ h, Same H h → ∀ Q : Bool → Hp → Prop, (∀ h', Same h h' → Q b h') → tt s h Q
theorem et_yes {s : L2.St} {H : Hp} : Et tYes s H true := fun h _ Q q => q h (fun _ _ e => e)
theorem ee_var {i : Nat} {s : L2.St} {H : Hp} {v : V} (e : s[i]? = some (some v)) : Ee (tVar i) s H v := fun h _ Q q => ⟨v, e, q h (fun _ _ e => e)⟩
/-- [e for x in l if t], the items of the list l -/
theorem lc_all {K : PySem.W.Frag} {l : Addr} {i : Nat} {tt : TT} {te : TE} {s : L2.St} {H : Hp} {xs : List V} {g : V → V} {p : V → Bool} {Q : VK} {ti : TE} (hi : ti s H fun v h => v = .ref l ∧ Same H h) (mono : ∀ Q1 Q2 : VK, (∀ v h, Q1 v h → Q2 v h) → ti s H Q1 → ti s H Q2)
    (hl : SqL K H l xs) (hn : xs.length ≤ 1000) (ht : ∀ x ∈ xs, ∀ h, Same H h → Et tt ((wipe s [i]).set i (some x)) h (p x)) (he : ∀ x ∈ xs, p x = true → ∀ h, Same H h → Ee te ((wipe s [i]).set i (some x)) h (g x))
    (q : ∀ L h, Same H h → H L = none → h L = some (.lst ((xs.filter p).map g)) → Q (.ref L) h) : tLc (iList K ti) (gName i) tt te [i] s H Q := by
  refine mono _ _ (fun v H1 => ?_) hi
  rintro ⟨rfl, s1⟩
  refine ⟨l, rfl, ⟨xs, s1.seq hl⟩, fun D nD => ?_⟩
  refine lc_it (walk_list (xs := xs)) (fun j h => h D = some (.lst (((xs.take j).filter p).map g)) ∧ Same H1 h) ⟨upd_same, Same.new nD⟩ (fun j h _ ⟨_, s2⟩ => s2.seq (s1.seq hl)) ?_ ?_
  · rintro j x h h' hj ⟨e, s2⟩ ⟨rfl, hx⟩
    have hm : x ∈ xs := List.mem_of_getElem? hx
    have htk : xs.take (j + 1) = xs.take j ++ [x] := by rw [List.take_add_one, hx]; rfl
    have s3 := s1.trans s2
    refine ⟨?_, ?_⟩
    · show (((wipe s [i]).set i (some x)).set i none) = wipe s [i]
      show (((s.set i none).set i (some x)).set i none) = s.set i none
      rw [List.set_set, List.set_set]
    refine ht x hm h' s3 h' (fun _ _ e => e) _ fun h4 s4 => ?_
    have e4 := s4 _ _ e
    cases hp : p x with
    | true =>
      refine he x hm hp h4 (s3.trans s4) h4 (fun _ _ e => e) _ fun h5 s5 => ?_
      refine ⟨_, s5 _ _ e4, ?_, ?_, Same.mut ((s2.trans s4).trans s5) nD⟩
      · rw [List.length_map]
        have h1 := List.length_filter_le p (xs.take j)
        rw [List.length_take] at h1
        exact line100' (by omega)
      · rw [upd_same, htk, List.filter_append, List.filter_cons_of_pos hp, List.map_append]
        rfl
    | false =>
      refine ⟨?_, s2.trans s4⟩
      rw [htk, List.filter_append, List.filter_cons_of_neg (by rw [hp]; exact Bool.false_ne_true), List.filter_nil, List.append_nil]
      exact e4
  · rintro h ⟨e, s2⟩
    rw [List.take_length] at e
    exact q D h (s1.trans s2) (s1.free nD) e
theorem mono_var {i : Nat} {s : L2.St} {H : Hp} : ∀ Q1 Q2 : VK, (∀ v h, Q1 v h → Q2 v h) → tVar i s H Q1 → tVar i s H Q2 := fun Q1 Q2 k ⟨v, e, h⟩ => ⟨v, e, k v H h⟩
theorem mono_fld {K : PySem.W.Frag} {i : Nat} {f : Str} {s : L2.St} {H : Hp} : ∀ Q1 Q2 : VK, (∀ v h, Q1 v h → Q2 v h) → tFld K (tVar i) f s H Q1 → tFld K (tVar i) f s H Q2 :=
  fun Q1 Q2 k ⟨v, e, a, C, dx, fs, w, h1, h2, h3, h4, h5, h⟩ => ⟨v, e, a, C, dx, fs, w, h1, h2, h3, h4, h5, k w H h⟩
theorem filter_strs (ns : List Str) (p : Str → Bool) (r : V → Bool) (h : ∀ n ∈ ns, r (.str n) = p n) : (ns.map V.str).filter r = (ns.filter p).map V.str := by
  induction ns with
  | nil => rfl
  | cons n t ih =>
    rw [List.map_cons, List.filter_cons, List.filter_cons, h n List.mem_cons_self, ih fun m hm => h m (List.mem_cons_of_mem _ hm)]
    cases p n <;> rfl
end TX
namespace TX
open PySem L2 PyProof.Rows TM
/-- an if whose test is false, whatever was made -/
theorem sq_no {tc : TT} {t B : TS} {D : Ends} {s : L2.St} {H : Hp} (h : Et tc s H false) (k : ∀ h', Same H h' → B D s h') : tSeq (tIfS tc t tNext) B D s H := h H (fun _ _ e => e) _ k
theorem et_or {t u : TT} {s : L2.St} {H : Hp} (h : Et t s H false) (k : ∀ h', Same H h' → Et u s h' false) : Et (tOr t u) s H false := fun h1 s1 Q q =>
  h h1 s1 _ fun h2 s2 => k h2 (s1.trans s2) h2 (fun _ _ e => e) Q fun h3 s3 => q h3 (s2.trans s3)
theorem kids_take {q : Fo} {ks : List Str} {i : Nat} {c : Str} (h : ks[i]? = some c) : (ks.take (i + 1)).flatMap (kidsOf q) = (ks.take i).flatMap (kidsOf q) ++ kidsOf q c := by
  rw [List.take_add_one, h, List.flatMap_append]
  show _ ++ (kidsOf q c ++ []) = _
  rw [List.append_nil]
theorem bool_data (bs : List Bool) : SeqAt.shaped (.list (bs.map PyData.bool)) = true := by
  have h1 : PyData.canLayAll0 (bs.map PyData.bool) = true := by
    induction bs with
    | nil => rfl
    | cons b r ih => rw [List.map_cons]; unfold PyData.canLayAll0; rw [ih]; rfl
  have h2 : PyData.depthAll (bs.map PyData.bool) = 0 := by
    clear h1
    induction bs with
    | nil => rfl
    | cons b r ih => rw [List.map_cons]; unfold PyData.depthAll; rw [ih]; rfl
  unfold SeqAt.shaped
  have a1 : PyData.canLay0 (.list (bs.map PyData.bool)) = true := by unfold PyData.canLay0; exact h1
  have a2 : PyData.depth (.list (bs.map PyData.bool)) ≤ 64 := by unfold PyData.depth; rw [h2]; decide
  rw [a1, decide_eq_true a2]
  rfl
theorem bool_refl (bs : List Bool) : PyData.eqv (.list (bs.map PyData.bool)) (.list (bs.map PyData.bool)) = true := by
  unfold PyData.eqv
  induction bs with
  | nil => rfl
  | cons b r ih =>
    rw [List.map_cons]
    unfold PyData.eqvAll
    rw [ih]
    show (b == b && true) = true
    simp
theorem Dp_bools {K : PySem.W.Frag} {H : Hp} {a : Addr} {bs : List Bool} (h : H a = some (.lst (bs.map V.bl))) : Dp K H (.ref a) (.list (bs.map PyData.bool)) := by
  refine .lst (.of h) ?_
  clear h
  induction bs with
  | nil => exact .nil
  | cons b r ih => exact .cons (.bl b) ih
theorem filter_yes {xs : List V} : xs.filter (fun _ => true) = xs := by
  induction xs with
  | nil => rfl
  | cons x r ih => rw [List.filter_cons_of_pos rfl, ih]
theorem dec_strs (n : Str) (ks : List Str) : decide (V.str n ∈ ks.map V.str) = decide (n ∈ ks) := by
  by_cases hm : n ∈ ks
  · rw [decide_eq_true hm, decide_eq_true (List.mem_map.mpr ⟨n, hm, rfl⟩)]
  · rw [decide_eq_false hm, decide_eq_false]
    intro z
    obtain ⟨m, hm2, e2⟩ := List.mem_map.mp z
    exact hm (V.str.inj e2 ▸ hm2)
theorem same_rfl {H : Hp} : Same H H := fun _ _ e => e
end TX
namespace TX
open PySem L2 PyProof.Rows TM
theorem lt_anti : ∀ {a b : List Nat}, PySem.Spec.ltCps a b = false → PySem.Spec.ltCps b a = false → a = b
  | [], [], _, _ => rfl
  | [], _ :: _, h, _ => by cases h
  | _ :: _, [], _, h => by cases h
  | x :: a, y :: b, h1, h2 => by
    have g1 : (decide (x < y) || (x == y && PySem.Spec.ltCps a b)) = false := h1
    have g2 : (decide (y < x) || (y == x && PySem.Spec.ltCps b a)) = false := h2
    have e : x = y := by
      have a1 : ¬ x < y := fun z => by rw [decide_eq_true z] at g1; cases g1
      have a2 : ¬ y < x := fun z => by rw [decide_eq_true z] at g2; cases g2
      omega
    subst e
    simp at g1 g2
    rw [lt_anti g1 g2]
theorem lt_trans' : ∀ {a b c : List Nat}, PySem.Spec.ltCps b a = false → PySem.Spec.ltCps c b = false → PySem.Spec.ltCps c a = false
  | [], _, [], _, _ => rfl
  | [], [], _ :: _, _, h => rfl
  | [], _ :: _, _ :: _, _, _ => rfl
  | _ :: _, [], _, h, _ => by cases h
  | x :: a, y :: b, [], _, h => by cases h
  | x :: a, y :: b, z :: c, h1, h2 => by
    have g1 : (decide (y < x) || (y == x && PySem.Spec.ltCps b a)) = false := h1
    have g2 : (decide (z < y) || (z == y && PySem.Spec.ltCps c b)) = false := h2
    show (decide (z < x) || (z == x && PySem.Spec.ltCps c a)) = false
    have a1 : ¬ y < x := fun w => by rw [decide_eq_true w] at g1; cases g1
    have a2 : ¬ z < y := fun w => by rw [decide_eq_true w] at g2; cases g2
    have a3 : ¬ z < x := by omega
    rw [decide_eq_false a3, Bool.false_or]
    by_cases e : z = x
    · have e1 : y = x := by omega
      subst e
      subst e1
      simp at g1 g2
      rw [lt_trans' g1 g2]
      simp
    · have : (z == x) = false := by simpa using e
      rw [this]
      rfl
theorem sorted_pair : ∀ {l : List Str}, PyProof.Rows.sortedS l = true → l.Pairwise fun a b => PySem.Spec.ltCps b.cps.toList a.cps.toList = false
  | [], _ => List.Pairwise.nil
  | [x], _ => List.pairwise_singleton _ _
  | x :: y :: r, h => by
    have h' : (!PySem.Spec.ltCps y.cps.toList x.cps.toList && PyProof.Rows.risingS y r) = true := h
    rw [Bool.and_eq_true] at h'
    have ih : (y :: r).Pairwise fun a b => PySem.Spec.ltCps b.cps.toList a.cps.toList = false := sorted_pair h'.2
    have h1 : PySem.Spec.ltCps y.cps.toList x.cps.toList = false := by simpa using h'.1
    refine List.pairwise_cons.mpr ⟨fun z hz => ?_, ih⟩
    rcases List.mem_cons.mp hz with e | hz
    · rw [e]
      exact h1
    · exact lt_trans' h1 ((List.pairwise_cons.mp ih).1 z hz)
theorem sorted_same {l m : List Str} (h : l.Perm m) (h1 : PyProof.Rows.sortedS l = true) (h2 : PyProof.Rows.sortedS m = true) : l = m := by
  refine perm_eq (fun a b r1 r2 => ?_) h (sorted_pair h1) (sorted_pair h2)
  rw [S_eta a, S_eta b, lt_anti r2 r1]
theorem mono_c {v : V} {s : L2.St} {H : Hp} : ∀ Q1 Q2 : VK, (∀ v h, Q1 v h → Q2 v h) → tC v s H Q1 → tC v s H Q2 := fun _ _ k h => k _ _ h
end TX

set_option maxHeartbeats 2000000
/-! Rules of our own: the length of an own instance; isinstance of a caught error, one class or several. -/
namespace TY
open PySem L2 PyProof.Rows TX
section
variable {X : Cx}
/-- len(o) by an own __len__ -/
def rLenO (C : Addr) (sp : Sp) (E : XK) : List V → Hp → VK → Prop := fun xs H Q => ∃ a dx fs, xs = [.ref a] ∧ H a = some (.ins C dx fs) ∧ sp [.ref a] H (fun v H' => ∃ k : Nat, v = .int k ∧ k ≤ 1000000 ∧ Q (.int k) H') E
theorem call_lenO {CX : CXT} {C f : Addr} {fd : FuncData} {ps : List Str} {sp : Sp} {E : XK} {n : Nat} (F : FnOk X.prog X.w X.K X.mg X.base CX n f fd ps sp) (hs : PySem.W.findIn X.K (.ref C) "__len__" = some (some (.ref f)))
    (hf : PySem.W.isFn X.K (.ref f) = true) (hb : Binds X.K fd ps []) (hx : Passes CX X E) (hr : Room (n + 1) X.A) : CallR X (.builtin "len") (rLenO C sp E) := by
  intro pins s σ H xs us Q I r h
  obtain ⟨a, dx, fs, rfl, ha, hsp⟩ := h
  obtain ⟨u, rfl, rx⟩ := vals1 r
  cases rx
  obtain ⟨mA, J, _⟩ := ins_get I.hok ha
  obtain ⟨od, J, _⟩ := J.look
  obtain ⟨m, hF⟩ := I.fr
  refine PySem.W.len_K hF I.ok.mod.kin J hs hf ?_
  have e0 : Env0 X.prog X.w X.K X.mg X.base X.A.in1 X.stack s H := by
    have e := I.env0
    exact ⟨e.frames, e.mod, e.bs, e.bsz, e.funs, e.frf, e.hok, e.bare⟩
  have hl := F.len _ _ _ _ hsp
  refine wpAny_call (codeAny_mono (F.run X.A.in1 X.stack s H ⟨[.ref a], []⟩ [.ref a] [.ref a] _ E hr.in1 e0 (by
    have := hb s [.ref a] I.kIn (by simpa using hl)
    simpa using this) (.cons rfl .nil) hsp) fun r s' hq => ?_)
  cases r with
  | error e => exact hx pins σ H s e s' I hq
  | ok fl =>
    cases fl with
    | ret u =>
      obtain ⟨z, H', I', rz, k, ez, hk, q⟩ := I.after hq
      subst ez
      obtain ⟨t, rfl⟩ := rz
      show PySem.W.LenBack _ (.int (k : Int) t) s'
      exact ⟨by omega, ⟨.int k, H', I'.tok _, ⟨_, rfl⟩, q⟩⟩
    | next => exact False.elim hq
    | brk => exact False.elim hq
    | cont => exact False.elim hq
/-- isinstance of the error that the suite holds: one class, or a tuple of classes that was just laid -/
def rIsX (K : PySem.W.Frag) (a : Addr) (cls : Value) (d : Option Addr) : List V → Hp → VK → Prop := fun xs H Q => ∃ (D : Addr) (c : V) (b : Bool), cls = .ref D ∧ d = none ∧ ExcC K D ∧ xs = [.ref a, c] ∧
  ((∃ cv, ClsV c cv ∧ PySem.W.kitOne K (.ref D) cv = some b) ∨ (∃ tp cs us, c = .ref tp ∧ H tp = some (.tup cs) ∧ Paired ClsV cs us ∧ PySem.W.kitAny K (.ref D) us = some b)) ∧ Q (.bl b) H
theorem call_isX {a : Addr} {oe : Obj} {cls : Value} {d : Option Addr} {pn : List (Addr × Obj)} (hz : Zc cls d oe) (hf : ∃ vs, oe.data = .fields vs) : CallR (X.suite a ((a, oe) :: pn)) (.builtin "isinstance") (rIsX X.K a cls d) := by
  intro pins s σ H xs us Q I r h
  obtain ⟨D, c, b, rfl, rfl, C, rfl, hc, q⟩ := h
  obtain ⟨u1, u2, rfl, r1, r2⟩ := vals2 r
  cases r1
  obtain ⟨hget, _⟩ := I.pin (a, oe) (List.mem_append.mpr (.inl List.mem_cons_self))
  obtain ⟨vs, hv⟩ := hf
  have J : PySem.W.InstAt s.heap a oe D none := by
    obtain ⟨oc, od, oda, osl⟩ := oe
    obtain ⟨h1, h2⟩ := hz
    dsimp only at h1 h2 hv
    subst h1 h2 hv
    exact ⟨hget, rfl, rfl, trivial⟩
  have Z := PySem.W.handS_kitx_exc (x := a) (ox := oe) C.hg C.hk C.hs C.hd C.ha C.hn C.ht C.hm
  rcases hc with ⟨cv, hcv, e⟩ | ⟨tp, cs, ws, rfl, hT, k, e⟩
  · have e2 := hcv.eq r2
    subst e2
    exact PySem.W.kia_one Z I.kIn J e (fun z => nomatch z) fun tk => ⟨.bl b, H, I.kept (t' := tk) fun _ _ z => z, rfl, q⟩
  · cases (show u2 = Value.ref tp from r2)
    obtain ⟨_, its, rv, o, h1, h2, n, h3⟩ := (show ObjOk X.prog X.w H s.heap tp (.tup cs) from I.hok tp _ hT)
    have e3 := ClsV.all k rv
    subst e3
    obtain ⟨oc, od, dt, sl⟩ := o
    simp only at h2 h3
    subst h2 h3
    exact PySem.W.kia_tup Z I.kIn J h1 e (fun z => nomatch z) fun tk => ⟨.bl b, H, I.kept (t' := tk) fun _ _ z => z, rfl, q⟩
end
end TY

set_option maxHeartbeats 2000000
/-! Rules of our own: a made instance whose __init__ may raise; isinstance of a caught error that has a dict; two lists of the same items. -/
namespace TY
open PySem L2 PyProof.Rows TX
section
variable {X : Cx} {CX : CXT} {k : Nat} {f C : Addr} {fd : FuncData} {ps : List Str} {sp : Sp} {E : L2.St → XK} {x : Str} {p pos : Pos} {e : Expr} {es : List Expr} {t : TA}
theorem run_makeS {pins : List (Addr × Obj)} {σ : L2.St} {H : Hp} {s : Shared} {Q : VK} {us : List Value} {vs : List V} (M : Mk X.K C f) (F : FnOk X.prog X.w X.K X.mg X.base CX k f fd ps sp) (hr : Room (k + 1) X.A) (hb : Binds X.K fd ps [])
    (hx : PassesAt CX X σ (E σ)) (I : Inv X pins σ H s) (r : Vals vs us)
    (h : ∀ x dx, H x = none → H dx = none → dx ≠ x → sp (.ref x :: vs) (upd (upd H dx (.own x)) x (.ins C dx [])) (fun v H2 => v = .non ∧ Q (.ref x) H2) (E σ)) :
    wpAny (model X.prog X.w) X.A (call (.ref C) us) (EP X pins σ Q) X.xe s := by
  have hq := h (s.heap.objs.size + 1) s.heap.objs.size (I.hok.fresh (Nat.le_succ _)) (I.hok.fresh (Nat.le_refl _)) (Nat.ne_of_lt (Nat.lt_succ_self _))
  have I2 := Inv.made (C := C) I
  have r2 : Vals (V.ref (s.heap.objs.size + 1) :: vs) (Value.ref (s.heap.objs.size + 1) :: us) := .cons rfl r
  have hl : (Value.ref (s.heap.objs.size + 1) :: us).length = ps.length := by
    have e := r2.length
    rw [F.len _ _ _ _ hq] at e
    exact e.symm
  have b := hb _ (Value.ref (s.heap.objs.size + 1) :: us) I2.kIn (by rw [List.append_nil]; exact hl)
  rw [List.append_nil] at b
  refine wpAny_call (make_map (f := f) I.kIn M.makes M.init (beq_iff_eq.mp M.fn) (codeAny_mono (F.run _ X.stack _ _ ⟨Value.ref (s.heap.objs.size + 1) :: us, []⟩ (Value.ref (s.heap.objs.size + 1) :: us) _ _ (E σ) (hr.make C us [])
    (I2.env0.make C us []) b r2 hq) fun r s' hq' => ?_))
  cases r with
  | error e => exact hx pins _ _ e s' I2 hq'
  | ok fl =>
    cases fl with
    | ret u =>
      obtain ⟨v, H', I3, rv, ev, q3⟩ := I2.after hq'
      subst ev
      exact ⟨rv, ⟨V.ref (s.heap.objs.size + 1), H', I3, rfl, q3⟩⟩
    | next => exact False.elim hq'
    | brk => exact False.elim hq'
    | cont => exact False.elim hq'
/-- C(..), whose __init__ may raise -/
def tMakeS (C : Addr) (sp : Sp) (E : L2.St → XK) (t : TA) : TE := fun σ H Q => t σ H fun vs H1 => ∀ x dx, H1 x = none → H1 dx = none → dx ≠ x →
  sp (.ref x :: vs) (upd (upd H1 dx (.own x)) x (.ins C dx [])) (fun v H2 => v = .non ∧ Q (.ref x) H2) (E σ)
theorem pe_makeS (M : Mk X.K C f) (F : FnOk X.prog X.w X.K X.mg X.base CX k f fd ps sp) (hr : Room (k + 1) X.A) (hg : Gl X x) (hm : X.mg x = some (.ref C)) (hb : Binds X.K fd ps []) (hx : ∀ σ, PassesAt CX X σ (E σ))
    (ha : PA X (e :: es) t) (hdb : (x == ("__debug__" : Str)) = false := by decide) (he : starEach (e :: es) X.env = (false, eval e X.env) :: starEach es X.env := by rfl) (hpl : (backTo pos (starEach es X.env)).any (·.1) = false := by rfl) :
    PE X (.Call (.Name x p) (e :: es) [] pos) (tMakeS C sp E t) := by
  refine ⟨fun pins s σ H Q I h => ?_⟩
  refine wpAny_Call_Name_kw (ld_glob I hg hm ?_ hdb)
  refine PySem.W.callWith_K (h₀ := X.base) I.ok.mod.kin M.kp (thn (ha.run pos pins s σ H _ I h) fun us s1 ⟨vs, H1, I1, r, q⟩ => ⟨I1.kIn, ?_⟩) he hpl
  exact run_makeS M F hr hb (hx σ) I1 r q
/-- isinstance of the error that the suite holds, which has a dict -/
def rIsXd (K : PySem.W.Frag) (a : Addr) (cls : Value) (d : Option Addr) : List V → Hp → VK → Prop := fun xs H Q => ∃ (D : Addr) (c : V) (b : Bool), cls = .ref D ∧ ExcC K D ∧ (∃ (dd : Addr) (fs : List (Str × V)), d = some dd ∧ H dd = some (.xd fs)) ∧ xs = [.ref a, c] ∧
  ((∃ cv, ClsV c cv ∧ PySem.W.kitOne K (.ref D) cv = some b) ∨ (∃ tp cs us, c = .ref tp ∧ H tp = some (.tup cs) ∧ Paired ClsV cs us ∧ PySem.W.kitAny K (.ref D) us = some b)) ∧ Q (.bl b) H
theorem call_isXd {a : Addr} {oe : Obj} {cls : Value} {d : Option Addr} {pn : List (Addr × Obj)} (hz : Zc cls d oe) (hf : ∃ vs, oe.data = .fields vs) : CallR (X.suite a ((a, oe) :: pn)) (.builtin "isinstance") (rIsXd X.K a cls d) := by
  intro pins s σ H xs us Q I r h
  obtain ⟨D, c, b, rfl, C, ⟨dd, fs, rfl, hdd⟩, rfl, hc, q⟩ := h
  obtain ⟨u1, u2, rfl, r1, r2⟩ := vals2 r
  cases r1
  obtain ⟨hget, _⟩ := I.pin (a, oe) (List.mem_append.mpr (.inl List.mem_cons_self))
  obtain ⟨vs, hv⟩ := hf
  have hx : ObjOk X.prog X.w H s.heap dd (.xd fs) := I.hok dd _ hdd
  obtain ⟨mA, hns, hr⟩ := hx
  obtain ⟨od, ho, hl⟩ := lookIn_ns hns
  have J : PySem.W.InstAt s.heap a oe D (some od) := ⟨hget, hz.1, by unfold PySem.W.notCls; rw [hv] <;> rfl, by rw [hz.2]; exact ho⟩
  have hcl : (PySem.W.clsIn X.K D).isSome = true := by
    obtain ⟨cd, hc', _⟩ := PySem.W.any_some C.hd
    rw [hc']
    rfl
  have Z := PySem.W.kitx_exc (x := a) (ox := oe) (od := some od) hcl C.hg C.hk C.hs C.ha C.hn C.ht C.hm
  rcases hc with ⟨cv, hcv, e⟩ | ⟨tp, cs, ws, rfl, hT, k, e⟩
  · have e2 := hcv.eq r2
    subst e2
    exact PySem.W.kia_one Z I.kIn J e (fun z => nomatch z) fun tk => ⟨.bl b, H, I.kept (t' := tk) fun _ _ z => z, rfl, q⟩
  · cases (show u2 = Value.ref tp from r2)
    obtain ⟨_, its, rv, o, h1, h2, n, h3⟩ := (show ObjOk X.prog X.w H s.heap tp (.tup cs) from I.hok tp _ hT)
    have e3 := ClsV.all k rv
    subst e3
    obtain ⟨oc, od', dt, sl⟩ := o
    simp only at h2 h3
    subst h2 h3
    exact PySem.W.kia_tup Z I.kIn J h1 e (fun z => nomatch z) fun tk => ⟨.bl b, H, I.kept (t' := tk) fun _ _ z => z, rfl, q⟩
/-- two lists of the same items: != is False -/
def itemV : V → Bool
  | .non => true
  | .bl _ => true
  | .int _ => true
  | .str _ => true
  | .ref _ => true
  | _ => false
theorem eqAt_item {A : Around} {s : Shared} {x : V} {u v : Value} (rx : RelV x u) (ry : RelV x v) (h : itemV x = true) : SeqAt.EqAt A s u v true := by
  cases x with
  | ref a =>
    cases (show u = Value.ref a from rx)
    cases (show v = Value.ref a from ry)
    intro prog w E Q hq
    unfold eqBool
    refine wpAny_holding ?_
    refine wpAny_ite_split (fun _ => ?_) (fun hab => absurd (by simp) hab)
    wp_walk
    exact hq
  | non => exact (eqAt_V rx ry rfl rfl : _)
  | bl b => have q := eqAt_V (A := A) (s := s) rx ry rfl rfl; rw [show eqV (.bl b) (.bl b) = true by simp [eqV]] at q; exact q
  | int i => have q := eqAt_V (A := A) (s := s) rx ry rfl rfl; rw [show eqV (.int i) (.int i) = true by simp [eqV]] at q; exact q
  | str z => have q := eqAt_V (A := A) (s := s) rx ry rfl rfl; rw [show eqV (.str z) (.str z) = true by simp [eqV]] at q; exact q
  | _ => cases h
def rNeSame (K : PySem.W.Frag) : R2 := fun x y H Q => ∃ a b xs, x = .ref a ∧ y = .ref b ∧ SqL K H a xs ∧ SqL K H b xs ∧ xs.all itemV = true ∧ Q (.bl false) H
theorem op_neSame (hu : X.A.units < cLine) : OpR X (compareOp .NotEq) (rNeSame X.K) := by
  intro pins s σ H x y v u Q I rx ry h
  obtain ⟨a, b, xs, rfl, rfl, ha, hb, hi, q⟩ := h
  cases rx
  cases ry
  obtain ⟨its, r, hl, _⟩ := I.list ha
  obtain ⟨its2, r2, hl2, _⟩ := I.list hb
  have hsz : its.toArray.size = its2.toArray.size := by rw [List.size_toArray, List.size_toArray, ← r.length, ← r2.length]
  have he : ∀ j (h1 : j < its.toArray.size) (h2 : j < its2.toArray.size), SeqAt.EqAt X.A.in1 s its.toArray[j] its2.toArray[j] ((fun _ => true) j) := by
    intro j h1 h2
    have k1 : j < xs.length := by rw [r.length]; simpa using h1
    obtain ⟨u1, e1, r1⟩ := r.get (List.getElem?_eq_getElem k1)
    obtain ⟨u2, e2, r3⟩ := r2.get (List.getElem?_eq_getElem k1)
    have g1 : its.toArray[j] = u1 := by
      have h1' : j < its.length := by simpa using h1
      rw [List.getElem?_eq_getElem h1'] at e1
      simpa using Option.some.inj e1
    have g2 : its2.toArray[j] = u2 := by
      have h2' : j < its2.length := by simpa using h2
      rw [List.getElem?_eq_getElem h2'] at e2
      simpa using Option.some.inj e2
    rw [g1, g2]
    exact eqAt_item r1 r3 (List.all_eq_true.mp hi _ (List.getElem_mem k1))
  have z := SeqAt.RcNeAt.lists hl.isList hl2.isList hsz hu he
  have e : (List.range its.toArray.size).all (fun _ => true) = true := by simp
  rw [e] at z
  exact z X.prog X.w X.xe _ ⟨.bl false, H, I, rfl, q⟩
/-- a list == [] -/
def rEqNil (K : PySem.W.Frag) : R2 := fun x y H Q => ∃ a b xs, x = .ref a ∧ y = .ref b ∧ SqL K H a xs ∧ SqL K H b [] ∧ Q (.bl xs.isEmpty) H
theorem op_eqNil (hu : X.A.units < cLine) : OpR X (compareOp .Eq) (rEqNil X.K) := by
  intro pins s σ H x y v u Q I rx ry h
  obtain ⟨a, b, xs, rfl, rfl, ha, hb, q⟩ := h
  cases rx
  cases ry
  obtain ⟨its, r, hl, _⟩ := I.list ha
  obtain ⟨its2, r2, hl2, _⟩ := I.list hb
  have h2 : its2 = [] := by
    cases r2
    rfl
  subst h2
  cases xs with
  | nil =>
    cases r
    have z := SeqAt.RcAt.lists (e := fun _ => true) hl.isList hl2.isList rfl hu (fun j h1 h2 => absurd h1 (by simp))
    exact z X.prog X.w X.xe _ ⟨.bl true, H, I, rfl, q⟩
  | cons z zs =>
    have hsz : (its.toArray.size != ([] : List Value).toArray.size) = true := by
      have : its.length = (z :: zs).length := r.length.symm
      simp [this]
    have z := SeqAt.RcAt.lists_lengths hl.isList hl2.isList hsz hu
    exact z X.prog X.w X.xe _ ⟨.bl false, H, I, rfl, q⟩
/-- one sign of a text -/
theorem found_sign (x : Str) (c : Nat) : (!(Builtin.Str.occurrences x ⟨#[c]⟩ 0 x.length 1).isEmpty) = decide (c ∈ x.cps.toList) := StrLaws.found_one x c
end
end TY

set_option maxHeartbeats 2000000
/-! Rules of our own: sets of rows (tuples of ints, below 64): made by a comprehension, sorted whatever the ints. -/
namespace TB
open PySem L2 PyProof.Rows
/-! ### the order of rows -/
def ltI : List Int → List Int → Bool
  | [], [] => false
  | [], _ :: _ => true
  | _ :: _, [] => false
  | x :: a, y :: b => if x = y then ltI a b else decide (x < y)
theorem ltI_asym : ∀ {a b : List Int}, ltI a b = true → ltI b a = false
  | [], [], h => by cases h
  | [], _ :: _, _ => rfl
  | _ :: _, [], h => by cases h
  | x :: a, y :: b, h => by
    unfold ltI at h ⊢
    by_cases e : x = y
    · subst e
      rw [if_pos rfl] at h ⊢
      exact ltI_asym h
    · rw [if_neg e] at h
      rw [if_neg (fun z => e z.symm)]
      have := of_decide_eq_true h
      exact decide_eq_false (by omega)
theorem ltI_anti : ∀ {a b : List Int}, ltI a b = false → ltI b a = false → a = b
  | [], [], _, _ => rfl
  | [], _ :: _, h, _ => by cases h
  | _ :: _, [], _, h => by cases h
  | x :: a, y :: b, h, k => by
    unfold ltI at h k
    by_cases e : x = y
    · subst e
      rw [if_pos rfl] at h k
      rw [ltI_anti h k]
    · rw [if_neg e] at h
      rw [if_neg (fun z => e z.symm)] at k
      have h1 := of_decide_eq_false h
      have h2 := of_decide_eq_false k
      omega
theorem ltI_le : ∀ {a b c : List Int}, ltI b a = false → ltI c b = false → ltI c a = false
  | [], [], [], _, _ => rfl
  | [], [], _ :: _, _, h => by cases h <;> rfl
  | [], _ :: _, [], h, _ => by first | rfl | cases h
  | [], _ :: _, _ :: _, h, _ => by first | rfl | cases h
  | _ :: _, [], _, h, _ => by cases h
  | _ :: _, _ :: _, [], _, h => by cases h
  | x :: a, y :: b, z :: c, h, k => by
    unfold ltI at h k ⊢
    by_cases e : y = x
    · subst e
      rw [if_pos rfl] at h
      by_cases e2 : z = y
      · subst e2
        rw [if_pos rfl] at k ⊢
        exact ltI_le h k
      · rw [if_neg e2] at k ⊢
        exact k
    · rw [if_neg e] at h
      have h1 := of_decide_eq_false h
      by_cases e2 : z = y
      · subst e2
        rw [if_neg e]
        exact h
      · rw [if_neg e2] at k
        have h2 := of_decide_eq_false k
        rw [if_neg (by omega)]
        exact decide_eq_false (by omega)
theorem ltI_swo {α : Type} (k : α → List Int) : SrtO.Swo fun v u => ltI (k v) (k u) := ⟨fun _ _ => ltI_asym, fun _ _ _ => ltI_le⟩
/-! ### rows held against one another by the sort -/
theorem lex_all {prog : Program} {w : World} {A : Around} {s : Shared} {Q : Bool → Shared → Prop} : ∀ {xs ys : List Value} {ns ms : List Int} {i : Nat} {fin : Bool}, IntsAre xs ns → IntsAre ys ms → (ns.length = ms.length → fin = false) → ns.length = ms.length → Q (ltI ns ms) s →
    W.KatLex prog w A true fin Q (xs.zip ys) i s := by
  intro xs ys ns ms i fin h
  induction h generalizing ys ms i with
  | nil =>
    intro k hf hl q
    cases k with
    | nil =>
      have e := hf hl
      subst e
      exact W.kat_nil q
    | cons n t k => cases hl
  | @cons n t vs ns h ih =>
    intro k hf hl q
    cases k with
    | nil => cases hl
    | @cons m u ws ms k =>
      have hl' : ns.length = ms.length := by simpa using hl
      refine W.kat_cons (SeqAt.EqAt.int_int n t m u prog w _ _ ?_)
      refine W.kat_go (fun e => ?_) fun e => ?_
      · have e : n = m := by simpa using e
        subst e
        refine W.kat_yes (ih k (fun _ => hf hl) hl' ?_)
        have : ltI (n :: ns) (n :: ms) = ltI ns ms := by conv => lhs; unfold ltI; rw [if_pos rfl]
        rwa [this] at q
      · have e : ¬ n = m := by simpa using e
        have : ltI (n :: ns) (m :: ms) = decide (n < m) := by unfold ltI; rw [if_neg e]
        rw [this] at q
        refine W.kat_no ?_
        by_cases hi : i = 0
        · subst hi
          exact oneLt_int q
        · have : (true && i == 0) = false := by simp [hi]
          rw [this]
          exact W.kat_one _ _ (lt_int q)
theorem tups_cmp {prog : Program} {w : World} {A : Around} {s : Shared} {vs : List Value} {k : Value → List Int} {d : Nat} (hk : ∀ v ∈ vs, TS.TupInts s.heap v (k v) ∧ (k v).length = d) : SrtO.Cmp prog w A s (tuples' true) (fun p => p.1 ∈ vs) (SrtO.lt2 fun v u => ltI (k v) (k u)) := by
  intro p q hp hq
  obtain ⟨⟨a, xs, ea, ⟨o, ho, hc, n, hd⟩, ia⟩, la⟩ := hk p.1 hp
  obtain ⟨⟨b, ys, eb, ⟨o', ho', hc', n', hd'⟩, ib⟩, lb⟩ := hk q.1 hq
  have l1 : xs.size = d := by
    have : ∀ {xs ns}, IntsAre xs ns → xs.length = ns.length := fun h => by induction h <;> simp_all
    rw [← la, ← this ia, Array.length_toList]
  have l2 : ys.size = d := by
    have : ∀ {xs ns}, IntsAre xs ns → xs.length = ns.length := fun h => by induction h <;> simp_all
    rw [← lb, ← this ib, Array.length_toList]
  rw [ea, eb]
  refine W.kat_lt ho hd ho' hd' (lex_all ia ib (fun _ => by rw [l1, l2]; simp) (by rw [la, lb]) ⟨rfl, ?_⟩)
  show ltI _ _ = ltI (k p.1) (k q.1)
  rw [ea, eb]
theorem firsts {h : Heap} {k : Value → List Int} : ∀ {vs : List Value}, (∀ v ∈ vs, TS.TupInts h v (k v) ∧ k v ≠ []) → ∃ fs : List Value, W.KatTups h vs fs ∧ fs.length = vs.length ∧ ∀ f ∈ fs, ∃ x t, f = Value.int x t
  | [], _ => ⟨[], by first | trivial | exact .nil | rfl, rfl, fun _ h => nomatch h⟩
  | v :: vs, hv => by
    obtain ⟨fs, h1, h2, h3⟩ := firsts fun u hu => hv u (List.mem_cons_of_mem _ hu)
    obtain ⟨⟨a, xs, ea, ⟨o, ho, hc, n, hd⟩, ia⟩, ne⟩ := hv v List.mem_cons_self
    generalize hns : k v = ns at ia ne
    generalize hl : xs.toList = l at ia
    cases ia with
    | nil => exact absurd rfl ne
    | @cons m t l' ns' ia =>
      subst ea
      refine ⟨.int m t :: fs, W.KatTups.cons ho hc hd ?_ h1, by rw [List.length_cons, List.length_cons, h2], fun f hf => ?_⟩
      · rw [← Array.getElem?_toList, hl]
        rfl
      · rcases List.mem_cons.mp hf with e | hf
        · exact ⟨m, t, e⟩
        · exact h3 f hf
theorem tupInts_keep {h h' : Heap} {v : Value} {ns : List Int} (t : TS.TupInts h v ns) (keep : ∀ b o, h.get? b = some o → o.cls = .type "tuple" → h'.get? b = some o) : TS.TupInts h' v ns := by
  obtain ⟨a, xs, ea, ⟨o, ho, hc, n, hd⟩, ia⟩ := t
  exact ⟨a, xs, ea, ⟨o, keep _ _ ho hc, hc, n, hd⟩, ia⟩
theorem rows_sortable {prog : Program} {w : World} {A : Around} {s : Shared} {a : Addr} {vs : List Value} {k : Value → List Int} {d : Nat} (h0 : 0 < vs.length) (hk : ∀ v ∈ vs, TS.TupInts s.heap v (k v) ∧ (k v).length = d) (hne : ∀ v ∈ vs, k v ≠ [])
    (ha : ∀ o, s.heap.get? a = some o → o.cls ≠ .type "tuple") : SrtO.SortableO prog w A s a vs fun v u => ltI (k v) (k u) := by
  intro h' keep
  have hk' : ∀ v ∈ vs, TS.TupInts h' v (k v) ∧ (k v).length = d := fun v hv => ⟨tupInts_keep (hk v hv).1 fun b o e hc => keep b o (fun z => ha o (z ▸ e) hc) e, (hk v hv).2⟩
  obtain ⟨fs, h1, h2, h3⟩ := firsts fun v hv => ⟨(hk' v hv).1, hne v hv⟩
  refine ⟨tuples' true, fun Q E hq => ?_, tups_cmp hk'⟩
  refine W.kat_kind (T := .type "int") h1 (by omega) (fun f hf => ?_) (by rfl) ?_
  · obtain ⟨x, t, rfl⟩ := h3 f hf
    exact W.Looks.now
  · have e : (Value.type "int" != Value.type "tuple") = true := by decide +kernel
    rw [e]
    exact hq
/-! ### a set of rows sorted -/
/-- what stands at an address -/
theorem rowsV {P : Program} {w : World} {h : Heap} {L : List (Addr × List Int)} (nd : (L.map (·.2)).Nodup) (tup : ∀ p ∈ L, L2.IsT P w h p.2 p.1) : ∃ k : Value → List Int, ∀ p ∈ L, k (.ref p.1) = p.2 := by
  refine ⟨fun v => match v with
    | .ref a => (match L.find? fun p => p.1 == a with
      | some p => p.2
      | none => [])
    | _ => [], fun p hp => ?_⟩
  show (match L.find? fun q => q.1 == p.1 with | some q => q.2 | none => []) = p.2
  cases hf : L.find? fun q => q.1 == p.1 with
  | none =>
    have := List.find?_eq_none.mp hf p hp
    simp at this
  | some q =>
    have hq := List.mem_of_find?_eq_some hf
    have he : q.1 = p.1 := by simpa using List.find?_some hf
    have a1 := tup q hq
    rw [he] at a1
    exact IsTupleKey.inj a1 (tup p hp)
theorem sorted_rows {P : Program} {w : World} {A : Around} {E : Value → Shared → Prop} {s : Shared} {a : Addr} {L : List (Addr × List Int)} {es : Array (Int × Value)} {ep : Nat} {t : SetTable} {Q : Value → Shared → Prop} {d : Nat}
    (R : SetTR P w s.heap a L es ep t) (hh : A.handled = none) (hd : ∀ p ∈ L, p.2.length = d)
    (hQ : ∀ (s' : Shared) (p : Nat) (out : Array Value) (c : Nat) (L' : List (Addr × List Int)), (∀ b o, s.heap.get? b = some o → s'.heap.get? b = some o) → s'.gens = s.gens → s'.os = s.os → s.heap.objs.size ≤ p →
      s'.heap.get? p = some (seqObj "list" out c) → out.toList = L'.map (fun q => Value.ref q.1) → L'.Perm L → L'.Pairwise (fun q r => ltI r.2 q.2 = false) → Q (.ref p) s') :
    wpAny (model P w) A (call (.builtin "sorted") [.ref a]) Q E s := by
  obtain ⟨o, ho, hex, hdat⟩ := R.ob
  have hsz := R.size
  have hfew := R.few
  obtain ⟨k, hk⟩ := rowsV R.nd R.tup
  refine Calls.call_function_entry kind_sorted plain_sorted entry_sorted (args_sorted1 (.ref a)) ?_
  refine wpAny_bind (wpAny_pure (wpAny_bind (collect_set hh ⟨o, ho, ⟨hex.1, hdat⟩⟩ R.fits (Nat.lt_of_lt_of_le (by omega) (by decide : 64 ≤ scanBound)) R.tab.ris R.led fun s1 vs k1 hz g1 o1 pm => ?_)))
  have hes : es.toList.map (·.2) = L.map fun q => Value.ref q.1 := by
    rw [R.rows]
    show ((L.map fun p => (thash P w p.2, Value.ref p.1)).map (·.2)) = _
    rw [List.map_map]
    rfl
  rw [hes] at pm
  have hvl : vs.length < 64 := by
    rw [pm.length_eq, List.length_map]
    exact hfew
  refine wpAny_bind (wpAny_newList ?_)
  have hoL := Heap.get?_push_size s1.heap (o := seqObj "list" vs.toArray 0) rfl
  have tk : ∀ q ∈ L, TS.TupInts (s1.heap.push (seqObj "list" vs.toArray 0)) (.ref q.1) q.2 := fun q hq =>
    tupInts_of (isT_keep (R.tup q hq) fun b u e => Heap.get?_push_of_some (seqObj "list" vs.toArray 0) (k1 b u e))
  have of_vs : ∀ v ∈ vs, ∃ q ∈ L, v = .ref q.1 := fun v hv => by
    obtain ⟨q, hq, e⟩ := List.mem_map.mp (pm.mem_iff.mp hv)
    exact ⟨q, hq, e.symm⟩
  have hkv : ∀ v ∈ vs, TS.TupInts (s1.heap.push (seqObj "list" vs.toArray 0)) v (k v) ∧ (k v).length = d := fun v hv => by
    obtain ⟨q, hq, rfl⟩ := of_vs v hv
    rw [hk q hq]
    exact ⟨tk q hq, hd q hq⟩
  refine wpAny_bind (wpAny_holding ?_)
  have ord : ∀ {l : List Value}, (∀ v ∈ l, ∃ q ∈ L, v = .ref q.1) → ∃ L1 : List (Addr × List Int), l = L1.map (fun q => Value.ref q.1) ∧ ∀ q ∈ L1, q ∈ L := by
    intro l
    induction l with
    | nil => exact fun _ => ⟨[], rfl, fun _ h => nomatch h⟩
    | cons v r ih =>
      intro hv
      obtain ⟨q, hq, e⟩ := hv v List.mem_cons_self
      obtain ⟨L1, e1, hs⟩ := ih fun u hu => hv u (List.mem_cons_of_mem _ hu)
      exact ⟨q :: L1, by rw [List.map_cons, e, e1], fun z hz => (List.mem_cons.mp hz).elim (fun e => e ▸ hq) (hs z)⟩
  have one : ∀ q ∈ L, ∀ r ∈ L, q.1 = r.1 → q = r := fun q hq r hr e => by
    have a1 := R.tup q hq
    rw [e] at a1
    exact Prod.ext e (IsTupleKey.inj a1 (R.tup r hr))
  have perm_of : ∀ {L1 : List (Addr × List Int)}, (∀ q ∈ L1, q ∈ L) → (L1.map fun q => Value.ref q.1).Perm (L.map fun q => Value.ref q.1) → L1.Perm L := by
    intro L1 hs p1
    have nL := nodup_of_map R.nd
    have nref : (L.map fun q => Value.ref q.1).Nodup := List.pairwise_map.mpr (List.Pairwise.imp_of_mem (fun {q r} hq hr hne e => hne (one q hq r hr (Value.ref.inj e))) nL)
    have n1 : L1.Nodup := nodup_of_map ((List.Perm.nodup_iff p1).mpr nref)
    refine (List.perm_ext_iff_of_nodup n1 nL).mpr fun q => ⟨hs q, fun hq => ?_⟩
    obtain ⟨r, hr, e⟩ := List.mem_map.mp (p1.mem_iff.mpr (List.mem_map.mpr ⟨q, hq, rfl⟩))
    rw [← one r (hs r hr) q hq (Value.ref.inj e)]
    exact hr
  have cmp2 : ∀ {L1 : List (Addr × List Int)} {out : List Value}, out = L1.map (fun q => Value.ref q.1) → (∀ q ∈ L1, q ∈ L) → SrtO.Srtd (fun v u => ltI (k v) (k u)) out → L1.Pairwise fun q r => ltI r.2 q.2 = false := by
    intro L1 out e hs h
    rw [e] at h
    refine List.Pairwise.imp_of_mem (fun {q r} hq hr z => ?_) (List.pairwise_map.mp h)
    have z : ltI (k (.ref r.1)) (k (.ref q.1)) = false := z
    rwa [hk q (hs q hq), hk r (hs r hr)] at z
  refine wpAny_call_entry slot_list_sort ⟨_, hoL, rfl⟩ entry_list_sort ?_ (args_list_sort _)
  refine SrtO.list_sort_ord (ltI_swo k) hoL (Nat.le_trans (Nat.le_of_lt hvl) (by decide)) (fun h2 => rows_sortable (by omega) hkv (fun v hv e => ?_) fun o e => ?_) fun out hs st => ?_
  · -- unlike rows of no values can't be two
    have d0 : d = 0 := by rw [← (hkv v hv).2, e]; rfl
    obtain ⟨L1, e1, h1⟩ := ord of_vs
    have pL := perm_of h1 (e1 ▸ pm)
    have nd1 : (L1.map (·.2)).Nodup := (List.Perm.nodup_iff (pL.map _)).mpr R.nd
    rw [e1, List.length_map] at h2
    match L1, h2, nd1, h1 with
    | q :: r :: _, _, nd1, h1 =>
      rw [List.map_cons, List.map_cons, List.nodup_cons] at nd1
      have eq : q.2 = [] := List.length_eq_zero_iff.mp (by rw [hd q (h1 q List.mem_cons_self), d0])
      have er : r.2 = [] := List.length_eq_zero_iff.mp (by rw [hd r (h1 r (List.mem_cons_of_mem _ List.mem_cons_self)), d0])
      exact absurd (by rw [eq, er]; exact List.mem_cons_self) nd1.1
  · rw [hoL] at e
    cases e
    show Value.type "list" ≠ Value.type "tuple"
    decide +kernel
  · obtain ⟨L', e', hs'⟩ := ord (l := out) fun v hv => of_vs v (st.perm.mem_iff.mp hv)
    obtain ⟨c, hc⟩ := sortedHeap_at (out := out.toArray) hoL
    refine ⟨_, rfl, wpAny_pure ⟨_, rfl, ?_⟩⟩
    refine hQ _ s1.heap.objs.size out.toArray c L' (fun b u e => ?_) g1 o1 hz hc e' (perm_of hs' (e' ▸ st.perm.trans pm)) (cmp2 e' hs' hs)
    have hb := k1 b u e
    have hlt := Heap.lt_size hb
    show (sortedHeap (s1.heap.push (seqObj "list" vs.toArray 0)) s1.heap.objs.size vs out.toArray).get? b = some u
    rw [sortedHeap_old (Nat.ne_of_lt hlt) (by rw [Heap.size_push]; exact Nat.lt_succ_of_lt hlt)]
    exact Heap.get?_push_of_some _ hb
/-- sorted(rows), a set of rows -/
def rSortedS (K : W.Frag) (P : Program) (w : World) : List V → Hp → VK → Prop := fun vs H Q => ∃ a L d, vs = [.ref a] ∧ H a = some (SetTO P w a L) ∧ (∀ p ∈ L, SqT K H p.1 (p.2.map V.int)) ∧ (∀ p ∈ L, p.2.length = d) ∧
  ∀ (L' : List (Addr × List Int)) (p : Addr), L'.Perm L → (L'.map (·.2)).Nodup → L'.length < 64 → L'.Pairwise (fun q r => ltI r.2 q.2 = false) → H p = none → Q (.ref p) (upd H p (.lst (L'.map fun q => V.ref q.1)))
theorem cr_sortedS {X : Cx} (hc : X.calm = true) : CallR X (.builtin "sorted") (rSortedS X.K X.prog X.w) := by
  intro pins s σ H vs us Q I r h
  obtain ⟨a, L, d, rfl, ha, hk, hd, q⟩ := h
  have R0 : SetT0 X.prog X.w s.heap a L := (I.hok a _ ha).1
  obtain ⟨es, ep, t, R⟩ := R0.full fun p hp => I.isT (hk p hp)
  rw [Vals.ref1 r]
  refine sorted_rows R (I.ok.hd hc) hd fun s' p out c L' k g o hp hg hout pm pw => ?_
  have hfew : L'.length < 64 := by rw [pm.length_eq]; exact R.few
  have hn : H p = none := HOk.fresh I.hok hp
  have hv : Vals (L'.map fun q => V.ref q.1) out.toList := by rw [hout]; exact vals_of_refs L'
  have hlen : (L'.map fun q => V.ref q.1).length ≤ sizeLine := by rw [List.length_map]; exact TX.line100 (by omega)
  have J : Inv X pins σ (upd H p (.lst (L'.map fun q => V.ref q.1))) { heap := s'.heap, gens := s'.gens, drawn := s'.drawn, toks := s'.toks, os := s.os } := by
    refine Inv.call (ch := []) I (Un.laid k hp hn) (HOk.laid I.hok k hp ⟨hlen, _, c, hv, hg⟩) ?_ ?_
    · rw [g]
      exact I.bare
    · exact fun x z => nomatch z
  have e : s' = { heap := s'.heap, gens := s'.gens, drawn := s'.drawn, toks := s'.toks, os := s.os } := by
    cases s'
    cases s
    cases o
    rfl
  rw [e]
  exact ⟨.ref p, _, J, rfl, q L' p pm ((List.Perm.nodup_iff (pm.map _)).mpr R.nd) hfew pw hn⟩
/-! ### a row put into a set -/
theorem add_row {P : Program} {w : World} {A : Around} {E : Value → Shared → Prop} {s : Shared} {a : Addr} {L : List (Addr × List Int)} {es : Array (Int × Value)} {ep : Nat} {t : SetTable} {x : Addr} {k : List Int} {Q : Value → Shared → Prop}
    (R : SetTR P w s.heap a L es ep t) (hx : L2.IsT P w s.heap k x) (hu : A.units + 1 < cLine) (hl : L.length + 1 < 64)
    (hQ : ∀ (h' : Heap) (tk : Nat) (L' : List (Addr × List Int)) (es' : Array (Int × Value)) (ep' : Nat) (t' : SetTable), Heap.SameBut a s.heap h' → SetTR P w h' a L' es' ep' t' →
      (k ∈ L.map (·.2) → L' = L) → (k ∉ L.map (·.2) → L'.Perm ((x, k) :: L)) → Q .none { heap := h', gens := s.gens, drawn := s.drawn, toks := tk, os := s.os }) :
    wpAny (model P w) A (call (.builtin "set.add") [.ref a, .ref x]) Q E s := by
  obtain ⟨o, ho, hex, hd⟩ := id R.ob
  refine wpAny_call_entry F.slot_set_add ⟨o, ho, hex.1⟩ F.entry_set_add ?_ (F.args_set_add_2 _ _)
  show wpAny _ _ ((do let y ← setAdd a (.ref x); ret .none : Sem Fin)) _ _ _
  refine wpAny_bind (wpAny_holding (wpAny_bind (wpAny_pyHash_tuple hu hx ?_)))
  refine add_at (s := { heap := s.heap, gens := s.gens, drawn := s.drawn, toks := s.toks + (k.length + 1), os := s.os }) R hx hu hl fun b h' L' es' ep' t' sb R' h1 h2 => ?_
  exact wpAny_pure ⟨_, rfl, hQ h' _ L' es' ep' t' sb R' h1 h2⟩
theorem addT_ok {X : Cx} {pins : List (Addr × Obj)} {σ : L2.St} {H : Hp} {s : Shared} {E : Value → Shared → Prop} {D x : Addr} {L : List (Addr × List Int)} {k : List Int} {Q : Value → Shared → Prop} (hu : X.A.units + 1 < cLine) (I : Inv X pins σ H s)
    (hD : H D = some (SetTO X.prog X.w D L)) (hk : ∀ p ∈ L, SqT X.K H p.1 (p.2.map V.int)) (hx : SqT X.K H x (k.map V.int)) (room : L.length + 1 < 64)
    (h : ∀ (s' : Shared) (L' : List (Addr × List Int)), (k ∈ L.map (·.2) → L' = L) → (k ∉ L.map (·.2) → L'.Perm ((x, k) :: L)) → Inv X pins σ (upd H D (SetTO X.prog X.w D L')) s' → Q .none s') :
    wpAny (model X.prog X.w) X.A (call (.builtin "set.add") [.ref D, .ref x]) Q E s := by
  have R0 : SetT0 X.prog X.w s.heap D L := (I.hok D _ hD).1
  obtain ⟨es, ep, t, R⟩ := R0.full fun p hp => I.isT (hk p hp)
  refine add_row R (I.isT hx) hu room fun h' tk L' es' ep' t' sb R' h1 h2 => ?_
  refine h _ L' h1 h2 (Inv.write (e := D) I ?_ (.inl rfl) (fun b u hb hu => (sb.2 b hb).trans hu) ?_ (setTO_new R'.t0))
  · rw [hD]
    trivial
  · obtain ⟨o, ho, _⟩ := R'.ob
    exact ⟨o, ho⟩
/-! ### {row for .. in ..} -/
def tScT (K : W.Frag) (P : Program) (w : World) (wi : TI) (g : TG) (tt : TT) (te : TE) (vs : List Nat) : TE := fun σ H Q => wi σ H fun J H1 => ∀ D, H1 D = none → ∃ Wt : Nat → Nat → Hp → Prop, (∃ m, Wt 0 m (upd H1 D (SetTO P w D []))) ∧
  ∀ i m H, Wt i m H → (J.stop i H ∧ Q (.ref D) H) ∨ (J.go i H ∧ ∃ Nx : Hp → Prop, (∀ H', Nx H' → ∃ m', m' < m ∧ Wt (i + 1) m' H') ∧ ∀ x H', J.yld i H x H' → g x (wipe σ vs) H' fun σ2 H2 => wipe σ2 vs = wipe σ vs ∧
    tt σ2 H2 fun b H3 => if b = true then te σ2 H3 fun y H4 => ∃ (t : Addr) (k : List Int) (L : List (Addr × List Int)), y = .ref t ∧ SqT K H4 t (k.map V.int) ∧ H4 D = some (SetTO P w D L) ∧ (∀ p ∈ L, SqT K H4 p.1 (p.2.map V.int)) ∧ L.length + 1 < 64 ∧
      ∀ L' : List (Addr × List Int), (k ∈ L.map (·.2) → L' = L) → (k ∉ L.map (·.2) → L'.Perm ((t, k) :: L)) → Nx (upd H4 D (SetTO P w D L')) else Nx H3)
theorem sc_rows {X : Cx} {pins : List (Addr × Obj)} {s : Shared} {σ : L2.St} {H : Hp} {Q : VK} {elt tg iter : Expr} {ifs : List Expr} {scope : Scope} {own : List (Str × Nat)} {pos pos' : Pos} {wi : TI} {g : TG} {tt : TT} {te : TE} {use : Option (Value → Sem Unit)} {Qf : Value → Shared → Prop}
    (hu : X.A.units + 1 < cLine) (hc : X.calm = true) (hN : X.N.Nodup) (I : L2.Inv X pins σ H s) (hi : PI X tg iter wi) (ok : BlkOk X.N X.env.scope scope own)
    (hg : ∀ (s : Shared) (H : Hp) (C : Addr) (cl : List (Str × Addr)) (fp : List Addr), PG (X.blk s H scope (compEnvC scope cl C X.env) fp) tg g)
    (ht : ∀ (s : Shared) (H : Hp) (C : Addr) (cl : List (Str × Addr)) (fp : List Addr), PTs (X.blk s H scope (compEnvC scope cl C X.env) fp) ifs tt)
    (he : ∀ (s : Shared) (H : Hp) (C : Addr) (cl : List (Str × Addr)) (fp : List Addr), PE (X.blk s H scope (compEnvC scope cl C X.env) fp) elt te)
    (hs : ∀ x : Value, foldedSetIterable iter X.env x = pure x) (h : tScT X.K X.prog X.w wi g tt te (own.map (·.2)) σ H Q)
    (hRR : ∀ (D C : Addr) (s' : Shared) (m : Str → Option Value) (H' : Hp), L2.Inv X pins σ H' s' → Q (.ref D) H' → s'.heap.Ns C m → FpOk X pins H' C → compPost (model X.prog X.w) X.A X.xe use Qf (.ref D) C (.ok .next) s') :
    wpAny (model X.prog X.w) X.A (comprehension (elt.SetComp [⟨tg, iter, ifs, 0⟩] scope pos) scope X.env pos' (newSet (.type "set")) false (eval iter X.env) use) Qf X.xe s := by
  have hfree : ∀ y ∈ scope.names, y.2 = .free → ∃ c, List.lookup y.1 X.env.cells = some c := fun y hy e => (ok.free y hy e).elim (fun k => I.ok.has _ (.inl k)) fun k => I.ok.has _ (.inr k)
  refine wpAny_comprehension_free rfl hs (closure_ok hfree) ok.kind (fun y hy e => by rw [ok.uniq y hy, e]) ?_
  refine thn (hi.run pins s σ H _ I h) fun xv s1 hx => thn hx fun itv s2 h2 => ?_
  obtain ⟨it, fp, tn, J, H2, rfl, I2, T, st2, f2, q⟩ := h2
  refine PpSet.newSet_ok (newEnv_comp ?_)
  have hDn : H2 s2.heap.objs.size = none := HOk.fresh I2.hok (Nat.le_refl _)
  obtain ⟨Wt, ⟨m0, w0⟩, turn⟩ := q _ hDn
  have I3 : L2.Inv X pins σ (upd H2 s2.heap.objs.size (SetTO X.prog X.w s2.heap.objs.size [])) { heap := s2.heap.push { cls := .type "set", data := .set #[] 0 (SetTable.fresh 0 0 !X.w.params.followText "set-order") }, gens := s2.gens, drawn := s2.drawn, toks := s2.toks, os := s2.os } :=
    Inv.laid I2 (fun b o e => Heap.get?_push_of_some _ e) (Nat.le_refl _) (setTO_new (setTR_fresh (Heap.get?_push_size _ rfl)).t0)
  have sz : ∀ b ∈ fp, b < s2.heap.objs.size := fun b hb => by
    obtain ⟨o, e, _⟩ := T.obj 0 s2.heap st2 b hb
    exact Heap.lt_size e
  have k3 : ∀ (b : Addr) (o : Obj), s2.heap.get? b = some o → (s2.heap.push { cls := .type "set", data := .set #[] 0 (SetTable.fresh 0 0 !X.w.params.followText "set-order") }).get? b = some o := fun b o e => Heap.get?_push_of_some _ e
  have z3 : (s2.heap.push { cls := .type "set", data := .set #[] 0 (SetTable.fresh 0 0 !X.w.params.followText "set-order") }).objs.size = s2.heap.objs.size + 1 := Heap.size_push _ _
  generalize hs3 : ({ heap := s2.heap.push { cls := .type "set", data := .set #[] 0 (SetTable.fresh 0 0 !X.w.params.followText "set-order") }, gens := s2.gens, drawn := s2.drawn, toks := s2.toks, os := s2.os } : Shared) = s3 at I3 ⊢
  have k3' : ∀ (b : Addr) (o : Obj), s2.heap.get? b = some o → s3.heap.get? b = some o := by rw [← hs3]; exact k3
  have z3' : s3.heap.objs.size = s2.heap.objs.size + 1 := by rw [← hs3]; exact z3
  have f3 : ∀ b ∈ fp, FpOk X pins (upd H2 s2.heap.objs.size (SetTO X.prog X.w s2.heap.objs.size [])) b ∧ b < s3.heap.objs.size := fun b hb =>
    ⟨⟨by rw [upd_ne (Nat.ne_of_lt (sz b hb))]; exact (f2 b hb).1, (f2 b hb).2⟩, by rw [z3']; exact Nat.lt_succ_of_lt (sz b hb)⟩
  have st3 : tn 0 s3.heap := T.keep 0 _ _ st2 fun b _ o e => k3' b o e
  have I4 := block_start I3 ok hN f3
  have pg := hg s3 (upd H2 s2.heap.objs.size (SetTO X.prog X.w s2.heap.objs.size [])) s3.heap.objs.size (cellsFrom (s3.heap.objs.size + 1) scope.names (cloFrom X.env.cells scope.names [])) fp
  have pt := ht s3 (upd H2 s2.heap.objs.size (SetTO X.prog X.w s2.heap.objs.size [])) s3.heap.objs.size (cellsFrom (s3.heap.objs.size + 1) scope.names (cloFrom X.env.cells scope.names [])) fp
  have pe := he s3 (upd H2 s2.heap.objs.size (SetTO X.prog X.w s2.heap.objs.size [])) s3.heap.objs.size (cellsFrom (s3.heap.objs.size + 1) scope.names (cloFrom X.env.cells scope.names [])) fp
  show codeAny _ _ (Code.compStart _ 0 _ _ (compEnvC scope (cellsFrom (s3.heap.objs.size + 1) scope.names (cloFrom X.env.cells scope.names [])) s3.heap.objs.size X.env)) (compPost (model X.prog X.w) X.A X.xe use Qf (.ref s2.heap.objs.size) s3.heap.objs.size) _
  have cL : (compEnvC scope (cellsFrom (s3.heap.objs.size + 1) scope.names (cloFrom X.env.cells scope.names [])) s3.heap.objs.size X.env).locals = s3.heap.objs.size := rfl
  have hs4 : ∀ (b : Addr) (o : Obj), s3.heap.get? b = some o → (pushCells (s3.heap.push { cls := .type "dict", data := .dict #[] }) scope.names).get? b = some o := fun b o e => pushCells_keeps scope.names _ b o (Heap.get?_push_of_some _ e)
  generalize hce : compEnvC scope (cellsFrom (s3.heap.objs.size + 1) scope.names (cloFrom X.env.cells scope.names [])) s3.heap.objs.size X.env = ce at I4 pg pt pe cL ⊢
  have st4 : tn 0 (pushCells (s3.heap.push { cls := .type "dict", data := .dict #[] }) scope.names) := T.keep 0 _ _ st3 fun b _ o e => hs4 b o e
  have nfp : ∀ b ∈ fp, upd H2 s2.heap.objs.size (SetTO X.prog X.w s2.heap.objs.size []) b = none := fun b hb => (f3 b hb).1.1
  generalize upd H2 s2.heap.objs.size (SetTO X.prog X.w s2.heap.objs.size []) = H3 at w0 I3 f3 I4 pg pt pe nfp
  generalize hs4' : ({ heap := pushCells (s3.heap.push { cls := .type "dict", data := .dict #[] }) scope.names, gens := s3.gens, drawn := s3.drawn, toks := s3.toks, os := s3.os } : Shared) = s4 at I4 ⊢
  have st4' : tn 0 s4.heap := by rw [← hs4']; exact st4
  have stat : ∀ {σ' : L2.St} {H' : Hp} {s' : Shared}, L2.Inv (X.blk s3 H3 scope ce fp) [] σ' H' s' → (∀ b ∈ fp, H' b = none) → ∀ b ∈ fp, FpOk (X.blk s3 H3 scope ce fp) [] H' b := fun I' hn b hb =>
    ⟨hn b hb, (I'.ok.exf b hb).1, I'.ok.exfs b hb, .inl hb, (I'.ok.exf b hb).2, fun p hp => by simp [Cx.blk] at hp⟩
  have loop : codeAny (model X.prog X.w) X.A (Code.compLoop (elt.SetComp [⟨tg, iter, ifs, 0⟩] scope pos) 0 (.ref it) (.ref s2.heap.objs.size) ce) (compPost (model X.prog X.w) X.A X.xe use Qf (.ref s2.heap.objs.size) s3.heap.objs.size) s4 := by
    refine PpSet.compLoopS_any (fun n s' => ∃ i H', L2.Inv (X.blk s3 H3 scope ce fp) [] (wipe σ (own.map (·.2))) H' s' ∧ tn i s'.heap ∧ (∀ b ∈ fp, H' b = none) ∧ Wt i n H') ?_ m0 ⟨0, H3, I4, st4', nfp, w0⟩
    rintro n s5 ⟨i, H5, I5, st5, n5, w5⟩
    rcases turn i n H5 w5 with ⟨stop, qq⟩ | ⟨go, Nx, hNx, step⟩
    · refine thnF (T.done (X.blk s3 H3 scope ce fp) rfl rfl rfl hc i [] s5 _ H5 _ I5 (stat I5 n5) st5 stop) fun r s6 x => ?_
      obtain ⟨rfl, I6⟩ := x
      have I7 : L2.Inv X pins σ H5 s6 := Inv.call' (ch := fp) I3 I6.os I6.base I6.hok I6.bare fun b hb => ⟨(f3 b hb).1.2.2.2.1, (f3 b hb).1.2.1, (f3 b hb).1.2.2.2.2.1, (f3 b hb).1.2.2.2.2.2⟩
      have nC : H5 s3.heap.objs.size = none := by
        have z : H5 ce.locals = none := I6.free
        rwa [cL] at z
      obtain ⟨m, hn, _⟩ := I6.loc
      have hn : s6.heap.Ns ce.locals m := hn
      rw [cL] at hn
      exact hRR _ _ s6 m H5 I7 qq hn (I3.fpOk (Nat.le_refl _) nC)
    · refine thnF (T.item (X.blk s3 H3 scope ce fp) rfl rfl rfl hc i [] s5 _ H5 _ I5 (stat I5 n5) st5 go) fun r s6 x => ?_
      obtain ⟨u, rfl, h6⟩ := x
      refine thnF h6 fun _ s7 x => ?_
      obtain ⟨x, H7, I7, r7, y7, st7, n7⟩ := x
      have I7' := I7.pinned (stat I7 n7) (T.obj _ _ st7)
      refine thnF (pg.run _ s7 _ H7 x u _ I7' r7 (step x H7 y7)) fun _ s8 x => ?_
      obtain ⟨σ8, H8, I8, hw8, q8⟩ := x
      refine thnF (pt.run _ s8 σ8 H8 _ I8 q8) fun b s9 x => ?_
      obtain ⟨H9, I9, q9⟩ := x
      have fin : ∀ {s' : Shared} {H' : Hp}, L2.Inv (X.blk s3 H3 scope ce fp) ([] ++ pinsAt fp s7.heap) σ8 H' s' → Nx H' → ∃ m, m < n ∧ ∃ i H', L2.Inv (X.blk s3 H3 scope ce fp) [] (wipe σ (own.map (·.2))) H' s' ∧ tn i s'.heap ∧ (∀ b ∈ fp, H' b = none) ∧ Wt i m H' := by
        intro s' H' I' nx
        obtain ⟨m', hm, w'⟩ := hNx H' nx
        have pin' : ∀ b ∈ fp, ∀ o, s7.heap.get? b = some o → s'.heap.get? b = some o ∧ H' b = none := fun b hb o e => by
          have z := I'.pin (b, o) (List.mem_append_right _ (List.mem_append_right _ (mem_pinsAt hb e)))
          exact ⟨z.1, z.2.1⟩
        have hl : (wipe σ (own.map (·.2))).length = σ8.length := by
          rw [← hw8, wipe_length]
        refine ⟨m', hm, i + 1, H', I'.unpinned.weak hl (fun j v e => (wipe_some (hw8 ▸ e)).1), T.keep _ _ _ st7 (fun b hb o e => (pin' b hb o e).1), fun b hb => ?_, w'⟩
        obtain ⟨o, e, _⟩ := T.obj _ _ st7 b hb
        exact (pin' b hb o e).2
      cases b with
      | false =>
        rw [if_neg Bool.false_ne_true] at q9 ⊢
        exact fin I9 q9
      | true =>
        rw [if_pos rfl] at q9 ⊢
        refine thnF (pe.run _ s9 σ8 H9 _ I9 q9) fun z s10 x => ?_
        obtain ⟨y, H10, I10, ry, tt', k, L, rfl, hk, hD, hL, room, nx⟩ := x
        cases (show z = Value.ref tt' from ry)
        exact addT_ok (X := X.blk s3 H3 scope ce fp) hu I10 hD hL hk room fun s' L' h1 h2 I' => fin I' (nx L' h1 h2)
  exact PpSet.codeAny_compStart_set loop (T.self _ 0 _ _ _ st4' loop)
theorem pe_scT {X : Cx} {elt tg iter : Expr} {ifs : List Expr} {scope : Scope} {own : List (Str × Nat)} {pos : Pos} {wi : TI} {g : TG} {tt : TT} {te : TE} (hu : X.A.units + 1 < cLine) (hc : X.calm = true) (hN : X.N.Nodup) (hi : PI X tg iter wi) (ok : BlkOk X.N X.env.scope scope own)
    (hg : ∀ (s : Shared) (H : Hp) (C : Addr) (cl : List (Str × Addr)) (fp : List Addr), PG (X.blk s H scope (compEnvC scope cl C X.env) fp) tg g)
    (ht : ∀ (s : Shared) (H : Hp) (C : Addr) (cl : List (Str × Addr)) (fp : List Addr), PTs (X.blk s H scope (compEnvC scope cl C X.env) fp) ifs tt)
    (he : ∀ (s : Shared) (H : Hp) (C : Addr) (cl : List (Str × Addr)) (fp : List Addr), PE (X.blk s H scope (compEnvC scope cl C X.env) fp) elt te)
    (hs : ∀ x : Value, foldedSetIterable iter X.env x = pure x := by intros; rfl) : PE X (elt.SetComp [⟨tg, iter, ifs, 0⟩] scope pos) (tScT X.K X.prog X.w wi g tt te (own.map (·.2))) :=
  ⟨fun pins s σ H Q I h => by
    rw [PpSet.eval_SetComp]
    refine sc_rows hu hc hN I hi ok hg ht he hs h fun D C s' m H' I' q hn f => ?_
    obtain ⟨f0, f1, f2, f3, f4, f5⟩ := f
    exact ⟨m, hn, fun h'' sb => ⟨.ref D, H', Inv.turned I' (fun b o hb e => (sb.2 b hb).trans e) f0 f1 f3 f4 f5, rfl, q⟩⟩⟩
/-- a set of rows, the things walked one by one -/
theorem sc_walk {K : W.Frag} {P : Program} {w : World} {J : It} {n : Nat} {G : Hp → Prop} {Y : Nat → Hp → V → Hp → Prop} (wk : Walk J n G Y) {tgt : TG} {cond : TT} {te : TE} {own : List Nat} {slots : L2.St} {Hs : Hp} {D : Addr} {Qf : Hp → Prop}
    (Pw : Nat → Hp → Prop) (start : Pw 0 (upd Hs D (SetTO P w D []))) (good : ∀ i h, i ≤ n → Pw i h → G h)
    (turn : ∀ i v h h', i < n → Pw i h → Y i h v h' → tgt v (wipe slots own) h' fun s2 h2 => wipe s2 own = wipe slots own ∧ cond s2 h2 fun b h3 =>
      (if b = true then te s2 h3 fun y h4 => ∃ (t : Addr) (k : List Int) (L : List (Addr × List Int)), y = .ref t ∧ SqT K h4 t (k.map V.int) ∧ h4 D = some (SetTO P w D L) ∧ (∀ p ∈ L, SqT K h4 p.1 (p.2.map V.int)) ∧ L.length + 1 < 64 ∧
        ∀ L' : List (Addr × List Int), (k ∈ L.map (·.2) → L' = L) → (k ∉ L.map (·.2) → L'.Perm ((t, k) :: L)) → Pw (i + 1) (upd h4 D (SetTO P w D L')) else Pw (i + 1) h3))
    (fin : ∀ h, Pw n h → Qf h) :
    ∃ Wt : Nat → Nat → Hp → Prop, (∃ m, Wt 0 m (upd Hs D (SetTO P w D []))) ∧ ∀ i m h, Wt i m h → (J.stop i h ∧ Qf h) ∨ (J.go i h ∧ ∃ Nx : Hp → Prop, (∀ h', Nx h' → ∃ m', m' < m ∧ Wt (i + 1) m' h') ∧
      ∀ v h', J.yld i h v h' → tgt v (wipe slots own) h' fun s2 h2 => wipe s2 own = wipe slots own ∧ cond s2 h2 fun b h3 =>
        if b = true then te s2 h3 fun y h4 => ∃ (t : Addr) (k : List Int) (L : List (Addr × List Int)), y = .ref t ∧ SqT K h4 t (k.map V.int) ∧ h4 D = some (SetTO P w D L) ∧ (∀ p ∈ L, SqT K h4 p.1 (p.2.map V.int)) ∧ L.length + 1 < 64 ∧
          ∀ L' : List (Addr × List Int), (k ∈ L.map (·.2) → L' = L) → (k ∉ L.map (·.2) → L'.Perm ((t, k) :: L)) → Nx (upd h4 D (SetTO P w D L')) else Nx h3) := by
  refine ⟨fun i m h => i ≤ n ∧ m = n - i ∧ Pw i h, ⟨n, Nat.zero_le _, by simp, start⟩, ?_⟩
  rintro i m h ⟨hi, rfl, pw⟩
  have g := good i h hi pw
  rcases Nat.lt_or_ge i n with hlt | hge
  · exact .inr ⟨wk.goes i h hlt g, Pw (i + 1), fun h' p' => ⟨n - (i + 1), by omega, hlt, rfl, p'⟩, fun v h' y => turn i v h h' hlt pw (wk.yields i h v h' hlt g y)⟩
  · obtain rfl : i = n := by omega
    exact .inl ⟨wk.stops h g, fin h pw⟩
end TB

set_option maxHeartbeats 1000000
/-! Tuples: slices and sums of any kind read once; rows of whole numbers. -/
namespace TW
open PySem L2 PyProof.Rows TX
section
variable {K : PySem.W.Frag}
theorem cutV_whole {xs : List V} {lo hi : Option Int} (h : HT.sIx xs.length 0 lo = 0 ∧ HT.sIx xs.length xs.length hi = xs.length) : cutV xs lo hi = xs := by
  unfold cutV
  rw [h.1, h.2]
  simp
/-- t[lo:hi] -/
theorem sl_both {xs : List V} {lo hi : Option Int} {a : Addr} {H : Hp} {Q : VK} (h : H a = some (.tup xs)) (q : ∀ p H', Same H H' → H' p = some (.tup (cutV xs lo hi)) → Q (.ref p) H') : rSlA K (.ref a) lo hi H Q := by
  refine ⟨a, xs, rfl, .of h, fun w => q a H same_rfl ?_, fun _ p np => q p _ (Same.new np) upd_same⟩
  rw [h, cutV_whole w]
/-- t + u -/
theorem cat_both {xs ys : List V} {a b : Addr} {H : Hp} {Q : VK} (h : H a = some (.tup xs)) (k : H b = some (.tup ys)) (hl : xs.length + ys.length ≤ 1000) (q : ∀ p H', Same H H' → H' p = some (.tup (xs ++ ys)) → Q (.ref p) H') : rCatA K (.ref a) (.ref b) H Q := by
  refine ⟨a, b, xs, ys, rfl, rfl, .of h, .of k, line100 hl, fun e => ?_, fun _ e => ?_, fun _ _ p np => q p _ (Same.new np) upd_same⟩
  · subst e
    exact q b H same_rfl k
  · subst e
    refine q a H same_rfl ?_
    rw [h, List.append_nil]
theorem cut_take {xs : List V} {n : Nat} : cutV xs none (some (n : Int)) = xs.take n := by
  unfold cutV
  rw [HT.sIx_none, HT.sIx_nat, List.drop_zero, Nat.sub_zero]
  rcases Nat.le_total n xs.length with h | h
  · rw [Nat.min_eq_left h]
  · rw [Nat.min_eq_right h, List.take_of_length_le h, List.take_of_length_le (Nat.le_refl _)]
theorem cut_drop {xs : List V} {n : Nat} : cutV xs (some (n : Int)) none = xs.drop n := by
  unfold cutV
  rw [HT.sIx_none, HT.sIx_nat]
  rcases Nat.le_total n xs.length with h | h
  · rw [Nat.min_eq_left h, List.take_of_length_le (by rw [List.length_drop]; omega)]
  · rw [Nat.min_eq_right h, List.drop_of_length_le h, List.drop_of_length_le (Nat.le_refl _), List.take_nil]
theorem cut_mid {xs : List V} {n m : Nat} : cutV xs (some (n : Int)) (some (m : Int)) = (xs.drop n).take (m - n) := by
  unfold cutV
  rw [HT.sIx_nat, HT.sIx_nat]
  rcases Nat.le_total n xs.length with h | h
  · rw [Nat.min_eq_left h]
    rcases Nat.le_total m xs.length with h2 | h2
    · rw [Nat.min_eq_left h2]
    · rw [Nat.min_eq_right h2, List.take_of_length_le (Nat.le_of_eq List.length_drop), List.take_of_length_le (by rw [List.length_drop]; omega)]
  · rw [Nat.min_eq_right h, List.drop_of_length_le h, List.drop_of_length_le (Nat.le_refl _)]
    simp
end
/-- what a draw leaves as it was -/
theorem well_strs {H : Hp} {W l : Addr} {ns : List Str} (w : ∃ n, WellAt n H W) (h : H l = some (.lst (ns.map V.str))) : l ≠ W := by
  rintro rfl
  obtain ⟨n, a, b, c, e, _⟩ := w
  rw [h] at e
  cases ns with
  | nil => cases e
  | cons x r =>
    have e2 := Option.some.inj e
    injection e2 with e3
    rw [List.map_cons] at e3
    injection e3 with e4 _
    cases e4
theorem well_no {H : Hp} {W l : Addr} {o : HO} (w : ∃ n, WellAt n H W) (h : H l = some o) (k : ∀ xs, o ≠ .lst xs) : l ≠ W := by
  rintro rfl
  obtain ⟨n, a, b, c, e, _⟩ := w
  rw [h] at e
  exact k _ (Option.some.inj e)
theorem _root_.TX.TreeAt.sm {C W : Addr} {H H' : Hp} {p : Addr} {f : TM.Fo} (t : TreeAt C H p f) (s : Sm W H H') (w : ∃ n, WellAt n H W) : TreeAt C H' p f := by
  obtain ⟨dx, l, d, h1, h2, h3⟩ := t
  exact ⟨dx, l, d, s _ _ (well_no w h1 fun _ z => by cases z) h1, s _ _ (well_strs w h2) h2, s _ _ (well_no w h3 fun _ z => by cases z) h3⟩
theorem tup_sm {W : Addr} {H H' : Hp} {p : Addr} {xs : List V} (h : H p = some (.tup xs)) (s : Sm W H H') (w : ∃ n, WellAt n H W) : H' p = some (.tup xs) := s _ _ (well_no w h fun _ z => by cases z) h
/-- a whole number -/
def wholeV : V → Bool
  | .int _ => true
  | _ => false
/-- a value that no memory is asked for -/
def plainV : V → Bool
  | .int _ => true
  | .bl _ => true
  | .non => true
  | .str _ => true
  | _ => false
def numV : V → Bool
  | .int _ => true
  | .bl _ => true
  | _ => false
def truthV : V → Bool
  | .bl _ => true
  | _ => false
theorem whole_num (v : V) : wholeV v = (numV v && !truthV v) := by cases v <;> rfl
theorem plain_ty {K : PySem.W.Frag} {H : Hp} {v : V} (h : plainV v = true) : ∃ t, TyOf K H v (.type t) ∧ kitB t "int" = some (numV v) ∧ kitB t "bool" = some (truthV v) := by
  cases v with
  | int i => exact ⟨_, .int i, (by decide +kernel : kitB "int" "int" = some true), (by decide +kernel : kitB "int" "bool" = some false)⟩
  | bl b => exact ⟨_, .bl b, (by decide +kernel : kitB "bool" "int" = some true), (by decide +kernel : kitB "bool" "bool" = some true)⟩
  | non => exact ⟨_, .non, (by decide +kernel : kitB "NoneType" "int" = some false), (by decide +kernel : kitB "NoneType" "bool" = some false)⟩
  | str s => exact ⟨_, .str s, (by decide +kernel : kitB "str" "int" = some false), (by decide +kernel : kitB "str" "bool" = some false)⟩
  | _ => cases h
/-- a thing that may be a row of so many values; whether it is one -/
def RowLike (H : Hp) (v : V) (many : Nat) (b : Bool) : Prop :=
  (∃ a xs, v = .ref a ∧ H a = some (.tup xs) ∧ xs.length ≤ 100 ∧ xs.all plainV = true ∧ b = (decide (xs.length = many) && xs.all wholeV)) ∨
  (b = false ∧ (v = .non ∨ (∃ s, v = .str s) ∨ (∃ i, v = .int i) ∨ ∃ a xs, v = .ref a ∧ H a = some (.lst xs)))
theorem RowLike.same {H H' : Hp} {v : V} {many : Nat} {b : Bool} (h : RowLike H v many b) (s : Same H H') : RowLike H' v many b := by
  rcases h with ⟨a, xs, e1, e2, e3⟩ | ⟨e1, e2 | e2 | e2 | ⟨a, xs, e2, e3⟩⟩
  · exact .inl ⟨a, xs, e1, s _ _ e2, e3⟩
  · exact .inr ⟨e1, .inl e2⟩
  · exact .inr ⟨e1, .inr (.inl e2)⟩
  · exact .inr ⟨e1, .inr (.inr (.inl e2))⟩
  · exact .inr ⟨e1, .inr (.inr (.inr ⟨a, xs, e2, s _ _ e3⟩))⟩
/-- a row of whole numbers -/
theorem row_like {H : Hp} {a : Addr} {xs : List V} {n : Nat} (h : H a = some (.tup xs)) (hl : xs.length = n) (hn : n ≤ 100) (hw : xs.all wholeV = true) : RowLike H (.ref a) n true := by
  refine .inl ⟨a, xs, rfl, h, by omega, ?_, ?_⟩
  · rw [List.all_eq_true] at hw ⊢
    intro x hx
    have := hw x hx
    cases x <;> first | rfl | cases this
  · rw [decide_eq_true hl, hw]
    rfl
theorem row_of {H : Hp} {v : V} {n : Nat} (h : RowLike H v n true) : ∃ a xs, v = .ref a ∧ H a = some (.tup xs) ∧ xs.length = n ∧ xs.all wholeV = true := by
  rcases h with ⟨a, xs, e1, e2, e3, e4, e5⟩ | ⟨e1, _⟩
  · have := e5.symm
    rw [Bool.and_eq_true, decide_eq_true_iff] at this
    exact ⟨a, xs, e1, e2, this.1, this.2⟩
  · cases e1
end TW
namespace TM
open PySem L2
/-- beneath a name there is its part of the forest -/
theorem mk_loc : ∀ {t : List Pr} {seen : List Str} {u : Option Str} {c : Str} {a : List Str} {k : Fo}, Valid seen t → (∀ x, u = some x → x ∈ seen) → loc (mk t u) c = some (a, k) → mk t (some c) = k
  | [], _, u, c, a, k, _, _, h => by
    have h' : loc Fo.nil c = some (a, k) := h
    unfold loc at h'
    cases h'
  | (d, o) :: r, seen, u, c, a, k, ⟨h1, h2, h3⟩, hu, h => by
    have hin : ∀ {v : Option Str} {a' : List Str} {k' : Fo}, loc (mk r v) c = some (a', k') → c ∈ r.map Prod.fst := fun {v a' k'} g => by
      have := loc_mem g
      rw [← flat_names _ v] at this
      obtain ⟨p, hp, rfl⟩ := List.mem_map.mp this
      exact List.mem_map.mpr ⟨p, mk_sub hp, rfl⟩
    have out : c ∈ r.map Prod.fst → o ≠ some c := fun hc e => valid_notin h3 (List.mem_append_left _ (h2 c e)) hc
    have skip : o ≠ some c → mk ((d, o) :: r) (some c) = mk r (some c) := fun e => if_neg e
    by_cases ho : o = u
    · have e0 : mk ((d, o) :: r) u = .cons d (mk r (some d)) (mk r u) := if_pos ho
      rw [e0] at h
      rcases loc_cases h with ⟨rfl, rfl, rfl⟩ | ⟨_, b, rfl, g⟩ | ⟨_, _, g⟩
      · exact skip fun e => h1 (h2 d e)
      · rw [skip (out (hin g))]
        exact mk_loc h3 (fun x e => by cases e; simp) g
      · rw [skip (out (hin g))]
        exact mk_loc h3 (fun x e => List.mem_append_left _ (hu x e)) g
    · have e0 : mk ((d, o) :: r) u = mk r u := if_neg ho
      rw [e0] at h
      rw [skip (out (hin h))]
      exact mk_loc h3 (fun x e => List.mem_append_left _ (hu x e)) h
theorem ord_loc {ps : List Pr} {c : Str} {a : List Str} {k : Fo} (va : Valid [] ps) (h : loc (mk ps none) c = some (a, k)) : ord ps (some c) = names k := by
  unfold ord
  rw [mk_loc (u := none) va (fun _ e => by cases e) h]
end TM

set_option maxHeartbeats 1000000
/-! Things as data: equal to themselves. -/
namespace TD
open PySem L2 PyProof.Rows TX TW
/-- a plain value as data -/
def dV : V → PyData
  | .int i => .int i
  | .bl b => .bool b
  | .str s => .str s
  | _ => .none
theorem Dp_plain {K : PySem.W.Frag} {H : Hp} {v : V} (h : plainV v = true) : Dp K H v (dV v) := by
  cases v with
  | int i => exact .int i
  | bl b => exact .bl b
  | str s => exact .str s
  | non => exact .non
  | _ => cases h
theorem DpAll_plain {K : PySem.W.Frag} {H : Hp} : ∀ {xs : List V}, xs.all plainV = true → DpAll K H xs (xs.map dV)
  | [], _ => .nil
  | x :: r, h => by
    rw [List.all_cons, Bool.and_eq_true] at h
    exact .cons (Dp_plain h.1) (DpAll_plain h.2)
theorem Dp_tup {K : PySem.W.Frag} {H : Hp} {a : Addr} {xs : List V} (h : H a = some (.tup xs)) (p : xs.all plainV = true) : Dp K H (.ref a) (.tuple (xs.map dV)) := .tup (.of h) (DpAll_plain p)
theorem whole_plain {xs : List V} (h : xs.all wholeV = true) : xs.all plainV = true := by
  rw [List.all_eq_true] at h ⊢
  intro x hx
  have := h x hx
  cases x <;> first | rfl | cases this
/-- whole numbers alone -/
theorem can_whole {xs : List V} (h : xs.all wholeV = true) : PyData.canLayAll0 (xs.map dV) = true := by
  induction xs with
  | nil => rfl
  | cons x r ih =>
    rw [List.all_cons, Bool.and_eq_true] at h
    rw [List.map_cons]
    unfold PyData.canLayAll0
    rw [ih h.2]
    cases x <;> first | rfl | cases h.1
theorem dep_plain (xs : List V) : PyData.depthAll (xs.map dV) = 0 := by
  induction xs with
  | nil => rfl
  | cons x r ih =>
    rw [List.map_cons]
    unfold PyData.depthAll
    rw [ih]
    cases x <;> rfl
theorem can_tup {xs : List V} (h : xs.all wholeV = true) : PyData.canLay0 (.tuple (xs.map dV)) = true := by unfold PyData.canLay0; exact can_whole h
theorem dep_tup (xs : List V) : PyData.depth (.tuple (xs.map dV)) = 1 := by unfold PyData.depth; rw [dep_plain]
theorem shaped_of {d : PyData} (h : PyData.canLay0 d = true) (k : PyData.depth d ≤ 64) : SeqAt.shaped d = true := by
  unfold SeqAt.shaped
  rw [h, decide_eq_true k]
  rfl
theorem can2 {a b : PyData} (h : PyData.canLay0 a = true) (k : PyData.canLay0 b = true) : PyData.canLay0 (.tuple [a, b]) = true := by
  unfold PyData.canLay0 PyData.canLayAll0 PyData.canLayAll0 PyData.canLayAll0
  rw [h, k]
  rfl
theorem dep2 (a b : PyData) : PyData.depth (.tuple [a, b]) = 1 + max (PyData.depth a) (PyData.depth b) := by
  show PyData.depthAll [a, b] + 1 = _
  show max (PyData.depth a) (max (PyData.depth b) 0) + 1 = _
  omega
theorem canL {xs : List PyData} (h : ∀ x ∈ xs, PyData.canLay0 x = true) : PyData.canLay0 (.list xs) = true := by
  unfold PyData.canLay0
  induction xs with
  | nil => rfl
  | cons x r ih =>
    unfold PyData.canLayAll0
    rw [h x List.mem_cons_self, ih fun y hy => h y (List.mem_cons_of_mem _ hy)]
    rfl
theorem depL {xs : List PyData} {n : Nat} (h : ∀ x ∈ xs, PyData.depth x ≤ n) : PyData.depth (.list xs) ≤ n + 1 := by
  have : PyData.depthAll xs ≤ n := by
    induction xs with
    | nil => exact Nat.zero_le _
    | cons x r ih =>
      unfold PyData.depthAll
      have h1 := h x List.mem_cons_self
      have h2 := ih fun y hy => h y (List.mem_cons_of_mem _ hy)
      omega
  unfold PyData.depth
  omega
theorem eqv_same {d e : PyData} (h : PyData.canLay0 d = true) (k : d = e) : PyData.eqv d e = true := by
  subst k
  exact SeqAt.eqv_refl d h
end TD

set_option maxHeartbeats 2000000
/-! Rows, each once, rising; where tables stand. -/
namespace TG
open PySem L2 PyProof.Rows TX TB TD TW
theorem ltI_irr (a : List Int) : ltI a a = false := by
  cases h : ltI a a with
  | false => rfl
  | true => rw [ltI_asym h] at h; cases h
theorem ltI_trans {a b c : List Int} (h : ltI a b = true) (k : ltI b c = true) : ltI a c = true := by
  cases e : ltI a c with
  | true => rfl
  | false =>
    have := ltI_le (ltI_asym k) e
    rw [h] at this
    cases this
abbrev Rise (l : List (List Int)) : Prop := l.Pairwise fun a b => ltI a b = true
theorem Rise.nodup {l : List (List Int)} (h : Rise l) : l.Nodup := h.imp fun {a b} z e => by rw [e, ltI_irr] at z; cases z
theorem rise_of {l : List (List Int)} (n : l.Nodup) (h : l.Pairwise fun a b => ltI b a = false) : Rise l := by
  refine List.Pairwise.imp₂ (R := fun a b => a ≠ b) (S := fun a b => ltI b a = false) (fun a b hne hb => ?_) n h
  cases e : ltI a b with
  | true => rfl
  | false => exact absurd (ltI_anti e hb) hne
theorem rise_unique : ∀ {l m : List (List Int)}, Rise l → Rise m → (∀ x, x ∈ l ↔ x ∈ m) → l = m := by
  intro l m hl hm h
  refine TM.perm_eq (R := fun a b => ltI a b = true) (fun a b h1 h2 => ?_) ((List.perm_ext_iff_of_nodup hl.nodup hm.nodup).mpr h) hl hm
  rw [ltI_asym h1] at h2
  cases h2
def ins (x : List Int) : List (List Int) → List (List Int)
  | [] => [x]
  | y :: l => if x = y then y :: l else if ltI x y = true then x :: y :: l else y :: ins x l
theorem mem_ins {x z : List Int} : ∀ {l : List (List Int)}, z ∈ ins x l ↔ z = x ∨ z ∈ l
  | [] => by simp [ins]
  | y :: l => by
    unfold ins
    by_cases e : x = y
    · rw [if_pos e]
      subst e
      simp
    · rw [if_neg e]
      by_cases h : ltI x y = true
      · rw [if_pos h]
        simp
      · rw [if_neg h, List.mem_cons, mem_ins (l := l), List.mem_cons]
        constructor
        · rintro (h | h | h)
          · exact .inr (.inl h)
          · exact .inl h
          · exact .inr (.inr h)
        · rintro (h | h | h)
          · exact .inr (.inl h)
          · exact .inl h
          · exact .inr (.inr h)
theorem rise_ins {x : List Int} : ∀ {l : List (List Int)}, Rise l → Rise (ins x l)
  | [], _ => List.pairwise_singleton _ _
  | y :: l, h => by
    unfold ins
    have h' := List.pairwise_cons.mp h
    by_cases e : x = y
    · rw [if_pos e]
      exact h
    · rw [if_neg e]
      by_cases k : ltI x y = true
      · rw [if_pos k]
        refine List.pairwise_cons.mpr ⟨fun z hz => ?_, h⟩
        rcases List.mem_cons.mp hz with e | hz
        · rw [e]
          exact k
        · exact ltI_trans k (h'.1 z hz)
      · rw [if_neg k]
        refine List.pairwise_cons.mpr ⟨fun z hz => ?_, rise_ins h'.2⟩
        rcases mem_ins.mp hz with e2 | hz
        · rw [e2]
          cases k2 : ltI y x with
          | true => rfl
          | false => exact absurd (ltI_anti (by simpa using k) k2) e
        · exact h'.1 z hz
/-- rows, each once, rising -/
def norm (rs : List (List Int)) : List (List Int) := rs.foldr ins []
theorem mem_norm {rs : List (List Int)} {x : List Int} : x ∈ norm rs ↔ x ∈ rs := by
  unfold norm
  induction rs with
  | nil => simp
  | cons r rs ih => rw [List.foldr_cons, mem_ins, ih, List.mem_cons]
theorem rise_norm (rs : List (List Int)) : Rise (norm rs) := by
  unfold norm
  induction rs with
  | nil => exact List.Pairwise.nil
  | cons r rs ih => exact rise_ins ih
theorem norm_of {l rs : List (List Int)} (h : Rise l) (k : ∀ x, x ∈ l ↔ x ∈ rs) : l = norm rs := rise_unique h (rise_norm rs) fun x => (k x).trans mem_norm.symm
theorem norm_len (rs : List (List Int)) : (norm rs).length ≤ rs.length := by
  unfold norm
  have : ∀ (x : List Int) (l : List (List Int)), (ins x l).length ≤ l.length + 1 := by
    intro x l
    induction l with
    | nil => exact Nat.le_refl _
    | cons y l ih =>
      unfold ins
      split
      · exact Nat.le_succ _
      · split
        · exact Nat.le_refl _
        · rw [List.length_cons, List.length_cons]
          omega
  induction rs with
  | nil => exact Nat.le_refl _
  | cons r rs ih =>
    rw [List.foldr_cons, List.length_cons]
    have := this r (rs.foldr ins [])
    omega
theorem norm_filter (rs : List (List Int)) (p : List Int → Bool) : (norm rs).filter p = norm (rs.filter p) := norm_of ((rise_norm rs).filter p) fun x => by rw [List.mem_filter, List.mem_filter, mem_norm]
theorem norm_idem {l : List (List Int)} (h : Rise l) : norm l = l := (norm_of h fun _ => Iff.rfl).symm
theorem norm_norm (rs : List (List Int)) : norm (norm rs) = norm rs := norm_idem (rise_norm rs)
/-! ### where rows stand -/
abbrev RowsAt (H : Hp) : List Addr → List (List Int) → Prop := Paired fun a r => H a = some (.tup (r.map V.int))
theorem RowsAt.same {H H' : Hp} {as : List Addr} {rs : List (List Int)} (h : RowsAt H as rs) (s : Same H H') : RowsAt H' as rs := Paired.mapP h fun a q e => s a _ e
theorem RowsAt.put {H : Hp} {as : List Addr} {rs : List (List Int)} {p : Addr} {xs : List V} {o : HO} (h : RowsAt H as rs) (hp : H p = some (.lst xs)) : RowsAt (upd H p o) as rs :=
  Paired.mapP h fun a q e => by rw [upd_ne (ne_of e hp (by intro z; cases z))]; exact e
theorem RowsAt.sm {W : Addr} {H H' : Hp} {as : List Addr} {rs : List (List Int)} (h : RowsAt H as rs) (s : Sm W H H') (w : ∃ n, WellAt n H W) : RowsAt H' as rs := Paired.mapP h fun a q e => tup_sm e s w
theorem RowsAt.len {H : Hp} {as : List Addr} {rs : List (List Int)} (h : RowsAt H as rs) : as.length = rs.length := Paired.length h
theorem pr_snoc {α β : Type} {R : α → β → Prop} {as : List α} {bs : List β} {a : α} {b : β} (h : Paired R as bs) (r : R a b) : Paired R (as ++ [a]) (bs ++ [b]) := by
  induction h with
  | nil => exact .cons r .nil
  | cons h _ ih => exact .cons h ih
theorem pr_at {α β : Type} {R : α → β → Prop} {as : List α} {bs : List β} (h : Paired R as bs) : ∀ {i : Nat} {a : α}, as[i]? = some a → ∃ b, bs[i]? = some b ∧ R a b := by
  induction h with
  | nil => intro i a h; simp at h
  | cons hd _ ih =>
    intro i a h
    cases i with
    | zero =>
      rw [List.getElem?_cons_zero] at h
      cases h
      exact ⟨_, rfl, hd⟩
    | succ i => exact ih (by simpa using h)
theorem pr_by {α β : Type} {R : α → β → Prop} {as : List α} {bs : List β} (h : Paired R as bs) : ∀ {i : Nat} {b : β}, bs[i]? = some b → ∃ a, as[i]? = some a ∧ R a b := by
  induction h with
  | nil => intro i a h; simp at h
  | cons hd _ ih =>
    intro i a h
    cases i with
    | zero =>
      rw [List.getElem?_cons_zero] at h
      cases h
      exact ⟨_, rfl, hd⟩
    | succ i => exact ih (by simpa using h)
theorem pr_app {α β : Type} {R : α → β → Prop} {as as' : List α} {bs bs' : List β} (h : Paired R as bs) (k : Paired R as' bs') : Paired R (as ++ as') (bs ++ bs') := by
  induction h with
  | nil => exact k
  | cons h _ ih => exact .cons h ih
theorem pr_zip {α β : Type} {R : α → β → Prop} {as : List α} {bs : List β} (h : Paired R as bs) : ∀ p ∈ as.zip bs, R p.1 p.2 := by
  induction h with
  | nil => intro p hp; cases hp
  | cons hd _ ih =>
    intro p hp
    rcases List.mem_cons.mp hp with e | hp
    · rw [e]
      exact hd
    · exact ih p hp
theorem zip_fst {α β : Type} : ∀ {as : List α} {bs : List β}, as.length = bs.length → (as.zip bs).map (·.1) = as ∧ (as.zip bs).map (·.2) = bs
  | [], [], _ => ⟨rfl, rfl⟩
  | [], _ :: _, h => by cases h
  | _ :: _, [], h => by cases h
  | a :: as, b :: bs, h => by
    have := zip_fst (as := as) (bs := bs) (by simpa using h)
    rw [List.zip_cons_cons, List.map_cons, List.map_cons, this.1, this.2]
    exact ⟨rfl, rfl⟩
theorem of_zip {H : Hp} {L : List (Addr × List Int)} (h : ∀ p ∈ L, H p.1 = some (.tup (p.2.map V.int))) : RowsAt H (L.map (·.1)) (L.map (·.2)) := by
  induction L with
  | nil => exact .nil
  | cons p L ih => exact .cons (h p List.mem_cons_self) (ih fun q hq => h q (List.mem_cons_of_mem _ hq))
/-! ### rows as data -/
def dR (rs : List (List Int)) : PyData := .list (rs.map fun r => .tuple ((r.map V.int).map dV))
theorem whole_ints (r : List Int) : (r.map V.int).all wholeV = true := by
  rw [List.all_eq_true]
  intro v hv
  obtain ⟨i, _, rfl⟩ := List.mem_map.mp hv
  rfl
theorem DpRow {K : PySem.W.Frag} {H : Hp} {a : Addr} {r : List Int} (h : H a = some (.tup (r.map V.int))) : Dp K H (.ref a) (.tuple ((r.map V.int).map dV)) := Dp_tup h (whole_plain (whole_ints r))
theorem DpRows {K : PySem.W.Frag} {H : Hp} {a : Addr} {as : List Addr} {rs : List (List Int)} (h : H a = some (.lst (as.map V.ref))) (k : RowsAt H as rs) : Dp K H (.ref a) (dR rs) := by
  refine .lst (.of h) ?_
  clear h
  induction k with
  | nil => exact .nil
  | cons h _ ih => exact .cons (DpRow h) ih
theorem canRows (rs : List (List Int)) : PyData.canLay0 (dR rs) = true := canL fun d hd => by
  obtain ⟨r, _, rfl⟩ := List.mem_map.mp hd
  exact can_tup (whole_ints r)
theorem shRows (rs : List (List Int)) : SeqAt.shaped (dR rs) = true := by
  refine shaped_of (canRows rs) ?_
  have : PyData.depth (dR rs) ≤ 1 + 1 := depL fun d hd => by
    obtain ⟨r, _, rfl⟩ := List.mem_map.mp hd
    rw [dep_tup]
    exact Nat.le_refl _
  omega
theorem eqv_ints : ∀ (r q : List Int), PyData.eqvAll ((r.map V.int).map dV) ((q.map V.int).map dV) = decide (r = q)
  | [], [] => rfl
  | [], _ :: _ => rfl
  | _ :: _, [] => rfl
  | x :: r, y :: q => by
    rw [List.map_cons, List.map_cons, List.map_cons, List.map_cons]
    unfold PyData.eqvAll
    rw [eqv_ints r q]
    have : PyData.eqv (dV (V.int x)) (dV (V.int y)) = decide (x = y) := by
      show PyData.eqv (.int x) (.int y) = _
      unfold PyData.eqv
      by_cases h : x = y <;> simp [h]
    rw [this]
    by_cases h : x = y <;> by_cases h2 : r = q <;> simp [h, h2]
theorem eqv_row (r q : List Int) : PyData.eqv (.tuple ((r.map V.int).map dV)) (.tuple ((q.map V.int).map dV)) = decide (r = q) := by
  unfold PyData.eqv
  exact eqv_ints r q
theorem eqv_dR (rs qs : List (List Int)) : PyData.eqv (dR rs) (dR qs) = decide (rs = qs) := by
  unfold dR PyData.eqv
  induction rs generalizing qs with
  | nil => cases qs <;> rfl
  | cons r rs ih =>
    cases qs with
    | nil => rfl
    | cons q qs =>
      rw [List.map_cons, List.map_cons]
      unfold PyData.eqvAll
      rw [ih qs, eqv_row]
      by_cases h : r = q <;> by_cases h2 : rs = qs <;> simp [h, h2]
/-! ### where tables stand -/
def bflds (l r : Addr) : List (Str × V) := putF "_rows" (.ref r) (putF "_columns" (.ref l) [])
theorem kbc : ¬ (("_columns" : Str) = "_rows") := by decide +kernel
theorem bflds_col (l r : Addr) : (bflds l r).lookup ("_columns" : Str) = some (.ref l) := by
  unfold bflds
  rw [lookup_putF, if_neg kbc, lookup_putF, if_pos rfl]
theorem bflds_rows (l r : Addr) : (bflds l r).lookup ("_rows" : Str) = some (.ref r) := by
  unfold bflds
  rw [lookup_putF, if_pos rfl]
theorem bflds_no (l r : Addr) {m : Str} (h1 : ¬ m = "_rows") (h2 : ¬ m = "_columns") : (bflds l r).lookup m = none := by
  unfold bflds
  rw [lookup_putF, if_neg h1, lookup_putF, if_neg h2]
  rfl
/-- unlike names, not too many -/
structure Cs (cs : List Str) : Prop where
  nd : cs.Nodup
  le : cs.length ≤ 8
  ok : ∀ x ∈ cs, TM.NameOk x
/-- a table of these columns and rows -/
def TabAt (C : Addr) (H : Hp) (p : Addr) (cs : List Str) (rs : List (List Int)) : Prop := ∃ dx l r as, H p = some (.ins C dx (bflds l r)) ∧ H l = some (.lst (cs.map V.str)) ∧ H r = some (.lst (as.map V.ref)) ∧ RowsAt H as rs
theorem TabAt.same {C : Addr} {H H' : Hp} {p : Addr} {cs : List Str} {rs : List (List Int)} (t : TabAt C H p cs rs) (s : Same H H') : TabAt C H' p cs rs := by
  obtain ⟨dx, l, r, as, h1, h2, h3, h4⟩ := t
  exact ⟨dx, l, r, as, s _ _ h1, s _ _ h2, s _ _ h3, h4.same s⟩
/-- the class of tables -/
structure Bc (K : PySem.W.Frag) (mg : Str → Option Value) (C : Addr) : Prop where
  cl : Cls K C
  nC : NoAttr K C "_columns"
  nR : NoAttr K C "_rows"
  g : mg "Table" = some (.ref C)
  ins : Ic K C
end TG

/-! Sets of some thousands of things: what their tables' mathematics is. -/
namespace TBA
open PySem L2 PyProof.Rows
/-! ### i -> 5 i + 1 goes through all of a power of two -/
def geo : Nat → Nat
  | 0 => 0
  | k + 1 => geo k * 5 + 1
theorem geo_four : ∀ k, geo k * 4 + 1 = 5 ^ k
  | 0 => rfl
  | k + 1 => by
    have := geo_four k
    rw [Nat.pow_succ, ← this]
    show (geo k * 5 + 1) * 4 + 1 = _
    omega
theorem geo_add (a : Nat) : ∀ b, geo (a + b) = geo a * 5 ^ b + geo b
  | 0 => by simp [geo]
  | b + 1 => by
    show geo (a + b) * 5 + 1 = geo a * 5 ^ (b + 1) + (geo b * 5 + 1)
    rw [geo_add a b, Nat.pow_succ, Nat.add_mul, ← Nat.mul_assoc]
    omega
theorem geo_par : ∀ d, geo d % 2 = d % 2
  | 0 => rfl
  | d + 1 => by
    have := geo_par d
    show (geo d * 5 + 1) % 2 = (d + 1) % 2
    omega
theorem five_mod (e : Nat) : 5 ^ e % 4 = 1 := by
  rw [← geo_four]
  omega
theorem cop_odd (n q : Nat) : Nat.Coprime (2 ^ n) (2 * q + 1) := by
  refine Nat.Coprime.pow_left n ?_
  show Nat.gcd 2 (2 * q + 1) = 1
  rw [Nat.gcd_rec, show (2 * q + 1) % 2 = 1 by omega]
  rfl
theorem geo_dvd : ∀ n d, 2 ^ n ∣ geo d → 2 ^ n ∣ d
  | 0, d, _ => by simp
  | n + 1, d, h => by
    have h2 : geo d % 2 = 0 := Nat.mod_eq_zero_of_dvd (Nat.dvd_trans ⟨2 ^ n, by rw [Nat.pow_succ, Nat.mul_comm]⟩ h)
    obtain ⟨e, rfl⟩ : ∃ e, d = e + e := ⟨d / 2, by have := geo_par d; omega⟩
    obtain ⟨q, hq⟩ : ∃ q, 5 ^ e + 1 = 2 * (2 * q + 1) := ⟨5 ^ e / 4, by have := five_mod e; omega⟩
    have e1 : geo (e + e) = 2 * (geo e * (2 * q + 1)) := by
      have : geo e * 5 ^ e + geo e = geo e * (5 ^ e + 1) := by rw [Nat.mul_add, Nat.mul_one]
      rw [geo_add, this, hq, Nat.mul_left_comm]
    rw [e1, Nat.pow_succ, Nat.mul_comm] at h
    have h3 := Nat.dvd_of_mul_dvd_mul_left (by decide) h
    obtain ⟨c, hc⟩ := geo_dvd n e ((cop_odd n q).dvd_of_dvd_mul_right h3)
    exact ⟨c, by rw [Nat.pow_succ, Nat.mul_right_comm, ← hc]; omega⟩
/-- the masks: a power of two less one, no more than 8191 -/
def PowM (m : Nat) : Prop := ∃ n, 3 ≤ n ∧ n ≤ 13 ∧ m + 1 = 2 ^ n
theorem PowM.le {m : Nat} (h : PowM m) : m ≤ 8191 := by
  obtain ⟨n, _, h2, e⟩ := h
  have := Nat.pow_le_pow_right (n := 2) (by decide) h2
  omega
theorem PowM.odd {m : Nat} (h : PowM m) : m % 2 = 1 := by
  obtain ⟨n, h1, _, e⟩ := h
  obtain ⟨k, rfl⟩ : ∃ k, n = k + 1 := ⟨n - 1, by omega⟩
  rw [Nat.pow_succ] at e
  omega
theorem lcg_form (m i : Nat) (hi : i ≤ m) : ∀ k, lcgI m i k = (i * 5 ^ k + geo k) % (m + 1)
  | 0 => by
    show i = (i * 1 + 0) % (m + 1)
    rw [Nat.mul_one, Nat.add_zero, Nat.mod_eq_of_lt (Nat.lt_succ_of_le hi)]
  | k + 1 => by
    show (lcgI m i k * 5 + 1) % (m + 1) = _
    rw [lcg_form m i hi k, Nat.add_mod, Nat.mul_mod, Nat.mod_mod, ← Nat.mul_mod, ← Nat.add_mod]
    congr 1
    show _ = i * 5 ^ (k + 1) + (geo k * 5 + 1)
    rw [Nat.pow_succ, Nat.add_mul, Nat.mul_assoc]
    omega
theorem lcg_le (m i : Nat) (hi : i ≤ m) : ∀ k, lcgI m i k ≤ m
  | 0 => hi
  | _ + 1 => Nat.le_of_lt_succ (Nat.mod_lt _ (Nat.succ_pos _))
theorem lcg_then (m i k : Nat) : ∀ d, lcgI m i (k + d) = lcgI m (lcgI m i k) d
  | 0 => rfl
  | d + 1 => by
    show (lcgI m i (k + d) * 5 + 1) % (m + 1) = _
    rw [lcg_then m i k d]
    rfl
theorem lcg_unlike {m : Nat} (hm : PowM m) {x : Nat} (hx : x ≤ m) {d : Nat} (h0 : 0 < d) (hd : d ≤ m) : lcgI m x d ≠ x := by
  intro e
  obtain ⟨n, _, _, hp⟩ := hm
  rw [lcg_form m x hx] at e
  have e4 : x * 5 ^ d + geo d = x + geo d * (2 * (2 * x) + 1) := by
    rw [← geo_four d, Nat.mul_add, Nat.mul_add, Nat.mul_one, Nat.mul_one]
    have a1 : x * (geo d * 4) = 4 * (x * geo d) := by rw [← Nat.mul_assoc, Nat.mul_comm]
    have a2 : geo d * (2 * (2 * x)) = 4 * (x * geo d) := by rw [← Nat.mul_assoc 2 2 x, Nat.mul_left_comm, Nat.mul_comm (geo d) x]
    rw [a1, a2]
    omega
  have e5 : (x + geo d * (2 * (2 * x) + 1)) % (m + 1) = x % (m + 1) := by rw [← e4, e, Nat.mod_eq_of_lt (Nat.lt_succ_of_le hx)]
  have e6 := Nat.sub_mod_eq_zero_of_mod_eq e5
  rw [Nat.add_sub_cancel_left] at e6
  have e7 : 2 ^ n ∣ geo d * (2 * (2 * x) + 1) := by rw [← hp]; exact Nat.dvd_of_mod_eq_zero e6
  have e8 := geo_dvd n d ((cop_odd n _).dvd_of_dvd_mul_right e7)
  have := Nat.le_of_dvd h0 e8
  omega
theorem lcg_meets {m : Nat} (hm : PowM m) {i j : Nat} (hi : i ≤ m) (hj : j ≤ m) : ∃ k, k ≤ m ∧ lcgI m i k = j := by
  by_cases c : j ∈ (List.range (m + 1)).map (lcgI m i)
  · obtain ⟨k, hk, e⟩ := List.mem_map.mp c
    exact ⟨k, Nat.le_of_lt_succ (List.mem_range.mp hk), e⟩
  · exfalso
    have q := nat_nodup_len (j :: (List.range (m + 1)).map (lcgI m i)) (List.range (m + 1)) (List.nodup_cons.mpr ⟨c, ?_⟩) fun x hx => ?_
    · rw [List.length_cons, List.length_map, List.length_range] at q
      omega
    · refine List.pairwise_map.mpr (List.Pairwise.imp_of_mem (fun {a b} _ hb hlt e => ?_) List.pairwise_lt_range)
      obtain ⟨d, rfl⟩ : ∃ d, b = a + d := ⟨b - a, by omega⟩
      rw [lcg_then] at e
      exact lcg_unlike hm (lcg_le m i hi a) (by omega) (by have := List.mem_range.mp hb; omega) e.symm
    · rcases List.mem_cons.mp hx with e | hx
      · exact List.mem_range.mpr (by omega)
      · obtain ⟨k, _, e⟩ := List.mem_map.mp hx
        have := lcg_le m i hi k
        exact List.mem_range.mpr (by omega)
/-! ### the way of a search meets all places -/
theorem runs_meet {m : Nat} (hm : PowM m) (h : Int) {j : Nat} (hj : j ≤ m) : ∃ n, n ≤ m + 12 ∧ runI m (SetTable.bits h) n = j := by
  obtain ⟨k, hk, e⟩ := lcg_meets hm (runI_le m (SetTable.bits h) 12) hj
  exact ⟨12 + k, by omega, (runI_tail (bits_lt h) k).trans e⟩
theorem way_meets {m : Nat} (hm : PowM m) (h : Int) {j : Nat} (hj : j ≤ m) : ∃ k, k < 10 * SetTable.turns m ∧ way m h k = j := by
  obtain ⟨n, hn, e⟩ := runs_meet hm h hj
  obtain ⟨k, hk, e2⟩ := run_nth m (SetTable.bits h) n
  refine ⟨k, ?_, (congrArg SetTable.Probe.j e2).trans e⟩
  unfold SetTable.turns
  omega
theorem way_in (m : Nat) (h : Int) (k : Nat) : way m h k ≤ m := by
  have hi : SetTable.bits h % (m + 1) ≤ m := Nat.le_of_lt_succ (Nat.mod_lt _ (Nat.succ_pos _))
  have r := runEnd_bd hi
  have q := nth_in (m := m) k (runAt m (SetTable.bits h % (m + 1)) (SetTable.bits h)) (by
    show SetTable.bits h % (m + 1) + (SetTable.runEnd m (SetTable.bits h % (m + 1)) - SetTable.bits h % (m + 1)) ≤ m
    omega)
  show (nth m (runAt m (SetTable.bits h % (m + 1)) (SetTable.bits h)) k).j ≤ m
  omega
/-! ### tables -/
/-- from a hash one comes to the place, through taken ones -/
def Way (t : SetTable) (h : Int) (j : Nat) : Prop := ∃ k, way t.mask h k = j ∧ ∀ c, c < k → way t.mask h c ∈ t.place.toList
structure Tab (t : SetTable) (hs : List Int) : Prop where
  up : Ris t.place.toList
  nod : t.dummies = #[]
  len : t.place.size = hs.length
  pow : PowM t.mask
  low : ∀ x ∈ t.place.toList, x ≤ t.mask
  ways : ∀ (i : Nat) (h : Int) (j : Nat), hs[i]? = some h → t.place.toList[i]? = some j → Way t h j
theorem Tab.plen {t : SetTable} {hs : List Int} (T : Tab t hs) : t.place.toList.length = hs.length := Array.length_toList.trans T.len
/-- the first place on the way that isn't taken -/
theorem Tab.first {t : SetTable} {hs : List Int} (T : Tab t hs) (hl : hs.length ≤ t.mask) (h : Int) : ∃ K, K < 10 * SetTable.turns t.mask ∧ way t.mask h K ∉ t.place.toList ∧ ∀ c, c < K → way t.mask h c ∈ t.place.toList := by
  obtain ⟨j, hj, hn⟩ := st_missing t.place.toList (t.mask + 1) (by rw [T.plen]; omega)
  obtain ⟨k, hk, e⟩ := way_meets T.pow h (Nat.le_of_lt_succ hj)
  obtain ⟨K, h1, h2, h3⟩ := st_least (p := fun k => way t.mask h k ∉ t.place.toList) k (e ▸ hn)
  exact ⟨K, Nat.lt_of_le_of_lt h1 hk, h2, fun c hc => Classical.byContradiction (h3 c hc)⟩
theorem Tab.ahead {t : SetTable} {hs : List Int} (T : Tab t hs) {h : Int} {K i j : Nat} (hK : way t.mask h K ∉ t.place.toList) (hi : hs[i]? = some h) (hj : t.place.toList[i]? = some j) : ∃ k, k < K ∧ way t.mask h k = j := by
  obtain ⟨k, e, hb⟩ := T.ways i h j hi hj
  refine ⟨k, ?_, e⟩
  apply Classical.byContradiction
  intro c
  rcases Nat.lt_or_eq_of_le (Nat.le_of_not_lt c) with d | d
  · exact hK (hb K d)
  · rw [d, e] at hK
    exact hK (List.mem_of_getElem? hj)
theorem Tab.put {t : SetTable} {hs : List Int} (T : Tab t hs) {h : Int} {K j p : Nat} (hj : j = way t.mask h K) (hp : p = SetTable.below t.place j) (hK : j ∉ t.place.toList) (hb : ∀ c, c < K → way t.mask h c ∈ t.place.toList) :
    p ≤ hs.length ∧ Tab (t.put j).1 (hs.take p ++ h :: hs.drop p) ∧ (t.put j).1.fill = hs.length + 1 := by
  obtain ⟨c1, _, _⟩ := below_cut T.up j
  rw [← hp] at c1
  have pl : p ≤ t.place.toList.length := by rw [Array.length_toList]; exact c1
  have ph : p ≤ hs.length := by rw [← T.len]; exact c1
  have new : t.place[SetTable.below t.place j]? ≠ some j := fun e => hK (List.mem_of_getElem? (by rw [Array.getElem?_toList]; exact e))
  have pp : (t.put j).1.place.toList = t.place.toList.take p ++ j :: t.place.toList.drop p := by rw [hp]; exact put_place t j
  have sz : (t.put j).1.place.size = hs.length + 1 := by rw [← Array.length_toList, pp, len_ins _ pl, T.plen]
  have more : ∀ {x : Nat}, x ∈ t.place.toList → x ∈ (t.put j).1.place.toList := fun {x} hx => by rw [pp]; exact L2.mem_ins.2 (.inr hx)
  have stay : ∀ {g : Int} {y : Nat}, Way t g y → Way (t.put j).1 g y := fun ⟨k, e, z⟩ => ⟨k, e, fun c hc => more (z c hc)⟩
  refine ⟨ph, ⟨ris_insert T.up new, put_dm T.nod j, by rw [len_ins _ ph]; exact sz, T.pow, fun x hx => ?_, fun i g y h1 h2 => ?_⟩, ?_⟩
  · rw [pp] at hx
    rcases L2.mem_ins.1 hx with rfl | z
    · rw [hj]
      exact way_in _ _ _
    · exact T.low x z
  · rw [tins_get hs ph] at h1
    rw [pp, tins_get _ pl] at h2
    by_cases c : i < p
    · rw [if_pos c] at h1 h2
      exact stay (T.ways i g y h1 h2)
    · rw [if_neg c] at h1 h2
      by_cases d : i = p
      · rw [if_pos d] at h1 h2
        cases h1
        cases h2
        exact ⟨K, hj.symm, fun c hc => more (hb c hc)⟩
      · rw [if_neg d] at h1 h2
        exact stay (T.ways (i - 1) g y h1 h2)
  · show (t.put j).1.place.size + (t.put j).1.dummies.size = hs.length + 1
    rw [sz, put_dm T.nod j]
    rfl
/-! ### laid anew -/
theorem free_meets {m : Nat} (hm : PowM m) (owner : Array (Option Nat)) (h : Int) {j : Nat} (hj : j ≤ m) (hf : oAt owner j = none) :
    ∃ K, SetTable.layClean.free m owner (SetTable.turns m) (SetTable.bits h % (m + 1)) (SetTable.bits h) = some (way m h K) ∧ oAt owner (way m h K) = none ∧ ∀ c, c < K → oAt owner (way m h c) ≠ none := by
  obtain ⟨n, hn, e⟩ := runs_meet hm h hj
  generalize ho : off m (SetTable.bits h % (m + 1)) (SetTable.bits h) n = o
  have hw : way m h o = j := by
    rw [← ho]
    show SetTable.Probe.j (nth m _ (off m _ _ n)) = j
    rw [nth_off, itL_run]
    exact e
  obtain ⟨K, k1, k2, k3⟩ := st_least (p := fun k => oAt owner (way m h k) = none) o (by show oAt owner (way m h o) = none; rw [hw]; exact hf)
  refine ⟨K, free_spec m owner (SetTable.turns m) n _ _ K (by unfold SetTable.turns; omega) (by rw [ho]; exact k1) (fun c hc => ?_) ?_, k2, k3⟩
  · cases z : oAt owner (nth m (runAt m (SetTable.bits h % (m + 1)) (SetTable.bits h)) c).j with
    | none => exact absurd z (k3 c hc)
    | some _ => rfl
  · have q : oAt owner (way m h K) = none := k2
    exact Option.isNone_iff_eq_none.mpr q
theorem own_more {m : Nat} (hm : PowM m) {done : List Int} {owner : Array (Option Nat)} (W : Own m done owner) (hl : done.length ≤ m) (h : Int) :
    ∃ j, SetTable.layClean.free m owner (SetTable.turns m) (SetTable.bits h % (m + 1)) (SetTable.bits h) = some j ∧ Own m (done ++ [h]) (owner.setIfInBounds j (some done.length)) := by
  obtain ⟨ps, lp, hin⟩ := W.ps
  obtain ⟨j0, h0, n0⟩ := st_missing ps (m + 1) (by omega)
  have hj0 : oAt owner j0 = none := Classical.byContradiction fun z => n0 (hin j0 (Nat.le_of_lt_succ h0) z)
  obtain ⟨K, e1, e2, e3⟩ := free_meets hm owner h (Nat.le_of_lt_succ h0) hj0
  generalize hy : way m h K = y at e1 e2
  have ym : y ≤ m := hy ▸ way_in m h K
  have self := oAt_set_self (some done.length) (show y < owner.size by rw [W.sz]; omega)
  have mono : ∀ {i : Nat}, oAt owner i ≠ none → oAt (owner.setIfInBounds y (some done.length)) i ≠ none := fun {i} hi => by
    by_cases c : i = y
    · rw [c, self]
      exact fun e => nomatch e
    · rwa [oAt_set_ne _ c]
  refine ⟨y, e1, ⟨?_, fun j k hj e => ?_, fun k hk => ?_, y :: ps, ?_, fun j hj e => ?_⟩⟩
  · rw [Array.size_setIfInBounds]
    exact W.sz
  · by_cases c : j = y
    · rw [c, self] at e
      cases e
      exact ⟨h, K, by simp, hy.trans c.symm, fun c hc => mono (e3 c hc)⟩
    · rw [oAt_set_ne _ c] at e
      obtain ⟨g, K', a1, a2, a3⟩ := W.at_ j k hj e
      exact ⟨g, K', (List.getElem?_append_left (List.getElem?_eq_some_iff.mp a1).1).trans a1, a2, fun c hc => mono (a3 c hc)⟩
  · by_cases c : k = done.length
    · exact ⟨y, ym, by rw [self, c]⟩
    · obtain ⟨j, hj, e⟩ := W.all k (by simp at hk; omega)
      exact ⟨j, hj, by rw [oAt_set_ne _ (fun z => by rw [z, e2] at e; cases e)]; exact e⟩
  · simp [lp]
  · by_cases c : j = y
    · exact c ▸ List.mem_cons_self
    · rw [oAt_set_ne _ c] at e
      exact List.mem_cons_of_mem _ (hin j hj e)
theorem lay_all {m : Nat} (hm : PowM m) : ∀ (rest done : List Int) (owner : Array (Option Nat)), Own m done owner → done.length + rest.length ≤ m →
    ∃ o2, rest.foldl (stepF m) (some (owner, done.length)) = some (o2, (done ++ rest).length) ∧ Own m (done ++ rest) o2
  | [], done, owner, W, _ => ⟨owner, by simp, by simpa using W⟩
  | h :: rest, done, owner, W, hl => by
    rw [List.length_cons] at hl
    obtain ⟨j, e, W'⟩ := own_more hm W (by omega) h
    have e1 : (done ++ [h]).length = done.length + 1 := by simp
    obtain ⟨o2, f, W2⟩ := lay_all hm rest (done ++ [h]) _ W' (by omega)
    have e2 : done ++ [h] ++ rest = done ++ h :: rest := by simp
    rw [e2] at f W2
    rw [e1] at f
    exact ⟨o2, by rw [List.foldl_cons, stepF_some e]; exact f, W2⟩
theorem laid_clean {m : Nat} (hm : PowM m) {hs : Array Int} (hn : hs.size ≤ m) : ∃ owner, SetTable.layClean m hs = some owner ∧ Own m hs.toList owner := by
  obtain ⟨owner, f, W⟩ := lay_all hm hs.toList [] _ (Own.init m) (by simpa using hn)
  rw [List.nil_append] at W f
  refine ⟨owner, ?_, W⟩
  rw [layClean_eq]
  exact congrArg (Option.map (·.1)) f
theorem laid_anew (t : SetTable) {hs : Array Int} {wanted M : Nat} (hw : SetTable.sizeAbove wanted - 1 = M) (hM : PowM M) (hn : hs.size ≤ M) :
    ∃ t2 order, t.relaid hs wanted = some (t2, order) ∧ order.toList.Perm (List.range hs.size) ∧ Tab t2 (order.toList.map fun i => hs.getD i 0) ∧ t2.mask = M ∧ t2.led = t.led ∧ t2.plain = t.plain := by
  obtain ⟨owner, e, W⟩ := laid_clean hM hn
  have hr : t.relaid hs wanted = some (tabOf t M owner, ((liveOf M owner).map (·.2)).toArray) := by
    rw [relaid_eq, hw, e]
    rfl
  obtain ⟨r1, r2⟩ := ris_live (fun j => owner.getD j none) (List.range (M + 1)) List.pairwise_lt_range
  have r1 : Ris ((liveOf M owner).map (·.1)) := r1
  have r2 : ∀ x ∈ (liveOf M owner).map (·.1), x ∈ List.range (M + 1) := r2
  have hz : hs.toList.length = hs.size := rfl
  have all : ∀ k, k < hs.size → k ∈ (liveOf M owner).map (·.2) := fun k hk => by
    obtain ⟨j, b1, b2⟩ := W.all k hk
    exact List.mem_map.mpr ⟨(j, k), (mem_live W.sz).2 ⟨b1, b2⟩, rfl⟩
  have len : (liveOf M owner).length = hs.size := by
    obtain ⟨ps, p1, p2⟩ := W.ps
    have nd : ((liveOf M owner).map (·.1)).Nodup := List.Pairwise.imp (fun h => Nat.ne_of_lt h) r1
    have a := nat_nodup_len ((liveOf M owner).map (·.1)) ps nd fun x hx => by
      obtain ⟨⟨y, k⟩, hq, rfl⟩ := List.mem_map.mp hx
      obtain ⟨b1, b2⟩ := (mem_live W.sz).1 hq
      exact p2 y b1 (by rw [b2]; exact fun z => nomatch z)
    have b := nat_nodup_len (List.range hs.size) ((liveOf M owner).map (·.2)) List.nodup_range fun k hk => all k (List.mem_range.mp hk)
    rw [List.length_map, p1] at a
    rw [List.length_map, List.length_range] at b
    omega
  refine ⟨tabOf t M owner, _, hr, perm_range hs.size _ ?_ all, ⟨r1, rfl, ?_, hM, fun x hx => Nat.le_of_lt_succ (List.mem_range.mp (r2 x hx)), fun i h j h1 h2 => ?_⟩, rfl, rfl, rfl⟩
  · show ((liveOf M owner).map (·.2)).length = hs.size
    rw [List.length_map]
    exact len
  · show ((liveOf M owner).map (·.1)).toArray.size = (((liveOf M owner).map (·.2)).map fun i => hs.getD i 0).length
    simp
  · have h1 : (((liveOf M owner).map (·.2)).map fun i => hs.getD i 0)[i]? = some h := h1
    have h2 : ((liveOf M owner).map (·.1))[i]? = some j := h2
    rw [List.map_map, List.getElem?_map] at h1
    rw [List.getElem?_map] at h2
    obtain ⟨⟨y, k⟩, hq, rfl⟩ := Option.map_eq_some_iff.mp h2
    rw [hq] at h1
    obtain ⟨b1, b2⟩ := (mem_live W.sz).1 (List.mem_of_getElem? hq)
    obtain ⟨g, K, a1, a2, a3⟩ := W.at_ y k b1 b2
    have e0 : hs.getD k 0 = g := by rw [Array.getD_eq_getD_getElem?, ← Array.getElem?_toList, a1]; rfl
    have e1 : g = h := e0.symm.trans (Option.some.inj h1)
    subst e1
    refine ⟨K, a2, fun c hc => ?_⟩
    show way M g c ∈ (liveOf M owner).map (·.1)
    cases z : oAt owner (way M g c) with
    | none => exact absurd z (a3 c hc)
    | some k2 => exact List.mem_map.mpr ⟨(way M g c, k2), (mem_live W.sz).2 ⟨way_in M g c, z⟩, rfl⟩
/-! ### how great the next one is -/
theorem above_go : ∀ (fuel size n w : Nat), size = 2 ^ n → w < 2 ^ (n + fuel) → ∃ k, n ≤ k ∧ SetTable.sizeAbove.go w fuel size = 2 ^ k ∧ w < 2 ^ k ∧ (k = n ∨ 2 ^ k ≤ 2 * w)
  | 0, size, n, w, e, h => ⟨n, Nat.le_refl _, by unfold SetTable.sizeAbove.go; exact e, h, .inl rfl⟩
  | f + 1, size, n, w, e, h => by
    unfold SetTable.sizeAbove.go
    by_cases c : size ≤ w
    · rw [if_pos c]
      obtain ⟨k, h1, h2, h3, h4⟩ := above_go f (size * 2) (n + 1) w (by rw [e, Nat.pow_succ]) (by rw [show n + 1 + f = n + (f + 1) by omega]; exact h)
      refine ⟨k, by omega, h2, h3, .inr ?_⟩
      rcases h4 with rfl | h4
      · rw [Nat.pow_succ, ← e]
        omega
      · exact h4
    · rw [if_neg c]
      exact ⟨n, Nat.le_refl _, e, by omega, .inl rfl⟩
theorem above_size {w : Nat} (h : w < 2 ^ 67) : ∃ k, 3 ≤ k ∧ SetTable.sizeAbove w = 2 ^ k ∧ w < 2 ^ k ∧ (k = 3 ∨ 2 ^ k ≤ 2 * w) := above_go 64 8 3 w rfl h
/-- a table that is too full, of fewer than two thousand things, is laid anew large enough -/
theorem next_mask {u m : Nat} (hu : u < 2000) (hm : PowM m) (hf : 3 * m ≤ u * 5) (hb : (u - 1) * 5 < m * 3) : ∃ M, SetTable.sizeAbove (SetTable.grown u) - 1 = M ∧ PowM M ∧ SetTable.sizeAbove (SetTable.grown u) ≤ 8192 ∧ u * 5 < M * 3 := by
  have hg : SetTable.grown u = u * 4 := by
    unfold SetTable.grown
    rw [if_neg (by omega)]
  obtain ⟨k, k1, k2, k3, k4⟩ := above_size (w := u * 4) (by have : (2 : Nat) ^ 67 = 147573952589676412928 := by decide
                                                            omega)
  obtain ⟨n, n1, n2, n3⟩ := hm
  have hm2 : m ≤ 2047 := by
    apply Classical.byContradiction
    intro c
    have : 12 ≤ n := by
      apply Classical.byContradiction
      intro d
      have := Nat.pow_le_pow_right (n := 2) (by decide) (show n ≤ 11 by omega)
      omega
    have := Nat.pow_le_pow_right (n := 2) (by decide) this
    omega
  have k13 : k ≤ 13 := by
    rcases k4 with rfl | k4
    · omega
    · apply Classical.byContradiction
      intro c
      have := Nat.pow_le_pow_right (n := 2) (by decide) (show 14 ≤ k by omega)
      omega
  rw [hg, k2]
  have p13 := Nat.pow_le_pow_right (n := 2) (by decide) k13
  exact ⟨2 ^ k - 1, rfl, ⟨k, k1, k13, by omega⟩, by omega, by omega⟩
end TBA

set_option maxHeartbeats 2000000
/-! Sets of fewer than two thousand things of a kind (tuples of whole numbers, nested ones): search, put in, laid anew. -/
namespace TBS
open PySem PySem.Spec L2 PyProof.Rows TBA
/-- a kind of things by which sets and dicts are kept -/
structure Kd (P : Program) (w : World) (K : Type) [DecidableEq K] where
  hk : HeapKind P w K
  rm : ∀ A : Around, A.units + 16 < cLine → hk.room A
  tup : ∀ {h : Heap} {k : K} {a : Addr}, hk.is h k a → ∃ o, h.get? a = some o ∧ o.cls = .type "tuple"
  keep : ∀ {h h' : Heap} {k : K} {a : Addr}, hk.is h k a → (∀ b o, h.get? b = some o → o.cls = .type "tuple" → h'.get? b = some o) → hk.is h' k a
  ofc : ∀ {A : Around} {E : Value → Shared → Prop} {s : Shared} {k : K} {b : Addr} {Q : Bool → Shared → Prop}, hk.is s.heap k b → Q false s → wpAny (model P w) A (ofAClassStatement 8 (.ref b)) Q E s
  byv : ∀ {A : Around} {E : Value → Shared → Prop} {s : Shared} {k : K} {b : Addr} {Q : Bool → Shared → Prop}, hk.is s.heap k b → Q true s → wpAny (model P w) A (hashByValue 8 (.ref b)) Q E s
section
variable {P : Program} {w : World} {K : Type} [DecidableEq K] (kd : Kd P w K)
def ents (L : List (Addr × K)) : List (Int × Value) := L.map fun p => (kd.hk.hash p.2, Value.ref p.1)
structure SetB (h : Heap) (a : Addr) (L : List (Addr × K)) (es : Array (Int × Value)) (ep : Nat) (t : SetTable) : Prop where
  obj : ∃ o, h.get? a = some o ∧ o.ExactSet ∧ o.data = .set es ep t
  ens : es.toList = ents kd L
  tab : Tab t (L.map fun p => kd.hk.hash p.2)
  one : (L.map (·.2)).Nodup
  are : ∀ p ∈ L, kd.hk.is h p.2 p.1
  pln : t.plain = true
  ldg : w.params.followText "set-order" = true ∨ t.led = true
  gap : L.length * 5 < t.mask * 3
  low : L.length < 2000
end
section
variable {P : Program} {w : World} {K : Type} [DecidableEq K] {kd : Kd P w K} {A : Around} {E : Value → Shared → Prop} {s : Shared} {a : Addr} {L : List (Addr × K)} {es : Array (Int × Value)} {ep : Nat} {t : SetTable}
theorem ents_len {L : List (Addr × K)} {es : Array (Int × Value)} (e : es.toList = ents kd L) : es.size = L.length := by
  rw [← Array.length_toList, e]
  exact List.length_map _
theorem SetB.size {h : Heap} (S : SetB kd h a L es ep t) : es.size = L.length := ents_len S.ens
theorem fits_of {n : Nat} {hs : List Int} (T : Tab t hs) (e : hs.length = n) (l : n ≤ t.mask) : t.fits n = true := by
  unfold SetTable.fits SetTable.fill
  rw [T.nod, T.len, e, Bool.and_eq_true, beq_iff_eq, decide_eq_true_eq]
  exact ⟨rfl, l⟩
theorem SetB.fits {h : Heap} (S : SetB kd h a L es ep t) : t.fits es.size = true := fits_of S.tab (by rw [List.length_map, S.size]) (by have := S.gap; rw [S.size]; omega)
theorem SetB.ent {h : Heap} (S : SetB kd h a L es ep t) {i : Nat} {p : Addr × K} (e : L[i]? = some p) : es[i]? = some (kd.hk.hash p.2, Value.ref p.1) := by
  rw [← Array.getElem?_toList, S.ens]
  unfold ents
  rw [List.getElem?_map, e]
  rfl
theorem SetB.stays {h : Heap} (S : SetB kd h a L es ep t) : ¬ t.gaveWay = true := by
  unfold SetTable.gaveWay
  rw [S.tab.pow.odd]
  decide
/-- what is asked of the things on the way can't be seen -/
theorem seen_none {x : Addr} {k : K} {Q : Bool → Shared → Prop} (hx : kd.hk.is s.heap k x) {ys : List Value} (hy : ∀ y ∈ ys, ∃ k' c, y = Value.ref c ∧ kd.hk.is s.heap k' c) (q : Q false s) :
    wpAny (model P w) A (searchCouldBeSeen (.ref x) ys) Q E s := by
  unfold searchCouldBeSeen
  refine wpAny_bind (wpAny_forIn_list _ (fun left r s1 => r.1 = none ∧ s1 = s ∧ ∀ y ∈ left, ∃ k' c, y = Value.ref c ∧ kd.hk.is s.heap k' c) _ ?_ ?_ _ _ ⟨rfl, rfl, hy⟩)
  · rintro v left r s1 ⟨e, rfl, al⟩
    obtain ⟨k', c, rfl, hc⟩ := al v List.mem_cons_self
    have al2 : ∀ y ∈ left, ∃ k' c, y = Value.ref c ∧ kd.hk.is s1.heap k' c := fun u hu => al u (List.mem_cons_of_mem _ hu)
    dsimp only
    by_cases hv : (x == c || (carriedByValue (.ref x) && carriedByValue (.ref c))) = true
    · exact wp_if_pos hv (wpAny_pure ⟨rfl, rfl, al2⟩)
    · refine wp_if_neg hv (wpAny_bind (kd.hk.quiet hx ?_))
      simp only [Bool.not_true, Bool.false_eq_true, if_false]
      refine wpAny_bind (kd.hk.quiet hc ?_)
      simp only [Bool.not_true, Bool.false_eq_true, if_false]
      refine wpAny_bind (kd.ofc hx ?_)
      simp only [Bool.false_eq_true, if_false]
      refine wpAny_bind (kd.ofc hc ?_)
      simp only [Bool.false_eq_true, if_false]
      exact wpAny_pure ⟨rfl, rfl, al2⟩
  · rintro ⟨r1, r2⟩ s1 ⟨e, rfl, _⟩
    cases (show r1 = none from e)
    exact wpAny_pure q
abbrev begin_ (m : Nat) (h : Int) : SetTable.Probe := runAt m (SetTable.bits h % (m + 1)) (SetTable.bits h)
theorem nth_dummy (m : Nat) : ∀ (n : Nat) (p : SetTable.Probe), p.dummy = none → (nth m p n).dummy = none
  | 0, _, h => h
  | n + 1, p, h => nth_dummy m n (adv m p) (by unfold adv; split <;> exact h)
/-- the search of one that is to be put in, from the c-th step on -/
theorem seek (S : SetB kd s.heap a L es ep t) {x : Addr} {k : K} {g : Int} (hg : kd.hk.hash k = g) (hx : kd.hk.is s.heap k x) (hr : kd.hk.room A) {F : Nat} (hF : F < 10 * SetTable.turns t.mask)
    (free : way t.mask g F ∉ t.place.toList) (full : ∀ c, c < F → way t.mask g c ∈ t.place.toList) {Q : SetFound → Shared → Prop}
    (yes : k ∈ L.map (·.2) → Q (.there none) s) (no : k ∉ L.map (·.2) → Q (.free (way t.mask g F) false) s) :
    ∀ (f c : Nat) (from_ : Option SetTable.Probe), from_.getD (t.probeStart g) = nth t.mask (begin_ t.mask g) c → c ≤ F → F - c < f →
      (∀ (i : Nat) p, L[i]? = some p → p.2 = k → ∃ d, c ≤ d ∧ d < F ∧ t.place.toList[i]? = some (way t.mask g d)) → wpAny (model P w) A (setSearchFrom a (.ref x) g true f from_) Q E s
  | 0, _, _, _, _, hf, _ => absurd hf (Nat.not_lt_zero _)
  | f + 1, c, from_, e0, hc, hf, still => by
    obtain ⟨o, ho, hex, hd⟩ := S.obj
    rw [setSearchFrom_succ]
    refine wpAny_bind (wpAny_setState_of ho hd S.fits ?_)
    dsimp only
    refine wp_if_neg S.stays ?_
    try refine wpAny_bind (wpAny_pure ?_)
    have on : ∀ d, nth t.mask (nth t.mask (begin_ t.mask g) c) d = nth t.mask (begin_ t.mask g) (c + d) := fun d => (nth_add t.mask c _ d).symm
    have onj : ∀ d, (nth t.mask (nth t.mask (begin_ t.mask g) c) d).j = way t.mask g (c + d) := fun d => congrArg SetTable.Probe.j (on d)
    have hashes : ∀ (i : Nat) p, L[i]? = some p → (es[i]?.map (·.1)).getD 0 = kd.hk.hash p.2 := fun i p hp => by rw [S.ent hp]; rfl
    rcases go_spec t S.tab.up S.tab.nod (fun i => (es[i]?.map (·.1)).getD 0) g (10 * SetTable.turns t.mask) (F - c) _ (nth_dummy t.mask c (begin_ t.mask g) rfl) (by omega) (fun d hd' => by rw [onj]; exact full _ (by omega)) (by rw [onj, show c + (F - c) = F by omega]; exact free)
      with ⟨d, i, d1, d2, d3, d4, d5⟩ | ⟨d4, d5⟩
    · -- one of this hash
      have pr : t.probe (fun i => (es[i]?.map (·.1)).getD 0) g (from_.getD (t.probeStart g)) = some (.candidate (way t.mask g (c + d)) i (nth t.mask (begin_ t.mask g) (c + (d + 1)))) := by
        rw [e0, ← onj, ← on]
        exact d5
      rw [pr]
      dsimp only
      rw [onj] at d2
      have il : i < L.length := by
        have h1 : i < t.place.toList.length := (List.getElem?_eq_some_iff.mp d2).1
        rwa [S.tab.plen, List.length_map] at h1
      obtain ⟨p, hp⟩ : ∃ p, L[i]? = some p := ⟨_, List.getElem?_eq_getElem il⟩
      have pm : p ∈ L := List.mem_of_getElem? hp
      have sl : t.slot (way t.mask g (c + d)) = .live i := slot_live S.tab.up d2
      have onward : wpAny (model P w) A (searchRest a (.ref x) g true f es t (way t.mask g (c + d)) i (nth t.mask (begin_ t.mask g) (c + (d + 1)))) Q E s := by
        unfold searchRest
        rw [S.ent hp]
        dsimp only
        refine wpAny_bind (wpAny_holding (kd.hk.eqBool hr (S.are p pm) hx ?_))
        refine wpAny_bind (wpAny_setState_of ho hd S.fits ?_)
        dsimp only
        by_cases same : p.2 = k
        · exact wp_if_pos (by simp [same]) (wpAny_pure (yes (List.mem_map.mpr ⟨p, pm, same⟩)))
        · refine wp_if_neg (by simp [same]) ?_
          try refine wpAny_bind (wpAny_pure ?_)
          rw [sameMem]
          dsimp only
          simp only [if_true, sl, S.ent hp]
          refine wpAny_bind (wpAny_isSame_ref_self (wpAny_bind (wpAny_pure ?_)))
          simp only [if_true]
          refine wp_if_neg (by simp [same]) (seek S hg hx hr hF free full yes no f (c + (d + 1)) _ rfl (by omega) (by omega) fun j q hq hk => ?_)
          obtain ⟨b, b1, b2, b3⟩ := still j q hq hk
          refine ⟨b, ?_, b2, b3⟩
          apply Classical.byContradiction
          intro lt
          rcases Nat.lt_or_ge b (c + d) with z | z
          · refine d4 (b - c) j (by omega) (by rw [onj, show c + (b - c) = b by omega]; exact b3) ?_
            exact (hashes j q hq).trans (by rw [hk, hg])
          · obtain rfl : b = c + d := by omega
            have s2 := slot_live S.tab.up b3
            rw [sl] at s2
            cases s2
            rw [hp] at hq
            cases hq
            exact same hk
      by_cases hl : t.led = true
      · refine wp_if_neg (by simp [hl]) ?_
        try refine wpAny_bind (wpAny_pure ?_)
        exact onward
      · refine wp_if_pos (by simp [hl]) (wpAny_bind (seen_none hx (fun y hy => ?_) ?_))
        · obtain ⟨e, he, ee⟩ := List.mem_map.mp hy
          have h1 : e ∈ es ∧ e.1 = g := by simpa using he
          have h2 : e ∈ es.toList := by simpa using h1.1
          rw [S.ens] at h2
          obtain ⟨q, hq, rfl⟩ := List.mem_map.mp h2
          exact ⟨q.2, q.1, ee.symm, S.are q hq⟩
        · refine wp_if_neg (by decide) ?_
          try refine wpAny_bind (wpAny_pure ?_)
          exact onward
    · -- an empty place
      have pr : t.probe (fun i => (es[i]?.map (·.1)).getD 0) g (from_.getD (t.probeStart g)) = some (.empty (way t.mask g F) none) := by
        have : way t.mask g F = (nth t.mask (nth t.mask (begin_ t.mask g) c) (F - c)).j := by rw [onj, show c + (F - c) = F by omega]
        rw [e0, this]
        exact d5
      rw [pr]
      dsimp only
      refine wpAny_pure (no fun hm => ?_)
      obtain ⟨q, hq, hk⟩ := List.mem_map.mp hm
      obtain ⟨j, hj⟩ := List.mem_iff_getElem?.mp hq
      obtain ⟨b, b1, b2, b3⟩ := still j q hj hk
      exact d4 (b - c) j (by omega) (by rw [onj, show c + (b - c) = b by omega]; exact b3) ((hashes j q hj).trans (by rw [hk, hg]))
theorem sought (S : SetB kd s.heap a L es ep t) {x : Addr} {k : K} {g : Int} (hg : kd.hk.hash k = g) (hx : kd.hk.is s.heap k x) (hr : kd.hk.room A) {Q : SetFound → Shared → Prop} (yes : k ∈ L.map (·.2) → Q (.there none) s)
    (no : ∀ F, k ∉ L.map (·.2) → way t.mask g F ∉ t.place.toList → (∀ c, c < F → way t.mask g c ∈ t.place.toList) → Q (.free (way t.mask g F) false) s) : wpAny (model P w) A (setSearch a (.ref x) g true) Q E s := by
  have gap := S.gap
  obtain ⟨F, h1, h2, h3⟩ := S.tab.first (by rw [List.length_map]; omega) g
  have ml := S.tab.pow.le
  have big : F < 100000 := by
    unfold SetTable.turns at h1
    omega
  unfold setSearch
  refine seek S hg hx hr h1 h2 h3 yes (fun n => no F n h2 h3) 100000 0 none rfl (Nat.zero_le _) (by omega) fun i p hp hk => ?_
  have il : i < t.place.toList.length := by
    rw [S.tab.plen, List.length_map]
    exact (List.getElem?_eq_some_iff.mp hp).1
  obtain ⟨d, d1, d2⟩ := S.tab.ahead h2 (h := g) (i := i) (by rw [List.getElem?_map, hp, ← hg, ← hk]; rfl) (List.getElem?_eq_getElem il)
  exact ⟨d, Nat.zero_le _, d1, by rw [d2, List.getElem?_eq_getElem il]⟩
/-- a thing isn't the set -/
theorem is_but {h h' : Heap} {k : K} {b : Addr} {o : Obj} (hb : kd.hk.is h k b) (ho : h.get? a = some o) (hx : o.ExactSet) (hs : Heap.SameBut a h h') : kd.hk.is h' k b := by
  refine kd.keep hb fun c u e ec => ?_
  have ne : c ≠ a := by
    rintro rfl
    rw [ho] at e
    cases e
    have : Value.type "set" = .type "tuple" := hx.1.symm.trans ec
    injection this with z
    exact absurd z (by decide)
  exact (hs.2 c ne).trans e
theorem ents_put (L : List (Addr × K)) (p : Nat) (x : Addr × K) : ents kd (L.take p ++ x :: L.drop p) = (ents kd L).take p ++ (kd.hk.hash x.2, Value.ref x.1) :: (ents kd L).drop p := by
  unfold ents
  rw [List.map_append, List.map_cons, List.map_take, List.map_drop]
/-- the entries in another order -/
theorem ents_order (L : List (Addr × K)) (es : Array (Int × Value)) (order : Array Nat) (e : es.toList = ents kd L) (hp : order.toList.Perm (List.range L.length)) :
    ∃ L2, (order.filterMap (es[·]?)).toList = ents kd L2 ∧ L2.Perm L ∧ (L2.map fun p => kd.hk.hash p.2) = order.toList.map fun i => (es.map (·.1)).getD i 0 := by
  have sz := ents_len e
  have at_ : ∀ i (h : i < L.length), es[i]? = some (kd.hk.hash (L[i]).2, Value.ref (L[i]).1) := fun i h => by
    rw [← Array.getElem?_toList, e]
    unfold ents
    rw [List.getElem?_map, List.getElem?_eq_getElem h]
    rfl
  have key : ∀ l : List Nat, (∀ i ∈ l, i < L.length) → ∃ L2 : List (Addr × K), l.filterMap (fun i => es[i]?) = ents kd L2 ∧ L2 = l.filterMap (fun i => L[i]?) ∧ (L2.map fun p => kd.hk.hash p.2) = l.map fun i => (es.map (·.1)).getD i 0 := by
    intro l
    induction l with
    | nil => exact fun _ => ⟨[], rfl, rfl, rfl⟩
    | cons i l ih =>
      intro hl
      have hi := hl i List.mem_cons_self
      obtain ⟨L2, e1, e2, e3⟩ := ih fun j hj => hl j (List.mem_cons_of_mem _ hj)
      refine ⟨L[i] :: L2, by rw [List.filterMap_cons_some (at_ i hi), e1]; rfl, by rw [List.filterMap_cons_some (List.getElem?_eq_getElem hi), e2], ?_⟩
      rw [List.map_cons, List.map_cons, e3]
      congr 1
      have : (es.map (·.1))[i]? = some (kd.hk.hash (L[i]).2) := by rw [Array.getElem?_map, at_ i hi]; rfl
      simp [Array.getD_eq_getD_getElem?, this]
  obtain ⟨L2, e1, e2, e3⟩ := key order.toList fun i hi => List.mem_range.mp (hp.mem_iff.mp hi)
  have whole : ∀ n, n ≤ L.length → (List.range n).filterMap (fun i => L[i]?) = L.take n := by
    intro n
    induction n with
    | zero => exact fun _ => rfl
    | succ n ih =>
      intro hn
      rw [List.range_succ, List.filterMap_append, ih (Nat.le_of_lt hn), List.take_succ, List.getElem?_eq_getElem hn, List.filterMap_cons_some (List.getElem?_eq_getElem hn)]
      rfl
  refine ⟨L2, by simpa using e1, ?_, e3⟩
  have pm := hp.filterMap fun i => L[i]?
  rwa [whole _ (Nat.le_refl _), List.take_length, ← e2] at pm
/-- a table too full, laid anew -/
theorem relay {o : Obj} (ho : s.heap.get? a = some o) (hex : o.ExactSet) (hd : o.data = .set es ep t) (ee : es.toList = ents kd L) (T : Tab t (L.map fun p => kd.hk.hash p.2)) (ml : L.length ≤ t.mask) (one : (L.map (·.2)).Nodup)
    (are : ∀ p ∈ L, kd.hk.is s.heap p.2 p.1) (pl : t.plain = true) (ld : w.params.followText "set-order" = true ∨ t.led = true) (low : L.length < 2000) {wanted M : Nat} (hw : SetTable.sizeAbove wanted - 1 = M) (hM : PowM M)
    (hs : SetTable.sizeAbove wanted ≤ 8192) (gap : L.length * 5 < M * 3) {Q : Unit → Shared → Prop} (q : ∀ h' L' es' ep' t', Heap.SameBut a s.heap h' → SetB kd h' a L' es' ep' t' → L'.Perm L → Q () { s with heap := h' }) :
    wpAny (model P w) A (setRelay a wanted) Q E s := by
  have sz := ents_len ee
  obtain ⟨t2, order, e, hp, T2, em, el, ep2⟩ := laid_anew t (hs := es.map (·.1)) (wanted := wanted) hw hM (by rw [Array.size_map, sz]; omega)
  rw [Array.size_map, sz] at hp
  obtain ⟨L2, r1, r2, r3⟩ := ents_order L es order ee hp
  rw [← r3] at T2
  have sz2 : (order.filterMap (es[·]?)).size = es.size := by rw [ents_len r1, r2.length_eq, sz]
  have w8 : (8192 : Nat) ≤ sizeLine := by rw [sizeLine_eq]; omega
  rw [setRelay_eq]
  refine wpAny_bind (wpAny_setState_of ho hd (fits_of T (by rw [List.length_map, sz]) (by rw [sz]; exact ml)) ?_)
  dsimp only
  refine wp_if_neg (by omega) ?_
  try refine wpAny_bind (wpAny_pure ?_)
  rw [e]
  dsimp only
  refine wpAny_bind (wp_if_neg (by rw [sz2]; simp) ?_)
  try refine wpAny_bind (wpAny_pure ?_)
  refine wpAny_pure ?_
  dsimp only
  have sb : Heap.SameBut a s.heap (s.heap.update a (Obj.putSet (order.filterMap (es[·]?)) t2)) := Heap.SameBut.update ..
  exact wpAny_storeSet_of ho hd (q _ L2 _ (ep + 1) t2 sb ⟨⟨_, store_at ho hd, hex, rfl⟩, r1, T2, (r2.map (·.2)).nodup_iff.mpr one, fun p hpm => is_but (are p (r2.mem_iff.mp hpm)) ho hex sb, ep2.trans pl, by rw [el]; exact ld, by rw [r2.length_eq, em]; exact gap,
    by rw [r2.length_eq]; exact low⟩ r2) (by rw [sz2, sz]; omega)
/-- one put in -/
theorem put_in (S : SetB kd s.heap a L es ep t) {x : Addr} {k : K} (hx : kd.hk.is s.heap k x) (hr : kd.hk.room A) (hl : L.length + 1 < 2000) {Q : Bool → Shared → Prop}
    (q : ∀ b h' L' es' ep' t', Heap.SameBut a s.heap h' → SetB kd h' a L' es' ep' t' → (k ∈ L.map (·.2) → L' = L) → (k ∉ L.map (·.2) → L'.Perm ((x, k) :: L)) → Q b { s with heap := h' }) :
    wpAny (model P w) A (setAddHashed a (.ref x) (kd.hk.hash k)) Q E s := by
  obtain ⟨o, ho, hex, hd⟩ := S.obj
  have sz := S.size
  have gap := S.gap
  unfold setAddHashed
  refine wpAny_holding ?_
  rw [show (100000 : Nat) = 99999 + 1 from rfl, setAddHashedIn_succ]
  refine wpAny_bind (wpAny_setState_of ho hd S.fits ?_)
  dsimp only
  refine wp_if_neg (by simp [byScan, Value.scannable]) ?_
  try refine wpAny_bind (wpAny_pure ?_)
  refine wpAny_bind (sought S rfl hx hr (fun hm => ?_) fun F hm free full => ?_)
  · exact wpAny_pure (q false s.heap L es ep t (Heap.SameBut.refl a s.heap) S (fun _ => rfl) fun z => absurd hm z)
  · dsimp only
    refine wpAny_bind (wpAny_setState_of ho hd S.fits ?_)
    dsimp only
    obtain ⟨p, hp⟩ : ∃ p, p = SetTable.below t.place (way t.mask (kd.hk.hash k) F) := ⟨_, rfl⟩
    obtain ⟨pl, T1, fill⟩ := S.tab.put rfl hp free full
    have p1 : (t.put (way t.mask (kd.hk.hash k) F)).1.plain = true := S.pln
    have l1 : (t.put (way t.mask (kd.hk.hash k) F)).1.led = t.led := rfl
    have m1 : (t.put (way t.mask (kd.hk.hash k) F)).1.mask = t.mask := rfl
    have q1 : (t.put (way t.mask (kd.hk.hash k) F)).2 = p := hp.symm
    generalize t.put (way t.mask (kd.hk.hash k) F) = tp at T1 fill p1 l1 m1 q1 ⊢
    obtain ⟨t1, p'⟩ := tp
    cases (show p' = p from q1)
    dsimp only at T1 fill p1 l1 m1 ⊢
    first
      | (refine wpAny_bind ?_; refine wp_if_pos p1 ?_; refine kd.byv hx ?_)
      | refine wp_if_pos p1 (wpAny_bind (kd.byv hx ?_))
    simp only [if_true]
    have ee : (SetTable.insertAt es p (kd.hk.hash k, Value.ref x)).toList = ents kd (L.take p ++ (x, k) :: L.drop p) := by rw [SetTable.toList_insertAt, ents_put, S.ens]
    have pm := put_perm L p (x, k)
    have len : (L.take p ++ (x, k) :: L.drop p).length = L.length + 1 := pm.length_eq
    have T2 : Tab t1 ((L.take p ++ (x, k) :: L.drop p).map fun p => kd.hk.hash p.2) := by
      rw [List.map_append, List.map_cons, List.map_take, List.map_drop]
      exact T1
    have one : ((L.take p ++ (x, k) :: L.drop p).map (·.2)).Nodup := (pm.map (·.2)).nodup_iff.mpr (List.nodup_cons.mpr ⟨hm, S.one⟩)
    generalize L.take p ++ (x, k) :: L.drop p = L1 at ee pm len T2 one
    generalize SetTable.insertAt es p (kd.hk.hash k, Value.ref x) = es1 at ee ⊢
    have s1 := ents_len ee
    refine wpAny_bind (wpAny_storeSet_of ho hd ?_ (by rw [s1, len, sizeLine_eq]; omega))
    have sb : Heap.SameBut a s.heap (s.heap.update a (Obj.putSet es1 t1)) := Heap.SameBut.update ..
    have ho1 := store_at (es' := es1) (t' := t1) ho hd
    generalize s.heap.update a (Obj.putSet es1 t1) = h1 at sb ho1 ⊢
    have are : ∀ p ∈ L1, kd.hk.is h1 p.2 p.1 := fun p hp => by
      rcases List.mem_cons.mp (pm.mem_iff.mp hp) with rfl | hp
      · exact is_but hx ho hex sb
      · exact is_but (S.are p hp) ho hex sb
    have ld : w.params.followText "set-order" = true ∨ t1.led = true := by rw [l1]; exact S.ldg
    have fl : t1.tooFull = decide ((L.length + 1) * 5 ≥ t.mask * 3) := by
      unfold SetTable.tooFull
      rw [fill, List.length_map, m1]
    by_cases hf : t1.tooFull = true
    · first
        | (refine wpAny_bind ?_; refine wp_if_pos (by simp [hf]) ?_)
        | (refine wp_if_pos (by simp [hf]) ?_; refine wpAny_bind ?_)
      rw [fl, decide_eq_true_eq] at hf
      rw [sz]
      obtain ⟨M, n1, n2, n3, n4⟩ := next_mask (u := L.length + 1) hl S.tab.pow (by omega) (by omega)
      have ml := S.tab.pow
      have m7 : 7 ≤ t.mask := by
        obtain ⟨n, h3, _, e⟩ := ml
        have := Nat.pow_le_pow_right (n := 2) (by decide) h3
        omega
      exact relay (s := { s with heap := h1 }) ho1 hex rfl ee T2 (by rw [len, m1]; omega) one are p1 ld (by rw [len]; exact hl) n1 n2 n3 (by rw [len]; exact n4) fun h2 L2 es2 ep2 t2 sb2 S2 pm2 =>
        wpAny_pure (q true h2 L2 es2 ep2 t2 (sb.trans sb2) S2 (fun z => absurd z hm) fun _ => pm2.trans pm)
    · first
        | refine wp_if_neg (by simp [hf]) ?_
        | (refine wpAny_bind ?_; refine wp_if_neg (by simp [hf]) ?_; refine wpAny_pure ?_)
      rw [fl, decide_eq_true_eq] at hf
      exact wpAny_pure (q true h1 L1 es1 (ep + 1) t1 sb ⟨⟨_, ho1, hex, rfl⟩, ee, T2, one, are, p1, ld, by rw [len, m1]; omega, by rw [len]; exact hl⟩ (fun z => absurd z hm) fun _ => pm)
theorem SetB.stay {h h' : Heap} (S : SetB kd h a L es ep t) (k : ∀ b o, h.get? b = some o → h'.get? b = some o) : SetB kd h' a L es ep t := by
  obtain ⟨o, ho, r⟩ := S.obj
  exact ⟨⟨o, k a o ho, r⟩, S.ens, S.tab, S.one, fun p hp => kd.keep (S.are p hp) fun b u e _ => k b u e, S.pln, S.ldg, S.gap, S.low⟩
/-- a new set -/
theorem set_new {h : Heap} (ho : h.get? a = some { cls := .type "set", dict := none, data := .set #[] 0 (.fresh 0 0 (!w.params.followText "set-order")) }) : SetB kd h a [] #[] 0 (.fresh 0 0 (!w.params.followText "set-order")) where
  obj := ⟨_, ho, ⟨rfl, rfl, rfl⟩, rfl⟩
  ens := rfl
  tab := ⟨List.Pairwise.nil, rfl, rfl, ⟨3, by decide, by decide, rfl⟩, fun x hx => (by cases hx), fun i h j hi => (by simp at hi)⟩
  one := List.nodup_nil
  are := fun p hp => (by cases hp)
  pln := rfl
  ldg := by
    show _ ∨ (!w.params.followText "set-order") = true
    cases w.params.followText "set-order" <;> simp
  gap := by show 0 * 5 < 7 * 3; decide
  low := by show 0 < 2000; decide
end
end TBS

set_option maxHeartbeats 3200000
/-! set(xs), xs a list of fewer than two thousand things of a kind. -/
namespace TBU
open PySem PySem.Spec L2 PyProof.Rows TBA TBS
section
variable {K : Type}
/-- what was got of the first i things -/
structure Had (ks : List (Addr × K)) (i : Nat) (L : List (Addr × K)) : Prop where
  from_ : ∀ p ∈ L, p ∈ ks.take i
  each : ∀ p ∈ ks.take i, p.2 ∈ L.map (·.2)
  many : L.length ≤ i
theorem Had.step {ks L L' : List (Addr × K)} {i : Nat} {x : Addr × K} (g : Had ks i L) (h : ks[i]? = some x) (old : x.2 ∈ L.map (·.2) → L' = L) (new : x.2 ∉ L.map (·.2) → L'.Perm (x :: L)) : Had ks (i + 1) L' := by
  have e := take_next h
  by_cases c : x.2 ∈ L.map (·.2)
  · rw [old c]
    refine ⟨fun p hp => by rw [e]; exact List.mem_append_left _ (g.from_ p hp), fun p hp => ?_, Nat.le_succ_of_le g.many⟩
    rw [e] at hp
    rcases List.mem_append.mp hp with z | z
    · exact g.each p z
    · rw [List.mem_singleton.mp z]
      exact c
  · have pm := new c
    refine ⟨fun p hp => ?_, fun p hp => (pm.map (·.2)).mem_iff.mpr ?_, by rw [pm.length_eq]; exact Nat.succ_le_succ g.many⟩
    · rw [e]
      rcases List.mem_cons.mp (pm.mem_iff.mp hp) with z | z
      · exact List.mem_append_right _ (List.mem_singleton.mpr z)
      · exact List.mem_append_left _ (g.from_ p z)
    · rw [e] at hp
      rcases List.mem_append.mp hp with z | z
      · exact List.mem_cons_of_mem _ (g.each p z)
      · rw [List.mem_singleton.mp z]
        exact List.mem_cons_self
end
section
variable {P : Program} {w : World} {K : Type} [DecidableEq K] {kd : Kd P w K} {A : Around} {E : Value → Shared → Prop} {s : Shared}
/-- each of what is walked is put in -/
theorem put_all {I : Addr} {fp wr : List Addr} {G : Array GenState → Array GenState → Prop} {n : Nat} {Pv : Nat → Value → Prop} {St : Nat → Shared → Prop} {R : Result → Shared → Prop} (W : WalksS P w A.in1 I fp wr G n Pv St)
    (D : Addr) (hD : D ∉ fp) (ks : List (Addr × K)) (hn : n = ks.length) (low : ks.length < 2000) (val : ∀ i v, Pv i v → ∃ p, ks[i]? = some p ∧ v = .ref p.1) (h0 : Heap) (are : ∀ p ∈ ks, kd.hk.is h0 p.2 p.1) (nD : h0.get? D = none)
    (nw : ∀ b ∈ wr, h0.get? b = none) (hr : kd.hk.room A.in1) :
    ∀ (k i : Nat) (s : Shared), n - i = k → i ≤ n → St i s → (∀ b o, h0.get? b = some o → s.heap.get? b = some o) → (∃ L es ep t, SetB kd s.heap D L es ep t ∧ Had ks i L) →
      (∀ s' L es ep t, Moved (D :: wr) G s s' → SetB kd s'.heap D L es ep t → Had ks n L → (∀ b o, h0.get? b = some o → s'.heap.get? b = some o) → R (.ok (.ret .none)) s') →
      codeAny (model P w) A (.builtin "set.update.loop" ⟨[.ref D, .ref I], []⟩) R s := by
  have Dw : D ∉ wr := fun z => hD (W.sub _ z)
  have up : ∀ b ∈ wr, b ∈ D :: wr := fun b hb => List.mem_cons_of_mem _ hb
  have onM : ∀ {s s' : Shared}, Moved wr G s s' → (∀ b o, h0.get? b = some o → s.heap.get? b = some o) → ∀ b o, h0.get? b = some o → s'.heap.get? b = some o := fun m kp b o e => m.heap b o (fun hb => by rw [nw b hb] at e; cases e) (kp b o e)
  have setM : ∀ {s s' : Shared} {L : List (Addr × K)} {es ep t} {i : Nat}, Moved wr G s s' → (∀ b o, h0.get? b = some o → s.heap.get? b = some o) → SetB kd s.heap D L es ep t → Had ks i L → SetB kd s'.heap D L es ep t := by
    intro s s' L es ep t i m kp S g
    obtain ⟨o, ho, r⟩ := S.obj
    exact ⟨⟨o, m.heap D o Dw ho, r⟩, S.ens, S.tab, S.one, fun p hp => kd.keep (are p (List.mem_of_mem_take (g.from_ p hp))) fun b u e _ => onM m kp b u e, S.pln, S.ldg, S.gap, S.low⟩
  intro k
  induction k with
  | zero =>
    intro i s hk hi st kp ⟨L, es, ep, t, S, g⟩ q
    obtain rfl : i = n := by omega
    refine codeAny_builtin F.entry_set_update_loop ?_
    rw [Around.under_plainId F.plain_set_update_loop _]
    show wpAny _ A.in1 (pyNext (.ref I) >>= _) _ _ s
    refine wpAny_bind (W.done s _ _ st fun s2 m => ?_)
    show wpAny _ A.in1 (ret Value.none) _ _ s2
    exact wpAny_pure (q s2 L es ep t (m.mono up) (setM m kp S g) g (onM m kp))
  | succ k ih =>
    intro i s hk hi st kp ⟨L, es, ep, t, S, g⟩ q
    have lt : i < n := by omega
    refine codeAny_builtin F.entry_set_update_loop ?_
    rw [Around.under_plainId F.plain_set_update_loop _]
    show wpAny _ A.in1 (pyNext (.ref I) >>= _) _ _ s
    refine wpAny_bind (W.item i s _ _ lt st fun v s2 hP st2 m => ?_)
    obtain ⟨p, hp, rfl⟩ := val i v hP
    have kp2 := onM m kp
    have hx : kd.hk.is s2.heap p.2 p.1 := kd.keep (are p (List.mem_of_getElem? hp)) fun b u e _ => kp2 b u e
    show wpAny _ A.in1 (holding [Value.ref p.1] (setAdd D (.ref p.1)) >>= _) _ _ s2
    refine wpAny_bind (wpAny_holding ?_)
    unfold setAdd
    refine wpAny_holding (wpAny_bind (kd.hk.pyHash hr hx ?_))
    have S1 : SetB kd s2.heap D L es ep t := setM m kp S g
    refine put_in (kd := kd) (s := { s2 with toks := s2.toks + kd.hk.draws p.2 }) S1 hx hr (by have := g.many; omega) fun b h' L' es' ep' t' sb S2 c1 c2 => ?_
    have kp3 : ∀ b o, h0.get? b = some o → h'.get? b = some o := fun b o e => (sb.2 b (fun z => by rw [z, nD] at e; cases e)).trans (kp2 b o e)
    refine wpAny_pure ⟨plainId_quiet F.plain_set_update_loop _, ih (i + 1) _ (by omega) lt (W.frame _ s2 _ _ st2 (Nat.le_add_right _ _) fun b hb o e => ?_) kp3 ⟨L', es', ep', t', S2, g.step hp c1 c2⟩ fun s3 L2 es2 ep2 t2 m3 S3 g3 kp4 => ?_⟩
    · exact (sb.2 b (fun z : b = D => hD (z ▸ hb))).trans e
    · refine q s3 L2 es2 ep2 t2 (Moved.trans W.gtrans ((m.mono up).then_heap (Nat.le_add_right _ _) fun b o hb e => ?_) m3) S3 g3 kp4
      exact (sb.2 b (fun z : b = D => hb (z ▸ List.mem_cons_self))).trans e
abbrev newO (w : World) : Obj := { cls := .type "set", dict := none, data := .set #[] 0 (.fresh 0 0 (!w.params.followText "set-order")) }
set_option maxRecDepth 100000 in
/-- set(xs) -/
theorem set_of {l : Addr} {items : Array Value} (ks : List (Addr × K)) {Q : Value → Shared → Prop} (hh : A.handled = none) (hl : s.heap.IsList l items) (ei : items.toList = ks.map fun p => Value.ref p.1)
    (are : ∀ p ∈ ks, kd.hk.is s.heap p.2 p.1) (low : ks.length < 2000) (hu : A.units + 24 < cLine)
    (q : ∀ (h' : Heap) (tk : Nat) L es ep t, SetB kd h' s.heap.objs.size L es ep t → Had ks ks.length L → (∀ b o, s.heap.get? b = some o → h'.get? b = some o) → Q (.ref s.heap.objs.size) { s with heap := h', toks := tk }) :
    wpAny (model P w) A (call (.type "set") [.ref l]) Q E s := by
  have isz : items.size = ks.length := by
    have := congrArg List.length ei
    rwa [Array.length_toList, List.length_map] at this
  obtain ⟨c, tl, hmro⟩ := F.called_set.mro
  have hmade := F.called_set.made
  have hsub := F.called_set.sub
  refine wpAny_call (codeAny_of_tree ?_)
  show wpAny _ _ (callAny (.type "set") _) _ _ _
  refine wpAny_pure ⟨Code.quiet_builtin _ (by decide +kernel), codeAny_builtin F.entry_type_call ?_⟩
  rw [Around.under_plain (weight_type_call_type "set" [.ref l] []) rfl]
  have h1 := F.called_set.notType
  have h2 := F.called_set.canCreate
  have hct := F.typeCall_set_1 (.ref l)
  repeat (any_goals (first | assumption | wp_step))

  refine codeAny_mono (code_set_led1 (.ref l) (E := E) (Q₁ := fun obj s₁ => obj = .ref s.heap.objs.size ∧ s₁ = { s with heap := s.heap.push (newO w) }) ⟨rfl, rfl⟩) fun r s₁ hr => ?_
  cases r with
  | error e => exact hr
  | ok fl =>
    cases fl with
    | ret obj =>
      obtain ⟨rfl, rfl⟩ := hr
      have hS : (s.heap.push (newO w)).get? s.heap.objs.size = some (newO w) := Heap.get?_push_size _ rfl
      have hT : Shared.TypeIs { s with heap := s.heap.push (newO w) } (.ref s.heap.objs.size) "set" := ⟨_, hS, rfl⟩
      have hli := F.called_set.init.lookup
      have hbi := F.called_set.init.bind (.ref s.heap.objs.size)
      repeat (any_goals (first | assumption | wp_step))

      refine codeAny_mono (codeAny_call_builtin (R := wants (fun r s₂ => r = .none ∧ ∃ h' tk L es ep t, s₂ = { s with heap := h', toks := tk } ∧ SetB kd h' s.heap.objs.size L es ep t ∧ Had ks ks.length L ∧
          (∀ b o, s.heap.get? b = some o → h'.get? b = some o)) E) F.called_set.init.plain F.entry_set_init (check_set_init_1 hT ?_)) fun r₂ s₂ hr₂ => ?_
      · obtain ⟨⟨ocls, odict, odata, oslots⟩, hol, hcl, nl, hdl⟩ := hl
        simp only at hcl hdl
        subst hcl hdl
        have hol' : (s.heap.push (newO w)).get? l = some { cls := .type "list", dict := odict, data := .seq items nl, slots := oslots } := Heap.get?_push_of_some _ hol
        have hsls := F.sub_list_set
        have hslf := F.sub_list_frozenset
        have hne : (Value.type "list" == Value.type "dict") = false := by decide
        have hl1 : (s.heap.push (newO w)).IsList l items := ⟨_, hol', rfl, nl, rfl⟩
        unfold Builtin.«set.__init__» noKeywords Builtin.Frozenset.updateFrom
        generalize hPI : pyIter = PI
        wp_walk
        subst hPI

        refine wpAny_pyIter_list hl1 (wpAny_bind (wpAny_runValue ?_))
        have lS : l < s.heap.objs.size := Heap.lt_size hol
        have hh3 : A.in1.in1.in1.handled = none := by simp [hh]
        have z1 : (s.heap.push (newO w)).objs.size = s.heap.objs.size + 1 := Heap.size_push ..
        have neI : l ≠ (s.heap.push (newO w)).objs.size := by
          rw [z1]
          exact Nat.ne_of_lt (Nat.lt_succ_of_lt lS)
        have outf : s.heap.objs.size ∉ [(s.heap.push (newO w)).objs.size, l] := by
          rw [z1]
          simp only [List.mem_cons, List.not_mem_nil, or_false, not_or]
          exact ⟨Nat.ne_of_lt (Nat.lt_succ_self _), Nat.ne_of_gt lS⟩
        have val : ∀ (i : Nat) (v : Value), items[i]? = some v → ∃ p, ks[i]? = some p ∧ v = .ref p.1 := fun i v hv => by
          have z : items.toList[i]? = some v := by rw [Array.getElem?_toList]; exact hv
          rw [ei, List.getElem?_map] at z
          obtain ⟨p, e1, e2⟩ := Option.map_eq_some_iff.mp z
          exact ⟨p, e1, e2.symm⟩
        have none_of : ∀ b, s.heap.objs.size ≤ b → s.heap.get? b = none := fun b hb => by
          cases z : s.heap.get? b with
          | none => rfl
          | some o => exact absurd (Nat.lt_of_lt_of_le (Heap.lt_size z) hb) (Nat.lt_irrefl _)
        refine put_all (kd := kd) ((Walks.list hh3 _ l neI items).toS) s.heap.objs.size outf ks isz low val s.heap are (none_of _ (Nat.le_refl _)) (fun b hb => none_of b (by
            rw [List.mem_singleton.mp hb, z1]
            exact Nat.le_succ _)) (kd.rm _ (by show A.units + 1 + 1 + 1 + 16 < cLine; omega)) (items.size - 0) 0 _ (by omega) (Nat.zero_le _)
          ⟨⟨_, Heap.get?_push_size _ rfl, rfl, rfl⟩, (hl1.push _)⟩ (fun b o e => Heap.get?_push_of_some _ (Heap.get?_push_of_some _ e)) ?first ?last
        case first => exact ⟨[], #[], 0, _, set_new (Heap.get?_push_of_some _ hS), ⟨fun p h => (by cases h), fun p h => (by simp at h), Nat.le_refl _⟩⟩
        case last =>
          intro s' L es ep t hm S' g' kp
          obtain ⟨h', g2, d', tk', os'⟩ := s'
          cases (show g2 = s.gens from hm.gens)
          cases (show d' = s.drawn from hm.drawn)
          cases (show os' = s.os from hm.os)
          show wpAny _ _ _ _ _ _
          refine wpAny_pure ?_
          show wpAny _ _ (ret Value.none) _ _ _
          rw [isz] at g'
          exact wpAny_pure ⟨rfl, h', tk', L, es, ep, t, rfl, S', g', kp⟩

      · cases r₂ with
        | error e => exact hr₂
        | ok fl₂ =>
          cases fl₂ with
          | ret r =>
            obtain ⟨rfl, h', tk, L, es, ep, t, rfl, S', g', k'⟩ := hr₂
            repeat (any_goals (first | assumption | wp_step))
            exact q _ _ _ _ _ _ S' g' k'
          | _ => exact hr₂.elim
    | _ => exact hr.elim
end
end TBU

set_option maxHeartbeats 3200000
/-! Rules of our own: sets of fewer than two thousand things of a kind. -/
namespace TBH
open PySem L2 PyProof.Rows TB TBS TBU
/-- rows: tuples of whole numbers -/
def kdI (P : Program) (w : World) : Kd P w (List Int) where
  hk := TK P w
  rm := fun A h => (show A.units < cLine by omega)
  tup := fun ⟨o, _, _, ho, hc, _⟩ => ⟨o, ho, hc⟩
  keep := fun ⟨o, its, n, ho, hc, r⟩ k => ⟨o, its, n, k _ o ho hc, hc, r⟩
  ofc := fun h q => ofAClass_tup h q
  byv := fun h q => hashBy_tup h q
/-- the set at an address, without the things themselves -/
structure SetB0 {P : Program} {w : World} {κ : Type} [DecidableEq κ] (kd : Kd P w κ) (h : Heap) (a : Addr) (L : List (Addr × κ)) : Prop where
  ex : ∃ (es : Array (Int × Value)) (ep : Nat) (t : SetTable), (∃ o, h.get? a = some o ∧ o.ExactSet ∧ o.data = .set es ep t) ∧ es.toList = ents kd L ∧ TBA.Tab t (L.map fun p => kd.hk.hash p.2) ∧ (L.map (·.2)).Nodup ∧ t.plain = true ∧
    (w.params.followText "set-order" = true ∨ t.led = true) ∧ L.length * 5 < t.mask * 3 ∧ L.length < 2000
def SetKO {P : Program} {w : World} {κ : Type} [DecidableEq κ] (kd : Kd P w κ) (a : Addr) (L : List (Addr × κ)) : HO := .ext fun h => SetB0 kd h a L
section
variable {P : Program} {w : World} {κ : Type} [DecidableEq κ] {kd : Kd P w κ} {h : Heap} {a : Addr} {L : List (Addr × κ)}
theorem less {es : Array (Int × Value)} {ep : Nat} {t : SetTable} (R : SetB kd h a L es ep t) : SetB0 kd h a L := ⟨es, ep, t, R.obj, R.ens, R.tab, R.one, R.pln, R.ldg, R.gap, R.low⟩
theorem SetB0.whole (R : SetB0 kd h a L) (ht : ∀ p ∈ L, kd.hk.is h p.2 p.1) : ∃ es ep t, SetB kd h a L es ep t := by
  obtain ⟨es, ep, t, h1, h2, h3, h4, h5, h6, h7, h8⟩ := R.ex
  exact ⟨es, ep, t, h1, h2, h3, h4, ht, h5, h6, h7, h8⟩
theorem setKO_ok {H : Hp} (R : SetB0 kd h a L) : ObjOk P w H h a (SetKO kd a L) := by
  obtain ⟨es, ep, t, ⟨o, ho, r⟩, z⟩ := id R.ex
  refine ⟨R, ⟨o, ho⟩, fun h1 h2 p k => ?_⟩
  obtain ⟨es', ep', t', ⟨o', ho', r'⟩, z'⟩ := SetB0.ex p
  exact ⟨es', ep', t', ⟨o', k o' ho', r'⟩, z'⟩
end
/-- a kind as the hand layer sees it -/
structure KH (K : W.Frag) (P : Program) (w : World) (κ : Type) [DecidableEq κ] where
  kd : Kd P w κ
  at_ : Hp → κ → Addr → Prop
  ok : ∀ {X : Cx} {pins : List (Addr × Obj)} {σ : L2.St} {H : Hp} {s : Shared} {k : κ} {b : Addr}, X.K = K → X.prog = P → X.w = w → Inv X pins σ H s → at_ H k b → kd.hk.is s.heap k b
def khI (K : W.Frag) (P : Program) (w : World) : KH K P w (List Int) where
  kd := kdI P w
  at_ := fun H k b => SqT K H b (k.map V.int)
  ok := by
    intro X pins σ H s k b e1 e2 e3 I h
    subst e1 e2 e3
    exact I.isT h
theorem refs_mapG {κ : Type} : ∀ {ks : List (Addr × κ)} {us : List Value}, Vals (ks.map fun p => V.ref p.1) us → us = ks.map fun p => Value.ref p.1
  | [], _, .nil => rfl
  | p :: ks, _, .cons r t => by
    cases r
    rw [refs_mapG t]
    rfl
/-- set(xs) -/
def rSetK {K : W.Frag} {P : Program} {w : World} {κ : Type} [DecidableEq κ] (kh : KH K P w κ) : List V → Hp → VK → Prop := fun xs H Q => ∃ (l : Addr) (ks : List (Addr × κ)), xs = [V.ref l] ∧ SqL K H l (ks.map fun p => V.ref p.1) ∧ (∀ p ∈ ks, kh.at_ H p.2 p.1) ∧ ks.length < 2000 ∧
  ∀ a L, H a = none → (∀ p ∈ L, p ∈ ks) → (∀ p ∈ ks, p.2 ∈ L.map (·.2)) → (L.map (·.2)).Nodup → Q (.ref a) (upd H a (SetKO kh.kd a L))
theorem cr_setK {X : Cx} {κ : Type} [DecidableEq κ] (kh : KH X.K X.prog X.w κ) (hc : X.calm = true) (hu : X.A.units + 64 < cLine) : CallR X (.type "set") (rSetK kh) := by
  intro pins s σ H xs us Q I r h
  obtain ⟨l, ks, rfl, hl, hk, hf, q⟩ := h
  rw [Vals.ref1 r]
  obtain ⟨its, rv, pl, hz⟩ := I.list hl
  have hn : H s.heap.objs.size = none := HOk.fresh I.hok (Nat.le_refl _)
  refine set_of (kd := kh.kd) ks (I.ok.hd hc) pl.isList (by simpa using refs_mapG rv) (fun p hp => kh.ok rfl rfl rfl I (hk p hp)) hf (by omega) fun h' tk L es ep t R g k => ?_
  refine ⟨.ref s.heap.objs.size, upd H s.heap.objs.size (SetKO kh.kd s.heap.objs.size L), I.laid (t' := tk) k (Nat.le_refl _) (setKO_ok (less R)), rfl, q _ L hn (fun p hp => List.mem_of_mem_take (g.from_ p hp)) (fun p hp => g.each p (by rw [List.take_length]; exact hp)) R.one⟩
theorem sorted_rowsB {P : Program} {w : World} {A : Around} {E : Value → Shared → Prop} {s : Shared} {a : Addr} {L : List (Addr × List Int)} {es : Array (Int × Value)} {ep : Nat} {t : SetTable} {Q : Value → Shared → Prop} {d : Nat}
    (R : SetB (kdI P w) s.heap a L es ep t) (hh : A.handled = none) (hd : ∀ p ∈ L, p.2.length = d)
    (hQ : ∀ (s' : Shared) (p : Nat) (out : Array Value) (c : Nat) (L' : List (Addr × List Int)), (∀ b o, s.heap.get? b = some o → s'.heap.get? b = some o) → s'.gens = s.gens → s'.os = s.os → s.heap.objs.size ≤ p →
      s'.heap.get? p = some (seqObj "list" out c) → out.toList = L'.map (fun q => Value.ref q.1) → L'.Perm L → L'.Pairwise (fun q r => ltI r.2 q.2 = false) → Q (.ref p) s') :
    wpAny (model P w) A (call (.builtin "sorted") [.ref a]) Q E s := by
  obtain ⟨o, ho, hex, hdat⟩ := R.obj
  have hsz := R.size
  have hfew := R.low
  obtain ⟨k, hk⟩ := rowsV R.one R.are
  refine Calls.call_function_entry kind_sorted plain_sorted entry_sorted (args_sorted1 (.ref a)) ?_
  refine wpAny_bind (wpAny_pure (wpAny_bind (collect_set hh ⟨o, ho, ⟨hex.1, hdat⟩⟩ R.fits (Nat.lt_of_lt_of_le (by omega) (by decide : 2000 ≤ scanBound)) R.tab.up R.ldg fun s1 vs k1 hz g1 o1 pm => ?_)))
  have hes : es.toList.map (·.2) = L.map fun q => Value.ref q.1 := by
    rw [R.ens]
    unfold ents
    rw [List.map_map]
    rfl
  rw [hes] at pm
  have hvl : vs.length < 2000 := by
    rw [pm.length_eq, List.length_map]
    exact hfew
  refine wpAny_bind (wpAny_newList ?_)
  have hoL := Heap.get?_push_size s1.heap (o := seqObj "list" vs.toArray 0) rfl
  have tk : ∀ q ∈ L, TS.TupInts (s1.heap.push (seqObj "list" vs.toArray 0)) (.ref q.1) q.2 := fun q hq =>
    tupInts_of (isT_keep (R.are q hq) fun b u e => Heap.get?_push_of_some (seqObj "list" vs.toArray 0) (k1 b u e))
  have of_vs : ∀ v ∈ vs, ∃ q ∈ L, v = .ref q.1 := fun v hv => by
    obtain ⟨q, hq, e⟩ := List.mem_map.mp (pm.mem_iff.mp hv)
    exact ⟨q, hq, e.symm⟩
  have hkv : ∀ v ∈ vs, TS.TupInts (s1.heap.push (seqObj "list" vs.toArray 0)) v (k v) ∧ (k v).length = d := fun v hv => by
    obtain ⟨q, hq, rfl⟩ := of_vs v hv
    rw [hk q hq]
    exact ⟨tk q hq, hd q hq⟩
  refine wpAny_bind (wpAny_holding ?_)
  have ord : ∀ {l : List Value}, (∀ v ∈ l, ∃ q ∈ L, v = .ref q.1) → ∃ L1 : List (Addr × List Int), l = L1.map (fun q => Value.ref q.1) ∧ ∀ q ∈ L1, q ∈ L := by
    intro l
    induction l with
    | nil => exact fun _ => ⟨[], rfl, fun _ h => nomatch h⟩
    | cons v r ih =>
      intro hv
      obtain ⟨q, hq, e⟩ := hv v List.mem_cons_self
      obtain ⟨L1, e1, hs⟩ := ih fun u hu => hv u (List.mem_cons_of_mem _ hu)
      exact ⟨q :: L1, by rw [List.map_cons, e, e1], fun z hz => (List.mem_cons.mp hz).elim (fun e => e ▸ hq) (hs z)⟩
  have one : ∀ q ∈ L, ∀ r ∈ L, q.1 = r.1 → q = r := fun q hq r hr e => by
    have a1 := R.are q hq
    rw [e] at a1
    exact Prod.ext e (IsTupleKey.inj a1 (R.are r hr))
  have perm_of : ∀ {L1 : List (Addr × List Int)}, (∀ q ∈ L1, q ∈ L) → (L1.map fun q => Value.ref q.1).Perm (L.map fun q => Value.ref q.1) → L1.Perm L := by
    intro L1 hs p1
    have nL := nodup_of_map R.one
    have nref : (L.map fun q => Value.ref q.1).Nodup := List.pairwise_map.mpr (List.Pairwise.imp_of_mem (fun {q r} hq hr hne e => hne (one q hq r hr (Value.ref.inj e))) nL)
    have n1 : L1.Nodup := nodup_of_map ((List.Perm.nodup_iff p1).mpr nref)
    refine (List.perm_ext_iff_of_nodup n1 nL).mpr fun q => ⟨hs q, fun hq => ?_⟩
    obtain ⟨r, hr, e⟩ := List.mem_map.mp (p1.mem_iff.mpr (List.mem_map.mpr ⟨q, hq, rfl⟩))
    rw [← one r (hs r hr) q hq (Value.ref.inj e)]
    exact hr
  have cmp2 : ∀ {L1 : List (Addr × List Int)} {out : List Value}, out = L1.map (fun q => Value.ref q.1) → (∀ q ∈ L1, q ∈ L) → SrtO.Srtd (fun v u => ltI (k v) (k u)) out → L1.Pairwise fun q r => ltI r.2 q.2 = false := by
    intro L1 out e hs h
    rw [e] at h
    refine List.Pairwise.imp_of_mem (fun {q r} hq hr z => ?_) (List.pairwise_map.mp h)
    have z : ltI (k (.ref r.1)) (k (.ref q.1)) = false := z
    rwa [hk q (hs q hq), hk r (hs r hr)] at z
  refine wpAny_call_entry slot_list_sort ⟨_, hoL, rfl⟩ entry_list_sort ?_ (args_list_sort _)
  refine SrtO.list_sort_ord (ltI_swo k) hoL (Nat.le_trans (Nat.le_of_lt hvl) (by rw [sizeLine_eq]; decide)) (fun h2 => rows_sortable (by omega) hkv (fun v hv e => ?_) fun o e => ?_) fun out hs st => ?_
  · -- unlike rows of no values can't be two
    have d0 : d = 0 := by rw [← (hkv v hv).2, e]; rfl
    obtain ⟨L1, e1, h1⟩ := ord of_vs
    have pL := perm_of h1 (e1 ▸ pm)
    have nd1 : (L1.map (·.2)).Nodup := (List.Perm.nodup_iff (pL.map _)).mpr R.one
    rw [e1, List.length_map] at h2
    match L1, h2, nd1, h1 with
    | q :: r :: _, _, nd1, h1 =>
      rw [List.map_cons, List.map_cons, List.nodup_cons] at nd1
      have eq : q.2 = [] := List.length_eq_zero_iff.mp (by rw [hd q (h1 q List.mem_cons_self), d0])
      have er : r.2 = [] := List.length_eq_zero_iff.mp (by rw [hd r (h1 r (List.mem_cons_of_mem _ List.mem_cons_self)), d0])
      exact absurd (by rw [eq, er]; exact List.mem_cons_self) nd1.1
  · rw [hoL] at e
    cases e
    show Value.type "list" ≠ Value.type "tuple"
    decide +kernel
  · obtain ⟨L', e', hs'⟩ := ord (l := out) fun v hv => of_vs v (st.perm.mem_iff.mp hv)
    obtain ⟨c, hc⟩ := sortedHeap_at (out := out.toArray) hoL
    refine ⟨_, rfl, wpAny_pure ⟨_, rfl, ?_⟩⟩
    refine hQ _ s1.heap.objs.size out.toArray c L' (fun b u e => ?_) g1 o1 hz hc e' (perm_of hs' (e' ▸ st.perm.trans pm)) (cmp2 e' hs' hs)
    have hb := k1 b u e
    have hlt := Heap.lt_size hb
    show (sortedHeap (s1.heap.push (seqObj "list" vs.toArray 0)) s1.heap.objs.size vs out.toArray).get? b = some u
    rw [sortedHeap_old (Nat.ne_of_lt hlt) (by rw [Heap.size_push]; exact Nat.lt_succ_of_lt hlt)]
    exact Heap.get?_push_of_some _ hb
/-- sorted(rows), a set of rows -/
def rSortB (K : W.Frag) (P : Program) (w : World) : List V → Hp → VK → Prop := fun vs H Q => ∃ a L d, vs = [.ref a] ∧ H a = some (SetKO (kdI P w) a L) ∧ (∀ p ∈ L, SqT K H p.1 (p.2.map V.int)) ∧ (∀ p ∈ L, p.2.length = d) ∧
  ∀ (L' : List (Addr × List Int)) (p : Addr), L'.Perm L → (L'.map (·.2)).Nodup → L'.length < 2000 → L'.Pairwise (fun q r => ltI r.2 q.2 = false) → H p = none → Q (.ref p) (upd H p (.lst (L'.map fun q => V.ref q.1)))
theorem cr_sortB {X : Cx} (hc : X.calm = true) : CallR X (.builtin "sorted") (rSortB X.K X.prog X.w) := by
  intro pins s σ H vs us Q I r h
  obtain ⟨a, L, d, rfl, ha, hk, hd, q⟩ := h
  have R0 : SetB0 (kdI X.prog X.w) s.heap a L := (I.hok a _ ha).1
  obtain ⟨es, ep, t, R⟩ := R0.whole fun p hp => I.isT (hk p hp)
  rw [Vals.ref1 r]
  refine sorted_rowsB R (I.ok.hd hc) hd fun s' p out c L' k g o hp hg hout pm pw => ?_
  have hfew : L'.length < 2000 := by rw [pm.length_eq]; exact R.low
  have hn : H p = none := HOk.fresh I.hok hp
  have hv : Vals (L'.map fun q => V.ref q.1) out.toList := by rw [hout]; exact vals_of_refs L'
  have hlen : (L'.map fun q => V.ref q.1).length ≤ sizeLine := by rw [List.length_map, sizeLine_eq]; omega
  have J : Inv X pins σ (upd H p (.lst (L'.map fun q => V.ref q.1))) { heap := s'.heap, gens := s'.gens, drawn := s'.drawn, toks := s'.toks, os := s.os } := by
    refine Inv.call (ch := []) I (Un.laid k hp hn) (HOk.laid I.hok k hp ⟨hlen, _, c, hv, hg⟩) ?_ fun x z => nomatch z
    rw [g]
    exact I.bare
  have e : s' = { heap := s'.heap, gens := s'.gens, drawn := s'.drawn, toks := s'.toks, os := s.os } := by
    cases s'
    cases s
    cases o
    rfl
  rw [e]
  exact ⟨.ref p, _, J, rfl, q L' p pm ((List.Perm.nodup_iff (pm.map _)).mpr R.one) hfew pw hn⟩
/-! ### one put into a set -/
theorem add_K {P : Program} {w : World} {κ : Type} [DecidableEq κ] {kd : Kd P w κ} {A : Around} {E : Value → Shared → Prop} {s : Shared} {a : Addr} {L : List (Addr × κ)} {es : Array (Int × Value)} {ep : Nat} {t : SetTable} {x : Addr} {k : κ} {Q : Value → Shared → Prop}
    (R : SetB kd s.heap a L es ep t) (hx : kd.hk.is s.heap k x) (hu : A.units + 24 < cLine) (hl : L.length + 1 < 2000)
    (hQ : ∀ (h' : Heap) (tk : Nat) (L' : List (Addr × κ)) (es' : Array (Int × Value)) (ep' : Nat) (t' : SetTable), Heap.SameBut a s.heap h' → SetB kd h' a L' es' ep' t' →
      (k ∈ L.map (·.2) → L' = L) → (k ∉ L.map (·.2) → L'.Perm ((x, k) :: L)) → Q .none { heap := h', gens := s.gens, drawn := s.drawn, toks := tk, os := s.os }) :
    wpAny (model P w) A (call (.builtin "set.add") [.ref a, .ref x]) Q E s := by
  obtain ⟨o, ho, hex, hd⟩ := id R.obj
  have hr : kd.hk.room A.in1 := kd.rm _ (by show A.units + 1 + 16 < cLine; omega)
  refine wpAny_call_entry F.slot_set_add ⟨o, ho, hex.1⟩ F.entry_set_add ?_ (F.args_set_add_2 _ _)
  show wpAny _ _ ((do let y ← setAdd a (.ref x); ret .none : Sem Fin)) _ _ _
  refine wpAny_bind (wpAny_holding (wpAny_bind (kd.hk.pyHash hr hx ?_)))
  refine put_in (kd := kd) (s := { heap := s.heap, gens := s.gens, drawn := s.drawn, toks := s.toks + kd.hk.draws k, os := s.os }) R hx hr hl fun b h' L' es' ep' t' sb R' h1 h2 => ?_
  exact wpAny_pure ⟨_, rfl, hQ h' _ L' es' ep' t' sb R' h1 h2⟩
theorem addK_ok {X : Cx} {κ : Type} [DecidableEq κ] {K : W.Frag} {P : Program} {w : World} {kh : KH K P w κ} (e1 : X.K = K) (e2 : X.prog = P) (e3 : X.w = w) {pins : List (Addr × Obj)} {σ : L2.St} {H : Hp} {s : Shared} {E : Value → Shared → Prop} {D x : Addr} {L : List (Addr × κ)} {k : κ} {Q : Value → Shared → Prop} (hu : X.A.units + 24 < cLine) (I : Inv X pins σ H s)
    (hD : H D = some (SetKO kh.kd D L)) (hk : ∀ p ∈ L, kh.at_ H p.2 p.1) (hx : kh.at_ H k x) (room : L.length + 1 < 2000)
    (h : ∀ (s' : Shared) (L' : List (Addr × κ)), (k ∈ L.map (·.2) → L' = L) → (k ∉ L.map (·.2) → L'.Perm ((x, k) :: L)) → Inv X pins σ (upd H D (SetKO kh.kd D L')) s' → Q .none s') :
    wpAny (model X.prog X.w) X.A (call (.builtin "set.add") [.ref D, .ref x]) Q E s := by
  subst e2 e3
  have R0 : SetB0 kh.kd s.heap D L := (I.hok D _ hD).1
  obtain ⟨es, ep, t, R⟩ := R0.whole fun p hp => kh.ok e1 rfl rfl I (hk p hp)
  refine add_K R (kh.ok e1 rfl rfl I hx) hu room fun h' tk L' es' ep' t' sb R' h1 h2 => ?_
  refine h _ L' h1 h2 (Inv.write (e := D) I ?_ (.inl rfl) (fun b u hb hu => (sb.2 b hb).trans hu) ?_ (setKO_ok (less R')))
  · rw [hD]
    trivial
  · obtain ⟨o, ho, _⟩ := R'.obj
    exact ⟨o, ho⟩
/-! ### {row for .. in ..} -/
def tScK {K : W.Frag} {P : Program} {w : World} {κ : Type} [DecidableEq κ] (kh : KH K P w κ) (wi : TI) (g : TG) (tt : TT) (te : TE) (vs : List Nat) : TE := fun σ H Q => wi σ H fun J H1 => ∀ D, H1 D = none → ∃ Wt : Nat → Nat → Hp → Prop, (∃ m, Wt 0 m (upd H1 D (SetKO kh.kd D []))) ∧
  ∀ i m H, Wt i m H → (J.stop i H ∧ Q (.ref D) H) ∨ (J.go i H ∧ ∃ Nx : Hp → Prop, (∀ H', Nx H' → ∃ m', m' < m ∧ Wt (i + 1) m' H') ∧ ∀ x H', J.yld i H x H' → g x (wipe σ vs) H' fun σ2 H2 => wipe σ2 vs = wipe σ vs ∧
    tt σ2 H2 fun b H3 => if b = true then te σ2 H3 fun y H4 => ∃ (t : Addr) (k : κ) (L : List (Addr × κ)), y = .ref t ∧ kh.at_ H4 k t ∧ H4 D = some (SetKO kh.kd D L) ∧ (∀ p ∈ L, kh.at_ H4 p.2 p.1) ∧ L.length + 1 < 2000 ∧
      ∀ L' : List (Addr × κ), (k ∈ L.map (·.2) → L' = L) → (k ∉ L.map (·.2) → L'.Perm ((t, k) :: L)) → Nx (upd H4 D (SetKO kh.kd D L')) else Nx H3)
theorem sc_K {X : Cx} {κ : Type} [DecidableEq κ] (kh : KH X.K X.prog X.w κ) {pins : List (Addr × Obj)} {s : Shared} {σ : L2.St} {H : Hp} {Q : VK} {elt tg iter : Expr} {ifs : List Expr} {scope : Scope} {own : List (Str × Nat)} {pos pos' : Pos} {wi : TI} {g : TG} {tt : TT} {te : TE} {use : Option (Value → Sem Unit)} {Qf : Value → Shared → Prop}
    (hu : X.A.units + 24 < cLine) (hc : X.calm = true) (hN : X.N.Nodup) (I : L2.Inv X pins σ H s) (hi : PI X tg iter wi) (ok : BlkOk X.N X.env.scope scope own)
    (hg : ∀ (s : Shared) (H : Hp) (C : Addr) (cl : List (Str × Addr)) (fp : List Addr), PG (X.blk s H scope (compEnvC scope cl C X.env) fp) tg g)
    (ht : ∀ (s : Shared) (H : Hp) (C : Addr) (cl : List (Str × Addr)) (fp : List Addr), PTs (X.blk s H scope (compEnvC scope cl C X.env) fp) ifs tt)
    (he : ∀ (s : Shared) (H : Hp) (C : Addr) (cl : List (Str × Addr)) (fp : List Addr), PE (X.blk s H scope (compEnvC scope cl C X.env) fp) elt te)
    (hs : ∀ x : Value, foldedSetIterable iter X.env x = pure x) (h : tScK kh wi g tt te (own.map (·.2)) σ H Q)
    (hRR : ∀ (D C : Addr) (s' : Shared) (m : Str → Option Value) (H' : Hp), L2.Inv X pins σ H' s' → Q (.ref D) H' → s'.heap.Ns C m → FpOk X pins H' C → compPost (model X.prog X.w) X.A X.xe use Qf (.ref D) C (.ok .next) s') :
    wpAny (model X.prog X.w) X.A (comprehension (elt.SetComp [⟨tg, iter, ifs, 0⟩] scope pos) scope X.env pos' (newSet (.type "set")) false (eval iter X.env) use) Qf X.xe s := by
  have hfree : ∀ y ∈ scope.names, y.2 = .free → ∃ c, List.lookup y.1 X.env.cells = some c := fun y hy e => (ok.free y hy e).elim (fun k => I.ok.has _ (.inl k)) fun k => I.ok.has _ (.inr k)
  refine wpAny_comprehension_free rfl hs (closure_ok hfree) ok.kind (fun y hy e => by rw [ok.uniq y hy, e]) ?_
  refine thn (hi.run pins s σ H _ I h) fun xv s1 hx => thn hx fun itv s2 h2 => ?_
  obtain ⟨it, fp, tn, J, H2, rfl, I2, T, st2, f2, q⟩ := h2
  refine PpSet.newSet_ok (newEnv_comp ?_)
  have hDn : H2 s2.heap.objs.size = none := HOk.fresh I2.hok (Nat.le_refl _)
  obtain ⟨Wt, ⟨m0, w0⟩, turn⟩ := q _ hDn
  have I3 : L2.Inv X pins σ (upd H2 s2.heap.objs.size (SetKO kh.kd s2.heap.objs.size [])) { heap := s2.heap.push { cls := .type "set", data := .set #[] 0 (SetTable.fresh 0 0 !X.w.params.followText "set-order") }, gens := s2.gens, drawn := s2.drawn, toks := s2.toks, os := s2.os } :=
    Inv.laid I2 (fun b o e => Heap.get?_push_of_some _ e) (Nat.le_refl _) (setKO_ok (less (set_new (Heap.get?_push_size _ rfl))))
  have sz : ∀ b ∈ fp, b < s2.heap.objs.size := fun b hb => by
    obtain ⟨o, e, _⟩ := T.obj 0 s2.heap st2 b hb
    exact Heap.lt_size e
  have k3 : ∀ (b : Addr) (o : Obj), s2.heap.get? b = some o → (s2.heap.push { cls := .type "set", data := .set #[] 0 (SetTable.fresh 0 0 !X.w.params.followText "set-order") }).get? b = some o := fun b o e => Heap.get?_push_of_some _ e
  have z3 : (s2.heap.push { cls := .type "set", data := .set #[] 0 (SetTable.fresh 0 0 !X.w.params.followText "set-order") }).objs.size = s2.heap.objs.size + 1 := Heap.size_push _ _
  generalize hs3 : ({ heap := s2.heap.push { cls := .type "set", data := .set #[] 0 (SetTable.fresh 0 0 !X.w.params.followText "set-order") }, gens := s2.gens, drawn := s2.drawn, toks := s2.toks, os := s2.os } : Shared) = s3 at I3 ⊢
  have k3' : ∀ (b : Addr) (o : Obj), s2.heap.get? b = some o → s3.heap.get? b = some o := by rw [← hs3]; exact k3
  have z3' : s3.heap.objs.size = s2.heap.objs.size + 1 := by rw [← hs3]; exact z3
  have f3 : ∀ b ∈ fp, FpOk X pins (upd H2 s2.heap.objs.size (SetKO kh.kd s2.heap.objs.size [])) b ∧ b < s3.heap.objs.size := fun b hb =>
    ⟨⟨by rw [upd_ne (Nat.ne_of_lt (sz b hb))]; exact (f2 b hb).1, (f2 b hb).2⟩, by rw [z3']; exact Nat.lt_succ_of_lt (sz b hb)⟩
  have st3 : tn 0 s3.heap := T.keep 0 _ _ st2 fun b _ o e => k3' b o e
  have I4 := block_start I3 ok hN f3
  have pg := hg s3 (upd H2 s2.heap.objs.size (SetKO kh.kd s2.heap.objs.size [])) s3.heap.objs.size (cellsFrom (s3.heap.objs.size + 1) scope.names (cloFrom X.env.cells scope.names [])) fp
  have pt := ht s3 (upd H2 s2.heap.objs.size (SetKO kh.kd s2.heap.objs.size [])) s3.heap.objs.size (cellsFrom (s3.heap.objs.size + 1) scope.names (cloFrom X.env.cells scope.names [])) fp
  have pe := he s3 (upd H2 s2.heap.objs.size (SetKO kh.kd s2.heap.objs.size [])) s3.heap.objs.size (cellsFrom (s3.heap.objs.size + 1) scope.names (cloFrom X.env.cells scope.names [])) fp
  show codeAny _ _ (Code.compStart _ 0 _ _ (compEnvC scope (cellsFrom (s3.heap.objs.size + 1) scope.names (cloFrom X.env.cells scope.names [])) s3.heap.objs.size X.env)) (compPost (model X.prog X.w) X.A X.xe use Qf (.ref s2.heap.objs.size) s3.heap.objs.size) _
  have cL : (compEnvC scope (cellsFrom (s3.heap.objs.size + 1) scope.names (cloFrom X.env.cells scope.names [])) s3.heap.objs.size X.env).locals = s3.heap.objs.size := rfl
  have hs4 : ∀ (b : Addr) (o : Obj), s3.heap.get? b = some o → (pushCells (s3.heap.push { cls := .type "dict", data := .dict #[] }) scope.names).get? b = some o := fun b o e => pushCells_keeps scope.names _ b o (Heap.get?_push_of_some _ e)
  generalize hce : compEnvC scope (cellsFrom (s3.heap.objs.size + 1) scope.names (cloFrom X.env.cells scope.names [])) s3.heap.objs.size X.env = ce at I4 pg pt pe cL ⊢
  have st4 : tn 0 (pushCells (s3.heap.push { cls := .type "dict", data := .dict #[] }) scope.names) := T.keep 0 _ _ st3 fun b _ o e => hs4 b o e
  have nfp : ∀ b ∈ fp, upd H2 s2.heap.objs.size (SetKO kh.kd s2.heap.objs.size []) b = none := fun b hb => (f3 b hb).1.1
  generalize upd H2 s2.heap.objs.size (SetKO kh.kd s2.heap.objs.size []) = H3 at w0 I3 f3 I4 pg pt pe nfp
  generalize hs4' : ({ heap := pushCells (s3.heap.push { cls := .type "dict", data := .dict #[] }) scope.names, gens := s3.gens, drawn := s3.drawn, toks := s3.toks, os := s3.os } : Shared) = s4 at I4 ⊢
  have st4' : tn 0 s4.heap := by rw [← hs4']; exact st4
  have stat : ∀ {σ' : L2.St} {H' : Hp} {s' : Shared}, L2.Inv (X.blk s3 H3 scope ce fp) [] σ' H' s' → (∀ b ∈ fp, H' b = none) → ∀ b ∈ fp, FpOk (X.blk s3 H3 scope ce fp) [] H' b := fun I' hn b hb =>
    ⟨hn b hb, (I'.ok.exf b hb).1, I'.ok.exfs b hb, .inl hb, (I'.ok.exf b hb).2, fun p hp => by simp [Cx.blk] at hp⟩
  have loop : codeAny (model X.prog X.w) X.A (Code.compLoop (elt.SetComp [⟨tg, iter, ifs, 0⟩] scope pos) 0 (.ref it) (.ref s2.heap.objs.size) ce) (compPost (model X.prog X.w) X.A X.xe use Qf (.ref s2.heap.objs.size) s3.heap.objs.size) s4 := by
    refine PpSet.compLoopS_any (fun n s' => ∃ i H', L2.Inv (X.blk s3 H3 scope ce fp) [] (wipe σ (own.map (·.2))) H' s' ∧ tn i s'.heap ∧ (∀ b ∈ fp, H' b = none) ∧ Wt i n H') ?_ m0 ⟨0, H3, I4, st4', nfp, w0⟩
    rintro n s5 ⟨i, H5, I5, st5, n5, w5⟩
    rcases turn i n H5 w5 with ⟨stop, qq⟩ | ⟨go, Nx, hNx, step⟩
    · refine thnF (T.done (X.blk s3 H3 scope ce fp) rfl rfl rfl hc i [] s5 _ H5 _ I5 (stat I5 n5) st5 stop) fun r s6 x => ?_
      obtain ⟨rfl, I6⟩ := x
      have I7 : L2.Inv X pins σ H5 s6 := Inv.call' (ch := fp) I3 I6.os I6.base I6.hok I6.bare fun b hb => ⟨(f3 b hb).1.2.2.2.1, (f3 b hb).1.2.1, (f3 b hb).1.2.2.2.2.1, (f3 b hb).1.2.2.2.2.2⟩
      have nC : H5 s3.heap.objs.size = none := by
        have z : H5 ce.locals = none := I6.free
        rwa [cL] at z
      obtain ⟨m, hn, _⟩ := I6.loc
      have hn : s6.heap.Ns ce.locals m := hn
      rw [cL] at hn
      exact hRR _ _ s6 m H5 I7 qq hn (I3.fpOk (Nat.le_refl _) nC)
    · refine thnF (T.item (X.blk s3 H3 scope ce fp) rfl rfl rfl hc i [] s5 _ H5 _ I5 (stat I5 n5) st5 go) fun r s6 x => ?_
      obtain ⟨u, rfl, h6⟩ := x
      refine thnF h6 fun _ s7 x => ?_
      obtain ⟨x, H7, I7, r7, y7, st7, n7⟩ := x
      have I7' := I7.pinned (stat I7 n7) (T.obj _ _ st7)
      refine thnF (pg.run _ s7 _ H7 x u _ I7' r7 (step x H7 y7)) fun _ s8 x => ?_
      obtain ⟨σ8, H8, I8, hw8, q8⟩ := x
      refine thnF (pt.run _ s8 σ8 H8 _ I8 q8) fun b s9 x => ?_
      obtain ⟨H9, I9, q9⟩ := x
      have fin : ∀ {s' : Shared} {H' : Hp}, L2.Inv (X.blk s3 H3 scope ce fp) ([] ++ pinsAt fp s7.heap) σ8 H' s' → Nx H' → ∃ m, m < n ∧ ∃ i H', L2.Inv (X.blk s3 H3 scope ce fp) [] (wipe σ (own.map (·.2))) H' s' ∧ tn i s'.heap ∧ (∀ b ∈ fp, H' b = none) ∧ Wt i m H' := by
        intro s' H' I' nx
        obtain ⟨m', hm, w'⟩ := hNx H' nx
        have pin' : ∀ b ∈ fp, ∀ o, s7.heap.get? b = some o → s'.heap.get? b = some o ∧ H' b = none := fun b hb o e => by
          have z := I'.pin (b, o) (List.mem_append_right _ (List.mem_append_right _ (mem_pinsAt hb e)))
          exact ⟨z.1, z.2.1⟩
        have hl : (wipe σ (own.map (·.2))).length = σ8.length := by
          rw [← hw8, wipe_length]
        refine ⟨m', hm, i + 1, H', I'.unpinned.weak hl (fun j v e => (wipe_some (hw8 ▸ e)).1), T.keep _ _ _ st7 (fun b hb o e => (pin' b hb o e).1), fun b hb => ?_, w'⟩
        obtain ⟨o, e, _⟩ := T.obj _ _ st7 b hb
        exact (pin' b hb o e).2
      cases b with
      | false =>
        rw [if_neg Bool.false_ne_true] at q9 ⊢
        exact fin I9 q9
      | true =>
        rw [if_pos rfl] at q9 ⊢
        refine thnF (pe.run _ s9 σ8 H9 _ I9 q9) fun z s10 x => ?_
        obtain ⟨y, H10, I10, ry, tt', k, L, rfl, hk, hD, hL, room, nx⟩ := x
        cases (show z = Value.ref tt' from ry)
        exact addK_ok (X := X.blk s3 H3 scope ce fp) (kh := kh) rfl rfl rfl hu I10 hD hL hk room fun s' L' h1 h2 I' => fin I' (nx L' h1 h2)
  exact PpSet.codeAny_compStart_set loop (T.self _ 0 _ _ _ st4' loop)
theorem pe_scK {X : Cx} {κ : Type} [DecidableEq κ] (kh : KH X.K X.prog X.w κ) {elt tg iter : Expr} {ifs : List Expr} {scope : Scope} {own : List (Str × Nat)} {pos : Pos} {wi : TI} {g : TG} {tt : TT} {te : TE} (hu : X.A.units + 24 < cLine) (hc : X.calm = true) (hN : X.N.Nodup) (hi : PI X tg iter wi) (ok : BlkOk X.N X.env.scope scope own)
    (hg : ∀ (s : Shared) (H : Hp) (C : Addr) (cl : List (Str × Addr)) (fp : List Addr), PG (X.blk s H scope (compEnvC scope cl C X.env) fp) tg g)
    (ht : ∀ (s : Shared) (H : Hp) (C : Addr) (cl : List (Str × Addr)) (fp : List Addr), PTs (X.blk s H scope (compEnvC scope cl C X.env) fp) ifs tt)
    (he : ∀ (s : Shared) (H : Hp) (C : Addr) (cl : List (Str × Addr)) (fp : List Addr), PE (X.blk s H scope (compEnvC scope cl C X.env) fp) elt te)
    (hs : ∀ x : Value, foldedSetIterable iter X.env x = pure x := by intros; rfl) : PE X (elt.SetComp [⟨tg, iter, ifs, 0⟩] scope pos) (tScK kh wi g tt te (own.map (·.2))) :=
  ⟨fun pins s σ H Q I h => by
    rw [PpSet.eval_SetComp]
    refine sc_K kh hu hc hN I hi ok hg ht he hs h fun D C s' m H' I' q hn f => ?_
    obtain ⟨f0, f1, f2, f3, f4, f5⟩ := f
    exact ⟨m, hn, fun h'' sb => ⟨.ref D, H', Inv.turned I' (fun b o hb e => (sb.2 b hb).trans e) f0 f1 f3 f4 f5, rfl, q⟩⟩⟩
/-- a set of rows, the things walked one by one -/
theorem sc_walkK {K : W.Frag} {P : Program} {w : World} {κ : Type} [DecidableEq κ] (kh : KH K P w κ) {J : It} {n : Nat} {G : Hp → Prop} {Y : Nat → Hp → V → Hp → Prop} (wk : Walk J n G Y) {tgt : TG} {cond : TT} {te : TE} {own : List Nat} {slots : L2.St} {Hs : Hp} {D : Addr} {Qf : Hp → Prop}
    (Pw : Nat → Hp → Prop) (start : Pw 0 (upd Hs D (SetKO kh.kd D []))) (good : ∀ i h, i ≤ n → Pw i h → G h)
    (turn : ∀ i v h h', i < n → Pw i h → Y i h v h' → tgt v (wipe slots own) h' fun s2 h2 => wipe s2 own = wipe slots own ∧ cond s2 h2 fun b h3 =>
      (if b = true then te s2 h3 fun y h4 => ∃ (t : Addr) (k : κ) (L : List (Addr × κ)), y = .ref t ∧ kh.at_ h4 k t ∧ h4 D = some (SetKO kh.kd D L) ∧ (∀ p ∈ L, kh.at_ h4 p.2 p.1) ∧ L.length + 1 < 2000 ∧
        ∀ L' : List (Addr × κ), (k ∈ L.map (·.2) → L' = L) → (k ∉ L.map (·.2) → L'.Perm ((t, k) :: L)) → Pw (i + 1) (upd h4 D (SetKO kh.kd D L')) else Pw (i + 1) h3))
    (fin : ∀ h, Pw n h → Qf h) :
    ∃ Wt : Nat → Nat → Hp → Prop, (∃ m, Wt 0 m (upd Hs D (SetKO kh.kd D []))) ∧ ∀ i m h, Wt i m h → (J.stop i h ∧ Qf h) ∨ (J.go i h ∧ ∃ Nx : Hp → Prop, (∀ h', Nx h' → ∃ m', m' < m ∧ Wt (i + 1) m' h') ∧
      ∀ v h', J.yld i h v h' → tgt v (wipe slots own) h' fun s2 h2 => wipe s2 own = wipe slots own ∧ cond s2 h2 fun b h3 =>
        if b = true then te s2 h3 fun y h4 => ∃ (t : Addr) (k : κ) (L : List (Addr × κ)), y = .ref t ∧ kh.at_ h4 k t ∧ h4 D = some (SetKO kh.kd D L) ∧ (∀ p ∈ L, kh.at_ h4 p.2 p.1) ∧ L.length + 1 < 2000 ∧
          ∀ L' : List (Addr × κ), (k ∈ L.map (·.2) → L' = L) → (k ∉ L.map (·.2) → L'.Perm ((t, k) :: L)) → Nx (upd h4 D (SetKO kh.kd D L')) else Nx h3) := by
  refine ⟨fun i m h => i ≤ n ∧ m = n - i ∧ Pw i h, ⟨n, Nat.zero_le _, by simp, start⟩, ?_⟩
  rintro i m h ⟨hi, rfl, pw⟩
  have g := good i h hi pw
  rcases Nat.lt_or_ge i n with hlt | hge
  · exact .inr ⟨wk.goes i h hlt g, Pw (i + 1), fun h' p' => ⟨n - (i + 1), by omega, hlt, rfl, p'⟩, fun v h' y => turn i v h h' hlt pw (wk.yields i h v h' hlt g y)⟩
  · obtain rfl : i = n := by omega
    exact .inl ⟨wk.stops h g, fin h pw⟩
end TBH

namespace T07
open PySem L2
def top (i : Nat) : Stmt := PySem.Challenge.pw_foldbough_k07_whole_tables_in_any_order.main.body.getD i (.Pass ⟨0, 0, 0, 0⟩)
abbrev s_norow : Stmt := inClass (top 5) 0
abbrev s_nocol : Stmt := inClass (top 6) 0
abbrev s_is_whole : Stmt := top 10
abbrev s_is_name : Stmt := top 11
abbrev s_is_name_in : Stmt := top 12
abbrev s_are : Stmt := top 13
abbrev s_is_row : Stmt := top 14
abbrev s_stretch : Stmt := top 15
abbrev s_binit : Stmt := inClass (top 17) 0
abbrev s_bcolumns : Stmt := inClass (top 17) 1
abbrev s_brows : Stmt := inClass (top 17) 2
abbrev s_bhas : Stmt := inClass (top 17) 3
abbrev s_bof : Stmt := inClass (top 17) 6
abbrev s_bcheck : Stmt := inClass (top 17) 7
abbrev s_blen : Stmt := inClass (top 17) 8
abbrev s_beq : Stmt := inClass (top 17) 9
abbrev s_joined : Stmt := top 18
abbrev s_kept : Stmt := top 19
abbrev s_cc : Stmt := top 20
abbrev s_sorted : Stmt := top 21
abbrev s_allcols : Stmt := top 22
abbrev s_places : Stmt := top 23
abbrev s_picked : Stmt := top 24
abbrev s_common : Stmt := top 25
abbrev s_byvalues : Stmt := top 26
abbrev s_manytog : Stmt := top 27
abbrev s_fewest : Stmt := top 28
abbrev s_joinedtwo : Stmt := top 29
abbrev s_well : Stmt := top 31
abbrev s_draw : Stmt := top 32
abbrev s_names : Stmt := top 33
abbrev s_base : Stmt := top 34
abbrev s_lpicked : Stmt := top 35
abbrev s_made : Stmt := top 36
abbrev s_turned : Stmt := top 37
abbrev s_right : Stmt := top 38
abbrev s_law : Stmt := top 39
end T07

set_option maxHeartbeats 1000000
local macro_rules | `(tactic| walk_at "z") => `(tactic| ((try dsimp only); first | assumption | omega | decide | (simp only [List.length_cons, List.length_nil]; first | decide | omega)))
namespace T07
open PySem L2 PyProof.Rows TX
section
variable {P : Program} {w : World} {K : PySem.W.Frag} {mg : Str → Option Value} {base : Heap}
theorem sc_well : FnScope ["_law_cell", "_law_k"] ["_law_cell", "_law_k"] (defScope s_well) := ⟨rfl, rfl, rfl, by decide +kernel, rfl, by decide +kernel, by decide +kernel⟩
def sp_well : Sp := fun vs H Q _ => ∃ (cell k : Int), vs = [.int cell, .int k] ∧ 0 ≤ k ∧ k ≤ 1000 ∧ ∀ H' p, Same H H' → H p = none → WellAt 100000 H' p → Q (.ref p) H'
theorem ok_well {f : Addr} {fd : FuncData} (F : Fn K mg "_law_well" s_well ["_law_cell", "_law_k"] f fd) (B : Bn mg) : FnOk P w K mg base CX0 1 f fd ["_law_cell", "_law_k"] sp_well := by
  refine F.F.ok sc_well (fun vs H Q E h => ?_) (fun cdv A outer s H vs Q E hr h => ?_)
  · obtain ⟨cell, k, rfl, _⟩ := h
    rfl
  · obtain ⟨cell, k, rfl, h0, h1, q⟩ := h
    refine ⟨_, pss_one (ps_ret (pe_lst (pa_cons (pe_op op_mul (pv 0) (pe_callTy call_int1 (by rfl) B.int boot_int (pa_cons (pe_cmpR op_ge (pv 0) (pe_op op_pow pe_int pe_int) (nomark _)) pa_nil)))
      (pa_cons (pe_op op_mod (pe_op op_add (pe_op op_mod (pv 0) pe_int) (pe_op op_mul pe_int (pv 1))) pe_int) (pa_cons pe_int pa_nil))))), ?_⟩
    refine ⟨_, rfl, _, rfl, _, _, rfl, rfl, ⟨by decide, by decide, by decide⟩, _, _, rfl, rfl, .inr ⟨_, rfl, _, _, rfl, rfl, .inr (by split <;> decide), ?_⟩⟩
    refine ⟨_, rfl, _, _, rfl, rfl, by walk_at "z", _, rfl, _, _, rfl, rfl, .inl (by decide), _, _, rfl, rfl, _, _, rfl, rfl, by walk_at "z", by walk_at "z", fun p hp => ?_⟩
    refine q _ p (Same.new hp) hp ⟨_, _, _, upd_same, ?_, ?_, by decide, by decide⟩
    · exact Int.emod_nonneg _ (by decide)
    · have := Int.emod_lt_of_pos (cell % 2147483647 + 104729 * k) (show (0 : Int) < 2147483647 by decide)
      omega
theorem sc_draw : FnScope ["_law_well_here", "_law_top", "_law_found", "_law_prime", "_law_twist"] ["_law_well_here", "_law_top"] (defScope s_draw) := ⟨rfl, rfl, rfl, by decide +kernel, rfl, by decide +kernel, by decide +kernel⟩
/-- a draw: one below top; the well may be drawn from once less -/
def sp_draw : Sp := fun vs H Q _ => ∃ (W : Addr) (t n : Nat), vs = [.ref W, .int t] ∧ 0 < t ∧ t < 1073741824 ∧ WellAt (n + 1) H W ∧ ∀ (H' : Hp) (r : Nat), r < t → Sm W H H' → WellAt n H' W → Q (.int r) H'
theorem ok_draw {f : Addr} {fd : FuncData} (F : Fn K mg "_law_draw" s_draw ["_law_well_here", "_law_top"] f fd) : FnOk P w K mg base CX0 1 f fd ["_law_well_here", "_law_top"] sp_draw := by
  refine F.F.ok sc_draw (fun vs H Q E h => ?_) (fun cdv A outer s H vs Q E hr h => ?_)
  · obtain ⟨W, t, n, rfl, _⟩ := h
    rfl
  · obtain ⟨W, t, n, rfl, h0, h1, ⟨a, b, c, hW, b0, b1, c0, c1⟩, q⟩ := h
    have hu := hu_of hr
    have t0 : (0 : Int) < (t : Int) := by omega
    have aI0 : ∀ x y z : V, atI [x, y, z] (0 : Int) = some x := fun _ _ _ => rfl
    have aI1 : ∀ x y z : V, atI [x, y, z] (1 : Int) = some y := fun _ _ _ => rfl
    have aI2 : ∀ x y z : V, atI [x, y, z] (2 : Int) = some z := fun _ _ _ => rfl
    refine ⟨_, pss_cons (ps_if (pt_cmpR op_gt (pe_ix ix_list (pv 0) pe_int (fun _ _ => rfl)) pe_int (nomark _))
        (pss_cons (ps_set (i := 2) sc_draw.nd rfl (Or.inl rfl) (pe_op op_mod (pe_ix ix_list (pv 0) pe_int (fun _ _ => rfl)) (pv 1)))
        (pss_cons (ps_asg (pe_op op_fdiv (pe_ix ix_list (pv 0) pe_int (fun _ _ => rfl)) (pv 1)) (pg_sub (pv 0) pe_int set_list))
        (pss_one (ps_ret (pv 2))))) pss_nil)
      (pss_cons (ps_asg (pe_op op_add (pe_ix ix_list (pv 0) pe_int (fun _ _ => rfl)) pe_int) (pg_sub (pv 0) pe_int set_list))
      (pss_cons (ps_set (i := 3) sc_draw.nd rfl (Or.inl rfl) (pe_ix ix_list (pe_lst (pa_cons pe_int (pa_cons pe_int (pa_cons pe_int (pa_cons pe_int (pa_cons pe_int pa_nil))))))
          (pe_op op_mod (pe_ix ix_list (pv 0) pe_int (fun _ _ => rfl)) pe_int) (fun _ _ => rfl)))
      (pss_cons (ps_set (i := 4) sc_draw.nd rfl (Or.inl rfl) (pe_op op_mod (pe_op op_pow (pe_op op_add (pe_op op_add (pe_ix ix_list (pv 0) pe_int (fun _ _ => rfl)) (pe_op op_mul pe_int (pe_ix ix_list (pv 0) pe_int (fun _ _ => rfl)))) pe_int) pe_int) (pv 3)))
      (pss_cons (ps_set (i := 4) sc_draw.nd rfl (Or.inl rfl) (pe_op op_mod (pe_op op_mul (pe_op op_add (pv 4) (pe_ix ix_list (pv 0) pe_int (fun _ _ => rfl))) (pe_op op_add (pe_op op_fdiv (pv 4) pe_int) pe_int)) (pv 3)))
      (pss_one (ps_ret (pe_op op_mod (pe_op op_fdiv (pv 4) pe_int) (pv 1)))))))), ?_⟩
    refine ⟨_, rfl, W, _, _, _, rfl, rfl, .of hW, aI0 _ _ _, _, _, rfl, rfl, _, rfl, ite2 (fun ha => ?_) (fun ha => ?_)⟩
    · refine ⟨_, rfl, W, _, _, _, rfl, rfl, .of hW, aI0 _ _ _, _, rfl, _, _, rfl, rfl, by walk_at "z", ?_⟩
      refine ⟨_, rfl, W, _, _, _, rfl, rfl, .of hW, aI0 _ _ _, _, rfl, _, _, rfl, rfl, by constructor <;> omega, ?_⟩
      refine ⟨_, rfl, W, _, _, 0, rfl, rfl, hW, rfl, _, rfl, ?_⟩
      have hm := Int.emod_nonneg a (show (t : Int) ≠ 0 by omega)
      have hl := Int.emod_lt_of_pos a t0
      have e : a % (t : Int) = ((a % (t : Int)).toNat : Int) := by omega
      show Q (.int (a % (t : Int))) _
      rw [e]
      exact q _ _ (by omega) (Sm.put .rfl') ⟨_, _, _, upd_same, b0, b1, c0, by omega⟩
    · refine ⟨_, rfl, W, _, _, _, rfl, rfl, .of hW, aI2 _ _ _, _, _, rfl, rfl, ?_⟩
      refine ⟨_, rfl, W, _, _, 2, rfl, rfl, hW, rfl, ?_⟩
      refine ⟨by decide, fun p np => ?_⟩
      have nW : W ≠ p := ne_of_none upd_same np
      have hW1 : ∀ o, upd (upd H W (.lst [.int a, .int b, .int (c + 1)])) p o W = some (.lst [.int a, .int b, .int (c + 1)]) := fun o => by rw [upd_ne nW, upd_same]
      refine ⟨_, rfl, W, _, _, _, rfl, rfl, .of (hW1 _), aI2 _ _ _, _, _, rfl, rfl, by walk_at "z", ?_⟩
      obtain ⟨pr, hpr, p0, p1⟩ : ∃ pr : Int, atI [V.int 2147483629, V.int 2147483587, V.int 2147483579, V.int 2147483563, V.int 2147483549] ((c + 1) % 5) = some (V.int pr) ∧ 1 ≤ pr ∧ pr < 2147483648 := by
        have h5 := Int.emod_nonneg (c + 1) (show (5 : Int) ≠ 0 by decide)
        have h6 := Int.emod_lt_of_pos (c + 1) (show (0 : Int) < 5 by decide)
        have : (c + 1) % 5 = 0 ∨ (c + 1) % 5 = 1 ∨ (c + 1) % 5 = 2 ∨ (c + 1) % 5 = 3 ∨ (c + 1) % 5 = 4 := by omega
        rcases this with e | e | e | e | e <;> rw [e]
        · exact ⟨2147483629, rfl, by decide, by decide⟩
        · exact ⟨2147483587, rfl, by decide, by decide⟩
        · exact ⟨2147483579, rfl, by decide, by decide⟩
        · exact ⟨2147483563, rfl, by decide, by decide⟩
        · exact ⟨2147483549, rfl, by decide, by decide⟩
      refine ⟨p, _, _, _, rfl, rfl, .of upd_same, hpr, ?_⟩
      refine ⟨_, rfl, W, _, _, _, rfl, rfl, .of (hW1 _), aI1 _ _ _, _, rfl, W, _, _, _, rfl, rfl, .of (hW1 _), aI2 _ _ _, _, _, rfl, rfl, .inl (by decide), ?_⟩
      refine ⟨_, _, rfl, rfl, _, _, rfl, rfl, _, _, rfl, rfl, ⟨by decide, by decide, by omega⟩, _, rfl, _, _, rfl, rfl, by walk_at "z", ?_⟩
      -- the twist, below the prime
      dsimp only
      generalize hx : (b + 6701 * (c + 1) + 3) ^ Int.toNat 5 % pr = x
      have x0 : 0 ≤ x := by rw [← hx]; exact Int.emod_nonneg _ (by omega)
      have x1 : x < pr := by rw [← hx]; exact Int.emod_lt_of_pos _ (by omega)
      refine ⟨_, rfl, _, rfl, W, _, _, _, rfl, rfl, .of (hW1 _), aI2 _ _ _, _, _, rfl, rfl, _, rfl, _, _, rfl, rfl, ⟨by decide, by decide⟩, _, _, rfl, rfl, _, _, rfl, rfl, .inr ?_, _, rfl, _, _, rfl, rfl, by walk_at "z", ?_⟩
      · have := Int.ediv_le_self 1013 x0
        have := Int.ediv_nonneg x0 (show (0 : Int) ≤ 1013 by decide)
        try dsimp only
        omega
      dsimp only
      generalize hy : (x + (c + 1)) * (x / 1013 + 40693) % pr = y
      have y0 : 0 ≤ y := by rw [← hy]; exact Int.emod_nonneg _ (by omega)
      refine ⟨_, rfl, _, _, rfl, rfl, ⟨by decide, by decide⟩, _, rfl, _, _, rfl, rfl, by walk_at "z", ?_⟩
      have hm := Int.emod_nonneg (y / 11) (show (t : Int) ≠ 0 by omega)
      have hl := Int.emod_lt_of_pos (y / 11) t0
      have e : y / 11 % (t : Int) = ((y / 11 % (t : Int)).toNat : Int) := by omega
      show Q (.int (y / 11 % (t : Int))) _
      rw [e]
      refine q _ _ (by omega) (Sm.new (Sm.put .rfl') np) ⟨_, _, _, hW1 _, b0, b1, by omega, by omega⟩
end
end T07

set_option maxHeartbeats 1000000
local macro_rules | `(tactic| walk_at "z") => `(tactic| ((try dsimp only); first | assumption | omega | decide | (simp only [List.length_cons, List.length_nil]; first | decide | omega)))
namespace T07
open PySem L2 PyProof.Rows TX
section
variable {P : Program} {w : World} {K : PySem.W.Frag} {mg : Str → Option Value} {base : Heap}
abbrev N_names : List Str := ["_law_well_here", "_law_count", "_law_letters", "_law_begin", "_law_apart", "_law_base_here", "_law_spot", "_law_more", "_law_found", "_law_k", "_law_letter"]
theorem sc_names : FnScope N_names ["_law_well_here", "_law_count"] (defScope s_names) := ⟨rfl, rfl, rfl, by decide +kernel, rfl, by decide +kernel, by decide +kernel⟩
/-- names: as many unlike names as are asked for, up to 26 -/
def sp_names : Sp := fun vs H Q _ => ∃ (W : Addr) (t n : Nat), vs = [.ref W, .int t] ∧ t ≤ 26 ∧ WellAt (n + 11) H W ∧
  ∀ (H' : Hp) (p : Addr) (ns : List Str), Sm W H H' → WellAt n H' W → H p = none → p ≠ W → H' p = some (.lst (ns.map V.str)) → ns.length = t → ns.Nodup → (∀ s ∈ ns, TM.NameOk s) → Q (.ref p) H'
theorem ok_names {f fD : Addr} {fd fdD : FuncData} (F : Fn K mg "_law_names" s_names ["_law_well_here", "_law_count"] f fd) (B : Bn mg) (D : Fn K mg "_law_draw" s_draw ["_law_well_here", "_law_top"] fD fdD) :
    FnOk P w K mg base CX0 2 f fd ["_law_well_here", "_law_count"] sp_names := by
  have GD : FnOk P w K mg base CX0 1 fD fdD ["_law_well_here", "_law_top"] sp_draw := ok_draw D
  refine F.F.ok sc_names (fun vs H Q E h => ?_) (fun cdv A outer s H vs Q E hr h => ?_)
  · obtain ⟨W, t, n, rfl, _⟩ := h
    rfl
  · obtain ⟨W, t, n, rfl, h0, hW, q⟩ := h
    have hu := hu_of hr
    refine ⟨_, pss_cons (ps_set (i := 2) sc_names.nd rfl (Or.inr rfl) pe_str)
      (pss_cons (ps_set (i := 3) sc_names.nd rfl (Or.inl rfl) (pe_call GD hr rfl D.g D.F.kp D.b .nil pass0 (pa_cons (pv 0) (pa_cons pe_int pa_nil))))
      (pss_cons (ps_set (i := 4) sc_names.nd rfl (Or.inl rfl) (pe_ix ix_list (pe_lst (pa_cons pe_int (pa_cons pe_int (pa_cons pe_int (pa_cons pe_int (pa_cons pe_int (pa_cons pe_int (pa_cons pe_int (pa_cons pe_int pa_nil)))))))))
          (pe_call GD hr rfl D.g D.F.kp D.b .nil pass0 (pa_cons (pv 0) (pa_cons pe_int pa_nil))) (fun _ _ => rfl)))
      (pss_cons (ps_set (i := 5) sc_names.nd rfl (Or.inl rfl) (pe_join pe_str (pe_lc (own := [("_law_k", 9)]) (g := gName 9) (tt := tYes) rfl sc_names.nd (pi_range1 rfl B.range (pa_cons pe_int pa_nil)) (blkOk_by (N := N_names) (sc := defScope s_names) (by decide +kernel))
          (fun _ _ _ _ _ => pg_name (i := 9) sc_names.nd rfl (Or.inl rfl)) (fun _ _ _ _ _ => pts_nil)
          (fun _ _ _ _ _ => pe_ix ix_str (pv 2) (pe_call GD hr rfl D.g D.F.kp D.b .nil pass0 (pa_cons (pv 0) (pa_cons pe_int pa_nil))) (fun _ _ => rfl)))))
      (pss_cons (ps_set (i := 6) sc_names.nd rfl (Or.inl rfl) (pe_call GD hr rfl D.g D.F.kp D.b .nil pass0 (pa_cons (pv 0) (pa_cons pe_int pa_nil))))
      (pss_cons (ps_set (i := 7) sc_names.nd rfl (Or.inl rfl) (pe_call GD hr rfl D.g D.F.kp D.b .nil pass0 (pa_cons (pv 0) (pa_cons (pe_op op_sub pe_int (pv 6)) pa_nil))))
      (pss_cons (ps_set (i := 8) sc_names.nd rfl (Or.inl rfl) (pe_lst pa_nil))
      (pss_cons (ps_for PassesOwn.never rfl (pi_range1 rfl B.range (pa_cons (pv 1) pa_nil)) (pg_name (i := 9) sc_names.nd rfl (Or.inl rfl))
        (pss_cons (ps_set (i := 10) sc_names.nd rfl (Or.inl rfl) (pe_ix ix_str (pv 2) (pe_op op_mod (pe_op op_add (pv 3) (pe_op op_mul (pv 4) (pv 9))) pe_int) (fun _ _ => rfl)))
        (pss_one (ps_expr (pe_bm PySem.F.plainAttrs_list PySem.F.slot_list_append PySem.F.type_list_append mt_append (pv 8)
          (pa_cons (pe_op op_add_str (pe_op op_add_str (pe_slice sl_str (pv 5) po_none (po_some (pv 6))) (pv 10)) (pe_slice sl_str (pv 5) (po_some (pv 6)) (po_some (pe_op op_add (pv 6) (pv 7))))) pa_nil))))))
      (pss_one (ps_ret (pv 8)))))))))), ?_⟩
    refine ⟨_, rfl, W, 26, n + 10, rfl, by decide, by decide, hW, fun H1 bg hbg s1 w1 => ?_⟩
    -- apart
    refine ⟨by decide, fun p1 n1 => ?_⟩
    have w1' : WellAt (n + 10) (upd H1 p1 (.lst [.int 1, .int 3, .int 5, .int 7, .int 9, .int 11, .int 15, .int 17])) W := w1.new n1
    have pW1 : p1 ≠ W := (w1.ne n1).symm
    refine ⟨_, rfl, W, 8, n + 9, rfl, by decide, by decide, w1', fun H2 j hj s2 w2 => ?_⟩
    have e2 : H2 p1 = some (.lst [.int 1, .int 3, .int 5, .int 7, .int 9, .int 11, .int 15, .int 17]) := s2 _ _ pW1 upd_same
    obtain ⟨ap, hap, hap2⟩ : ∃ ap : Nat, ap ∈ [1, 3, 5, 7, 9, 11, 15, 17] ∧ atI [V.int 1, .int 3, .int 5, .int 7, .int 9, .int 11, .int 15, .int 17] (j : Int) = some (V.int (ap : Int)) := by
      have : j = 0 ∨ j = 1 ∨ j = 2 ∨ j = 3 ∨ j = 4 ∨ j = 5 ∨ j = 6 ∨ j = 7 := by omega
      rcases this with e | e | e | e | e | e | e | e <;> subst e
      · exact ⟨1, by decide, rfl⟩
      · exact ⟨3, by decide, rfl⟩
      · exact ⟨5, by decide, rfl⟩
      · exact ⟨7, by decide, rfl⟩
      · exact ⟨9, by decide, rfl⟩
      · exact ⟨11, by decide, rfl⟩
      · exact ⟨15, by decide, rfl⟩
      · exact ⟨17, by decide, rfl⟩
    refine ⟨p1, _, _, _, rfl, rfl, .of e2, hap2, ?_⟩
    have sm2 : Sm W H H2 := (s1.new n1).trans s2
    -- base
    refine ⟨⟨_, rfl⟩, 7, rfl, by decide, by decide, fun L nL => ?_⟩
    refine lc_it (walk_range (lo := 0) (n := (7 : Int).toNat)) (fun i H' => ∃ cs : List Nat, H' L = some (.lst (cs.map fun c => V.str (S [c]))) ∧ cs.length = i ∧ (∀ c ∈ cs, 97 ≤ c ∧ c ≤ 122) ∧ Sm W H2 H' ∧ WellAt (n + 2 + (7 - i)) H' W)
      ⟨[], upd_same, rfl, by simp, Sm.new .rfl' nL, w2.new nL⟩ (fun _ _ _ _ => trivial) ?_ ?_
    · rintro i x H3 H3' hi ⟨cs, eL, hcs, hc, s3, w3⟩ ⟨rfl, rfl⟩
      have hi7 : i < 7 := hi
      refine ⟨rfl, ?_⟩
      refine ⟨_, rfl, _, rfl, W, 26, n + 2 + (7 - (i + 1)), rfl, by decide, by decide, w3.mono (by omega), fun H4 c hc4 s4 w4 => ?_⟩
      have LW : L ≠ W := (w2.ne nL).symm
      refine ⟨_, _, _, rfl, rfl, abc_len, abc_at hc4, _, s4 _ _ LW eL, ?_, cs ++ [97 + c], ?_, ?_, ?_, ?_, ?_⟩
      · rw [List.length_map, hcs]
        exact Nat.lt_trans hi7 (by decide)
      · rw [upd_same, List.map_append]
        rfl
      · rw [List.length_append, hcs]
        rfl
      · intro x hx
        rcases List.mem_append.mp hx with hx | hx
        · exact hc x hx
        · rw [List.mem_singleton.mp hx]
          omega
      · exact (s3.trans s4).mut nL
      · exact w4.upd LW.symm
    · rintro H3 ⟨cs, eL, hcs, hc, s3, w3⟩
      refine ⟨_, L, cs.map (fun c => S [c]), rfl, rfl, .inl (.of (by rw [eL, List.map_map]; rfl)), ?_, ?_⟩
      · have e7 : cs.length = 7 := hcs
        rw [List.length_map, sum_signs, e7, len_empty]
        decide
      rw [join_signs]
      have sm3 : Sm W H H3 := sm2.trans s3
      have hcs7 : cs.length = 7 := hcs
      have w3' : WellAt (n + 2) H3 W := w3.mono (by omega)
      -- spot, more
      refine ⟨_, rfl, W, 8, n + 1, rfl, by decide, by decide, w3', fun H4 sp hsp s4 w4 => ?_⟩
      refine ⟨_, rfl, _, rfl, _, _, rfl, rfl, W, 8 - sp, n, ?_, by omega, by omega, w4, fun H5 mo hmo s5 w5 => ?_⟩
      · show [V.ref W, V.int (8 - (sp : Int))] = [V.ref W, V.int ((8 - sp : Nat) : Int)]
        rw [show ((8 - sp : Nat) : Int) = 8 - (sp : Int) by omega]
      have sm5 : Sm W H H5 := (sm3.trans s4).trans s5
      -- found = []
      refine ⟨by decide, fun p np => ?_⟩
      have npH : H p = none := sm5.free hW np ⟨n, w5⟩
      have pW : p ≠ W := (w5.ne np).symm
      refine ⟨_, rfl, (t : Int), rfl, by omega, by omega, ?_⟩
      rw [show ((t : Int)).toNat = t by omega]
      refine for_range (lo := 0) (n := t) (fun i σ H' => ∃ v1 v2 : Option V, σ = [some (.ref W), some (.int t), some (.str abc), some (.int bg), some (.int ap), some (.str (S cs)), some (.int sp), some (.int mo), some (.ref p), v1, v2] ∧
          H' p = some (.lst (((List.range i).map (nmOf cs sp mo bg ap)).map V.str)) ∧ Sm W H5 H' ∧ WellAt n H' W)
        ⟨none, none, rfl, upd_same, Sm.new .rfl' np, w5.new np⟩ ?_ ?_
      · rintro i σ H6 hi ⟨v1, v2, rfl, e6, s6, w6⟩
        have hm : (bg + ap * i) % 26 < 26 := Nat.mod_lt _ (by decide)
        have ez : ((bg : Int) + (ap : Int) * (0 + (i : Int))) % 26 = (((bg + ap * i) % 26 : Nat) : Int) := by
          rw [Int.zero_add]
          omega
        have hap17 : ap ≤ 17 := by
          simp only [List.mem_cons, List.not_mem_nil, or_false] at hap
          omega
        refine ⟨_, rfl, _, rfl, _, rfl, _, rfl, _, _, rfl, rfl, .inl ⟨by omega, by omega⟩, _, _, rfl, rfl, _, _, rfl, rfl, by walk_at "z", ?_⟩
        refine ⟨_, _, _, rfl, rfl, abc_len, by rw [ez]; exact abc_at hm, ?_⟩
        have hcut1 : (cutS (S cs) none (some (sp : Int))) = S (cs.take sp) := by
          rw [cutS_S, hcs7, HT.sIx_none, HT.sIx_nat, List.drop_zero, Nat.min_eq_left (by omega), Nat.sub_zero]
        have hcut2 : (cutS (S cs) (some (sp : Int)) (some ((sp : Int) + (mo : Int)))) = S ((cs.drop sp).take mo) := by
          rw [show ((sp : Int) + (mo : Int)) = ((sp + mo : Nat) : Int) by omega, cutS_S, hcs7, HT.sIx_nat, HT.sIx_nat, Nat.min_eq_left (by omega), Nat.min_eq_left (by omega), Nat.add_sub_cancel_left]
        have hl7 : (S cs).length ≤ sizeLine := by rw [S_len, hcs7]; decide
        have hL : ∀ m : List Nat, m.length ≤ 100 → m.length ≤ sizeLine := fun m h => Nat.le_trans h (by decide)
        refine ⟨_, rfl, .inl ⟨rfl, _, .inl (.inl e6)⟩, _, rfl, _, rfl, _, rfl, _, rfl, hl7, _, rfl, _, _, rfl, rfl, ?_, _, rfl, _, rfl, _, rfl, _, rfl, _, rfl, _, _, rfl, rfl, _, rfl, _, rfl, hl7, _, _, rfl, rfl, ?_, _, _, _, rfl, rfl, e6, ?_, _, _, rfl, ?_, ?_, ?_⟩
        · rw [hcut1, S_len]
          refine line100 ?_
          have : (cs.take sp).length ≤ 7 := by rw [List.length_take, hcs7]; omega
          show _ + 1 ≤ 1000
          omega
        · rw [hcut1, hcut2, sapp_len, S_len, S_len]
          refine line100 ?_
          have h1 : (cs.take sp).length ≤ 7 := by rw [List.length_take, hcs7]; omega
          have h2 : ((cs.drop sp).take mo).length ≤ 7 := by rw [List.length_take, List.length_drop, hcs7]; omega
          show _ + 1 + _ ≤ 1000
          omega
        · rw [List.length_map, List.length_map, List.length_range]
          exact line100' (by omega)
        · rw [upd_same, hcut1, hcut2, List.range_succ, List.map_append, List.map_append]
          have : S (cs.take sp) ++ (⟨#[97 + (bg + ap * i) % 26]⟩ : Str) ++ S ((cs.drop sp).take mo) = nmOf cs sp mo bg ap i := by
            show S (cs.take sp) ++ S [97 + (bg + ap * i) % 26] ++ S ((cs.drop sp).take mo) = _
            rw [S_app, S_app]
            unfold nmOf
            rw [List.append_assoc]
            rfl
          rw [this]
          rfl
        · exact s6.mut np
        · exact w6.upd pW.symm
      · rintro σ H6 ⟨v1, v2, rfl, e6, s6, w6⟩
        refine ⟨_, rfl, q H6 p ((List.range t).map (nmOf cs sp mo bg ap)) (sm5.trans s6) w6 npH pW e6 (by simp) (nm_nodup hap h0) ?_⟩
        intro s hs
        obtain ⟨k, _, rfl⟩ := List.mem_map.mp hs
        exact nm_ok hcs7 hc (by omega)
end
end T07

set_option maxHeartbeats 2000000
/-! Rules of our own: != of an instance whose class has an own __eq__ alone; == of one, whatever it says. -/
namespace TY
open PySem L2 PyProof.Rows TX
section
variable {prog : Program} {w : World} {A : Around} {E : Value → Shared → Prop} {s : Shared} {K : PySem.W.Frag} {x C f : Addr} {ox : Obj} {od : Option Obj} {b tb : Value}
theorem ifBound_B {M : Model} {id : String} {name : Str} {args : List Value} {Q : Option Value → Shared → Prop} (X : K.In s.heap) (I : PySem.W.InstAt s.heap x ox C od) (hs : PySem.W.findIn K (.ref C) name = some (some (.builtin id)))
    (hb : ∀ self, bindSpecial (.builtin id) self = pure (.builtin id, [self])) (h : wpAny M A (call (.builtin id) (.ref x :: args)) (fun v => Q (some v)) E s) : wpAny M A (callSpecialIfBound? (.ref x) name args) Q E s := by
  simp only [callSpecialIfBound?, bindSpecialIfBound?]
  refine wpAny_holding (wpAny_bind (wpAny_bind (wpAny_bind (I.type.here ((PySem.W.looks_findIn X hs).here ?_)))))
  refine wpAny_bind (wpAny_askSetting (wpAny_ite ?_))
  have fin : wpAny M A (call (.builtin id) ([.ref x] ++ args) >>= fun v => pure (some v)) Q E s := wpAny_bind (wpAny_mono h (fun v s' h' => wpAny_pure h') fun _ _ h' => h')
  rw [hb]
  split
  · exact wpAny_bind (wpAny_pure (wpAny_pure (by exact fin)))
  · exact wpAny_tryCatch (wpAny_bind (wpAny_pure (wpAny_pure (by exact fin))))
theorem objNe_own (hu : A.units < cLine) (X : K.In s.heap) (I : PySem.W.InstAt s.heap x ox C od) (hs : PySem.W.findIn K (.ref C) "__eq__" = some (some (.ref f))) (hf : PySem.W.isFn K (.ref f) = true) {Q : Fin → Shared → Prop}
    (h : wpAny (model prog w) A (call (.ref f) [.ref x, b]) (fun v s' => ∃ r, v = .bool r ∧ Q (.done (.ret (.bool (!r)))) s') E s) : wpAny (model prog w) A (Builtin.«object.__ne__» ⟨[.ref x, b], []⟩) Q E s := by
  have step : ∀ {Q' : Option Value → Shared → Prop}, (∀ r s', Q (.done (.ret (.bool (!r)))) s' → Q' (some (.bool r)) s') → wpAny (model prog w) A (callSpecialIfBound? (.ref x) "__eq__" [b]) Q' E s := fun hq =>
    PySem.W.ifBound_K X I hs hf (wpAny_mono h (fun v s' ⟨r, e, q⟩ => by subst e; exact hq r s' q) fun _ _ e => e)
  unfold Builtin.«object.__ne__»
  repeat (first | with_reducible refine wpAny_cRoomFor hu ?_ | with_reducible refine step (fun r s' q => ?_) | wp_step)
  exact q
theorem looks_obj {M : Model} (X : K.In s.heap) (I : PySem.W.InstAt s.heap x ox C od) (hm : PySem.W.mroIn K C (.type "object") = some true) : PySem.W.Looks M s.heap (isInstance (.ref x) (.type "object")) true := I.type.andThen (PySem.W.looks_mroIn X hm)
/-- x != b, the class having an own __eq__ alone -/
theorem ne_own {Q : Value → Shared → Prop} (hu : A.units + 1 < cLine) (X : K.In s.heap) (I : PySem.W.InstAt s.heap x ox C od) (hm : PySem.W.mroIn K C (.type "object") = some true) (hb : PySem.W.Looks (model prog w) s.heap (typeOf b) tb) (hn : PySem.W.notFirst K C tb = true)
    (hne : PySem.W.findIn K (.ref C) "__ne__" = some (some (.builtin "object.__ne__"))) (hs : PySem.W.findIn K (.ref C) "__eq__" = some (some (.ref f))) (hf : PySem.W.isFn K (.ref f) = true)
    (h : wpAny (model prog w) A.in1 (call (.ref f) [.ref x, b]) (fun v s' => ∃ r, v = .bool r ∧ Q (.bool (!r)) s') E s) : wpAny (model prog w) A (richCompare .NotEq (.ref x) b) Q E s := by
  have one : wpAny (model prog w) A (tryCompare (.ref x) (cmpInfo .NotEq).2.1 b) (fun r s' => ∃ v, r = some v ∧ Q v s') E s := by
    unfold tryCompare
    refine wpAny_bind (ifBound_B X I hne F.slot_tuple_iterator_ne.bind (wpAny_call (codeAny_call_builtin F.slot_tuple_iterator_ne.plain F.cmpEntry_ne ?_)))
    refine @PySem.W.check_slot (model prog w) _ _ s "object.__ne__" "object" "__ne__" (.ref x) [b] [] _ F.cmpKind_ne F.cmpSplit_ne (looks_obj X I hm) (F.cmpArgs_ne _ _) ?_
    refine objNe_own (by show A.in1.units < cLine; have : A.in1.units = A.units + 1 := rfl; omega) X I hs hf (wpAny_mono h (fun v s' ⟨r, e, q⟩ => ⟨r, e, ?_⟩) fun _ _ e => e)
    exact wpAny_pure ⟨_, rfl, q⟩
  unfold richCompare
  simp only [oneThing_ref]
  refine wpAny_holding (wpAny_bind (wpAny_cRoomFor (Nat.lt_of_succ_lt hu) ?_))
  refine wpAny_bind (I.type.here (wpAny_bind (hb.here ?_)))
  split
  · rename_i q
    have e : PySem.W.subIn K tb (.ref C) = some false := by
      rcases Bool.or_eq_true_iff.mp hn with e | e
      · rw [beq_iff_eq.mp e] at q; simp at q
      · exact beq_iff_eq.mp e
    refine wpAny_bind ((PySem.W.looks_subIn X e).here ?_)
    simp only [Bool.false_eq_true, if_false]
    refine wpAny_bind (wpAny_mono one (fun r s' z => ?_) fun _ _ e => e)
    obtain ⟨v, rfl, hq⟩ := z
    exact wpAny_pure hq
  · refine wpAny_bind (wpAny_pure ?_)
    simp only [Bool.false_eq_true, if_false]
    refine wpAny_bind (wpAny_mono one (fun r s' z => ?_) fun _ _ e => e)
    obtain ⟨v, rfl, hq⟩ := z
    exact wpAny_pure hq
end
/-! ### as expressions -/
section
variable {X : Cx} {CX : CXT} {n : Nat} {C f : Addr} {fd : FuncData} {ps : List Str} {sp : Sp} {E : XK}
/-- x == y and x != y by an own __eq__ -/
def rOwnEq (K : PySem.W.Frag) (C : Addr) (sp : Sp) (E : XK) (neg : Bool) : R2 := fun x y H Q => ∃ (a dx : Addr) (fs : List (Str × V)) (t : Value), x = .ref a ∧ H a = some (.ins C dx fs) ∧ TyX K H y t ∧ PySem.W.notFirst K C t = true ∧
  sp [x, y] H (fun v H' => ∃ r, v = .bl r ∧ Q (.bl (if neg = true then !r else r)) H') E
theorem run_own {A : Around} {pins : List (Addr × Obj)} {s : Shared} {σ : L2.St} {H : Hp} {x y : V} {v u : Value} {Q : VK} (F : FnOk X.prog X.w X.K X.mg X.base CX n f fd ps sp) (hb : Binds X.K fd ps []) (hx : Passes CX X E) (hr : Room n A) (hf : A.frames = X.A.frames)
    (I : Inv X pins σ H s) (rx : RelV x v) (ry : RelV y u) (h : sp [x, y] H Q E) : wpAny (model X.prog X.w) A (call (.ref f) [v, u]) (EP X pins σ Q) X.xe s := by
  have e0 : Env0 X.prog X.w X.K X.mg X.base A X.stack s H := by
    have e := I.env0
    exact ⟨by rw [hf]; exact e.frames, e.mod, e.bs, e.bsz, e.funs, e.frf, e.hok, e.bare⟩
  have hl := F.len _ _ _ _ h
  have r2 : Vals [x, y] [v, u] := .cons rx (.cons ry .nil)
  refine wpAny_call (codeAny_mono (F.run A X.stack s H ⟨[v, u], []⟩ [v, u] [x, y] _ E hr e0 (by
    have := hb s [v, u] I.kIn (by simpa using hl)
    simpa using this) r2 h) fun r s' hq => ?_)
  cases r with
  | error e => exact hx pins σ H s e s' I hq
  | ok fl =>
    cases fl with
    | ret w => exact I.after hq
    | next => exact False.elim hq
    | brk => exact False.elim hq
    | cont => exact False.elim hq
theorem op_eqOwn (F : FnOk X.prog X.w X.K X.mg X.base CX n f fd ps sp) (hs : PySem.W.findIn X.K (.ref C) "__eq__" = some (some (.ref f))) (hf : PySem.W.isFn X.K (.ref f) = true) (hb : Binds X.K fd ps []) (hx : Passes CX X E) (hr : Room n X.A) :
    OpR X (compareOp .Eq) (rOwnEq X.K C sp E false) := by
  intro pins s σ H x y v u Q I rx ry h
  obtain ⟨a, dx, fs, t, rfl, ha, ty, hn, q⟩ := h
  cases (show v = Value.ref a from rx)
  obtain ⟨mA, J, _⟩ := ins_get I.hok ha
  obtain ⟨od, J, _⟩ := J.look
  obtain ⟨P, Z, p, _⟩ := kit_of I ry ty
  obtain ⟨m, hF⟩ := I.fr
  refine PySem.W.cmp_ofEq (PySem.W.cmp_K (op := .Eq) (tb := t) hr.units0 hF I.ok.mod.kin J (Z.ty _ _ I.kIn p) hn hs hf ?_)
  refine wpAny_mono (run_own F hb hx hr rfl I rx ry q) (fun w s' z => ?_) fun _ _ e => e
  obtain ⟨z', H', I', rz, r, ez, qz⟩ := z
  subst ez
  cases (show w = Value.bool r from rz)
  exact ⟨.bl r, H', I', rfl, qz⟩
theorem op_neOwn (F : FnOk X.prog X.w X.K X.mg X.base CX n f fd ps sp) (hm : PySem.W.mroIn X.K C (.type "object") = some true) (hne : PySem.W.findIn X.K (.ref C) "__ne__" = some (some (.builtin "object.__ne__")))
    (hs : PySem.W.findIn X.K (.ref C) "__eq__" = some (some (.ref f))) (hf : PySem.W.isFn X.K (.ref f) = true) (hb : Binds X.K fd ps []) (hx : Passes CX X E) (hr : Room (n + 1) X.A) : OpR X (compareOp .NotEq) (rOwnEq X.K C sp E true) := by
  intro pins s σ H x y v u Q I rx ry h
  obtain ⟨a, dx, fs, t, rfl, ha, ty, hn, q⟩ := h
  cases (show v = Value.ref a from rx)
  obtain ⟨mA, J, _⟩ := ins_get I.hok ha
  obtain ⟨od, J, _⟩ := J.look
  obtain ⟨P, Z, p, _⟩ := kit_of I ry ty
  have hr1 : Room n X.A.in1 := hr.in1
  have hu : X.A.units + 1 < cLine := by
    have := hr1.units0
    exact this
  refine PySem.W.cmp_ofNotEq (ne_own hu I.kIn J hm (Z.ty _ _ I.kIn p) hn hne hs hf ?_)
  refine wpAny_mono (run_own F hb hx hr1 rfl I rx ry q) (fun w s' z => ?_) fun _ _ e => e
  obtain ⟨z', H', I', rz, r, ez, qz⟩ := z
  subst ez
  cases (show w = Value.bool r from rz)
  exact ⟨r, rfl, .bl (!r), H', I', rfl, qz⟩
end
end TY

set_option maxHeartbeats 4000000
/-! A rule of our own: len(set(xs)) of texts, some alike or not. -/
namespace TUD
open PySem PySem.Spec PyProof.Rows SS
section
variable {prog : Program} {w : World} {A : Around} {R : Result → Shared → Prop} {I : Addr} {fp wr : List Addr} {G : Array GenState → Array GenState → Prop} {n : Nat} {P : Nat → Value → Prop} {St : Nat → Shared → Prop}
/-- the texts met ahead of the i-th -/
def met (ks : Nat → Str) (i : Nat) (k : Str) : Bool := ((List.range i).map ks).any (· == k)
/-- how many unlike ones ahead of the i-th -/
def cnt (ks : Nat → Str) : Nat → Nat
  | 0 => 0
  | i + 1 => if met ks i (ks i) = true then cnt ks i else cnt ks i + 1
theorem cnt_le (ks : Nat → Str) : ∀ i, cnt ks i ≤ i
  | 0 => Nat.le_refl _
  | i + 1 => by
    have := cnt_le ks i
    unfold cnt
    split <;> omega
theorem met_new {ks : Nat → Str} {i : Nat} (hd : ∀ j, j < i → ks j ≠ ks i) : met ks i (ks i) = false := by
  unfold met
  rw [List.any_eq_false]
  intro y hy
  obtain ⟨j, hj, rfl⟩ := List.mem_map.mp hy
  simpa using hd j (List.mem_range.mp hj)
theorem met_next {ks : Nat → Str} {i : Nat} (k : Str) : (met ks i k || decide (k = ks i)) = met ks (i + 1) k := by
  unfold met
  rw [List.range_succ, List.map_append, List.any_append]
  have e : decide (k = ks i) = ([i].map ks).any (· == k) := by
    by_cases h : k = ks i
    · rw [decide_eq_true h, h]
      simp
    · rw [decide_eq_false h]
      have : (ks i == k) = false := by simpa using fun z => h z.symm
      simp [this]
  rw [e]
theorem loopD (Wk : WalksS prog w A.in1 I fp wr G n P St) (S : Addr) (nS : S ∉ fp) (ks : Nat → Str) (hb : n + 1 < scanBound) (hv : ∀ i v, P i v → ∃ t, v = .str (ks i) t) :
    ∀ (m i : Nat) (s : Shared), n - i = m → i ≤ n → St i s → s.heap.SetOf (PySem.strKind prog w) S (met ks i) (cnt ks i) →
      (∀ s', Moved (S :: wr) G s s' → s'.heap.SetOf (PySem.strKind prog w) S (met ks n) (cnt ks n) → R (.ok (.ret .none)) s') → codeAny (model prog w) A (.builtin "set.update.loop" ⟨[.ref S, .ref I], []⟩) R s := by
  have nW : S ∉ wr := fun z => nS (Wk.sub _ z)
  have up : ∀ b ∈ wr, b ∈ S :: wr := fun b z => List.mem_cons_of_mem _ z
  have keep : ∀ {s s' : Shared} {i : Nat}, Moved wr G s s' → s.heap.SetOf (PySem.strKind prog w) S (met ks i) (cnt ks i) → s'.heap.SetOf (PySem.strKind prog w) S (met ks i) (cnt ks i) := fun mv h => by
    obtain ⟨o, es, ep, t, ho, r⟩ := h
    exact ⟨o, es, ep, t, mv.heap S _ nW ho, r⟩
  intro m
  induction m with
  | zero =>
    intro i s hm hi hst hS hR
    obtain rfl : i = n := by omega
    refine codeAny_builtin PyProof.Rows.F.entry_set_update_loop ?_
    rw [Around.under_plainId PyProof.Rows.F.plain_set_update_loop _]
    show wpAny _ A.in1 (pyNext (.ref I) >>= _) _ _ s
    refine wpAny_bind (Wk.done s _ _ hst fun s' mv => ?_)
    show wpAny _ A.in1 (ret Value.none) _ _ s'
    exact wpAny_pure (hR s' (mv.mono up) (keep mv hS))
  | succ m ih =>
    intro i s hm hi hst hS hR
    have hlt : i < n := by omega
    refine codeAny_builtin PyProof.Rows.F.entry_set_update_loop ?_
    rw [Around.under_plainId PyProof.Rows.F.plain_set_update_loop _]
    show wpAny _ A.in1 (pyNext (.ref I) >>= _) _ _ s
    refine wpAny_bind (Wk.item i s _ _ hlt hst fun v s' hP hst' mv => ?_)
    obtain ⟨t, rfl⟩ := hv i v hP
    have h1 := keep mv hS
    show wpAny _ A.in1 (holding [Value.str (ks i) t] (setAdd S (.str (ks i) t)) >>= _) _ _ s'
    refine wpAny_bind (wpAny_holding ?_)
    unfold setAdd
    refine wpAny_holding ?_
    refine wpAny_bind ((PySem.strKind prog w).pyHash (k := ks i) (strKind_is _ _ _ _) ?_)
    refine wpAny_setAddHashed_of (knd := PySem.strKind prog w) (s := { s' with toks := s'.toks + 1 }) (strKind_is _ _ _ _) rfl h1 (by have := cnt_le ks i; omega) fun h' hsb h2 => ?_
    have h3 : h'.SetOf (PySem.strKind prog w) S (met ks (i + 1)) (cnt ks (i + 1)) := SetOf_congr h2 (fun k => met_next k) rfl
    refine wpAny_pure ⟨plainId_quiet PyProof.Rows.F.plain_set_update_loop _, ih (i + 1) _ (by omega) hlt (Wk.frame _ s' _ _ hst' (Nat.le_succ _) fun b hb o e => ?_) h3 fun s2 m2 h4 => ?_⟩
    · exact (hsb.2 b fun z => nS (z ▸ hb)).trans e
    · exact hR s2 (Moved.trans Wk.gtrans ((mv.mono up).then_heap (Nat.le_succ _) fun b o hb e => (hsb.2 b fun z => hb (by rw [z]; exact List.mem_cons_self)).trans e) m2) h4
end
section
variable {prog : Program} {w : World} {A : Around} {E : Value → Shared → Prop} {s : Shared}
/-- a set that was just begun -/
abbrev bare (led : Bool) : Obj := { cls := .type "set", dict := none, data := .set #[] 0 (.fresh 0 0 led) }
set_option maxHeartbeats 3200000 in
theorem set_texts {l : Addr} {items : Array Value} {xs : List Str} {Q : Value → Shared → Prop} (hh : A.handled = none) (hl : s.heap.IsList l items) (hi : PyProof.Rows.StrsAre items.toList xs) (h64 : xs.length < 64)
    (h : ∀ (h' : Heap) (tk : Nat), h'.SetOf (PySem.strKind prog w) s.heap.objs.size (met (fun i => xs.getD i Str.empty) items.size) (cnt (fun i => xs.getD i Str.empty) items.size) → (∀ b o, b < s.heap.objs.size → s.heap.get? b = some o → h'.get? b = some o) → Q (.ref s.heap.objs.size) { s with heap := h', toks := tk }) :
    wpAny (model prog w) A (call (.type "set") [.ref l]) Q E s := by
  obtain ⟨c, tl, hmro⟩ := PySem.F.called_set.mro
  have g1 := PySem.F.called_set.made
  have g2 := PySem.F.called_set.sub
  have g3 := PySem.F.called_set.notType
  have g4 := PySem.F.called_set.canCreate
  have g5 := PySem.F.typeCall_set_1 (.ref l)
  refine wpAny_call (codeAny_of_tree ?_)
  show wpAny _ _ (callAny (.type "set") _) _ _ _
  refine wpAny_pure ⟨Code.quiet_builtin _ (by decide +kernel), codeAny_builtin PySem.F.entry_type_call ?_⟩
  rw [Around.under_plain (weight_type_call_type "set" [.ref l] []) rfl]
  repeat (any_goals (first | assumption | wp_step))
  refine codeAny_mono (code_set_new_1 (.ref l) (E := E) (Q₁ := fun u s1 => ∃ led : Bool, u = .ref s.heap.objs.size ∧ s1 = { s with heap := s.heap.push (bare led) }) fun led => ⟨led, rfl, rfl⟩) fun r s1 hr => ?_
  cases r with
  | error e => exact hr
  | ok fl =>
   cases fl with
   | ret u =>
    obtain ⟨led, rfl, rfl⟩ := hr
    have at0 : (s.heap.push (bare led)).get? s.heap.objs.size = some (bare led) := Heap.get?_push_size _ rfl
    have ty0 : Shared.TypeIs { s with heap := s.heap.push (bare led) } (.ref s.heap.objs.size) "set" := ⟨_, at0, rfl⟩
    have g6 := PySem.F.called_set.init.lookup
    have g7 := PySem.F.called_set.init.bind (.ref s.heap.objs.size)
    repeat (any_goals (first | assumption | wp_step))
    refine codeAny_mono (codeAny_call_builtin (R := wants (fun r s2 => r = .none ∧ ∃ h' tk, s2 = { s with heap := h', toks := tk } ∧ h'.SetOf (PySem.strKind prog w) s.heap.objs.size (met (fun i => xs.getD i Str.empty) items.size) (cnt (fun i => xs.getD i Str.empty) items.size) ∧
        (∀ b o, b < s.heap.objs.size → s.heap.get? b = some o → h'.get? b = some o)) E) PySem.F.called_set.init.plain PySem.F.entry_set_init (check_set_init_1 ty0 ?_)) fun r2 s2 hr2 => ?_
    · obtain ⟨ol, hol, hcl, nl, hdl⟩ := hl
      obtain ⟨oc, od, odata, osl⟩ := ol
      simp only at hcl hdl
      subst hcl hdl
      have at1 : (s.heap.push (bare led)).get? l = some { cls := .type "list", dict := od, data := .seq items nl, slots := osl } := Heap.get?_push_of_some _ hol
      have g8 := PySem.F.sub_list_set
      have g9 := PySem.F.sub_list_frozenset
      have g10 : (Value.type "list" == Value.type "dict") = false := by decide
      have il : (s.heap.push (bare led)).IsList l items := ⟨_, at1, rfl, nl, rfl⟩
      unfold Builtin.«set.__init__» noKeywords Builtin.Frozenset.updateFrom
      generalize hPI : pyIter = PI
      wp_walk
      subst hPI
      refine wpAny_pyIter_list il ?_
      refine wpAny_bind (wpAny_runValue ?_)
      have lS : l < s.heap.objs.size := Heap.lt_size hol
      have sz : (s.heap.push (bare led)).objs.size = s.heap.objs.size + 1 := Heap.size_push _ _
      have hn3 : A.in1.in1.in1.handled = none := by simp [hh]
      have lI : l ≠ (s.heap.push (bare led)).objs.size := by
        rw [sz]
        exact Nat.ne_of_lt (Nat.lt_succ_of_lt lS)
      have nS : s.heap.objs.size ∉ [(s.heap.push (bare led)).objs.size, l] := by
        rw [sz]
        simp only [List.mem_cons, List.not_mem_nil, or_false, not_or]
        exact ⟨Nat.ne_of_lt (Nat.lt_succ_self _), Nat.ne_of_gt lS⟩
      have hsz : xs.length = items.size := by rw [← StrsAre.len_eq hi, Array.length_toList]
      have hv : ∀ (i : Nat) (v : Value), items[i]? = some v → ∃ t, v = .str (xs.getD i Str.empty) t := fun i v e => strs_at hi i v (by rw [Array.getElem?_toList]; exact e)
      refine loopD ((Walks.list hn3 _ l lI items).toS) s.heap.objs.size nS (fun i => xs.getD i Str.empty) (by unfold scanBound; omega) hv (items.size - 0) 0 _ (by omega) (Nat.zero_le _) ⟨⟨_, Heap.get?_push_size _ rfl, rfl, rfl⟩, (il.push _)⟩ ?begun ?ended
      case begun =>
        have at2 : ((s.heap.push (bare led)).push { cls := .type "list_iterator", data := .fields #[.ref l, .int 0 0] }).get? s.heap.objs.size = some (bare led) := Heap.get?_push_of_some _ at0
        exact PyProof.Rows.SetOf_congr ((PyProof.Rows.setObjOf_fresh (knd := PySem.strKind prog w) led).setOf at2 (by unfold scanBound; omega)) (fun _ => rfl) rfl
      case ended =>
        intro s3 mv hS3
        obtain ⟨h', g', d', tk', os'⟩ := s3
        obtain rfl : g' = s.gens := mv.gens
        obtain rfl : d' = s.drawn := mv.drawn
        obtain rfl : os' = s.os := mv.os
        show wpAny _ _ _ _ _ _
        refine wpAny_pure ?_
        show wpAny _ _ (ret Value.none) _ _ _
        refine wpAny_pure ⟨rfl, h', tk', rfl, hS3, fun b o hb e => ?_⟩
        refine mv.heap b o ?_ (Heap.get?_push_of_some _ (Heap.get?_push_of_some _ e))
        rw [sz]
        simp only [List.mem_cons, List.not_mem_nil, or_false, not_or]
        exact ⟨Nat.ne_of_lt hb, Nat.ne_of_lt (Nat.lt_succ_of_lt hb)⟩
    · cases r2 with
      | error e => exact hr2
      | ok f2 =>
        cases f2 with
        | ret r =>
          obtain ⟨rfl, h', tk, rfl, h1, h2⟩ := hr2
          repeat (any_goals (first | assumption | wp_step))
          exact h _ _ h1 h2
        | _ => exact hr2.elim
   | _ => exact hr.elim
end
end TUD

set_option maxHeartbeats 2000000
namespace TUD
open PySem L2 PyProof.Rows TX TY
/-- how many unlike texts -/
def unl (xs : List Str) : Nat := cnt (fun i => xs.getD i Str.empty) xs.length
theorem met_old {ks : Nat → Str} {i : Nat} : met ks i (ks i) = true ↔ ∃ j, j < i ∧ ks j = ks i := by
  unfold met
  rw [List.any_eq_true]
  constructor
  · rintro ⟨y, hy, e⟩
    obtain ⟨j, hj, rfl⟩ := List.mem_map.mp hy
    exact ⟨j, List.mem_range.mp hj, by simpa using e⟩
  · rintro ⟨j, hj, e⟩
    exact ⟨ks j, List.mem_map.mpr ⟨j, List.mem_range.mpr hj, rfl⟩, by simpa using e⟩
theorem cnt_eq {ks : Nat → Str} : ∀ {i : Nat}, cnt ks i = i ↔ ∀ b, b < i → ∀ a, a < b → ks a ≠ ks b
  | 0 => ⟨fun _ b hb => absurd hb (Nat.not_lt_zero _), fun _ => rfl⟩
  | i + 1 => by
    have ih := cnt_eq (ks := ks) (i := i)
    have le := cnt_le ks i
    unfold cnt
    constructor
    · intro h b hb a ha e
      split at h
      · omega
      · rename_i hm
        have h' : cnt ks i = i := by omega
        by_cases hbi : b = i
        · subst hbi
          exact hm (met_old.mpr ⟨a, ha, e⟩)
        · exact ih.mp h' b (by omega) a ha e
    · intro h
      have h1 := ih.mpr fun b hb a ha => h b (by omega) a ha
      rw [if_neg]
      · omega
      · intro z
        obtain ⟨j, hj, e⟩ := met_old.mp z
        exact h i (Nat.lt_succ_self _) j hj e
theorem unl_eq {xs : List Str} : unl xs = xs.length ↔ xs.Nodup := by
  unfold unl
  rw [cnt_eq]
  constructor
  · intro h
    rw [List.nodup_iff_pairwise_ne, List.pairwise_iff_getElem]
    intro i j hi hj hij e
    refine h j hj i hij ?_
    rw [List.getD_eq_getElem?_getD, List.getD_eq_getElem?_getD, List.getElem?_eq_getElem hi, List.getElem?_eq_getElem hj]
    exact e
  · intro h b hb a ha e
    have ha' : a < xs.length := by omega
    rw [List.getD_eq_getElem?_getD, List.getD_eq_getElem?_getD, List.getElem?_eq_getElem ha', List.getElem?_eq_getElem hb] at e
    have := (List.getElem_inj h).mp e
    omega
section
variable {X : Cx}
/-- len(set(xs)), xs texts -/
def tLenD (K : PySem.W.Frag) (ta : TE) : TE := fun σ H Q => ta σ H fun x H1 => ∃ (l : Addr) (xs : List Str), x = .ref l ∧ SqL K H1 l (xs.map V.str) ∧ xs.length < 64 ∧ Q (.int (unl xs)) H1
theorem vals_strs : ∀ {xs : List Str} {us : List Value}, Vals (xs.map V.str) us → StrsAre us xs
  | [], _, h => by
    cases h
    exact .nil
  | x :: r, _, h => by
    cases h with
    | cons h t =>
      obtain ⟨k, e⟩ := (show ∃ k, _ = Value.str x k from h)
      subst e
      exact .cons x k (vals_strs t)
theorem pe_lenD {a : Expr} {ta : TE} {p p2 q pos : Pos} (hc : X.calm = true) (hg : Gl X "len") (hm : X.mg "len" = none) (hg2 : Gl X "set") (hm2 : X.mg "set" = none) (ha : PE X a ta)
    (na : starEach [a] X.env = (false, eval a X.env) :: starEach [] X.env := by rfl) : PE X (.Call (.Name "len" p) [.Call (.Name "set" p2) [a] [] q] [] pos) (tLenD X.K ta) := by
  refine ⟨fun pins s σ H Q I h => ?_⟩
  refine Call_ (ld_blt I hg hm boot_len (PyProof.Rows.callWith_builtin1 (PyProof.Rows.args_cons ?_ rfl) rfl rfl))
  refine Call_ (ld_blt I hg2 hm2 boot_set (PyProof.Rows.callWith_type1 (PyProof.Rows.args_cons (thn (ha.run pins s σ H _ I h) fun v s1 ⟨x, H1, I1, r1, q1⟩ => PyProof.Rows.args_nil ?_) na) na rfl))
  obtain ⟨l, xs, rfl, hq, h64, q2⟩ := q1
  cases r1
  obtain ⟨its, r, pl, hz⟩ := I1.list hq
  have hl : its.toArray.size = xs.length := by rw [List.size_toArray, ← r.length, List.length_map]
  refine set_texts (I1.ok.hd hc) pl.isList (by simpa using vals_strs r) h64 fun h' tk hS hk => ?_
  refine PyProof.Rows.args_nil ?_
  rw [hl] at hS
  have hle := cnt_le (fun i => xs.getD i Str.empty) xs.length
  obtain ⟨o, es, ep, t, ho, hex, hd', _, _, _, hf, hn⟩ := hS
  have I2 : Inv X pins σ H1 { s1 with heap := h', toks := tk } := I1.kept fun b o e => hk b o (Heap.lt_size e) e
  exact call_len_set ho hex hd' hf (by rw [hn]; omega) ⟨.int (unl xs), H1, I2.tok _, ⟨_, by rw [hn]; rfl⟩, q2⟩
end
end TUD

set_option maxHeartbeats 1000000
/-! Refusals with a field of their own: made, raised, caught. -/
namespace TE
open PySem L2 PyProof.Rows TX TY
/-- an own class over ValueError, read off the written part -/
def oexB (K : PySem.W.Frag) (C : Addr) : Bool := match K.lookup C with
  | some ⟨.type "type", _, .cls cd, sl⟩ => (match cd.mro, sl.toList with
    | .ref D :: bm, [_, _, _, _, some (.builtin n), _] => D == C && (n == "ValueError.__new__" && (!cd.hasDel && (cd.hasDict && PySem.HandSPX.refsVE bm)))
    | _, _ => false)
  | _ => false
theorem oexB_ok {K : PySem.W.Frag} {C : Addr} (q : oexB K C = true) : ∃ nm q N bs bm sn sub ab col dd k0 k1 k2 k3 k5, K.lookup C = some (excClassObj nm q C N bs bm true sn sub ab col dd k0 k1 k2 k3 k5 "ValueError.__new__") ∧ PySem.HandSPX.refsVE bm = true := by
  unfold oexB at q
  split at q
  · rename_i dd cd sl ho
    split at q
    · rename_i D bm k0 k1 k2 k3 n k5 hm hs
      simp only [Bool.and_eq_true, beq_iff_eq, Bool.not_eq_true'] at q
      obtain ⟨rfl, rfl, hdel, hdict, ht⟩ := q
      obtain ⟨nm, bs, mro, ns, qn, hd, sn, sub, ab, col, del⟩ := cd
      dsimp only at hm hdel hdict
      subst hm hdel hdict
      have hsl : sl = #[k0, k1, k2, k3, some (.builtin "ValueError.__new__"), k5] := by
        obtain ⟨l⟩ := sl
        simp only at hs
        rw [hs]
      subst hsl
      exact ⟨nm, qn, ns, bs, bm, sn, sub, ab, col, dd, k0, k1, k2, k3, k5, ho, ht⟩
    · cases q
  · cases q
section
variable {K : PySem.W.Frag} {mg : Str → Option Value}
/-- a class that is raised, with its own field -/
structure Nt (K : PySem.W.Frag) (mg : Str → Option Value) (x fld qual : Str) (st : Stmt) (Ct fi : Addr) (di : FuncData) : Prop where
  T : OexC K Ct
  i : PySem.W.findIn K (.ref Ct) "__init__" = some (some (.ref fi))
  t : PySem.W.typeIn K (.ref fi) = some (.type "function")
  F : Fun K "__init__" qual st fi di
  b : Binds K di ["self", fld] []
  g : mg x = some (.ref Ct)
  no : PySem.W.findIn K (.ref Ct) fld = some none
def sp_efld (C : Addr) (fld : Str) : Sp := fun vs H Q _ => ∃ (a : Addr) (v : V), vs = [.ref a, v] ∧ H a = some (exo a C none) ∧ ∀ dx, H dx = none → dx ≠ a → Q .non (upd (upd H dx (exd dx [(fld, v)])) a (exo a C (some dx)))
/-- raise C(v) -/
theorem rd_efld {C : Addr} {fld : Str} {H : Hp} {v : V} {Q : XK} (q : ∀ H' d, Same H H' → H' d = some (.xd [(fld, v)]) → Q (.ref C) (some d) H') : ∀ a, H a = none → sp_efld C fld [.ref a, v] (upd H a (exo a C none))
    (fun u H2 => u = .non ∧ ∃ (d : Addr) (fs : List (Str × V)), H2 a = some (exo a C (some d)) ∧ H2 d = some (exd d fs) ∧ H d = none ∧ Q (.ref C) (some d) (upd (del H2 a) d (.xd fs))) (fun _ _ _ => False) := by
  intro a na
  refine ⟨a, v, rfl, upd_same, fun dx nx hne => ⟨rfl, dx, [(fld, v)], upd_same, by rw [upd_ne hne, upd_same], ?_, ?_⟩⟩
  · rw [upd_ne hne] at nx
    exact nx
  · rw [upd_ne hne] at nx
    refine q _ dx (fun b o e => ?_) upd_same
    have hb1 : b ≠ dx := ne_of_none e nx
    have hb2 : b ≠ a := ne_of_none e na
    rw [upd_ne hb1, del_ne hb2, upd_ne hb2, upd_ne hb1, upd_ne hb2]
    exact e
end
end TE

set_option maxHeartbeats 1000000
/-! A rule of our own: f(k = v, ..), no argument by place. -/
namespace TK
open PySem L2 PyProof.Rows
theorem pe_callK0 {X : Cx} {CX : CXT} {k : Nat} {f : Addr} {fd : FuncData} {ps ks : List Str} {sp : Sp} {E : XK} {x : Str} {p pos : Pos} {kws : List Keyword} {tk : TA} {g : List Value → List Value → List Value} {gV : List V → List V → List V}
    (F : FnOk X.prog X.w X.K X.mg X.base CX k f fd ps sp) (hr : Room k X.A) (hg : Gl X x) (hm : X.mg x = some (.ref f)) (hk : PySem.W.keepIn X.K (.ref f) = true) (hb : KBn X.K fd ps 0 ks g gV) (hx : Passes CX X E) (hkw : PK X kws tk)
    (hall : ((backToKw pos (keywordEach kws X.env)).all (·.1.isSome)) = true := by rfl) (hks : (backToKw pos (keywordEach kws X.env)).filterMap (·.1) = ks := by rfl) (hdb : (x == Str.ofString "__debug__") = false := by decide +kernel)
    (hpl : (((backTo pos (starEach [] X.env)).any (·.1)) || (backToKw pos (keywordEach kws X.env)).any (·.1.isNone)) = false := by rfl) : PE X (.Call (.Name x p) [] kws pos) (tCallN 0 ks.length sp gV E tNil tk) :=
  ⟨fun pins s σ H Q I h => wpAny_Call_Name_kw (ld_glob I hg hm (by
    refine PySem.W.callWith_KW0 I.ok.mod.kin hk hall ?_ hpl
    refine thn (hkw.run pos pins s σ H _ I h) fun ws s2 x => ?_
    obtain ⟨zs, H2, I2, rz, l1, l2, q2⟩ := x
    refine ⟨I2.kIn, ?_⟩
    rw [hks]
    exact run_fnN F hr hb hx I2 .nil rz rfl l2 q2) hdb)⟩
theorem kbn0 {K : PySem.W.Frag} {x qual : Str} {st : Stmt} {f : Addr} {fd : FuncData} {ps ks : List Str} (F : Fun K x qual st f fd) (g : {α : Type} → List α → List α) (hrel : ∀ {zs : List V} {ws : List Value}, Vals zs ws → Vals (g zs) (g ws))
    (h : ∀ (kV doc pm : Value) (an : Option Addr) (cdv ct : Value) (ws : List Value), ws.length = ks.length → bindArgs (PySem.W.fnOf x qual (defArgs st) (defBody st) (defScope st) .none kV doc pm an cdv ct) { pos := [], kw := ks.zip ws } = pure (ps.zip (g ws))) :
    KBn K fd ps 0 ks (fun _ ws => g ws) (fun _ zs => g zs) := by
  obtain ⟨oc, od, kV, doc, pm, an, cdv, ct, osl, rfl, lk, hcd⟩ := F.ex
  refine ⟨fun s us ws hK hu hw => ?_, fun _ r => hrel r⟩
  have : us = [] := List.length_eq_zero_iff.mp hu
  subst this
  exact .of_eq (h kV doc pm an cdv ct ws hw)
theorem vals_rev {zs : List V} {ws : List Value} (h : Vals zs ws) : Vals zs.reverse ws.reverse := by
  have app : ∀ {a b : List V} {c d : List Value}, Vals a c → Vals b d → Vals (a ++ b) (c ++ d) := by
    intro a b c d h k
    induction h with
    | nil => exact k
    | cons r _ ih => exact .cons r ih
  induction h with
  | nil => exact .nil
  | cons r _ ih =>
    rw [List.reverse_cons, List.reverse_cons]
    exact app ih (.cons r .nil)
end TK

set_option maxHeartbeats 1000000
/-! Rules of our own: a method that may raise what the caller's slots say; a method called by names alone. -/
namespace TK
open PySem L2 PyProof.Rows
section
variable {X : Cx} {CX : CXT} {k : Nat} {f C : Addr} {fd : FuncData} {ps : List Str} {sp : Sp} {m : Str} {pos apos : Pos} {o : Expr} {ta : TE} {pl : Sem Bool}
def tMethE (C : Addr) (m : Str) (sp : Sp) (E : L2.St → XK) (ta : TE) (t : TA) : TE := fun σ H Q => ta σ H fun x H1 => ∃ (a dx : Addr) (fs : List (Str × V)), x = .ref a ∧ H1 a = some (.ins C dx fs) ∧ fs.lookup m = none ∧ t σ H1 fun vs H2 => sp (x :: vs) H2 Q (E σ)
theorem pe_methE {E : L2.St → XK} {e : Expr} {es : List Expr} {t : TA} (he : PE X o ta) (c : Cls X.K C) (hm : Meth X.K C m f) (F : FnOk X.prog X.w X.K X.mg X.base CX k f fd ps sp) (hr : Room k X.A) (hb : Binds X.K fd ps []) (hx : ∀ σ, PassesAt CX X σ (E σ)) (ha : PA X (e :: es) t)
    (hst : starEach (e :: es) X.env = (false, eval e X.env) :: starEach es X.env := by rfl) (hpl : (backTo pos (starEach es X.env)).any (·.1) = false := by rfl)
    (ht : eval (.Call (.Attribute o m apos) (e :: es) [] pos) X.env = (do
      let ov ← eval o X.env
      standAt apos.atName
      let (f, first) ← holding [ov] (getMethod ov m pl)
      callWith pos f first (backTo pos (starEach (e :: es) X.env)) (backToKw pos (keywordEach [] X.env))) := by rfl) : PE X (.Call (.Attribute o m apos) (e :: es) [] pos) (tMethE C m sp E ta t) := by
  refine ⟨fun pins s σ H Q I h => PySem.W.methodCall_KW (thn (he.run pins s σ H _ I h) fun u s1 x => ?_) ht⟩
  obtain ⟨x, H1, I1, rx, a, dx, fs, rfl, ea, l, q⟩ := x
  cases (show u = Value.ref a from rx)
  refine getmeth_ok I1 ea c hm l (PySem.W.callWith_K (h₀ := X.base) I.ok.mod.kin hm.kp (thn (ha.run pos pins s1 σ H1 _ I1 q) fun us s2 x => ?_) hst hpl)
  obtain ⟨vs, H2, I2, r, q2⟩ := x
  exact ⟨I2.kIn, run_fnS F hr hb (hx σ) I2 (.cons (show RelV (V.ref a) (Value.ref a) from rfl) r) q2⟩
def tMethK0 (C : Addr) (m : Str) (n : Nat) (sp : Sp) (gV : List V → List V → List V) (E : XK) (ta : TE) (tk : TA) : TE := fun σ H Q => ta σ H fun x H1 => ∃ (a dx : Addr) (fs : List (Str × V)), x = .ref a ∧ H1 a = some (.ins C dx fs) ∧ fs.lookup m = none ∧ tk σ H1 fun zs H2 => zs.length = n ∧ sp (gV [x] zs) H2 Q E
theorem pe_methK0 {E : XK} {kws : List Keyword} {ks : List Str} {tk : TA} {g : List Value → List Value → List Value} {gV : List V → List V → List V} (he : PE X o ta) (c : Cls X.K C) (hm : Meth X.K C m f) (F : FnOk X.prog X.w X.K X.mg X.base CX k f fd ps sp) (hr : Room k X.A) (hb : KBn X.K fd ps 1 ks g gV) (hx : Passes CX X E) (hkw : PK X kws tk)
    (hall : ((backToKw pos (keywordEach kws X.env)).all (·.1.isSome)) = true := by rfl) (hks : (backToKw pos (keywordEach kws X.env)).filterMap (·.1) = ks := by rfl)
    (hpl : (((backTo pos (starEach [] X.env)).any (·.1)) || (backToKw pos (keywordEach kws X.env)).any (·.1.isNone)) = false := by rfl)
    (ht : eval (.Call (.Attribute o m apos) [] kws pos) X.env = (do
      let ov ← eval o X.env
      standAt apos.atName
      let (f, first) ← holding [ov] (getMethod ov m pl)
      callWith pos f first (backTo pos (starEach [] X.env)) (backToKw pos (keywordEach kws X.env))) := by rfl) : PE X (.Call (.Attribute o m apos) [] kws pos) (tMethK0 C m ks.length sp gV E ta tk) := by
  refine ⟨fun pins s σ H Q I h => PySem.W.methodCall_KW (thn (he.run pins s σ H _ I h) fun u s1 x => ?_) ht⟩
  obtain ⟨x, H1, I1, rx, a, dx, fs, rfl, ea, l, q⟩ := x
  cases (show u = Value.ref a from rx)
  refine getmeth_ok I1 ea c hm l (PySem.W.callWith_KW0 I.ok.mod.kin hm.kp hall ?_ hpl)
  refine thn (hkw.run pos pins s1 σ H1 _ I1 q) fun ws s2 x => ?_
  obtain ⟨zs, H2, I2, rz, l2, q2⟩ := x
  refine ⟨I2.kIn, ?_⟩
  rw [hks]
  exact run_fnN F hr hb hx I2 (.cons (show RelV (V.ref a) (Value.ref a) from rfl) .nil) rz rfl l2 q2
theorem kbn1 {K : PySem.W.Frag} {x qual : Str} {st : Stmt} {f : Addr} {fd : FuncData} {ps ks : List Str} (F : Fun K x qual st f fd) (g : {α : Type} → List α → List α → List α) (hrel : ∀ {vs : List V} {us : List Value} {zs : List V} {ws : List Value}, Vals vs us → Vals zs ws → Vals (g vs zs) (g us ws)) (n : Nat)
    (h : ∀ (kV doc pm : Value) (an : Option Addr) (cdv ct : Value) (us ws : List Value), us.length = n → ws.length = ks.length → bindArgs (PySem.W.fnOf x qual (defArgs st) (defBody st) (defScope st) .none kV doc pm an cdv ct) { pos := us, kw := ks.zip ws } = pure (ps.zip (g us ws))) :
    KBn K fd ps n ks (fun us ws => g us ws) (fun vs zs => g vs zs) := by
  obtain ⟨oc, od, kV, doc, pm, an, cdv, ct, osl, rfl, lk, hcd⟩ := F.ex
  exact ⟨fun s us ws hK hu hw => .of_eq (h kV doc pm an cdv ct us ws hu hw), fun r1 r2 => hrel r1 r2⟩
end
end TK

set_option maxHeartbeats 2000000
/-! Rules of our own: dict == dict that may be False; str(o) by an own __str__. -/
namespace TQ
open PySem L2 PyProof.Rows TX TY
section
variable {κ : Type} [DecidableEq κ]
/-- whether each entry has its like -/
def likes (ls : List (κ × V)) (p : κ × V) : Bool := match valV ls p.1 with
  | some y => eqV p.2 y
  | none => false
theorem hits_any {A : Around} {s : Shared} {ls : List (κ × V)} {vb : List (κ × Value)} (rb : KV ls vb) (fb : ∀ p ∈ ls, flatV p.2 = true) : ∀ {ks : List (κ × V)} {va : List (κ × Value)}, KV ks va → (∀ p ∈ ks, flatV p.2 = true) → PySem.W.KeqHits A s vb va (ks.all (likes ls)) := by
  intro ks va ra
  unfold KV at ra
  induction ra with
  | nil => intro _; exact .nil
  | @cons p q ps qs h t ih =>
    intro hp
    obtain ⟨k, v⟩ := q
    obtain ⟨h1, h2⟩ := h
    have h1' : p.1 = k := h1
    subst h1'
    have rr := rb.val p.1
    rw [List.all_cons]
    cases e : valV ls p.1 with
    | none =>
      have e2 : likes ls p = false := by unfold likes; rw [e]
      rw [e] at rr
      rw [e2, Bool.false_and]
      refine .miss ?_
      cases hv : valueAt vb p.1 with
      | none => rfl
      | some y => rw [hv] at rr; cases rr
    | some y =>
      have e2 : likes ls p = eqV p.2 y := by unfold likes; rw [e]
      rw [e] at rr
      rw [e2]
      obtain ⟨u, hu, ru⟩ := rr.some_of
      have fy : flatV y = true := by
        unfold valV at e
        rw [Option.map_eq_some_iff] at e
        obtain ⟨q, hq, rfl⟩ := e
        exact fb q (List.mem_of_find?_eq_some hq)
      exact .hit hu (eqAt_V h2 ru (hp p List.mem_cons_self) fy) (ih fun q hq => hp q (List.mem_cons_of_mem _ hq))
end
section
variable {X : Cx}
/-- d == e -/
def rEqDB : R2 := fun x y H Q => ∃ a b ks ls, x = .ref a ∧ y = .ref b ∧ H a = some (.dK ks) ∧ H b = some (.dK ls) ∧ (∀ p ∈ ks, flatV p.2 = true) ∧ (∀ p ∈ ls, flatV p.2 = true) ∧ Q (.bl (ks.length == ls.length && ks.all (likes ls))) H
theorem op_eqDB (hu : X.A.units < cLine) : OpR X (compareOp .Eq) rEqDB := by
  intro pins s σ H x y v u Q I rx ry h
  obtain ⟨a, b, ks, ls, rfl, rfl, ea, eb, fa, fb, q⟩ := h
  cases (show v = Value.ref a from rx)
  cases (show u = Value.ref b from ry)
  obtain ⟨_, ya, va, ra, da⟩ := (show ObjOk X.prog X.w H s.heap a (.dK ks) from I.hok a _ ea)
  obtain ⟨_, yb, vb, rb, db⟩ := (show ObjOk X.prog X.w H s.heap b (.dK ls) from I.hok b _ eb)
  have la : va.length = ks.length := ra.length.symm
  have lb : vb.length = ls.length := rb.length.symm
  refine PySem.W.keq_eq (knd := mixKind X.prog X.w) (r := ks.all (likes ls)) ya yb da db hu (fun _ => hits_any rb fb ra fa) (fin_bl I q ?_)
  rw [la, lb]
theorem mi_str {P : Program} {w : World} {v : Value} {S : PySem.Spec} (hs : ∀ (A : Around) (R : Result → Shared → Prop) (s : Shared), S A R s → wpAny (model P w) A.in1 (Builtin.Str.strOf v) (fun r s' => R (.ok (.ret r)) s') (fun e s' => R (.error e) s') s) :
    MeetsIn P w (Builtin.«str.__new__» ⟨[.type "str", v], []⟩) S := MeetsIn.of_wp fun A R s h => by
  rw [str_new_tree v]
  exact wpAny_bind (wpAny_pure (wpAny_bind (wpAny_of_eq isSubtype_str_str (wpAny_bind (wpAny_mono (hs A R s h) (fun r s' h' => wpAny_pure ⟨_, rfl, h'⟩) fun _ _ e => e)))))
/-- str(o) by an own __str__ -/
def rStrO (C : Addr) (sp : Sp) (E : XK) : List V → Hp → VK → Prop := fun xs H Q => ∃ a dx fs, xs = [.ref a] ∧ H a = some (.ins C dx fs) ∧ sp [.ref a] H (fun v H' => ∃ y : Str, v = .str y ∧ Q (.str y) H') E
theorem call_strO {CX : CXT} {C f : Addr} {fd : FuncData} {ps : List Str} {sp : Sp} {E : XK} {n : Nat} (G : FnOk X.prog X.w X.K X.mg X.base CX n f fd ps sp) (hs : PySem.W.findIn X.K (.ref C) "__str__" = some (some (.ref f)))
    (hf : PySem.W.isFn X.K (.ref f) = true) (hb : Binds X.K fd ps []) (hx : Passes CX X E) (hr : Room (n + 2) X.A) : CallR X (.type "str") (rStrO C sp E) := by
  intro pins s σ H xs us Q I r h
  obtain ⟨a, dx, fs, rfl, ha, hsp⟩ := h
  obtain ⟨u, rfl, rx⟩ := vals1 r
  cases rx
  obtain ⟨mA, J, _⟩ := ins_get I.hok ha
  obtain ⟨od, J, _⟩ := J.look
  obtain ⟨m, hF⟩ := I.fr
  have hin : Room (n + 1) X.A.in1 := hr.in1
  have h1 : Room n X.A.in1.in1 := hin.in1
  refine callType_newIn (T := "str") (S := fun A' R s' => wpAny (model X.prog X.w) A'.in1 (Builtin.Str.strOf (.ref a)) (fun r s' => R (.ok (.ret r)) s') (fun e s' => R (.error e) s') s') F.called_str (by decide) (F.typeCall_str_1 _) (F.newCall_str_1 _) (fun obj => F.args_object_init_2 obj _) F.entry_str_new
    (mi_str fun A' R s' h => h) ?_
  show wpAny _ X.A.in1.in1 (Builtin.Str.strOf (.ref a)) _ _ s
  unfold Builtin.Str.strOf
  refine wpAny_bind (m := cRoomFor "str" _) (wpAny_cRoomFor h1.units0 ?_)
  refine wpAny_bind (m := callSpecial? (.ref a) (PySem.Str.ofString "__str__")) (PySem.W.special_fn I.kIn J hs (beq_iff_eq.mp hf) ?_)
  have e0 : Env0 X.prog X.w X.K X.mg X.base X.A.in1.in1 X.stack s H := by
    have e := I.env0
    exact ⟨e.frames, e.mod, e.bs, e.bsz, e.funs, e.frf, e.hok, e.bare⟩
  have hl := G.len _ _ _ _ hsp
  refine wpAny_call (codeAny_mono (G.run X.A.in1.in1 X.stack s H ⟨[.ref a], []⟩ [.ref a] [.ref a] _ E h1 e0 (by
    have := hb s [.ref a] I.kIn (by simpa using hl)
    simpa using this) (.cons rfl .nil) hsp) fun r s' hq => ?_)
  cases r with
  | error e => exact hx pins σ H s e s' I hq
  | ok fl =>
    cases fl with
    | ret u =>
      obtain ⟨z, H', I', rz, y, ez, q⟩ := I.after hq
      subst ez
      obtain ⟨t, rfl⟩ := rz
      refine wpAny_bind (wpAny_pure ?_)
      exact wpAny_pure ⟨typeIs_str _ _ _, .str y, H', I', ⟨t, rfl⟩, q⟩
    | next => exact False.elim hq
    | brk => exact False.elim hq
    | cont => exact False.elim hq
end
end TQ

set_option maxHeartbeats 2000000
/-! Lambdas that are kept, handed on and called. -/
namespace TLC
open PySem PySem.Spec PyProof.Rows L2 LamX NdefX
/-- the object at f is the lambda F with this body -/
def LamO (f : Addr) (F : NF) (b : Expr) : HO := .ext fun h => ∃ pm ctv, h.get? f = some (PySem.W.kla_obj F.name F.qual F.params b F.scope F.cl pm F.c ctv)
theorem lamO_tbl {f : Addr} {F : NF} {b : Expr} (ps : Array Value) : LamO f F b ≠ .tbl ps := fun z => by
  unfold LamO at z
  cases z
theorem lamO_get {P : Program} {w : World} {H : Hp} {h : Heap} {f : Addr} {F : NF} {b : Expr} (k : HOk P w H h) (e : H f = some (LamO f F b)) : ∃ pm ctv, h.get? f = some (PySem.W.kla_obj F.name F.qual F.params b F.scope F.cl pm F.c ctv) := (k f _ e).1
section
variable {X : Cx} {pins : List (Addr × Obj)} {σ : L2.St} {H : Hp} {s : Shared}
/-- known as soon as it is laid -/
theorem inv_lam {h' : Heap} {t' : Nat} {F : NF} {b : Expr} {pm ctv : Value} (I : Inv X pins σ H { s with heap := h', toks := t' }) :
    Inv X pins σ (upd H h'.objs.size (LamO h'.objs.size F b)) { s with heap := h'.push (PySem.W.kla_obj F.name F.qual F.params b F.scope F.cl pm F.c ctv), toks := t' } := by
  have e := Heap.get?_push_size h' (o := PySem.W.kla_obj F.name F.qual F.params b F.scope F.cl pm F.c ctv) rfl
  exact I.laid (h' := h'.push (PySem.W.kla_obj F.name F.qual F.params b F.scope F.cl pm F.c ctv)) (t' := t') (fun c u z => Heap.get?_push_of_some _ z) (Nat.le_refl _) ⟨⟨pm, ctv, e⟩, ⟨_, e⟩, fun g1 g2 ⟨p, c, z⟩ k => ⟨p, c, k _ z⟩⟩
end
/-- what one more code object leaves of the tables -/
theorem tabs_more {T : List (Addr × Str)} {H : Hp} {P c : Addr} {q : Str} {pos : Pos} {ps : Array Value} (hT : Tabs T H) (hu : ∀ p ∈ T, p.1 = P → p.2 = q) (hP : H P = some (.tbl ps)) (tr : TriplesOk ps.toList)
    (al : ∀ (pos : Pos) (cv : Value), codeAmong pos ps.toList = some cv → ∃ c, cv = .ref c ∧ H c = some (CodeO c q)) (nC : H c = none) :
    ExtN H (upd (upd H P (.tbl (ps ++ #[rawInt pos.line, rawInt pos.col, .ref c]))) c (CodeO c q)) ∧ Tabs T (upd (upd H P (.tbl (ps ++ #[rawInt pos.line, rawInt pos.col, .ref c]))) c (CodeO c q)) := by
  have ne : P ≠ c := ne_of_none hP nC
  have ex : ExtN H (upd (upd H P (.tbl (ps ++ #[rawInt pos.line, rawInt pos.col, .ref c]))) c (CodeO c q)) := by
    intro a o e n
    have h1 : a ≠ c := ne_of_none e nC
    have h2 : a ≠ P := by
      rintro rfl
      rw [hP] at e
      exact n _ (Option.some.inj e).symm
    rw [upd_ne h1, upd_ne h2, e]
  refine ⟨ex, fun p hp => ?_⟩
  by_cases hb : p.1 = P
  · have l : (ps ++ #[rawInt pos.line, rawInt pos.col, .ref c]).toList = ps.toList ++ [rawInt pos.line, rawInt pos.col, .ref c] := by simp
    rw [hb, hu p hp hb]
    refine ⟨ps ++ #[rawInt pos.line, rawInt pos.col, .ref c], ?_, ?_, ?_⟩
    · rw [upd_ne ne, upd_same]
    · rw [l]
      exact TriplesOk_snoc _ _ _ _ tr
    · intro pos' cv e
      rw [l] at e
      cases among_app _ tr e with
      | inl z =>
        obtain ⟨c0, k1, k2⟩ := al _ _ z
        exact ⟨c0, k1, ex _ _ k2 codeO_ne⟩
      | inr z => exact ⟨c, z, upd_same⟩
  · obtain ⟨qs, k1, k2, k3⟩ := hT p hp
    refine ⟨qs, ?_, k2, fun pos' cv e => ?_⟩
    · rw [upd_ne (ne_of_none k1 nC), upd_ne hb, k1]
    · obtain ⟨c0, j1, j2⟩ := k3 pos' cv e
      exact ⟨c0, j1, ex _ _ j2 codeO_ne⟩
/-- a lambda as a value -/
def tLamV (T : List (Addr × Str)) (mk : Addr → NF) (b : Expr) : TE := fun σ H Q => Tabs T H ∧ ∀ (f c : Addr) (H1 : Hp), ExtN H H1 → (∀ a, H1 a = none → H a = none) → Tabs T H1 → H f = none → H1 f = some (LamO f (mk c) b) → H1 c = some (CodeO c (mk c).qual) → Q (.ref f) H1
section
variable {X : Cx}
theorem pe_lamV {T : List (Addr × Str)} {c P : Addr} {params : Arguments} {body : Expr} {scope : Scope} {pos : Pos} (TB : TabB X.base X.mg c P) (hcode : X.env.code = .ref c) (hm : (P, X.env.qual ++ "<lambda>") ∈ T) (hu : ∀ p ∈ T, p.1 = P → p.2 = X.env.qual ++ "<lambda>")
    (L : LamS X.env.scope scope) (hdef : defaultsOf params X.env = ([], [])) :
    PE X (.Lambda params body scope pos) (tLamV T (fun c => ⟨"<lambda>", X.env.qual ++ "<lambda>", params, [], scope, cloFrom X.env.cells scope.names [], c⟩) body) := by
  refine ⟨fun pins s σ H Q I ⟨hT, h⟩ => PySem.W.kla_eval hdef ?_⟩
  obtain ⟨ps, hP, tr, al⟩ := hT _ hm
  have tab : s.heap.get? P = some { cls := .none, data := .fields ps } := I.hok P _ hP
  have clo := closure_ok (env := X.env) (L.has I.ok)
  cases among : codeAmong pos ps.toList with
  | some cv =>
    obtain ⟨c1, rfl, e1⟩ := al _ _ among
    refine PySem.W.kla_makeFunctionHit (mg := X.mg) (c := c) (P := P) (ps := ps) clo I.ok.glob (I.mod.glob.keeps I.bk) hcode (TB.code.keeps I.bk) tab tr among (TB.bm.keeps I.bk) fun ctv h' tk keep _ => ?_
    have I1 : Inv X pins σ H { s with heap := h', toks := tk } := I.kept keep
    have nF : H h'.objs.size = none := I1.hok.fresh (Nat.le_refl _)
    refine ⟨.ref h'.objs.size, _, inv_lam (F := ⟨"<lambda>", X.env.qual ++ "<lambda>", params, [], scope, cloFrom X.env.cells scope.names [], c1⟩) (b := body) I1, rfl, h _ c1 _ ?_ (fun a => upd_none) ?_ nF upd_same ?_⟩
    · intro a o e _
      rw [upd_ne (ne_of_none e nF), e]
    · exact hT.ext fun a o e => by rw [upd_ne (ne_of_none e nF), e]
    · rw [upd_ne (ne_of_none e1 nF), e1]
  | none =>
    refine PySem.W.kla_makeFunction (mg := X.mg) (c := c) (P := P) (ps := ps) clo I.ok.glob (I.mod.glob.keeps I.bk) hcode (TB.code.keeps I.bk) tab tr among TB.gP (TB.bm.keeps I.bk) fun c1 ctv h' tk but lo hi rec_ tab' => ?_
    obtain ⟨_, oc, vs, t, e2, g1, g2, g3⟩ := rec_
    cases e2
    have nC : H c1 = none := I.hok.fresh lo
    obtain ⟨ex, T1⟩ := tabs_more (pos := pos) hT hu hP tr al nC
    have I1 := inv_table (t' := tk) (more := #[rawInt pos.line, rawInt pos.col, .ref c1]) (h' := h') I hP (fun a o n e => but a o n e) tab' lo ⟨oc, vs, t, g1, g2, g3⟩
    have e1 : upd (upd H P (.tbl (ps ++ #[rawInt pos.line, rawInt pos.col, .ref c1]))) c1 (CodeO c1 (X.env.qual ++ "<lambda>")) c1 = some (CodeO c1 (X.env.qual ++ "<lambda>")) := upd_same
    have fr : H h'.objs.size = none := I.hok.fresh (Nat.le_trans lo (Nat.le_of_lt hi))
    have back : ∀ a, upd (upd H P (.tbl (ps ++ #[rawInt pos.line, rawInt pos.col, .ref c1]))) c1 (CodeO c1 (X.env.qual ++ "<lambda>")) a = none → H a = none := fun a z => upd_none (upd_none z)
    generalize upd (upd H P (.tbl (ps ++ #[rawInt pos.line, rawInt pos.col, .ref c1]))) c1 (CodeO c1 (X.env.qual ++ "<lambda>")) = H1 at ex T1 I1 e1 back
    have nF : H1 h'.objs.size = none := I1.hok.fresh (Nat.le_refl _)
    refine ⟨.ref h'.objs.size, _, inv_lam (F := ⟨"<lambda>", X.env.qual ++ "<lambda>", params, [], scope, cloFrom X.env.cells scope.names [], c1⟩) (b := body) I1, rfl, h _ c1 _ ?_ (fun a z => back a (upd_none z)) ?_ fr upd_same ?_⟩
    · intro a o e n
      have := ex _ _ e n
      rw [upd_ne (ne_of_none this nF), this]
    · exact T1.ext fun a o e => by rw [upd_ne (ne_of_none e nF), e]
    · rw [upd_ne (ne_of_none e1 nF), e1]
end
end TLC

set_option maxHeartbeats 2000000
namespace TLC
open PySem PySem.Spec PyProof.Rows L2 LamX NdefX
/-- what the cells hold they hold later, where the frames above are not theirs -/
theorem cells_un {cl : List (Str × Addr)} {fr : List Str} {ws : List (Option V)} {fs ex : List Addr} {H H' : Hp} {h h' : Heap} (C : CellsAt cl fr ws h H) (u : Un fs ex H H' h h') (hx : ∀ y c, cl.lookup y = some c → c ∉ ex) : CellsAt cl fr ws h' H' := by
  have mv : ∀ y c, cl.lookup y = some c → ∀ v, h.IsCell c v → h'.IsCell c v := by
    rintro y c e v ⟨o, ho, hd⟩
    obtain ⟨sl, z⟩ := u.any ho (C.all y c e).1 (hx y c e)
    exact ⟨_, z, hd⟩
  constructor
  · exact C.len
  · intro y c e
    obtain ⟨n, v, k⟩ := C.all y c e
    exact ⟨u.free c k.choose k.choose_spec.1 n (hx y c e), v, mv y c e v k⟩
  · exact C.inj
  · intro i y e
    obtain ⟨c, hc, hv⟩ := C.has i y e
    refine ⟨c, hc, fun v ev => ?_⟩
    obtain ⟨u', r, k⟩ := hv v ev
    exact ⟨u', r, mv y c hc _ k⟩
/-- the promise of a lambda: what it asks of what its cells hold, of the heap, of the two ends -/
abbrev LSp := List (Option V) → Hp → VK → XK → Prop
structure LOk (P : Program) (w : World) (K : PySem.W.Frag) (mg : Str → Option Value) (base : Heap) (CX : CXT) (k : Nat) (f : Addr) (F : NF) (b : Expr) (fr : List Str) (sp : LSp) : Prop where
  run : ∀ (A : Around) (outer : List Env) (s : Shared) (H : Hp) (ws : List (Option V)) (Q : VK) (E : XK), Room k A → Env0 P w K mg base A outer s H → H f = some (LamO f F b) → H F.c = some (CodeO F.c F.qual) → CellsAt F.cl fr ws s.heap H → sp ws H Q E →
    codeAny (model P w) A (.call (.ref f) ⟨[], []⟩) (CR CX outer P w H s Q E) s
section
variable {CX : CXT} {P : Program} {w : World} {K : PySem.W.Frag} {mg : Str → Option Value} {base : Heap} {N fr : List Str} {F : NF} {f : Addr} {k j : Nat} {b : Expr} {sp : LSp}
/-- a lambda by its body -/
theorem lok_of (S : NScope N [] fr F.scope) (hb : ∀ pm ctv : Value, bindArgs (PySem.W.kla_fn F.name F.qual F.params b F.scope F.cl pm (.ref F.c) ctv) ⟨[], []⟩ = pure [])
    (body : ∀ (A : Around) (outer : List Env) (s : Shared) (H : Hp) (ws : List (Option V)) (Q : VK) (E : XK), Room k (A.deeper (envF F f s.heap.objs.size)) → ws.length = fr.length → sp ws H Q E → ∃ t, PE (ncx CX P w K mg base N F f A outer s H E) b t ∧ t (startF N [] ws) H Q) :
    LOk P w K mg base CX (k + 1) f F b fr sp := by
  refine ⟨fun A outer s H ws Q E hr e0 hf hc C h => ?_⟩
  obtain ⟨pm, ctv, ob⟩ := lamO_get e0.hok hf
  refine PySem.W.kla_callFunE hr.depth ob rfl S.co S.gen rfl (codeO_at e0.hok hc) ?_
  rw [hb pm ctv]
  have lim : s.heap.NoLimit := e0.mod.nolimit.keeps fun a o e => (e0.bs a o e).1
  refine wpAny_pure (wpAny_newFunctionEnv S.nocell (fun y hy => absurd hy (by simp)) (fun g ns sb => ⟨lim.fresh _ sb, ?_⟩) S.kind)
  show codeAny (model P w) A (.expr b (envF F f s.heap.objs.size)) _ _
  obtain ⟨t, ht, q⟩ := body A outer s H ws Q E (hr.deeper _) C.len h
  have J : Inv (ncx CX P w K mg base N F f A outer s H E) [] (startF N [] ws) H { s with heap := g, toks := s.toks + ([] : List (Str × Value)).length } :=
    inv_startN (us := []) S hr.hd e0 rfl .nil C ns fun a o e => sb.extBut a o (Nat.ne_of_lt (Heap.lt_size e)) (Heap.get?_push_of_some _ e)
  refine PySem.W.kla_codeExpr (wpAny_mono (ht.run [] _ _ H Q J q) (fun u s' hq => ?_) fun _ _ z => z)
  obtain ⟨v, H', J', r, q'⟩ := hq
  exact ⟨v, H', J'.os, J'.bare, J'.base, J'.hok, r, q'⟩
theorem LOk.mono (o : LOk P w K mg base CX j f F b fr sp) (h : j ≤ k) : LOk P w K mg base CX k f F b fr sp := ⟨fun A outer s H ws Q E hr => o.run A outer s H ws Q E (hr.mono h)⟩
end
/-- x(), x the parameter that holds the lambda: C tells the cells as they were at the frame's beginning -/
def tLamCall (i : Nat) (f : Addr) (F : NF) (b : Expr) (ws : List (Option V)) (sp : LSp) (E : XK) : TE := fun σ H Q => σ[i]? = some (some (.ref f)) ∧ H f = some (LamO f F b) ∧ H F.c = some (CodeO F.c F.qual) ∧ sp ws H Q E
section
variable {X : Cx} {CX : CXT} {k i : Nat} {f : Addr} {F : NF} {b : Expr} {fr : List Str} {ws : List (Option V)} {sp : LSp} {E : XK} {x : Str} {p pos : Pos}
theorem lam_at {pins : List (Addr × Obj)} {σ : L2.St} {H : Hp} {s : Shared} (I : Inv X pins σ H s) (e : H f = some (LamO f F b)) : PySem.W.FnAt f s.heap := by
  obtain ⟨pm, ctv, z⟩ := lamO_get I.hok e
  exact ⟨_, _, _, _, z⟩
theorem pe_lamCall (O : LOk X.prog X.w X.K X.mg X.base CX k f F b fr sp) (C : CellsAt F.cl fr ws X.s_0.heap X.H_0) (hex : ∀ y c, F.cl.lookup y = some c → c ∉ X.ex) (hr : Room k X.A) (hx : Passes CX X E) (hN : X.N[i]? = some x) (hv : Vis X.env.scope x)
    (hd : (x == ("__debug__" : Str)) = false := by decide) (hcd : (x == ("__classdict__" : Str)) = false := by decide) : PE X (.Call (.Name x p) [] [] pos) (tLamCall i f F b ws sp E) := by
  refine ⟨fun pins s σ H Q I ⟨h1, h2, h3, h4⟩ => ?_⟩
  refine wpAny_Call_Name_kw (thn ((pe_var (pos := p) hN hv hd hcd).run pins s σ H (fun v H1 => v = .ref f ∧ H1 = H) I ⟨.ref f, h1, rfl, rfl⟩) fun u s1 ⟨v, H1, I1, r1, q1⟩ => ?_)
  obtain ⟨rfl, rfl⟩ := q1
  obtain rfl : u = Value.ref f := r1
  refine PySem.W.callWith_F0 (first := []) (lam_at I1 h2) (wpAny_call (codeAny_mono (O.run X.A X.stack s1 H1 ws Q E hr I1.env0 h2 h3 (cells_un C I1.base hex) h4) fun r s' hq => ?_))
  match r, hq with
  | .error e, hq => exact hx pins σ H1 s1 e s' I1 hq
  | .ok (.ret u), hq => exact I1.after hq
end
/-- a def that calls the lambda that it got: lw is what the lambda asks -/
structure COk (P : Program) (w : World) (K : PySem.W.Frag) (mg : Str → Option Value) (base : Heap) (k j : Nat) (g : Addr) (csp : (Hp → VK → XK → Prop) → Hp → VK → Prop) : Prop where
  run : ∀ (A : Around) (outer : List Env) (s : Shared) (H : Hp) (f : Addr) (F : NF) (b : Expr) (fr : List Str) (ws : List (Option V)) (sp : LSp) (Q : VK), Room k A → Env0 P w K mg base A outer s H → LOk P w K mg base (L2.CX P w) j f F b fr sp →
    H f = some (LamO f F b) → H F.c = some (CodeO F.c F.qual) → CellsAt F.cl fr ws s.heap H → csp (sp ws) H Q → codeAny (model P w) A (.call (.ref g) ⟨[.ref f], []⟩) (CR L2.CX0 outer P w H s Q L2.E0) s
/-- g(e), e a lambda: kn is what is known of cells there -/
def tCallC (P : Program) (w : World) (K : PySem.W.Frag) (mg : Str → Option Value) (base : Heap) (j : Nat) (kn : L2.St → List (Str × Addr) → List Str → List (Option V) → Prop) (csp : (Hp → VK → XK → Prop) → Hp → VK → Prop) (te : TE) : TE := fun σ H Q =>
  te σ H fun v H1 => ∃ f F b fr ws sp, v = .ref f ∧ H1 f = some (LamO f F b) ∧ H1 F.c = some (CodeO F.c F.qual) ∧ LOk P w K mg base (L2.CX P w) j f F b fr sp ∧ kn σ F.cl fr ws ∧ csp (sp ws) H1 Q
section
variable {X : Cx} {k j : Nat} {g : Addr} {csp : (Hp → VK → XK → Prop) → Hp → VK → Prop} {kn : L2.St → List (Str × Addr) → List Str → List (Option V) → Prop} {x : Str} {p pos : Pos} {e : Expr} {te : TE}
theorem pe_callC (G : COk X.prog X.w X.K X.mg X.base k j g csp) (hk : ∀ pins s σ H, Inv X pins σ H s → ∀ cl fr ws, kn σ cl fr ws → CellsAt cl fr ws s.heap H) (hr : Room k X.A) (hg : Gl X x) (hm : X.mg x = some (.ref g)) (hkp : PySem.W.keepIn X.K (.ref g) = true) (he : PE X e te)
    (hdb : (x == ("__debug__" : Str)) = false := by decide) (hst : starEach [e] X.env = (false, eval e X.env) :: starEach [] X.env := by rfl) (hpl : (backTo pos (starEach [] X.env)).any (·.1) = false := by rfl) :
    PE X (.Call (.Name x p) [e] [] pos) (tCallC X.prog X.w X.K X.mg X.base j kn csp te) := by
  refine ⟨fun pins s σ H Q I h => wpAny_Call_Name_kw (ld_glob I hg hm ?_ hdb)⟩
  have one := (pa_cons he pa_nil hst : PA X [e] (tCons te tNil)).run pos pins s σ H (fun vs H1 => match vs with
    | [v] => ∃ f F b fr ws sp, v = .ref f ∧ H1 f = some (LamO f F b) ∧ H1 F.c = some (CodeO F.c F.qual) ∧ LOk X.prog X.w X.K X.mg X.base (L2.CX X.prog X.w) j f F b fr sp ∧ kn σ F.cl fr ws ∧ csp (sp ws) H1 Q
    | _ => False) I h
  refine PySem.W.callWith_K (h₀ := X.base) I.ok.mod.kin hkp (thn one fun us s1 ⟨vs, H1, I1, r, q⟩ => ⟨I1.kIn, ?_⟩) hst hpl
  match vs, r, q with
  | [v], r, q =>
  obtain ⟨f, F, b, fr, ws, sp, rfl, h1, h2, O, kn1, q⟩ := q
  cases r with
  | cons r0 rn =>
    cases rn
    cases r0
    refine wpAny_call (codeAny_mono (G.run X.A X.stack s1 H1 f F b fr ws sp Q hr I1.env0 O h1 h2 (hk _ _ _ _ I1 _ _ _ kn1) q) fun r s' hq => ?_)
    match r, hq with
    | .error _, hq => exact False.elim hq
    | .ok (.ret u), hq => exact I1.after hq
end
end TLC

set_option maxHeartbeats 2000000
/-! [f(x) for x in xs] where what is known of the def's own cells at the block's beginning may be used of the element. -/
namespace TLC
open PySem PySem.Spec PyProof.Rows L2 LamX NdefX
section
variable {X : Cx}
/-- the promise of the element, told how the def stood when the block began -/
def Elt (X : Cx) (scope : Scope) (elt : Expr) (te : L2.St → TE) : Prop :=
  ∀ (pins : List (Addr × Obj)) (σ : L2.St) (s : Shared) (H : Hp) (C : Addr) (cl : List (Str × Addr)) (fp : List Addr), Inv X pins σ H s → (∀ b ∈ fp, ∀ x c, X.env.cells.lookup x = some c → c ≠ b) → PE (X.blk s H scope (compEnvC scope cl C X.env) fp) elt (te σ)
/-- the loop within the block -/
theorem blk_loop {σ : L2.St} {H : Hp} {s s0 : Shared} {elt tg iter : Expr} {scope : Scope} {pos : Pos} {vs : List Nat} {g : TG} {te : TE} {ce : Env} {fp : List Addr} {it D : Addr} {tn : Nat → Heap → Prop} {J : It} {Q : VK} {W : Nat → Nat → Hp → Prop} {R : Result → Shared → Prop} {n : Nat}
    (hc : X.calm = true) (T : Turn X.prog X.w X.K tg J fp it tn) (pg : PG (X.blk s H scope ce fp) tg g) (pe : PE (X.blk s H scope ce fp) elt te)
    (step : ∀ i m H1, W i m H1 → (J.stop i H1 ∧ Q (.ref D) H1) ∨ (J.go i H1 ∧ ∃ Nx : Hp → Prop, (∀ H', Nx H' → ∃ m', m' < m ∧ W (i + 1) m' H') ∧ ∀ x H', J.yld i H1 x H' → g x (wipe σ vs) H' fun σ2 H2 => wipe σ2 vs = wipe σ vs ∧
      te σ2 H2 fun y H4 => ∃ acc, H4 D = some (.lst acc) ∧ acc.length < sizeLine ∧ Nx (upd H4 D (.lst (acc ++ [y])))))
    (out : ∀ s' H', Inv (X.blk s H scope ce fp) [] (wipe σ vs) H' s' → Q (.ref D) H' → R (.ok .next) s')
    (start : Inv (X.blk s H scope ce fp) [] (wipe σ vs) H s0 ∧ tn 0 s0.heap ∧ (∀ b ∈ fp, H b = none) ∧ W 0 n H) :
    codeAny (model X.prog X.w) X.A (.compLoop (.ListComp elt [⟨tg, iter, [], 0⟩] scope pos) 0 (.ref it) (.ref D) ce) R s0 := by
  -- an iterator's objects stand apart from all that the block knows
  have apart : ∀ {σ' H' s'}, Inv (X.blk s H scope ce fp) [] σ' H' s' → (∀ b ∈ fp, H' b = none) → ∀ b ∈ fp, FpOk (X.blk s H scope ce fp) [] H' b := by
    intro σ' H' s' I' no b hb
    obtain ⟨k1, k2⟩ := I'.ok.exf b hb
    exact ⟨no b hb, k1, I'.ok.exfs b hb, .inl hb, k2, fun p hp => absurd (show p ∈ ([] : List (Addr × Obj)) ++ [] from hp) (by simp)⟩
  refine compLoop_any (fun m s' => ∃ i H', (Inv (X.blk s H scope ce fp) [] (wipe σ vs) H' s' ∧ tn i s'.heap ∧ ∀ b ∈ fp, H' b = none) ∧ W i m H') ?_ n ⟨0, H, ⟨start.1, start.2.1, start.2.2.1⟩, start.2.2.2⟩
  rintro m s1 ⟨i, H1, ⟨I1, t1, no1⟩, w1⟩
  cases step i m H1 w1 with
  | inl e =>
    refine thnF (T.done (X.blk s H scope ce fp) rfl rfl rfl hc i [] s1 (wipe σ vs) H1 (fun _ _ => False) I1 (apart I1 no1) t1 e.1) ?_
    rintro r s2 ⟨rfl, I2⟩
    exact out s2 H1 I2 e.2
  | inr e =>
    obtain ⟨go, Nx, nx, each⟩ := e
    refine thnF (T.item (X.blk s H scope ce fp) rfl rfl rfl hc i [] s1 (wipe σ vs) H1 (fun _ _ => False) I1 (apart I1 no1) t1 go) ?_
    rintro r s2 ⟨u, rfl, k2⟩
    refine thnF k2 ?_
    rintro _ s3 ⟨x, H3, I3, r3, y3, t3, no3⟩
    have P3 := I3.pinned (apart I3 no3) (T.obj _ _ t3)
    refine thnF (pg.run _ s3 _ H3 x u _ P3 r3 (each x H3 y3)) ?_
    rintro _ s4 ⟨σ4, H4, P4, same, q4⟩
    refine wpAny_tests_nil ?_
    rw [if_pos rfl]
    refine thnF (pe.run _ s4 σ4 H4 _ P4 q4) ?_
    rintro z s5 ⟨y, H5, P5, r5, acc, hD, hz, n5⟩
    refine app_ok (X := X.blk s H scope ce fp) P5 hD hz r5 fun s6 P6 => ?_
    obtain ⟨m', lt, w6⟩ := nx _ n5
    have kept : ∀ b ∈ fp, ∀ o, s3.heap.get? b = some o → s6.heap.get? b = some o ∧ (upd H5 D (.lst (acc ++ [y]))) b = none := fun b hb o e =>
      have k := P6.pin (b, o) (List.mem_append_right _ (List.mem_append_right _ (mem_pinsAt hb e)))
      ⟨k.1, k.2.1⟩
    have len : (wipe σ vs).length = σ4.length := by rw [← same, wipe_length]
    refine ⟨m', lt, i + 1, _, ⟨(P6.unpinned (pins := [])).weak len fun j v e => ?_, T.keep _ _ _ t3 fun b hb o e => (kept b hb o e).1, fun b hb => ?_⟩, w6⟩
    · rw [← same] at e
      exact (wipe_some e).1
    · obtain ⟨o, e, _⟩ := T.obj _ _ t3 b hb
      exact (kept b hb o e).2
theorem pe_lcW {elt tg iter : Expr} {scope : Scope} {own : List (Str × Nat)} {pos : Pos} {wi : TI} {g : TG} {te : L2.St → TE} (hc : X.calm = true) (hN : X.N.Nodup) (hi : PI X tg iter wi) (ok : BlkOk X.N X.env.scope scope own)
    (hg : ∀ (s : Shared) (H : Hp) (C : Addr) (cl : List (Str × Addr)) (fp : List Addr), PG (X.blk s H scope (compEnvC scope cl C X.env) fp) tg g) (he : Elt X scope elt te) (hs : ∀ x, foldedSetIterable iter X.env x = pure x := by intro _; rfl) :
    PE X (.ListComp elt [⟨tg, iter, [], 0⟩] scope pos) (fun σ H Q => tLc wi g tYes (te σ) (own.map (·.2)) σ H Q) := by
  refine ⟨fun pins s σ H Q I h => ?_⟩
  have cap : ∀ y ∈ scope.names, y.2 = .free → ∃ c, X.env.cells.lookup y.1 = some c := fun y hy e => I.ok.has _ (ok.free y hy e)
  rw [eval_ListComp]
  refine wpAny_comprehension_free (use := none) rfl hs (closure_ok cap) ok.kind (fun y hy e => e ▸ ok.uniq y hy) (thn (hi.run pins s σ H _ I h) fun _ _ k => thn k ?_)
  rintro _ s2 ⟨it, fp, tn, J, H2, rfl, I2, T, t2, f2, q⟩
  refine wpAny_newObj_type (newEnv_comp ?_) (Nat.zero_le _)
  have nD : H2 s2.heap.objs.size = none := I2.hok.fresh (Nat.le_refl _)
  obtain ⟨W, ⟨n, w0⟩, step⟩ := q _ nD
  generalize eD : s2.heap.objs.size = D at nD w0 step ⊢
  -- the new list
  obtain ⟨s3, e3⟩ : ∃ s3 : Shared, s3 = { s2 with heap := s2.heap.push { cls := .type "list", data := .seq ([] : List Value).toArray } } := ⟨_, rfl⟩
  have old : ∀ b o, s2.heap.get? b = some o → s3.heap.get? b = some o := fun b o e => by rw [e3]; exact Heap.get?_push_of_some _ e
  have I3 : Inv X pins σ (upd H2 D (.lst [])) s3 := by
    have lay : s3.heap.get? D = some { cls := .type "list", data := .seq ([] : List Value).toArray } := by rw [e3, ← eD]; exact Heap.get?_push_size _ rfl
    have z := I2.laid (a := D) (o := .lst []) (t' := s2.toks) old (Nat.le_of_eq eD) ⟨Nat.zero_le _, [], 0, .nil, lay⟩
    rw [e3] at z ⊢
    exact z
  have t3 : tn 0 s3.heap := T.keep _ _ _ t2 fun b _ o e => old b o e
  have f3 : ∀ b ∈ fp, FpOk X pins (upd H2 D (.lst [])) b ∧ b < s3.heap.objs.size := fun b hb => by
    obtain ⟨o, e, _⟩ := T.obj _ _ t2 b hb
    have lt := Heap.lt_size e
    have ne : b ≠ D := by rw [← eD]; exact Nat.ne_of_lt lt
    exact ⟨⟨by rw [upd_ne ne]; exact (f2 b hb).1, (f2 b hb).2⟩, Heap.lt_size (old b o e)⟩
  rw [← e3]
  generalize upd H2 D (.lst []) = H3 at I3 f3 w0
  have J0 := block_start I3 ok hN f3
  have sz : (s3.heap.push { cls := .type "dict", data := .dict #[] }).objs.size = s3.heap.objs.size + 1 := Heap.size_push ..
  show codeAny _ _ (.compStart (.ListComp elt [⟨tg, iter, [], 0⟩] scope pos) 0 (.ref it) (.ref D) (compEnvC scope (cellsFrom (s3.heap.objs.size + 1) scope.names (cloFrom X.env.cells scope.names [])) s3.heap.objs.size X.env)) _ _
  have pg := hg s3 H3 s3.heap.objs.size (cellsFrom (s3.heap.objs.size + 1) scope.names (cloFrom X.env.cells scope.names [])) fp
  have pe := he pins σ s3 H3 s3.heap.objs.size (cellsFrom (s3.heap.objs.size + 1) scope.names (cloFrom X.env.cells scope.names [])) fp I3 fun b hb x c e => (f3 b hb).1.2.2.2.2.1 x c e
  have loc : (compEnvC scope (cellsFrom (s3.heap.objs.size + 1) scope.names (cloFrom X.env.cells scope.names [])) s3.heap.objs.size X.env).locals = s3.heap.objs.size := rfl
  generalize compEnvC scope (cellsFrom (s3.heap.objs.size + 1) scope.names (cloFrom X.env.cells scope.names [])) s3.heap.objs.size X.env = ce at J0 pg pe loc ⊢
  have t4 : tn 0 (pushCells (s3.heap.push { cls := .type "dict", data := .dict #[] }) scope.names) := T.keep _ _ _ t3 fun b _ o e => pushCells_keeps _ _ _ _ (Heap.get?_push_of_some _ e)
  have run : codeAny (model X.prog X.w) X.A (.compLoop (.ListComp elt [⟨tg, iter, [], 0⟩] scope pos) 0 (.ref it) (.ref D) ce) (compPost (model X.prog X.w) X.A X.xe none (EP X pins σ Q) (.ref D) s3.heap.objs.size) { s3 with heap := pushCells (s3.heap.push { cls := .type "dict", data := .dict #[] }) scope.names } := by
    refine blk_loop (Q := Q) (W := W) (n := n) (vs := own.map (·.2)) hc T pg pe (fun i m H1 w1 => ?_) (fun s' H' I' qq => ?_) ⟨J0, t4, fun b hb => (f3 b hb).1.1, w0⟩
    · rcases step i m H1 w1 with z | ⟨go, Nx, hn, each⟩
      · exact .inl z
      · exact .inr ⟨go, Nx, hn, fun x H' y => each x H' y⟩
    · obtain ⟨m, hm, _⟩ := I'.loc
      have no : H' s3.heap.objs.size = none := loc ▸ I'.free
      have K := I3.call' (ch := fp) I'.os I'.base I'.hok I'.bare fun b hb => ⟨(f3 b hb).1.2.2.2.1, (f3 b hb).1.2.1, (f3 b hb).1.2.2.2.2.1, (f3 b hb).1.2.2.2.2.2⟩
      obtain ⟨_, k1, _, k3, k4, k5⟩ := I3.fpOk (H' := H') (Nat.le_refl _) no
      have hm : s'.heap.Ns ce.locals m := hm
      rw [loc] at hm
      exact ⟨m, hm, fun h' sb => ⟨.ref D, H', K.turned (t' := s'.toks) (fun b o hb e => (sb.2 b hb).trans e) no k1 k3 k4 k5, rfl, qq⟩⟩
  exact codeAny_compStart_list run (T.self X.A 0 _ _ _ t4 run)
/-- what is known, in the def itself, of the cells that a lambda took -/
def Kn (X : Cx) (σ : L2.St) (cl : List (Str × Addr)) (fr : List Str) (ws : List (Option V)) : Prop := ∃ js, (X.Ok → Caps X cl fr js) ∧ ws = js.map (slotAt σ)
theorem kn_here : ∀ (pins : List (Addr × Obj)) (s : Shared) (σ : L2.St) (H : Hp), Inv X pins σ H s → ∀ cl fr ws, Kn X σ cl fr ws → CellsAt cl fr ws s.heap H := by
  rintro pins s σ H I cl fr ws ⟨js, c, rfl⟩
  exact cells_of I (c I.ok)
/-- .. and within a block -/
theorem kn_blk {pins : List (Addr × Obj)} {σ : L2.St} {s : Shared} {H : Hp} {scope : Scope} {ce : Env} {fp : List Addr} (I : Inv X pins σ H s) (nf : ∀ b ∈ fp, ∀ x c, X.env.cells.lookup x = some c → c ≠ b) :
    ∀ (pins' : List (Addr × Obj)) (s' : Shared) (σ' : L2.St) (H' : Hp), Inv (X.blk s H scope ce fp) pins' σ' H' s' → ∀ cl fr ws, Kn X σ cl fr ws → CellsAt cl fr ws s'.heap H' := by
  rintro pins' s' σ' H' I' cl fr ws ⟨js, c, rfl⟩
  exact cells_un (cells_of I (c I.ok)) I'.base fun y a e hb => nf a hb y a ((c I.ok).sub y a e) rfl
end
end TLC

set_option maxHeartbeats 2000000
namespace TLC
open PySem PySem.Spec PyProof.Rows L2 LamX NdefX
section
variable {X : Cx} {CX : CXT} {k i : Nat} {f : Addr} {F : NF} {b : Expr} {fr : List Str} {ws : List (Option V)} {sp : LSp} {E : L2.St → XK} {x : Str} {p pos : Pos}
/-- x() within a try: what is let out may speak of the slots -/
theorem pe_lamCallS (O : LOk X.prog X.w X.K X.mg X.base CX k f F b fr sp) (C : CellsAt F.cl fr ws X.s_0.heap X.H_0) (hex : ∀ y c, F.cl.lookup y = some c → c ∉ X.ex) (hr : Room k X.A) (hx : ∀ σ, PassesAt CX X σ (E σ)) (hN : X.N[i]? = some x) (hv : Vis X.env.scope x)
    (hd : (x == ("__debug__" : Str)) = false := by decide) (hcd : (x == ("__classdict__" : Str)) = false := by decide) : PE X (.Call (.Name x p) [] [] pos) (fun σ H Q => tLamCall i f F b ws sp (E σ) σ H Q) := by
  refine ⟨fun pins s σ H Q I ⟨h1, h2, h3, h4⟩ => ?_⟩
  refine wpAny_Call_Name_kw (thn ((pe_var (pos := p) hN hv hd hcd).run pins s σ H (fun v H1 => v = .ref f ∧ H1 = H) I ⟨.ref f, h1, rfl, rfl⟩) fun u s1 ⟨v, H1, I1, r1, q1⟩ => ?_)
  obtain ⟨rfl, rfl⟩ := q1
  obtain rfl : u = Value.ref f := r1
  refine PySem.W.callWith_F0 (first := []) (lam_at I1 h2) (wpAny_call (codeAny_mono (O.run X.A X.stack s1 H1 ws Q (E σ) hr I1.env0 h2 h3 (cells_un C I1.base hex) h4) fun r s' hq => ?_))
  match r, hq with
  | .error e, hq => exact hx σ pins H1 s1 e s' I1 hq
  | .ok (.ret u), hq => exact I1.after hq
end
/-- a def that calls the lambda handed in, by its body -/
theorem cok_of {P : Program} {w : World} {K : PySem.W.Frag} {mg : Str → Option Value} {base : Heap} {k j : Nat} {g : Addr} {gd : FuncData} {x a : Str} {st : Stmt} {N : List Str} {csp : (Hp → VK → XK → Prop) → Hp → VK → Prop} (G : TX.Fn K mg x st [a] g gd) (S : FnScope N [a] (defScope st))
    (body : ∀ (cdv : Value) (A : Around) (outer : List Env) (s : Shared) (H : Hp) (f : Addr) (F : NF) (b : Expr) (fr : List Str) (ws : List (Option V)) (sp : LSp) (Q : VK), Room k (A.deeper (envOfC x (defScope st) s.heap.objs.size g cdv)) → LOk P w K mg base (L2.CX P w) j f F b fr sp →
      CellsAt F.cl fr ws s.heap H → H f = some (LamO f F b) → H F.c = some (CodeO F.c F.qual) → csp (sp ws) H Q →
      ∃ t, PSs (cxOf L2.CX0 P w K mg base N x (defScope st) g cdv A outer s H L2.E0).nox (defBody st) t ∧ t { nx := fun _ H' => Q .non H', rt := Q } (L2.start N [.ref f]) H) :
    COk P w K mg base (k + 1) j g csp := by
  obtain ⟨oc, od, kV, doc, pm, an, cdv, ct, osl, e, lk, hcd⟩ := G.F.ex
  subst e
  refine ⟨fun A outer s H f F b fr ws sp Q hr e0 O hf hc C h => ?_⟩
  have kin : K.In s.heap := e0.mod.kin.keeps fun a o e => (e0.bs a o e).1
  refine run_ofS (N := N) (ps := [a]) (us := [.ref f]) (vs := [.ref f]) lk hcd S hr e0 (G.b s [.ref f] kin rfl) (.cons rfl .nil) rfl fun hr' => ?_
  obtain ⟨t, ht, q⟩ := body cdv A outer s H f F b fr ws sp Q hr' O C hf hc h
  exact ⟨t, ht.nox, q⟩
end TLC
namespace TLC
open PySem PySem.Spec PyProof.Rows L2 LamX NdefX
/-- a def whose code object is known -/
structure FunC (K : PySem.W.Frag) (x qual : Str) (st : Stmt) (f : Addr) (fd : FuncData) (c : Addr) : Prop where
  ex : ∃ (oc : Value) (od : Option Addr) (kV doc pm : Value) (an : Option Addr) (ct : Value) (osl : Array (Option Value)),
    fd = PySem.W.fnOf x qual (defArgs st) (defBody st) (defScope st) .none kV doc pm an (.ref c) ct ∧ K.lookup f = some ⟨oc, od, .func fd, osl⟩ ∧ PySem.W.codeIn K (.ref c) qual = true
  kp : PySem.W.keepIn K (.ref f) = true
theorem FunC.ok {P : Program} {w : World} {K : PySem.W.Frag} {mg : Str → Option Value} {base : Heap} {x qual : Str} {st : Stmt} {f c : Addr} {fd : FuncData} {N ps : List Str} {k : Nat} {sp : Sp} (F : FunC K x qual st f fd c) (S : FnScope N ps (defScope st)) (len : ∀ vs H Q E, sp vs H Q E → vs.length = ps.length)
    (hbody : ∀ (A : Around) (outer : List Env) (s : Shared) (H : Hp) (vs : List V) (Q : VK) (E : XK), Room k (A.deeper (envOfC qual (defScope st) s.heap.objs.size f (.ref c))) → sp vs H Q E →
      ∃ t, PSs (cxOf L2.CX0 P w K mg base N qual (defScope st) f (.ref c) A outer s H E).nox (defBody st) t ∧ t { nx := fun _ H' => Q .non H', rt := Q } (L2.start N vs) H) : FnOk P w K mg base L2.CX0 (k + 1) f fd ps sp := by
  obtain ⟨oc, od, kV, doc, pm, an, ct, osl, e, lk, hcd⟩ := F.ex
  subst e
  refine fn_of lk hcd S len fun A outer s H vs Q E hr hsp => ?_
  obtain ⟨t, h, q⟩ := hbody A outer s H vs Q E hr hsp
  exact ⟨t, h.nox, q⟩
/-- such a def of the module, ready to be called -/
structure FnC (K : PySem.W.Frag) (mg : Str → Option Value) (x : Str) (st : Stmt) (ps : List Str) (f : Addr) (fd : FuncData) (c : Addr) : Prop where
  F : FunC K x x st f fd c
  g : mg x = some (.ref f)
  b : Binds K fd ps []
end TLC

set_option maxHeartbeats 2000000
namespace T07
open PySem L2 PyProof.Rows TX TY TW TD TB TG TUD TE TK
/-! Whatever may be handed in, seen from the heap; what stands but at the well and in instances, stays. -/
def Kp (W : Addr) (H H' : Hp) : Prop := ∀ a o, a ≠ W → (∀ C dx fs, o ≠ .ins C dx fs) → (∀ ps, o ≠ .tbl ps) → H a = some o → H' a = some o
theorem Kp.sm {W : Addr} {H H' : Hp} (s : Sm W H H') : Kp W H H' := fun a o n _ _ e => s a o n e
theorem Kp.of {W : Addr} {H H' : Hp} (s : Same H H') : Kp W H H' := fun a o _ _ _ e => s a o e
theorem Kp.ext {W : Addr} {H H' : Hp} (s : LamX.ExtN H H') : Kp W H H' := fun a o _ _ t e => s a o e t
theorem Kp.but {W : Addr} {H H' : Hp} {p C dx : Addr} {fs : List (Str × V)} (hp : H p = some (.ins C dx fs)) (k : ∀ b o, b ≠ p → H b = some o → H' b = some o) : Kp W H H' := fun a o _ no _ e =>
  k a o (fun z => by rw [z, hp] at e; exact no C dx fs (Option.some.inj e).symm) e
inductive Lf (W : Addr) (H : Hp) : V → Prop
  | non : Lf W H .non
  | bl (b : Bool) : Lf W H (.bl b)
  | int (i : Int) : Lf W H (.int i)
  | str (x : Str) (h : x.length ≤ 100) : Lf W H (.str x)
  | tup {a : Addr} {xs : List V} (n : a ≠ W) (h : H a = some (.tup xs)) : Lf W H (.ref a)
  | lst {a : Addr} {xs : List V} (n : a ≠ W) (h : H a = some (.lst xs)) : Lf W H (.ref a)
  | dK {a : Addr} {kvs : List (Key × V)} (n : a ≠ W) (h : H a = some (.dK kvs)) : Lf W H (.ref a)
theorem Lf.kp {W : Addr} {H H' : Hp} {v : V} (h : Lf W H v) (s : Kp W H H') : Lf W H' v := by
  cases h with
  | non => exact .non
  | bl b => exact .bl b
  | int i => exact .int i
  | str x h => exact .str x h
  | tup n h => exact .tup n (s _ _ n (fun _ _ _ z => by cases z) (fun _ z => by cases z) h)
  | lst n h => exact .lst n (s _ _ n (fun _ _ _ z => by cases z) (fun _ z => by cases z) h)
  | dK n h => exact .dK n (s _ _ n (fun _ _ _ z => by cases z) (fun _ z => by cases z) h)
def isS : V → Bool
  | .str _ => true
  | _ => false
theorem Lf.ty {K : PySem.W.Frag} {W : Addr} {H : Hp} {v : V} (h : Lf W H v) : ∃ t, TyX K H v (.type t) ∧ kitB t "str" = some (isS v) ∧ kitB t "int" = some (numV v) ∧ kitB t "bool" = some (truthV v) := by
  cases h with
  | non => exact ⟨_, .base .non, by decide +kernel, by decide +kernel, by decide +kernel⟩
  | bl b => exact ⟨_, .base (.bl b), (show kitB "bool" "str" = some false by decide +kernel), (show kitB "bool" "int" = some true by decide +kernel), (show kitB "bool" "bool" = some true by decide +kernel)⟩
  | int i => exact ⟨_, .base (.int i), (show kitB "int" "str" = some false by decide +kernel), (show kitB "int" "int" = some true by decide +kernel), (show kitB "int" "bool" = some false by decide +kernel)⟩
  | str x _ => exact ⟨_, .base (.str x), (show kitB "str" "str" = some true by decide +kernel), (show kitB "str" "int" = some false by decide +kernel), (show kitB "str" "bool" = some false by decide +kernel)⟩
  | tup _ h => exact ⟨_, .base (.tup h), (show kitB "tuple" "str" = some false by decide +kernel), (show kitB "tuple" "int" = some false by decide +kernel), (show kitB "tuple" "bool" = some false by decide +kernel)⟩
  | lst _ h => exact ⟨_, .base (.lst h), (show kitB "list" "str" = some false by decide +kernel), (show kitB "list" "int" = some false by decide +kernel), (show kitB "list" "bool" = some false by decide +kernel)⟩
  | dK _ h => exact ⟨_, .base (.dK h), (show kitB "dict" "str" = some false by decide +kernel), (show kitB "dict" "int" = some false by decide +kernel), (show kitB "dict" "bool" = some false by decide +kernel)⟩
/-- what is neither list nor tuple -/
inductive Ob (W : Addr) (H : Hp) : V → Prop
  | int (i : Int) : Ob W H (.int i)
  | str (x : Str) : Ob W H (.str x)
  | dK {a : Addr} {kvs : List (Key × V)} (n : a ≠ W) (h : H a = some (.dK kvs)) : Ob W H (.ref a)
theorem Ob.kp {W : Addr} {H H' : Hp} {v : V} (h : Ob W H v) (s : Kp W H H') : Ob W H' v := by
  cases h with
  | int i => exact .int i
  | str x => exact .str x
  | dK n h => exact .dK n (s _ _ n (fun _ _ _ z => by cases z) (fun _ z => by cases z) h)
/-- what may be a row: its values, where it is a tuple -/
def RowT (W : Addr) (H : Hp) (v : V) (d : Option (List V)) : Prop := (∃ a ys, v = .ref a ∧ a ≠ W ∧ H a = some (.tup ys) ∧ ys.length ≤ 20 ∧ (∀ y ∈ ys, Lf W H y) ∧ d = some ys) ∨ (d = none ∧ (v = .non ∨ (∃ a xs, v = .ref a ∧ a ≠ W ∧ H a = some (.lst xs)) ∨ Ob W H v))
theorem RowT.kp {W : Addr} {H H' : Hp} {v : V} {d : Option (List V)} (h : RowT W H v d) (s : Kp W H H') : RowT W H' v d := by
  rcases h with ⟨a, ys, e, n, h1, h2, h3, h4⟩ | ⟨e, h | ⟨a, xs, h, n, h1⟩ | h⟩
  · exact .inl ⟨a, ys, e, n, s _ _ n (fun _ _ _ z => by cases z) (fun _ z => by cases z) h1, h2, fun y hy => (h3 y hy).kp s, h4⟩
  · exact .inr ⟨e, .inl h⟩
  · exact .inr ⟨e, .inr (.inl ⟨a, xs, h, n, s _ _ n (fun _ _ _ z => by cases z) (fun _ z => by cases z) h1⟩)⟩
  · exact .inr ⟨e, .inr (.inr (h.kp s))⟩
theorem RowT.ty {K : PySem.W.Frag} {W : Addr} {H : Hp} {v : V} {d : Option (List V)} (h : RowT W H v d) : ∃ t, TyX K H v (.type t) ∧ kitB t "tuple" = some d.isSome := by
  rcases h with ⟨a, ys, rfl, n, h1, h2, h3, rfl⟩ | ⟨rfl, rfl | ⟨a, xs, rfl, n, h1⟩ | h⟩
  · exact ⟨_, .base (.tup h1), (show kitB "tuple" "tuple" = some true by decide +kernel)⟩
  · exact ⟨_, .base .non, (show kitB "NoneType" "tuple" = some false by decide +kernel)⟩
  · exact ⟨_, .base (.lst h1), (show kitB "list" "tuple" = some false by decide +kernel)⟩
  · cases h with
    | int i => exact ⟨_, .base (.int i), (show kitB "int" "tuple" = some false by decide +kernel)⟩
    | str x => exact ⟨_, .base (.str x), (show kitB "str" "tuple" = some false by decide +kernel)⟩
    | dK n h => exact ⟨_, .base (.dK h), (show kitB "dict" "tuple" = some false by decide +kernel)⟩
/-- what may be rows -/
def RowsT (W : Addr) (H : Hp) (v : V) (o : Option (List (Option (List V)))) : Prop := (∃ L xs ds, v = .ref L ∧ L ≠ W ∧ H L = some (.lst xs) ∧ Paired (RowT W H) xs ds ∧ xs.length ≤ 20 ∧ o = some ds) ∨ (o = none ∧ ((∃ a xs, v = .ref a ∧ a ≠ W ∧ H a = some (.tup xs)) ∨ Ob W H v))
theorem RowsT.kp {W : Addr} {H H' : Hp} {v : V} {o : Option (List (Option (List V)))} (h : RowsT W H v o) (s : Kp W H H') : RowsT W H' v o := by
  rcases h with ⟨L, xs, ds, e, n, h1, h2, h3, h4⟩ | ⟨e, ⟨a, xs, h, n, h1⟩ | h⟩
  · exact .inl ⟨L, xs, ds, e, n, s _ _ n (fun _ _ _ z => by cases z) (fun _ z => by cases z) h1, Paired.mapP h2 fun a d e => e.kp s, h3, h4⟩
  · exact .inr ⟨e, .inl ⟨a, xs, h, n, s _ _ n (fun _ _ _ z => by cases z) (fun _ z => by cases z) h1⟩⟩
  · exact .inr ⟨e, .inr (h.kp s)⟩
theorem RowsT.ty {K : PySem.W.Frag} {W : Addr} {H : Hp} {v : V} {o : Option (List (Option (List V)))} (h : RowsT W H v o) : v ≠ .non ∧ ∃ t, TyX K H v (.type t) ∧ kitB t "list" = some o.isSome := by
  rcases h with ⟨L, xs, ds, rfl, n, h1, h2, h3, rfl⟩ | ⟨rfl, ⟨a, xs, rfl, n, h1⟩ | h⟩
  · exact ⟨(fun z => by cases z), _, .base (.lst h1), (show kitB "list" "list" = some true by decide +kernel)⟩
  · exact ⟨(fun z => by cases z), _, .base (.tup h1), (show kitB "tuple" "list" = some false by decide +kernel)⟩
  · cases h with
    | int i => exact ⟨(fun z => by cases z), _, .base (.int i), (show kitB "int" "list" = some false by decide +kernel)⟩
    | str x => exact ⟨(fun z => by cases z), _, .base (.str x), (show kitB "str" "list" = some false by decide +kernel)⟩
    | dK n h => exact ⟨(fun z => by cases z), _, .base (.dK h), (show kitB "dict" "list" = some false by decide +kernel)⟩
/-- what a name is -/
def okc (c : Nat) : Bool := !decide ([c] < (Str.ofString "a").cps.toList) && !decide ((Str.ofString "z").cps.toList < [c])
theorem okc_iff (c : Nat) : okc c = true ↔ 97 ≤ c ∧ c ≤ 122 := by
  unfold okc
  rw [str_a, str_z, S_cps, S_cps, Bool.and_eq_true, Bool.not_eq_true', Bool.not_eq_true', decide_eq_false_iff_not, decide_eq_false_iff_not, lt_sign, lt_sign]
  omega
def nameB (x : Str) : Bool := decide (1 ≤ x.length) && (decide (x.length ≤ 8) && x.cps.toList.all okc)
theorem nameB_iff (x : Str) : nameB x = true ↔ TM.NameOk x := by
  unfold nameB TM.NameOk
  rw [Bool.and_eq_true, Bool.and_eq_true, decide_eq_true_iff, decide_eq_true_iff, List.all_eq_true]
  constructor
  · rintro ⟨h1, h2, h3⟩
    exact ⟨h1, h2, fun c hc => (okc_iff c).mp (h3 c hc)⟩
  · rintro ⟨h1, h2, h3⟩
    exact ⟨h1, h2, fun c hc => (okc_iff c).mpr (h3 c hc)⟩
def isNm : V → Bool
  | .str x => nameB x
  | _ => false
def colsV (xs : List V) : Bool := decide (xs.length ≤ 8) && (xs.all isNm && decide xs.Nodup)
/-- what may be columns; whether it is -/
def ColsT (W : Addr) (H : Hp) (v : V) (b : Bool) : Prop := (∃ L xs, v = .ref L ∧ L ≠ W ∧ H L = some (.lst xs) ∧ xs.length ≤ 20 ∧ (∀ x ∈ xs, Lf W H x) ∧ b = colsV xs) ∨ (b = false ∧ (v = .non ∨ (∃ a xs, v = .ref a ∧ a ≠ W ∧ H a = some (.tup xs)) ∨ Ob W H v))
theorem ColsT.kp {W : Addr} {H H' : Hp} {v : V} {b : Bool} (h : ColsT W H v b) (s : Kp W H H') : ColsT W H' v b := by
  rcases h with ⟨L, xs, e, n, h1, h2, h3, h4⟩ | ⟨e, h | ⟨a, xs, h, n, h1⟩ | h⟩
  · exact .inl ⟨L, xs, e, n, s _ _ n (fun _ _ _ z => by cases z) (fun _ z => by cases z) h1, h2, fun x hx => (h3 x hx).kp s, h4⟩
  · exact .inr ⟨e, .inl h⟩
  · exact .inr ⟨e, .inr (.inl ⟨a, xs, h, n, s _ _ n (fun _ _ _ z => by cases z) (fun _ z => by cases z) h1⟩)⟩
  · exact .inr ⟨e, .inr (.inr (h.kp s))⟩
theorem all_names {xs : List V} (k : xs.all isNm = true) : ∃ ns : List Str, xs = ns.map V.str ∧ ∀ n ∈ ns, TM.NameOk n := by
  induction xs with
  | nil => exact ⟨[], rfl, fun _ h => nomatch h⟩
  | cons x xs ih =>
    rw [List.all_cons, Bool.and_eq_true] at k
    obtain ⟨ns, e, ok⟩ := ih k.2
    cases x with
    | str s => exact ⟨s :: ns, by rw [List.map_cons, e], fun n hn => (List.mem_cons.mp hn).elim (fun e => e ▸ (nameB_iff s).mp k.1) (ok n)⟩
    | _ => cases k.1
theorem nd_strs {ns : List Str} : (ns.map V.str).Nodup ↔ ns.Nodup := by
  constructor
  · intro h
    exact List.Pairwise.of_map V.str (fun a b hab e => hab (by rw [e])) h
  · intro h
    refine List.pairwise_map.mpr (h.imp fun {a b} hab e => hab (V.str.inj e))
/-! ### rows -/
def okRow (wide : Nat) : Option (List V) → Bool
  | some ys => decide (ys.length = wide) && ys.all wholeV
  | none => false
/-- the first that is no row -/
def firstB (wide : Nat) : List (Option (List V)) → Option Nat
  | [] => none
  | d :: ds => if okRow wide d then (firstB wide ds).map (· + 1) else some 0
def dueR (wide : Nat) : Option (List (Option (List V))) → Option Nat
  | none => some 0
  | some ds => firstB wide ds
theorem firstB_at {wide : Nat} : ∀ {ds : List (Option (List V))} {i : Nat} {d : Option (List V)}, (∀ d' ∈ ds.take i, okRow wide d' = true) → ds[i]? = some d → okRow wide d = false → firstB wide ds = some i := by
  intro ds
  induction ds with
  | nil => intro i d _ h; simp at h
  | cons c ds ih =>
    intro i d ha hd hb
    cases i with
    | zero =>
      have : c = d := by simpa using hd
      subst this
      unfold firstB
      rw [hb]
      rfl
    | succ i =>
      have hc : okRow wide c = true := ha c (by rw [List.take_succ_cons]; exact List.mem_cons_self)
      unfold firstB
      rw [hc, if_pos rfl, ih (fun d' hd' => ha d' (by rw [List.take_succ_cons]; exact List.mem_cons_of_mem _ hd')) (by simpa using hd) hb]
      rfl
theorem firstB_none {wide : Nat} : ∀ {ds : List (Option (List V))}, (∀ d ∈ ds, okRow wide d = true) → firstB wide ds = none := by
  intro ds
  induction ds with
  | nil => intro _; rfl
  | cons c ds ih =>
    intro ha
    unfold firstB
    rw [ha c List.mem_cons_self, if_pos rfl, ih fun d hd => ha d (List.mem_cons_of_mem _ hd)]
    rfl
theorem whole_vals {ys : List V} (h : ys.all wholeV = true) : ∃ r : List Int, ys = r.map V.int := by
  induction ys with
  | nil => exact ⟨[], rfl⟩
  | cons y ys ih =>
    rw [List.all_cons, Bool.and_eq_true] at h
    obtain ⟨r, e⟩ := ih h.2
    cases y with
    | int i => exact ⟨i :: r, by rw [List.map_cons, e]⟩
    | _ => cases h.1
/-- rows that are all right, as they stand -/
theorem rows_of {W : Addr} {H : Hp} {wide : Nat} {xs : List V} {ds : List (Option (List V))} (h : Paired (RowT W H) xs ds) (ok : ∀ d ∈ ds, okRow wide d = true) : ∃ (as : List Addr) (rs : List (List Int)), xs = as.map V.ref ∧ RowsAt H as rs ∧ (∀ r ∈ rs, r.length = wide) ∧ rs.length = xs.length := by
  induction h with
  | nil => exact ⟨[], [], rfl, .nil, (fun _ h => nomatch h), rfl⟩
  | cons x _ ih =>
    obtain ⟨as, rs, e, h1, h2, h3⟩ := ih fun d hd => ok d (List.mem_cons_of_mem _ hd)
    have k := ok _ List.mem_cons_self
    rcases x with ⟨a, ys, rfl, n, e1, _, _, rfl⟩ | ⟨rfl, _⟩
    · unfold okRow at k
      rw [Bool.and_eq_true, decide_eq_true_iff] at k
      obtain ⟨r, rfl⟩ := whole_vals k.2
      refine ⟨a :: as, r :: rs, by rw [List.map_cons, e], .cons e1 h1, fun q hq => ?_, by rw [List.length_cons, List.length_cons, h3]⟩
      rcases List.mem_cons.mp hq with e | hq
      · rw [e]
        simpa using k.1
      · exact h2 q hq
    · cases k
def optI : Option Nat → V
  | none => .non
  | some k => .int k
end T07

set_option maxHeartbeats 2000000
namespace T07
open PySem L2 PyProof.Rows TX TY TW TD TB TG TUD TE TK
section
variable {P : Program} {w : World} {K : PySem.W.Frag} {mg : Str → Option Value} {base : Heap}
/-- the constants of the module -/
structure Cn (mg : Str → Option Value) : Prop where
  longest : ∃ t, mg "LONGEST_NAME" = some (.int 8 t)
  most : ∃ t, mg "MOST_COLUMNS" = some (.int 8 t)
theorem sc_is_name : FnScope ["thing", "sign"] ["thing"] (defScope s_is_name) := ⟨rfl, rfl, rfl, by decide +kernel, rfl, by decide +kernel, by decide +kernel⟩
def sp_is_name : Sp := fun vs H Q _ => ∃ (W : Addr) (v : V), vs = [v] ∧ Lf W H v ∧ ∀ H', Same H H' → Q (.bl (isNm v)) H'
theorem ok_is_name {f : Addr} {fd : FuncData} (F : Fn K mg "is_name" s_is_name ["thing"] f fd) (B : Bn mg) (C : Cn mg) : FnOk P w K mg base CX0 1 f fd ["thing"] sp_is_name := by
  refine F.F.ok sc_is_name (fun vs H Q E h => ?_) (fun cdv A outer s H vs Q E hr h => ?_)
  · obtain ⟨W, x, rfl, _⟩ := h
    rfl
  · obtain ⟨W, v, rfl, hv, q⟩ := h
    have hu := hu_of hr
    obtain ⟨tl, hlg⟩ := C.longest
    refine ⟨_, pss_cons (ps_if (PW.pt (pw_or (pt_not (pt_val (pe_callB call_isi (by rfl) B.isi boot_isinstance (pa_cons (pv 0) (pa_cons (pe_bltn (v := .ty "str") (by rfl) B.str boot_str rfl) pa_nil)))))
        (pw_or1 (pt_not (pt_chain op_le op_le pe_int (pe_callB call_len_str (by rfl) B.len PySem.boot_len (pa_cons (pv 0) pa_nil)) (pe_glob (v := .int 8) (by rfl) hlg ⟨_, rfl⟩)))))) (pss_one (ps_ret pe_bl)) pss_nil)
      (pss_one (ps_ret (pe_callB (cr_all rfl) (by rfl) B.all boot_all (pa_cons (pe_lc (own := [("sign", 1)]) (g := gName 1) (tt := tYes) rfl sc_is_name.nd (pi_str (pv 0)) (blkOk_by (N := ["thing", "sign"]) (sc := defScope s_is_name) (by decide +kernel))
          (fun _ _ _ _ _ => pg_name (i := 1) sc_is_name.nd rfl (Or.inl rfl)) (fun _ _ _ _ _ => pts_nil)
          (fun _ _ _ _ _ => pe_chain op_le_str op_le_str pe_str (pv 1) pe_str)) pa_nil)))), ?_⟩
    obtain ⟨t, ty, hk, _, _⟩ := hv.ty (K := K)
    refine ⟨_, rfl, _, _, _, _, isS v, rfl, .ty _, ty, kit_ty hk, _, rfl, ?_⟩
    have q0 := q H same_rfl
    cases hv with
    | str x hx =>
      have e0 : isNm (.str x) = nameB x := rfl
      rw [e0] at q0
      have q' : ∀ H', Same H H' → Q (.bl (nameB x)) H' := q
      clear q
      by_cases h1 : 1 ≤ x.length
      · by_cases h2 : x.length ≤ 8
        · refine ⟨_, rfl, x, rfl, line100 (by omega), _, _, rfl, rfl, true, ?_, _, _, rfl, rfl, true, ?_, ?_⟩
          · exact congrArg V.bl (decide_eq_true (show (1 : Int) ≤ (x.length : Int) by omega))
          · exact congrArg V.bl (decide_eq_true (show (x.length : Int) ≤ 8 by omega))
          refine ⟨_, rfl, x, rfl, fun L nL => ?_⟩
          refine lc_it walk_str (fun i H' => H' L = some (.lst (((x.cps.toList.take i).map okc).map V.bl)) ∧ Same H H') ⟨upd_same, Same.new nL⟩ (fun _ _ _ _ => trivial) ?_ ?_
          · rintro i v H1 H1' hi ⟨e1, s1⟩ ⟨rfl, c, hc, rfl⟩
            refine ⟨rfl, ?_⟩
            have hc' : x.cps.toList[i]? = some c := by rw [Array.getElem?_toList]; exact hc
            have key : ∀ b : Bool, okc c = b → ∃ xs, H1' L = some (.lst xs) ∧ xs.length < sizeLine ∧ (upd H1' L (.lst (xs ++ [V.bl b])) L = some (.lst (((x.cps.toList.take (i + 1)).map okc).map V.bl)) ∧ Same H (upd H1' L (.lst (xs ++ [V.bl b])))) := by
              intro b hb
              refine ⟨_, e1, ?_, ?_, Same.mut s1 nL⟩
              · rw [List.length_map, List.length_map, List.length_take]
                have : x.cps.toList.length ≤ 8 := by rw [Array.length_toList]; exact h2
                exact line100' (by omega)
              · rw [upd_same, List.take_add_one, hc', List.map_append, List.map_append, ← hb]
                rfl
            refine ⟨_, rfl, _, _, rfl, rfl, !decide ([c] < (Str.ofString "a").cps.toList), rfl, ?_⟩
            cases ha : !decide ([c] < (Str.ofString "a").cps.toList) with
            | true =>
              refine ⟨_, _, rfl, rfl, ?_⟩
              exact key _ (by unfold okc; rw [ha, Bool.true_and])
            | false => exact key false (by unfold okc; rw [ha, Bool.false_and])
          · rintro H1 ⟨e1, s1⟩
            rw [show x.cps.size = x.cps.toList.length by rw [Array.length_toList], List.take_length] at e1
            refine ⟨L, x.cps.toList.map okc, rfl, .of e1, ?_⟩
            have e2 : (x.cps.toList.map okc).all id = nameB x := by
              unfold nameB
              rw [decide_eq_true h1, decide_eq_true h2, Bool.true_and, Bool.true_and, List.all_map]
              rfl
            rw [e2]
            exact q' _ s1
        · have e1 : nameB x = false := by unfold nameB; rw [decide_eq_false h2, Bool.false_and, Bool.and_false]
          rw [e1] at q0
          refine ⟨_, rfl, x, rfl, line100 (by omega), _, _, rfl, rfl, true, ?_, _, _, rfl, rfl, false, ?_, ?_⟩
          · exact congrArg V.bl (decide_eq_true (show (1 : Int) ≤ (x.length : Int) by omega))
          · exact congrArg V.bl (decide_eq_false (show ¬ (x.length : Int) ≤ 8 by omega))
          exact q0
      · have e1 : nameB x = false := by unfold nameB; rw [decide_eq_false h1, Bool.false_and]
        rw [e1] at q0
        refine ⟨_, rfl, x, rfl, line100 (by omega), _, _, rfl, rfl, false, ?_, false, rfl, ?_⟩
        · exact congrArg V.bl (decide_eq_false (show ¬ (1 : Int) ≤ (x.length : Int) by omega))
        exact q0
    | _ => exact q0
/-- the defs of the program that are called -/
structure Kt (K : PySem.W.Frag) (mg : Str → Option Value) (fW fN fA fR fK fS : Addr) (dW dN dA dR dK dS : FuncData) : Prop where
  B : Bn mg
  C : Cn mg
  set : mg "set" = none
  bool : mg "bool" = none
  whole : Fn K mg "is_whole" s_is_whole ["thing"] fW dW
  isn : Fn K mg "is_name" s_is_name ["thing"] fN dN
  are : Fn K mg "are_columns" s_are ["thing"] fA dA
  row : Fn K mg "is_row" s_is_row ["thing", "many"] fR dR
  chk : Fn K mg "_check_columns" s_cc ["columns"] fK dK
  srt : Fn K mg "_sorted_rows" s_sorted ["rows", "many"] fS dS
variable {fW fN fA fR fK fS : Addr} {dW dN dA dR dK dS : FuncData}
theorem sc_is_whole : FnScope ["thing"] ["thing"] (defScope s_is_whole) := ⟨rfl, rfl, rfl, by decide +kernel, rfl, by decide +kernel, by decide +kernel⟩
def sp_is_whole : Sp := fun vs H Q _ => ∃ (W : Addr) (v : V), vs = [v] ∧ Lf W H v ∧ Q (.bl (wholeV v)) H
theorem ok_is_whole (T : Kt K mg fW fN fA fR fK fS dW dN dA dR dK dS) : FnOk P w K mg base CX0 1 fW dW ["thing"] sp_is_whole := by
  have B := T.B
  refine T.whole.F.ok sc_is_whole (fun vs H Q E h => ?_) (fun cdv A outer s H vs Q E hr h => ?_)
  · obtain ⟨W, v, rfl, _⟩ := h
    rfl
  · obtain ⟨W, v, rfl, hv, q⟩ := h
    refine ⟨_, pss_one (ps_ret (pe_and (pe_callB call_isi (by rfl) B.isi boot_isinstance (pa_cons (pv 0) (pa_cons (pe_bltn (v := .ty "int") (by rfl) B.int boot_int rfl) pa_nil)))
      (pe_one (pe_not (pe_callB call_isi (by rfl) B.isi boot_isinstance (pa_cons (pv 0) (pa_cons (pe_bltn (v := .ty "bool") (by rfl) T.bool boot_bool rfl) pa_nil))))))), ?_⟩
    obtain ⟨t, h1, _, h2, h3⟩ := hv.ty (K := K)
    refine ⟨_, rfl, _, _, _, _, _, rfl, .ty _, h1, kit_ty h2, _, rfl, ?_⟩
    rw [whole_num] at q
    cases hn : numV v with
    | false =>
      rw [hn] at q
      exact q
    | true =>
      rw [hn] at q
      refine ⟨_, rfl, _, _, _, _, _, rfl, .ty _, h1, kit_ty h3, _, rfl, ?_⟩
      simpa using q
theorem sc_is_row : FnScope ["thing", "many", "value"] ["thing", "many"] (defScope s_is_row) := ⟨rfl, rfl, rfl, by decide +kernel, rfl, by decide +kernel, by decide +kernel⟩
def sp_is_row : Sp := fun vs H Q _ => ∃ (W : Addr) (v : V) (d : Option (List V)) (many : Nat), vs = [v, .int many] ∧ RowT W H v d ∧ ∀ H', Same H H' → Q (.bl (okRow many d)) H'
theorem ok_is_row (T : Kt K mg fW fN fA fR fK fS dW dN dA dR dK dS) : FnOk P w K mg base CX0 2 fR dR ["thing", "many"] sp_is_row := by
  have B := T.B
  have GW : FnOk P w K mg base CX0 1 fW dW ["thing"] sp_is_whole := ok_is_whole T
  refine T.row.F.ok sc_is_row (fun vs H Q E h => ?_) (fun cdv A outer s H vs Q E hr h => ?_)
  · obtain ⟨W, v, d, many, rfl, _⟩ := h
    rfl
  · obtain ⟨W, v, d, many, rfl, hd, q⟩ := h
    have nd := sc_is_row.nd
    refine ⟨_, pss_cons (ps_if (PW.pt (pw_or (pt_not (pt_val (pe_callB call_isi (by rfl) B.isi boot_isinstance (pa_cons (pv 0) (pa_cons (pe_bltn (v := .ty "tuple") (by rfl) B.tuple boot_tuple rfl) pa_nil)))))
        (pw_or1 (pt_cmpR op_ne (pe_callB call_len_seq (by rfl) B.len PySem.boot_len (pa_cons (pv 0) pa_nil)) (pv 1) (nomark _))))) (pss_one (ps_ret pe_bl)) pss_nil)
      (pss_one (ps_ret (pe_callB (cr_all rfl) (by rfl) B.all boot_all (pa_cons (pe_lc (own := [("value", 2)]) (g := gName 2) (tt := tYes) (te := tCall sp_is_whole [] E0 (tCons (tVar 2) tNil)) rfl nd (pi_tup (pv 0)) (blkOk_by (N := ["thing", "many", "value"]) (sc := defScope s_is_row) (by decide +kernel))
          (fun _ _ _ _ _ => pg_name (i := 2) nd rfl (Or.inl rfl)) (fun _ _ _ _ _ => pts_nil)
          (fun _ _ _ _ _ => pe_call GW hr rfl T.whole.g T.whole.F.kp T.whole.b .nil pass0 (pa_cons (pv 2) pa_nil))) pa_nil)))), ?_⟩
    obtain ⟨t, h1, h2⟩ := hd.ty (K := K)
    refine ⟨_, rfl, _, _, _, _, _, rfl, .ty _, h1, kit_ty h2, _, rfl, ?_⟩
    rcases hd with ⟨a, ys, rfl, n, ha, hl, hy, rfl⟩ | ⟨rfl, _⟩
    · refine ⟨_, rfl, a, _, rfl, .inr (.of ha), _, rfl, rfl, _, rfl, ?_⟩
      by_cases hlen : ys.length = many
      · rw [decide_eq_true (show V.int (ys.length : Int) = V.int (many : Int) by rw [hlen])]
        refine ⟨_, rfl, a, rfl, ⟨_, .of ha⟩, fun L nL => ?_⟩
        refine lc_it (walk_tup (xs := ys)) (fun i h => h L = some (.lst (((ys.take i).map wholeV).map V.bl)) ∧ Same H h)
          ⟨upd_same, Same.new nL⟩ (fun i h _ ⟨_, s⟩ => .of (s _ _ ha)) ?_ ?_
        · rintro i x h h' hi ⟨e4, s4⟩ ⟨rfl, hx⟩
          refine ⟨rfl, ?_⟩
          refine ⟨_, rfl, W, _, rfl, (hy x (List.mem_of_getElem? hx)).kp (.of s4), ?_⟩
          refine ⟨_, e4, ?_, ?_, Same.mut s4 nL⟩
          · rw [List.length_map, List.length_map, List.length_take]
            exact line100' (by omega)
          · rw [upd_same, List.take_add_one, hx, List.map_append, List.map_append]
            rfl
        · rintro h ⟨e4, s4⟩
          rw [List.take_length] at e4
          refine ⟨L, ys.map wholeV, rfl, .of e4, ?_⟩
          have e : (ys.map wholeV).all id = okRow many (some ys) := by
            show _ = (decide (ys.length = many) && ys.all wholeV)
            rw [decide_eq_true hlen, Bool.true_and, List.all_map]
            rfl
          rw [e]
          exact q h s4
      · rw [decide_eq_false (show ¬ V.int (ys.length : Int) = V.int (many : Int) by intro z; injection z with z; omega)]
        have e : okRow many (some ys) = false := by
          show (decide (ys.length = many) && ys.all wholeV) = false
          rw [decide_eq_false hlen, Bool.false_and]
        have q' := q H same_rfl
        rw [e] at q'
        exact q'
    · exact q H same_rfl
theorem sc_are : FnScope ["thing", "name"] ["thing"] (defScope s_are) := ⟨rfl, rfl, rfl, by decide +kernel, rfl, by decide +kernel, by decide +kernel⟩
theorem ColsT.ty {K : PySem.W.Frag} {W : Addr} {H : Hp} {v : V} {b : Bool} (h : ColsT W H v b) : (∃ L xs, v = .ref L ∧ L ≠ W ∧ H L = some (.lst xs) ∧ xs.length ≤ 20 ∧ (∀ x ∈ xs, Lf W H x) ∧ b = colsV xs) ∨ (b = false ∧ ∃ t, TyX K H v (.type t) ∧ kitB t "list" = some false) := by
  rcases h with h | ⟨rfl, rfl | ⟨a, xs, rfl, n, h1⟩ | h⟩
  · exact .inl h
  · exact .inr ⟨rfl, _, .base .non, (show kitB "NoneType" "list" = some false by decide +kernel)⟩
  · exact .inr ⟨rfl, _, .base (.tup h1), (show kitB "tuple" "list" = some false by decide +kernel)⟩
  · cases h with
    | int i => exact .inr ⟨rfl, _, .base (.int i), (show kitB "int" "list" = some false by decide +kernel)⟩
    | str x => exact .inr ⟨rfl, _, .base (.str x), (show kitB "str" "list" = some false by decide +kernel)⟩
    | dK n h => exact .inr ⟨rfl, _, .base (.dK h), (show kitB "dict" "list" = some false by decide +kernel)⟩
def sp_are : Sp := fun vs H Q _ => ∃ (W : Addr) (v : V) (b : Bool), vs = [v] ∧ ColsT W H v b ∧ ∀ H', Same H H' → Q (.bl b) H'
theorem ok_are (T : Kt K mg fW fN fA fR fK fS dW dN dA dR dK dS) : FnOk P w K mg base CX0 2 fA dA ["thing"] sp_are := by
  have B := T.B
  have GN : FnOk P w K mg base CX0 1 fN dN ["thing"] sp_is_name := ok_is_name T.isn B T.C
  refine T.are.F.ok sc_are (fun vs H Q E h => ?_) (fun cdv A outer s H vs Q E hr h => ?_)
  · obtain ⟨W, v, b, rfl, _⟩ := h
    rfl
  · obtain ⟨W, v, b, rfl, hv, q⟩ := h
    obtain ⟨tl, hmo⟩ := T.C.most
    refine ⟨_, pss_cons (ps_if (PW.pt (pw_or (pt_not (pt_val (pe_callB call_isi (by rfl) B.isi boot_isinstance (pa_cons (pv 0) (pa_cons (pe_bltn (v := .ty "list") (by rfl) B.list boot_list rfl) pa_nil)))))
        (pw_or1 (pt_cmpR op_gt (pe_callB call_len_seq (by rfl) B.len PySem.boot_len (pa_cons (pv 0) pa_nil)) (pe_glob (v := .int 8) (by rfl) hmo ⟨_, rfl⟩) (nomark _))))) (pss_one (ps_ret pe_bl)) pss_nil)
      (pss_one (ps_ret (pe_and (pe_callB (cr_all rfl) (by rfl) B.all boot_all (pa_cons (pe_lc (own := [("name", 1)]) (g := gName 1) (tt := tYes) (te := tCall sp_is_name [] E0 (tCons (tVar 1) tNil)) rfl sc_are.nd (pi_list (pv 0))
            (blkOk_by (N := ["thing", "name"]) (sc := defScope s_are) (by decide +kernel)) (fun _ _ _ _ _ => pg_name (i := 1) sc_are.nd rfl (Or.inl rfl)) (fun _ _ _ _ _ => pts_nil)
            (fun _ _ _ _ _ => pe_call GN hr rfl T.isn.g T.isn.F.kp T.isn.b .nil pass0 (pa_cons (pv 1) pa_nil))) pa_nil))
        (pe_one (pe_cmpR op_eq (pe_lenD rfl (by rfl) B.len (by rfl) T.set (pv 0)) (pe_callB call_len_seq (by rfl) B.len PySem.boot_len (pa_cons (pv 0) pa_nil)) (nomark _)))))), ?_⟩
    rcases hv.ty (K := K) with ⟨L, xs, rfl, n, hL, hle, hxs, hb⟩ | ⟨rfl, t, h1, h2⟩
    · refine ⟨_, rfl, _, _, _, _, true, rfl, .ty _, .base (.lst hL), kit_ty (by decide +kernel), _, rfl, ?_⟩
      refine ⟨_, rfl, L, _, rfl, .inl (.of hL), _, _, rfl, rfl, _, rfl, ite2 (fun hf => ?_) (fun hf => ?_)⟩
      · have := of_decide_eq_true hf
        have hb' : b = false := by
          rw [hb]
          unfold colsV
          rw [decide_eq_false (by omega)]
          rfl
        exact hb' ▸ q H same_rfl
      have h8 : xs.length ≤ 8 := by
        have : ¬ (8 : Int) < (xs.length : Int) := fun z => hf (decide_eq_true z)
        omega
      dsimp only [tNext, tRet, tAndV, tCB, tCons, List.map]
      refine lc_all (K := K) (s := [some (.ref L), none]) (ti := tVar 0) (i := 1) (tt := tYes) (te := tCall sp_is_name [] E0 (tCons (tVar 1) tNil)) (l := L) (xs := xs) (g := fun v => V.bl (isNm v)) (p := fun _ => true) ⟨_, rfl, rfl, same_rfl⟩ mono_var (.of hL) (by omega) (fun v hv h5 s5 => et_yes) ?_ ?_
      · intro v hv _ h8 s8 h9 s9 Q6 q6
        exact ⟨_, rfl, W, v, rfl, (hxs v hv).kp (.of (s8.trans s9)), fun h10 s10 => q6 h10 s10⟩
      · intro La h8' s8 nLa eLa
        refine ⟨La, xs.map isNm, rfl, .of (by rw [eLa, filter_yes, List.map_map]; rfl), ?_⟩
        have eall : (xs.map isNm).all id = xs.all isNm := by rw [List.all_map]; rfl
        rw [eall]
        refine ⟨_, rfl, ?_⟩
        cases ha : xs.all isNm with
        | false =>
          have hb' : b = false := by
            rw [hb]
            unfold colsV
            rw [ha]
            simp
          rw [if_neg Bool.false_ne_true]
          exact hb' ▸ q h8' s8
        | true =>
          rw [if_pos rfl]
          obtain ⟨ns, rfl, ok⟩ := all_names ha
          rw [List.length_map] at h8 hle
          refine ⟨_, rfl, L, ns, rfl, .of (s8 _ _ hL), by omega, _, rfl, L, _, rfl, .inl (.of (s8 _ _ hL)), rfl, ?_⟩
          have e : decide (V.int (unl ns : Int) = V.int ((ns.map V.str).length : Int)) = b := by
            rw [hb]
            unfold colsV
            rw [ha, List.length_map, decide_eq_true h8, Bool.true_and, Bool.true_and]
            refine decide_eq_decide.mpr ?_
            rw [nd_strs, ← unl_eq]
            constructor
            · intro z
              injection z with z
              omega
            · intro z
              rw [z]
          rw [e]
          exact q h8' s8
    · exact ⟨_, rfl, _, _, _, _, false, rfl, .ty _, h1, kit_ty h2, _, rfl, q H same_rfl⟩
theorem sc_cc : FnScope ["columns"] ["columns"] (defScope s_cc) := ⟨rfl, rfl, rfl, by decide +kernel, rfl, by decide +kernel, by decide +kernel⟩
def sp_cc (Cn : Addr) : Sp := fun vs H Q E => ∃ (W : Addr) (v : V) (b : Bool), vs = [v] ∧ ColsT W H v b ∧ (b = false → ∀ H', Same H H' → E (.ref Cn) none H') ∧ (b = true → ∀ H', Same H H' → Q .non H')
theorem ok_cc {Cn : Addr} (T : Kt K mg fW fN fA fR fK fS dW dN dA dR dK dS) (N : Ec K mg "NoColumns" Cn) : FnOk P w K mg base (L2.CX P w) 3 fK dK ["columns"] (sp_cc Cn) := by
  have GA : FnOk P w K mg base CX0 2 fA dA ["thing"] sp_are := ok_are T
  refine T.chk.F.okX sc_cc (fun vs H Q E h => ?_) (fun cdv A outer s H vs Q E hr h => ?_)
  · obtain ⟨W, v, b, rfl, _⟩ := h
    rfl
  · obtain ⟨W, v, b, rfl, hv, q0, q1⟩ := h
    refine ⟨_, pss_one (ps_if (pt_not (pt_val (pe_call GA hr rfl T.are.g T.are.F.kp T.are.b .nil pass0 (pa_cons (pv 0) pa_nil)))) (pss_one (ps_raise rfl (takes_of rfl rfl rfl rfl) (pmk_own PySem.F.excBase_ValueError N.ex N.g N.k (raises_own N.b N.t) (by exact rfl)))) pss_nil), ?_⟩
    refine ⟨_, rfl, W, v, b, rfl, hv, fun H1 s1 => ⟨b, rfl, ?_⟩⟩
    cases b with
    | false => exact q0 rfl H1 s1
    | true => exact q1 rfl H1 s1
end
end T07

set_option maxHeartbeats 2000000
namespace T07
open PySem L2 PyProof.Rows TX TY TW TD TB TG TUD TE TK
theorem line100 {n : Nat} (h : n ≤ 5000) : n ≤ sizeLine := by rw [sizeLine_eq]; omega
theorem line100' {n : Nat} (h : n ≤ 5000) : n < sizeLine := by rw [sizeLine_eq]; omega
def rTu (K : PySem.W.Frag) : List V → Hp → VK → Prop := fun xs H Q => ∃ p ys, xs = [.ref p] ∧ ((SqL K H p ys ∧ ∀ l, H l = none → Q (.ref l) (upd H l (.tup ys))) ∨ (SqT K H p ys ∧ Q (.ref p) H))
theorem call_tu {X : Cx} : CallR X (.type "tuple") (rTu X.K) := call_tuple_of
section
variable {P : Program} {w : World} {K : PySem.W.Frag} {mg : Str → Option Value} {base : Heap}
variable {fW fN fA fR fK fS : Addr} {dW dN dA dR dK dS : FuncData}
/-- columns and rows that are right, as the general words see them -/
theorem cols_ok {ns : List Str} (h : Cs ns) : colsV (ns.map V.str) = true := by
  unfold colsV
  rw [decide_eq_true (show (ns.map V.str).length ≤ 8 by rw [List.length_map]; exact h.le), decide_eq_true (nd_strs.mpr h.nd)]
  have : (ns.map V.str).all isNm = true := by
    rw [List.all_eq_true]
    intro v hv
    obtain ⟨n, hn, rfl⟩ := List.mem_map.mp hv
    exact (nameB_iff n).mpr (h.ok n hn)
  rw [this]
  rfl
theorem colsT_ok {H : Hp} {L : Addr} {ns : List Str} (h : Cs ns) (e : H L = some (.lst (ns.map V.str))) : ColsT (L + 1) H (.ref L) true :=
  .inl ⟨L, _, rfl, Nat.ne_of_lt (Nat.lt_succ_self L), e, by rw [List.length_map]; have := h.le; omega, fun v hv => by obtain ⟨n, hn, rfl⟩ := List.mem_map.mp hv; exact .str n (by have := (h.ok n hn).2.1; omega), (cols_ok h).symm⟩
theorem rowT_int {H : Hp} {a : Addr} {r : List Int} (h : H a = some (.tup (r.map V.int))) (hl : r.length ≤ 20) : RowT (a + 1) H (.ref a) (some (r.map V.int)) :=
  .inl ⟨a, _, rfl, Nat.ne_of_lt (Nat.lt_succ_self a), h, by rw [List.length_map]; exact hl, fun y hy => by obtain ⟨n, hn, rfl⟩ := List.mem_map.mp hy; exact .int n, rfl⟩
theorem okRow_int {n : Nat} {r : List Int} (h : r.length = n) : okRow n (some (r.map V.int)) = true := by
  show (decide ((r.map V.int).length = n) && (r.map V.int).all wholeV) = true
  rw [List.length_map, decide_eq_true h, Bool.true_and]
  exact whole_ints r
theorem sc_cc' : FnScope ["columns"] ["columns"] (defScope s_cc) := sc_cc
def sp_ccV : Sp := fun vs H Q _ => ∃ (L : Addr) (cs : List Str), vs = [.ref L] ∧ H L = some (.lst (cs.map V.str)) ∧ Cs cs ∧ ∀ H', Same H H' → Q .non H'
theorem ok_ccV (T : Kt K mg fW fN fA fR fK fS dW dN dA dR dK dS) : FnOk P w K mg base CX0 3 fK dK ["columns"] sp_ccV := by
  have GA : FnOk P w K mg base CX0 2 fA dA ["thing"] sp_are := ok_are T
  refine T.chk.F.ok sc_cc (fun vs H Q E h => ?_) (fun cdv A outer s H vs Q E hr h => ?_)
  · obtain ⟨L, cs, rfl, _⟩ := h
    rfl
  · obtain ⟨L, cs, rfl, hL, hc, q⟩ := h
    refine ⟨_, pss_one (ps_if (pt_not (pt_val (pe_call GA hr rfl T.are.g T.are.F.kp T.are.b .nil pass0 (pa_cons (pv 0) pa_nil)))) (pss_one ps_never) pss_nil), ?_⟩
    exact ⟨_, rfl, L + 1, _, true, rfl, colsT_ok hc hL, fun H1 s1 => ⟨true, rfl, q H1 s1⟩⟩
/-- rows, or nothing -/
def RowsV (H : Hp) (v : V) (as : List Addr) (rs : List (List Int)) : Prop := (v = .non ∧ as = [] ∧ rs = []) ∨ ∃ L, v = .ref L ∧ H L = some (.lst (as.map V.ref)) ∧ RowsAt H as rs
/-- rows that may be handed in -/
structure Rs (n : Nat) (rs : List (List Int)) : Prop where
  len : ∀ r ∈ rs, r.length = n
  few : rs.length ≤ 1900
theorem sc_sorted : FnScope ["rows", "many", "at", "row"] ["rows", "many"] (defScope s_sorted) := ⟨rfl, rfl, rfl, by decide +kernel, rfl, by decide +kernel, by decide +kernel⟩
def sp_sorted : Sp := fun vs H Q _ => ∃ (v : V) (as : List Addr) (rs : List (List Int)) (many : Nat), vs = [v, .int many] ∧ RowsV H v as rs ∧ (∀ r ∈ rs, r.length = many) ∧ many ≤ 20 ∧ rs.length ≤ 1900 ∧
  ∀ H' p as', Same H H' → H p = none → H' p = some (.lst (as'.map V.ref)) → RowsAt H' as' (norm rs) → Q (.ref p) H'
theorem ok_sorted (T : Kt K mg fW fN fA fR fK fS dW dN dA dR dK dS) : FnOk P w K mg base CX0 3 fS dS ["rows", "many"] sp_sorted := by
  have B := T.B
  have GR : FnOk P w K mg base CX0 2 fR dR ["thing", "many"] sp_is_row := ok_is_row T
  refine T.srt.F.ok sc_sorted (fun vs H Q E h => ?_) (fun cdv A outer s H vs Q E hr h => ?_)
  · obtain ⟨v, as, rs, many, rfl, _⟩ := h
    rfl
  · obtain ⟨v, as, rs, many, rfl, hv, hm, hm8, h60, q⟩ := h
    have hu := hr.units
    have nd := sc_sorted.nd
    refine ⟨_, pss_cons (ps_if (pt_cmp (pc_isN (pv 0))) (pss_one (ps_ret (pe_lst pa_nil))) pss_nil)
      (pss_cons (ps_if (pt_not (pt_val (pe_callB call_isi (by rfl) B.isi boot_isinstance (pa_cons (pv 0) (pa_cons (pe_bltn (v := .ty "list") (by rfl) B.list boot_list rfl) pa_nil))))) (pss_one ps_never) pss_nil)
      (pss_cons (ps_for PassesOwn.never rfl (pi_enum rfl B.enum (pa_cons (pv 0) pa_nil)) (pg_tup rfl (pgs_cons (pg_name (i := 2) nd rfl (Or.inl rfl)) (pgs_cons (pg_name (i := 3) nd rfl (Or.inl rfl)) pgs_nil)))
        (pss_one (ps_if (pt_not (pt_val (pe_call GR hr rfl T.row.g T.row.F.kp T.row.b .nil pass0 (pa_cons (pv 3) (pa_cons (pv 1) pa_nil))))) (pss_one ps_never) pss_nil)))
      (pss_one (ps_ret (pe_callB (TBH.cr_sortB rfl) (by rfl) B.sorted boot_sorted (pa_cons (TBH.pe_scK (TBH.khI K P w) (own := [("row", 3)]) (g := gName 3) (tt := tYes) (te := tCB (rTu K) (tCons (tVar 3) tNil)) (Nat.lt_of_le_of_lt (Nat.add_le_add_left (by decide : 24 ≤ 64) _) hu) rfl nd (pi_list (pv 0)) (blkOk_by (N := ["rows", "many", "at", "row"]) (sc := defScope s_sorted) (by decide +kernel))
          (fun _ _ _ _ _ => pg_name (i := 3) nd rfl (Or.inl rfl)) (fun _ _ _ _ _ => pts_nil) (fun _ _ _ _ _ => pe_callTy call_tu (by rfl) B.tuple boot_tuple (pa_cons (pv 3) pa_nil))) pa_nil)))))), ?_⟩
    rcases hv with ⟨rfl, rfl, rfl⟩ | ⟨L, rfl, hL, hR⟩
    · refine ⟨_, rfl, _, rfl, by show 0 ≤ sizeLine; decide, fun p np => ?_⟩
      exact q _ p [] (Same.new np) np upd_same .nil
    have hal := hR.len
    refine ⟨_, rfl, _, rfl, ?_⟩
    refine ⟨_, rfl, _, _, _, _, true, rfl, .ty _, .base (.lst hL), kit_ty (by decide +kernel), _, rfl, ?_⟩
    refine ⟨_, rfl, L, _, rfl, .of hL, ?_⟩
    refine for_it (walk_enum (xs := as.map V.ref)) (fun i σ h => ∃ v2 v3 : Option V, σ = [some (.ref L), some (.int many), v2, v3] ∧ Same H h)
      ⟨none, none, rfl, same_rfl⟩ (fun i σ h _ ⟨_, _, _, s⟩ => .of (s _ _ hL)) ?_ ?_
    · rintro i x σ h h' hi ⟨v2, v3, rfl, s1⟩ ⟨T', x1, x2, rfl, nT, rfl, hx1, hx2⟩
      rw [List.length_map] at hi
      obtain rfl : V.int (i : Int) = x1 := Option.some.inj hx1
      obtain ⟨a, ha, rfl⟩ : ∃ a, as[i]? = some a ∧ x2 = V.ref a := by
        have h2 : (as.map V.ref)[i]? = some x2 := hx2
        rw [List.getElem?_map, List.getElem?_eq_getElem hi] at h2
        exact ⟨_, List.getElem?_eq_getElem hi, (Option.some.inj h2).symm⟩
      obtain ⟨r, hr', hta⟩ := pr_at hR ha
      have sT : Same H (upd h T' (.tup [.int (i : Int), .ref a])) := s1.trans (Same.new nT)
      refine ⟨T', _, rfl, .of upd_same, rfl, _, _, rfl, _, _, rfl, rfl, ?_⟩
      generalize upd h T' (.tup [.int (i : Int), .ref a]) = h2 at sT ⊢
      refine ⟨_, rfl, _, rfl, a + 1, .ref a, some (r.map V.int), many, rfl, rowT_int (sT _ _ hta) (by rw [hm r (List.mem_of_getElem? hr')]; exact hm8), fun h3 s3 => ⟨_, rfl, ?_⟩⟩
      rw [okRow_int (hm r (List.mem_of_getElem? hr'))]
      exact ⟨_, _, rfl, sT.trans s3⟩
    · rintro σ h0 ⟨v2, v3, rfl, s0⟩
      have hL0 := s0 _ _ hL
      have hR0 := hR.same s0
      refine ⟨_, rfl, L, rfl, ⟨_, .of hL0⟩, fun D nD => ?_⟩
      obtain ⟨zs, hzs⟩ : ∃ zs, zs = as.zip rs := ⟨_, rfl⟩
      have zl : zs.length = as.length := by rw [hzs, List.length_zip]; omega
      have z1 := (zip_fst hal).1
      have z2 := (zip_fst hal).2
      rw [← hzs] at z1 z2
      have zr : ∀ p ∈ zs, h0 p.1 = some (.tup (p.2.map V.int)) := by rw [hzs]; exact pr_zip hR0
      refine TBH.sc_walkK (TBH.khI K P w) (walk_list (xs := as.map V.ref)) (fun i h => ∃ Ls : List (Addr × List Int), h D = some (TBH.SetKO (TBH.kdI P w) D Ls) ∧ (∀ p ∈ Ls, p ∈ zs.take i) ∧ (∀ p ∈ zs.take i, p.2 ∈ Ls.map (·.2)) ∧ Ls.length ≤ i ∧ Same h0 h)
        ⟨[], upd_same, (fun _ h => nomatch h), (fun _ h => by simp at h), Nat.le_refl _, Same.new nD⟩ (fun i h _ ⟨_, _, _, _, _, s⟩ => .of (s _ _ hL0)) ?_ ?_
      · rintro i x h h' hi ⟨Ls, e1, i1, i2, i3, s1⟩ ⟨rfl, hx⟩
        rw [List.length_map] at hi
        have hz : i < zs.length := by omega
        obtain ⟨pr, hpr⟩ : ∃ pr, zs[i]? = some pr := ⟨_, List.getElem?_eq_getElem hz⟩
        have hmem : pr ∈ zs := List.mem_of_getElem? hpr
        have hxa : x = V.ref pr.1 := by
          have e2 : as[i]? = some pr.1 := by rw [← z1, List.getElem?_map, hpr]; rfl
          rw [List.getElem?_map, e2] at hx
          exact (Option.some.inj hx).symm
        subst hxa
        have htk : zs.take (i + 1) = zs.take i ++ [pr] := by rw [List.take_add_one, hpr]; rfl
        have ea := s1 _ _ (zr pr hmem)
        refine ⟨rfl, ?_⟩
        refine ⟨_, rfl, pr.1, _, rfl, .inr ⟨.of ea, pr.1, pr.2, Ls, rfl, .of ea, e1, fun p hp => .of (s1 _ _ (zr p (List.mem_of_mem_take (i1 p hp)))), by omega, fun L' h1 h2 => ?_⟩⟩
        refine ⟨L', upd_same, ?_⟩
        by_cases hin : pr.2 ∈ Ls.map (·.2)
        · rw [h1 hin]
          refine ⟨fun p hp => by rw [htk]; exact List.mem_append_left _ (i1 p hp), fun p hp => ?_, by omega, Same.mut s1 nD⟩
          rw [htk] at hp
          rcases List.mem_append.mp hp with hp | hp
          · exact i2 p hp
          · rw [List.mem_singleton.mp hp]
            exact hin
        · have pm := h2 hin
          refine ⟨fun p hp => ?_, fun p hp => ?_, by rw [pm.length_eq, List.length_cons]; omega, Same.mut s1 nD⟩
          · rw [htk]
            rcases List.mem_cons.mp (pm.mem_iff.mp hp) with e | hp
            · rw [e]
              exact List.mem_append_right _ (List.mem_singleton.mpr rfl)
            · exact List.mem_append_left _ (i1 p hp)
          · rw [htk] at hp
            refine (pm.map (·.2)).mem_iff.mpr ?_
            rw [List.map_cons]
            rcases List.mem_append.mp hp with hp | hp
            · exact List.mem_cons_of_mem _ (i2 p hp)
            · rw [List.mem_singleton.mp hp]
              exact List.mem_cons_self
      · rintro h ⟨Ls, e1, i1, i2, i3, s1⟩
        rw [List.length_map, ← zl, List.take_length] at i1 i2
        have lsr : ∀ p ∈ Ls, h p.1 = some (.tup (p.2.map V.int)) := fun p hp => s1 _ _ (zr p (i1 p hp))
        have inr : ∀ p ∈ zs, p.2 ∈ rs := fun p hp => z2 ▸ List.mem_map.mpr ⟨p, hp, rfl⟩
        refine ⟨D, Ls, many, rfl, e1, fun p hp => .of (lsr p hp), fun p hp => hm _ (inr p (i1 p hp)), fun L' p pm ndL few pw np => ?_⟩
        have sp : Same h (upd h p (.lst (L'.map fun q => V.ref q.1))) := Same.new np
        refine q _ p (L'.map (·.1)) ((s0.trans s1).trans sp) ((s0.trans s1).free np) ?_ ?_
        · rw [upd_same, List.map_map]
          rfl
        · have en : L'.map (·.2) = norm rs := by
            refine norm_of (rise_of ndL (List.pairwise_map.mpr pw)) fun x => ?_
            constructor
            · intro hx
              obtain ⟨pq, hp, rfl⟩ := List.mem_map.mp hx
              exact inr _ (i1 _ (pm.mem_iff.mp hp))
            · intro hx
              rw [← z2] at hx
              obtain ⟨pq, hp, rfl⟩ := List.mem_map.mp hx
              exact (pm.map (·.2)).mem_iff.mpr (i2 pq hp)
          rw [← en]
          exact of_zip fun pq hp => sp _ _ (lsr pq (pm.mem_iff.mp hp))
/-- a table whose own parts are new since H0 -/
def TabN (C : Addr) (H0 H : Hp) (p : Addr) (cs : List Str) (rs : List (List Int)) : Prop := ∃ dx l r as, H p = some (.ins C dx (bflds l r)) ∧ H l = some (.lst (cs.map V.str)) ∧ H r = some (.lst (as.map V.ref)) ∧ RowsAt H as rs ∧ H0 l = none ∧ H0 r = none
theorem TabN.tab {C : Addr} {H0 H : Hp} {p : Addr} {cs : List Str} {rs : List (List Int)} (t : TabN C H0 H p cs rs) : TabAt C H p cs rs := by
  obtain ⟨dx, l, r, as, h1, h2, h3, h4, _⟩ := t
  exact ⟨dx, l, r, as, h1, h2, h3, h4⟩
theorem TabN.put {C : Addr} {H0 H : Hp} {p a : Addr} {cs : List Str} {rs : List (List Int)} {o : HO} {xs ys : List V} (t : TabN C H0 H p cs rs) (e0 : H0 a = some o) (e : H a = some (.lst xs)) : TabN C H0 (upd H a (.lst ys)) p cs rs := by
  obtain ⟨dx, l, r, as, h1, h2, h3, h4, h5, h6⟩ := t
  exact ⟨dx, l, r, as, by rw [upd_ne (ne_of h1 e (by intro z; cases z))]; exact h1, by rw [upd_ne (ne_of_none e0 h5).symm]; exact h2, by rw [upd_ne (ne_of_none e0 h6).symm]; exact h3, RowsAt.put h4 e, h5, h6⟩
theorem TabN.same {C : Addr} {H0 H H' : Hp} {p : Addr} {cs : List Str} {rs : List (List Int)} (t : TabN C H0 H p cs rs) (s : Same H H') : TabN C H0 H' p cs rs := by
  obtain ⟨dx, l, r, as, h1, h2, h3, h4, h5, h6⟩ := t
  exact ⟨dx, l, r, as, s _ _ h1, s _ _ h2, s _ _ h3, h4.same s, h5, h6⟩
theorem TabN.back {C : Addr} {G0 H0 H : Hp} {p : Addr} {cs : List Str} {rs : List (List Int)} (t : TabN C H0 H p cs rs) (s : Same G0 H0) : TabN C G0 H p cs rs := by
  obtain ⟨dx, l, r, as, h1, h2, h3, h4, h5, h6⟩ := t
  exact ⟨dx, l, r, as, h1, h2, h3, h4, s.free h5, s.free h6⟩
theorem sc_binit : FnScope ["self", "columns", "rows"] ["self", "columns", "rows"] (defScope s_binit) := ⟨rfl, rfl, rfl, by decide +kernel, rfl, by decide +kernel, by decide +kernel⟩
def sp_binit (C : Addr) : Sp := fun vs H Q _ => ∃ (p L dx : Addr) (v : V) (cs : List Str) (as : List Addr) (rs : List (List Int)), vs = [.ref p, .ref L, v] ∧ H p = some (.ins C dx []) ∧ H L = some (.lst (cs.map V.str)) ∧ Cs cs ∧ RowsV H v as rs ∧ Rs cs.length rs ∧
  ∀ H', TabN C H H' p cs (norm rs) → (∀ b o, b ≠ p → H b = some o → H' b = some o) → Q .non H'
theorem ok_binit {C fi : Addr} {di : FuncData} (F : FunD K "__init__" "Table.__init__" (defArgs s_binit) (defBody s_binit) (defScope s_binit) [.non] [] fi di) (T : Kt K mg fW fN fA fR fK fS dW dN dA dR dK dS) (c : Bc K mg C) :
    FnOk P w K mg base CX0 4 fi di ["self", "columns", "rows"] (sp_binit C) := by
  have B := T.B
  have GK : FnOk P w K mg base CX0 3 fK dK ["columns"] sp_ccV := ok_ccV T
  have GS : FnOk P w K mg base CX0 3 fS dS ["rows", "many"] sp_sorted := ok_sorted T
  refine F.ok sc_binit (fun vs H Q E h => ?_) (fun cdv A outer s H vs Q E hr h => ?_)
  · obtain ⟨p, L, dx, v, cs, as, rs, rfl, _⟩ := h
    rfl
  · obtain ⟨p, L, dx, v, cs, as, rs, rfl, hp, hL, hc, hv, rok, q⟩ := h
    refine ⟨_, pss_cons (ps_expr (pe_call GK hr rfl T.chk.g T.chk.F.kp T.chk.b .nil pass0 (pa_cons (pv 1) pa_nil)))
      (pss_cons (ps_fld (pv 0) (pe_callTy call_list_of (by rfl) B.list boot_list (pa_cons (pv 1) pa_nil)) rfl)
      (pss_one (ps_fld (pv 0) (pe_call GS hr rfl T.srt.g T.srt.F.kp T.srt.b .nil pass0 (pa_cons (pv 2) (pa_cons (pe_callB call_len_seq (by rfl) B.len PySem.boot_len (pa_cons (pv 1) pa_nil)) pa_nil))) rfl))), ?_⟩
    refine ⟨_, rfl, L, cs, rfl, hL, hc, fun H1 s1 => ?_⟩
    refine ⟨_, rfl, L, _, rfl, .inl (.of (s1 _ _ hL)), fun l nl => ?_⟩
    have hp1 := s1 _ _ hp
    have pl : p ≠ l := ne_of_none hp1 nl
    have hL1 := s1 _ _ hL
    have pL : L ≠ p := fun z => by rw [z, hp1] at hL1; cases hL1
    refine ⟨_, rfl, p, C, dx, [], rfl, by rw [upd_ne pl]; exact hp1, c.cl, c.nC, by show 0 < 1000; decide, ?_⟩
    have keep : ∀ b o, b ≠ p → H b = some o → upd (upd H1 l (.lst (cs.map V.str))) p (.ins C dx (putF "_columns" (.ref l) [])) b = some o := fun b o hb e => by
      have e1 := s1 _ _ e
      rw [upd_ne hb, upd_ne (ne_of_none e1 nl)]
      exact e1
    have ep : upd (upd H1 l (.lst (cs.map V.str))) p (.ins C dx (putF "_columns" (.ref l) [])) p = some (.ins C dx (putF "_columns" (.ref l) [])) := upd_same
    have el : upd (upd H1 l (.lst (cs.map V.str))) p (.ins C dx (putF "_columns" (.ref l) [])) l = some (.lst (cs.map V.str)) := by rw [upd_ne pl.symm, upd_same]
    generalize upd (upd H1 l (.lst (cs.map V.str))) p (.ins C dx (putF "_columns" (.ref l) [])) = H2 at keep ep el ⊢
    have hv2 : RowsV H2 v as rs := by
      rcases hv with h | ⟨R, e1, e2, e3⟩
      · exact .inl h
      · exact .inr ⟨R, e1, keep R _ (fun z => by rw [z, hp] at e2; cases e2) e2, Paired.mapP e3 fun a r e => keep a _ (fun z => by rw [z, hp] at e; cases e) e⟩
    refine ⟨_, rfl, _, rfl, L, _, rfl, .inl (.of (keep _ _ pL hL)), v, as, rs, cs.length, ?_, hv2, rok.len, by have := hc.le; omega, rok.few, fun H3 r as' s3 nr er hr' => ?_⟩
    · rw [List.length_map]
      rfl
    refine ⟨_, rfl, p, C, dx, _, rfl, s3 _ _ ep, c.cl, c.nR, by show 1 < 1000; decide, ?_⟩
    have el3 := s3 _ _ el
    have lp : l ≠ p := pl.symm
    have rp : r ≠ p := fun z => by rw [z, ep] at nr; cases nr
    refine q _ ⟨dx, l, r, as', upd_same, by rw [upd_ne lp]; exact el3, by rw [upd_ne rp]; exact er, ?_, s1.free nl, ?_⟩ fun b o hb e => by rw [upd_ne hb]; exact s3 _ _ (keep b o hb e)
    rotate_left
    · cases e : H r with
      | none => rfl
      | some o =>
        rw [keep r o rp e] at nr
        cases nr
    exact Paired.mapP hr' fun a r' e => by rw [upd_ne (fun z => by rw [z, s3 _ _ ep] at e; cases e)]; exact e
theorem sc_bcolumns : FnScope ["self"] ["self"] (defScope s_bcolumns) := ⟨rfl, rfl, rfl, by decide +kernel, rfl, by decide +kernel, by decide +kernel⟩
def sp_bcolumns (C : Addr) : Sp := fun vs H Q _ => ∃ (p : Addr) (cs : List Str) (rs : List (List Int)), vs = [.ref p] ∧ TabAt C H p cs rs ∧ ∀ H' L, Same H H' → H L = none → H' L = some (.lst (cs.map V.str)) → Q (.ref L) H'
theorem ok_bcolumns {C f : Addr} {fd : FuncData} (F : Fun K "columns" "Table.columns" s_bcolumns f fd) (B : Bn mg) (c : Bc K mg C) : FnOk P w K mg base CX0 1 f fd ["self"] (sp_bcolumns C) := by
  refine F.ok sc_bcolumns (fun vs H Q E h => ?_) (fun cdv A outer s H vs Q E hr h => ?_)
  · obtain ⟨p, cs, rs, rfl, _⟩ := h
    rfl
  · obtain ⟨p, cs, rs, rfl, ⟨dx, l, r, as, h1, h2, h3, h4⟩, q⟩ := h
    refine ⟨_, pss_one (ps_ret (pe_callTy call_list_of (by rfl) B.list boot_list (pa_cons (pe_fld (pv 0) rfl) pa_nil))), ?_⟩
    exact ⟨_, rfl, p, C, dx, _, _, rfl, h1, c.cl, c.nC, bflds_col _ _, l, _, rfl, .inl (.of h2), fun L nL => q _ L (Same.new nL) nL upd_same⟩
theorem sc_brows : FnScope ["self"] ["self"] (defScope s_brows) := ⟨rfl, rfl, rfl, by decide +kernel, rfl, by decide +kernel, by decide +kernel⟩
def sp_brows (C : Addr) : Sp := fun vs H Q _ => ∃ (p : Addr) (cs : List Str) (rs : List (List Int)), vs = [.ref p] ∧ TabAt C H p cs rs ∧ ∀ H' L as, Same H H' → H L = none → H' L = some (.lst (as.map V.ref)) → RowsAt H' as rs → Q (.ref L) H'
theorem ok_brows {C f : Addr} {fd : FuncData} (F : Fun K "rows" "Table.rows" s_brows f fd) (B : Bn mg) (c : Bc K mg C) : FnOk P w K mg base CX0 1 f fd ["self"] (sp_brows C) := by
  refine F.ok sc_brows (fun vs H Q E h => ?_) (fun cdv A outer s H vs Q E hr h => ?_)
  · obtain ⟨p, cs, rs, rfl, _⟩ := h
    rfl
  · obtain ⟨p, cs, rs, rfl, ⟨dx, l, r, as, h1, h2, h3, h4⟩, q⟩ := h
    refine ⟨_, pss_one (ps_ret (pe_callTy call_list_of (by rfl) B.list boot_list (pa_cons (pe_fld (pv 0) rfl) pa_nil))), ?_⟩
    exact ⟨_, rfl, p, C, dx, _, _, rfl, h1, c.cl, c.nR, bflds_rows _ _, r, _, rfl, .inl (.of h3), fun L nL => q _ L as (Same.new nL) nL upd_same (h4.same (Same.new nL))⟩
theorem sc_blen : FnScope ["self"] ["self"] (defScope s_blen) := ⟨rfl, rfl, rfl, by decide +kernel, rfl, by decide +kernel, by decide +kernel⟩
def sp_blen (C : Addr) : Sp := fun vs H Q _ => ∃ (p : Addr) (cs : List Str) (rs : List (List Int)), vs = [.ref p] ∧ TabAt C H p cs rs ∧ Q (.int rs.length) H
theorem ok_blen {C f : Addr} {fd : FuncData} (F : Fun K "__len__" "Table.__len__" s_blen f fd) (B : Bn mg) (c : Bc K mg C) : FnOk P w K mg base CX0 1 f fd ["self"] (sp_blen C) := by
  refine F.ok sc_blen (fun vs H Q E h => ?_) (fun cdv A outer s H vs Q E hr h => ?_)
  · obtain ⟨p, cs, rs, rfl, _⟩ := h
    rfl
  · obtain ⟨p, cs, rs, rfl, ⟨dx, l, r, as, h1, h2, h3, h4⟩, q⟩ := h
    refine ⟨_, pss_one (ps_ret (pe_callB call_len_seq (by rfl) B.len PySem.boot_len (pa_cons (pe_fld (pv 0) rfl) pa_nil))), ?_⟩
    refine ⟨_, rfl, p, C, dx, _, _, rfl, h1, c.cl, c.nR, bflds_rows _ _, r, _, rfl, .inl (.of h3), ?_⟩
    rw [List.length_map, h4.len]
    exact q
theorem sc_beq : FnScope ["self", "other"] ["self", "other"] (defScope s_beq) := ⟨rfl, rfl, rfl, by decide +kernel, rfl, by decide +kernel, by decide +kernel⟩
def sp_beq (C : Addr) : Sp := fun vs H Q _ => ∃ (a b : Addr) (cs cs' : List Str) (rs rs' : List (List Int)), vs = [.ref a, .ref b] ∧ TabAt C H a cs rs ∧ TabAt C H b cs' rs' ∧ (∀ x ∈ cs, TM.NameOk x) ∧ (∀ x ∈ cs', TM.NameOk x) ∧ ∀ H', Same H H' → Q (.bl (decide (cs = cs') && decide (rs = rs'))) H'
theorem ok_beq {C f : Addr} {fd : FuncData} (F : Fun K "__eq__" "Table.__eq__" s_beq f fd) (B : Bn mg) (c : Bc K mg C) : FnOk P w K mg base CX0 1 f fd ["self", "other"] (sp_beq C) := by
  refine F.ok sc_beq (fun vs H Q E h => ?_) (fun cdv A outer s H vs Q E hr h => ?_)
  · obtain ⟨a, b, cs, cs', rs, rs', rfl, _⟩ := h
    rfl
  · obtain ⟨a, b, cs, cs', rs, rs', rfl, ⟨dx, l, r, as, h1, h2, h3, h4⟩, ⟨dx', l', r', as', h1', h2', h3', h4'⟩, ok, ok', q⟩ := h
    have hu64 := hr.units
    refine ⟨_, pss_one (ps_ret (pe_and (pe_callB call_isi (by rfl) B.isi boot_isinstance (pa_cons (pv 1) (pa_cons (pe_glob (v := .ref C) (by rfl) c.g rfl) pa_nil)))
      (pe_and (pe_cmpR (op_eqD hu64) (pe_fld (pv 0) rfl) (pe_fld (pv 1) rfl) (nomark _)) (pe_one (pe_cmpR (op_eqD hu64) (pe_fld (pv 0) rfl) (pe_fld (pv 1) rfl) (nomark _)))))), ?_⟩
    refine ⟨_, rfl, _, _, _, _, true, rfl, .own C, .base (.ins h1' c.cl c.ins.ha c.ins.hn c.ins.htk c.ins.hm), c.ins.me, true, rfl, ?_⟩
    refine ⟨_, rfl, a, C, dx, _, _, rfl, h1, c.cl, c.nC, bflds_col _ _, _, rfl, b, C, dx', _, _, rfl, h1', c.cl, c.nC, bflds_col _ _, _, _, DpS h2, DpS h2', shS ok, shS ok', _, rfl, ?_⟩
    rw [eqv_dS]
    by_cases hn : cs = cs'
    · rw [decide_eq_true hn]
      refine ⟨_, rfl, a, C, dx, _, _, rfl, h1, c.cl, c.nR, bflds_rows _ _, _, rfl, b, C, dx', _, _, rfl, h1', c.cl, c.nR, bflds_rows _ _, _, _, DpRows h3 h4, DpRows h3' h4', shRows rs, shRows rs', ?_⟩
      rw [eqv_dR]
      have := q H same_rfl
      rwa [decide_eq_true hn, Bool.true_and] at this
    · rw [decide_eq_false hn]
      have := q H same_rfl
      rwa [decide_eq_false hn, Bool.false_and] at this
end
end T07

set_option maxHeartbeats 1000000
/-! Tuples of the same items, and lists of such, compared: of whatever kind the items are. -/
namespace TEQ
open PySem L2 PyProof.Rows TX TY
theorem vals_at {xs : List V} {us : List Value} (r : Vals xs us) {j : Nat} (h : j < us.toArray.size) : ∃ x, xs[j]? = some x ∧ RelV x us.toArray[j] := by
  have hu : j < us.length := by simpa using h
  have hx : j < xs.length := by rw [r.length]; exact hu
  obtain ⟨u, e, k⟩ := r.get (List.getElem?_eq_getElem hx)
  refine ⟨xs[j], List.getElem?_eq_getElem hx, ?_⟩
  rw [List.getElem?_eq_getElem hu] at e
  have : us.toArray[j] = u := by simpa using Option.some.inj e
  rw [this]
  exact k
section
variable {X : Cx} {pins : List (Addr × Obj)} {σ : L2.St} {H : Hp} {s : Shared}
/-- two tuples of the same items are equal -/
theorem rc_tups {A : Around} {a b : Addr} {xs : List V} (I : Inv X pins σ H s) (ha : SqT X.K H a xs) (hb : SqT X.K H b xs) (hi : xs.all itemV = true) (hu : A.units < cLine) : SeqAt.RcAt A s (.ref a) (.ref b) true := by
  obtain ⟨us, r1, t1, _⟩ := I.tuple ha
  obtain ⟨vs, r2, t2, _⟩ := I.tuple hb
  have sz : us.toArray.size = vs.toArray.size := by rw [List.size_toArray, List.size_toArray, ← r1.length, ← r2.length]
  have z := SeqAt.RcAt.tuples (A := A) (e := fun _ => true) t1 t2 hu fun j h1 h2 => by
    obtain ⟨x, e1, k1⟩ := vals_at r1 h1
    obtain ⟨y, e2, k2⟩ := vals_at r2 h2
    rw [e1] at e2
    cases e2
    exact eqAt_item k1 k2 (List.all_eq_true.mp hi _ (List.mem_of_getElem? e1))
  have e : ((List.range (min us.toArray.size vs.toArray.size)).all (fun _ => true) && us.toArray.size == vs.toArray.size) = true := by rw [sz]; simp
  rw [e] at z
  exact z
theorem eq_tups {A : Around} {a b : Addr} {xs : List V} (I : Inv X pins σ H s) (ha : SqT X.K H a xs) (hb : SqT X.K H b xs) (hi : xs.all itemV = true) (hu : A.units < cLine) : SeqAt.EqAt A s (.ref a) (.ref b) true := by
  by_cases h : a = b
  · rw [h]
    exact SeqAt.EqAt.same _
  · exact SeqAt.EqAt.of_refs h (rc_tups I ha hb hi hu)
/-- tuple == tuple, of the same items -/
def rEqTup (K : PySem.W.Frag) : R2 := fun x y H Q => ∃ a b xs, x = .ref a ∧ y = .ref b ∧ SqT K H a xs ∧ SqT K H b xs ∧ xs.all itemV = true ∧ Q (.bl true) H
theorem op_eqTup (hu : X.A.units < cLine) : OpR X (compareOp .Eq) (rEqTup X.K) := by
  intro pins s σ H x y v u Q I rx ry h
  obtain ⟨a, b, xs, rfl, rfl, ha, hb, hi, q⟩ := h
  cases rx
  cases ry
  exact rc_tups I ha hb hi hu X.prog X.w X.xe _ ⟨.bl true, H, I, rfl, q⟩
/-- lists of tuples, each of the same items as the other's: != is False -/
def rNeTups (K : PySem.W.Frag) : R2 := fun x y H Q => ∃ (a b : Addr) (as bs : List Addr), x = .ref a ∧ y = .ref b ∧ SqL K H a (as.map V.ref) ∧ SqL K H b (bs.map V.ref) ∧ as.length = bs.length ∧
  (∀ (i : Nat) (p q : Addr), as[i]? = some p → bs[i]? = some q → ∃ xs, SqT K H p xs ∧ SqT K H q xs ∧ xs.all itemV = true) ∧ Q (.bl false) H
theorem op_neTups (hu : X.A.units + 1 < cLine) : OpR X (compareOp .NotEq) (rNeTups X.K) := by
  intro pins s σ H x y v u Q I rx ry h
  obtain ⟨a, b, as, bs, rfl, rfl, ha, hb, hl, each, q⟩ := h
  cases rx
  cases ry
  obtain ⟨us, r1, t1, _⟩ := I.list ha
  obtain ⟨vs, r2, t2, _⟩ := I.list hb
  have sz : us.toArray.size = vs.toArray.size := by
    rw [List.size_toArray, List.size_toArray, ← r1.length, ← r2.length, List.length_map, List.length_map, hl]
  have z := SeqAt.RcNeAt.lists (A := X.A) (e := fun _ => true) t1.isList t2.isList sz (by omega) fun j h1 h2 => by
    obtain ⟨x, e1, k1⟩ := vals_at r1 h1
    obtain ⟨y, e2, k2⟩ := vals_at r2 h2
    rw [List.getElem?_map] at e1 e2
    cases ep : as[j]? with
    | none => rw [ep] at e1; cases e1
    | some p =>
      cases eq : bs[j]? with
      | none => rw [eq] at e2; cases e2
      | some p2 =>
        rw [ep] at e1
        rw [eq] at e2
        cases e1
        cases e2
        have g1 : us.toArray[j] = Value.ref p := k1
        have g2 : vs.toArray[j] = Value.ref p2 := k2
        rw [g1, g2]
        obtain ⟨xs, s1, s2, hi⟩ := each j p p2 ep eq
        exact eq_tups I s1 s2 hi hu
  have e : (List.range us.toArray.size).all (fun _ => true) = true := by simp
  rw [e] at z
  exact z X.prog X.w X.xe _ ⟨.bl false, H, I, rfl, q⟩
end
end TEQ

set_option maxHeartbeats 2000000
namespace T07
open PySem L2 PyProof.Rows TX TY TW TD TB TG TUD TE TK
section
variable {P : Program} {w : World} {K : PySem.W.Frag} {mg : Str → Option Value} {base : Heap}
variable {fW fN fA fR fK fS : Addr} {dW dN dA dR dK dS : FuncData}
abbrev NtR (K : PySem.W.Frag) (mg : Str → Option Value) (C fi : Addr) (di : FuncData) := Nt K mg "NoRow" "at" "NoRow.__init__" s_norow C fi di
theorem sc_norow : FnScope ["self", "at"] ["self", "at"] (defScope s_norow) := ⟨rfl, rfl, rfl, by decide +kernel, rfl, by decide +kernel, by decide +kernel⟩
theorem ok_norow {Ct fi : Addr} {di : FuncData} (N : NtR K mg Ct fi di) : FnOk P w K mg base CX0 1 fi di ["self", "at"] (sp_efld Ct "at") := by
  refine N.F.ok sc_norow (fun vs H Q E h => ?_) (fun cdv A outer s H vs Q E hr h => ?_)
  · obtain ⟨a, v, rfl, _⟩ := h
    rfl
  · obtain ⟨a, v, rfl, ha, q⟩ := h
    refine ⟨_, pss_one (ps_ost (pv 0) (pv 1)), ?_⟩
    refine ⟨_, rfl, _, rfl, a, Ct, rfl, N.T, N.no, .inl ⟨ha, fun dx h1 h2 => q dx h1 h2⟩⟩
/-- the class of tables with what is called of it -/
structure Bd (K : PySem.W.Frag) (mg : Str → Option Value) (C fI hc hr hl he hk hh Cr fr : Addr) (dI gc gr gl ge gk gh dr : FuncData) : Prop where
  c : Bc K mg C
  iF : FunD K "__init__" "Table.__init__" (defArgs s_binit) (defBody s_binit) (defScope s_binit) [.non] [] fI dI
  iM : Mk K C fI
  iB : Binds K dI ["self", "columns", "rows"] []
  iB1 : ∃ ds, Vals [.non] ds ∧ Binds K dI ["self", "columns", "rows"] ds
  cols : Mt K C "columns" "Table.columns" s_bcolumns ["self"] hc gc
  rows : Mt K C "rows" "Table.rows" s_brows ["self"] hr gr
  len : Mt K C "__len__" "Table.__len__" s_blen ["self"] hl gl
  eq : Mt K C "__eq__" "Table.__eq__" s_beq ["self", "other"] he ge
  chk : Mt K C "_check_row" "Table._check_row" s_bcheck ["self", "row"] hk gk
  has : Mt K C "has" "Table.has" s_bhas ["self", "row"] hh gh
  ne : PySem.W.findIn K (.ref C) "__ne__" = some (some (.builtin "object.__ne__"))
  ns : PySem.W.notFirst K C (.ref C) = true
  er : NtR K mg Cr fr dr
variable {C fI hc hr hl he hk hh Cr fr : Addr} {dI gc gr gl ge gk gh dr : FuncData}
theorem nocols (l r : Addr) : (bflds l r).lookup ("columns" : Str) = none := bflds_no l r (by decide +kernel) (by decide +kernel)
theorem norows (l r : Addr) : (bflds l r).lookup ("rows" : Str) = none := bflds_no l r (by decide +kernel) (by decide +kernel)
theorem nochk (l r : Addr) : (bflds l r).lookup ("_check_row" : Str) = none := bflds_no l r (by decide +kernel) (by decide +kernel)
theorem nohas (l r : Addr) : (bflds l r).lookup ("has" : Str) = none := bflds_no l r (by decide +kernel) (by decide +kernel)
/-- refused -/
def Bar (Cr : Addr) (H : Hp) (E : XK) : Prop := ∀ H' d, Same H H' → H' d = some (.xd [("at", .int 0)]) → E (.ref Cr) (some d) H'
theorem Bar.same {H H' : Hp} {E : XK} (h : Bar Cr H E) (s : Same H H') : Bar Cr H' E := fun H2 d s2 e => h H2 d (s.trans s2) e
theorem sc_check : FnScope ["self", "row"] ["self", "row"] (defScope s_bcheck) := ⟨rfl, rfl, rfl, by decide +kernel, rfl, by decide +kernel, by decide +kernel⟩
def sp_check (C Cr : Addr) : Sp := fun vs H Q E => ∃ (t W : Addr) (v : V) (d : Option (List V)) (cs : List Str) (rs : List (List Int)), vs = [.ref t, v] ∧ TabAt C H t cs rs ∧ RowT W H v d ∧ (okRow cs.length d = false → Bar Cr H E) ∧ (okRow cs.length d = true → ∀ H', Same H H' → Q .non H')
theorem ok_check (T : Kt K mg fW fN fA fR fK fS dW dN dA dR dK dS) (D : Bd K mg C fI hc hr hl he hk hh Cr fr dI gc gr gl ge gk gh dr) : FnOk P w K mg base (L2.CX P w) 3 hk gk ["self", "row"] (sp_check C Cr) := by
  have B := T.B
  have c := D.c
  have GR : FnOk P w K mg base CX0 2 fR dR ["thing", "many"] sp_is_row := ok_is_row T
  have GN : FnOk P w K mg base CX0 1 fr dr ["self", "at"] (sp_efld Cr "at") := ok_norow D.er
  refine D.chk.F.okX sc_check (fun vs H Q E h => ?_) (fun cdv A outer s H vs Q E hr h => ?_)
  · obtain ⟨t, W, v, d, cs, rs, rfl, _⟩ := h
    rfl
  · obtain ⟨t, W, v, d, cs, rs, rfl, tb, hd, q0, q1⟩ := h
    have r2 : Room 2 _ := hr.mono (by decide)
    refine ⟨_, pss_one (ps_if (pt_not (pt_val (pe_call GR r2 rfl T.row.g T.row.F.kp T.row.b .nil pass0 (pa_cons (pv 1) (pa_cons (pe_callB call_len_seq (by rfl) B.len PySem.boot_len (pa_cons (pe_fld (pv 0) rfl) pa_nil)) pa_nil)))))
      (pss_one (ps_raise rfl (takes_of rfl rfl rfl rfl) (pmk_oex D.er.T D.er.i D.er.t GN r2 D.er.b .nil pass0 rfl D.er.g (pa_cons pe_int pa_nil)))) pss_nil), ?_⟩
    obtain ⟨dx, l, r, as, h1, h2, h3, h4⟩ := id tb
    refine ⟨_, rfl, _, rfl, t, C, dx, _, _, rfl, h1, c.cl, c.nC, bflds_col _ _, l, _, rfl, .inl (.of h2), W, v, d, cs.length, ?_, hd, fun H1 s1 => ⟨_, rfl, ?_⟩⟩
    · rw [List.length_map]
      rfl
    cases hb : okRow cs.length d with
    | false =>
      refine ⟨by show 1 ≤ 1000; decide, ?_⟩
      exact rd_efld fun H' d' s' e => q0 hb H' d' (s1.trans s') e
    | true => exact q1 hb H1 s1
theorem u65 {k : Nat} {A : Around} (r : Room k A) : A.units + 65 < cLine := by
  have := r.un
  omega
theorem sc_has : FnScope ["self", "row"] ["self", "row"] (defScope s_bhas) := ⟨rfl, rfl, rfl, by decide +kernel, rfl, by decide +kernel, by decide +kernel⟩
/-- a row that is right, where it stands -/
theorem row_right {W : Addr} {H : Hp} {v : V} {d : Option (List V)} {n : Nat} (h : RowT W H v d) (k : okRow n d = true) : ∃ (a : Addr) (r : List Int), v = .ref a ∧ d = some (r.map V.int) ∧ H a = some (.tup (r.map V.int)) ∧ r.length = n := by
  rcases h with ⟨a, ys, rfl, _, h1, _, _, rfl⟩ | ⟨rfl, _⟩
  · unfold okRow at k
    rw [Bool.and_eq_true, decide_eq_true_iff] at k
    obtain ⟨r, rfl⟩ := whole_vals k.2
    exact ⟨a, r, rfl, rfl, h1, by rw [← k.1, List.length_map]⟩
  · cases k
theorem any_row (rs : List (List Int)) (r : List Int) : ((rs.map fun q => PyData.tuple ((q.map V.int).map dV)).any fun z => PyData.eqv z (.tuple ((r.map V.int).map dV))) = decide (r ∈ rs) := by
  induction rs with
  | nil => rfl
  | cons q rs ih =>
    rw [List.map_cons, List.any_cons, ih, eqv_row]
    by_cases h : q = r
    · subst h
      simp
    · rw [decide_eq_false h, Bool.false_or]
      have : r ∈ q :: rs ↔ r ∈ rs := by
        rw [List.mem_cons]
        exact ⟨fun z => z.elim (fun e => absurd e.symm h) id, .inr⟩
      exact (decide_eq_decide.mpr this).symm
theorem sh_row (r : List Int) : SeqAt.shaped (.tuple ((r.map V.int).map dV)) = true := shaped_of (can_tup (whole_ints r)) (by rw [dep_tup]; decide)
/-- a method that looks the row over first -/
def sp_has (C Cr : Addr) : Sp := fun vs H Q E => ∃ (t W : Addr) (v : V) (d : Option (List V)) (cs : List Str) (rs : List (List Int)), vs = [.ref t, v] ∧ TabAt C H t cs rs ∧ RowT W H v d ∧ (okRow cs.length d = false → Bar Cr H E) ∧ (∀ r : List Int, okRow cs.length d = true → d = some (r.map V.int) → ∀ H', Same H H' → Q (.bl (decide (r ∈ rs))) H')
theorem ok_has (T : Kt K mg fW fN fA fR fK fS dW dN dA dR dK dS) (D : Bd K mg C fI hc hr hl he hk hh Cr fr dI gc gr gl ge gk gh dr) : FnOk P w K mg base (L2.CX P w) 4 hh gh ["self", "row"] (sp_has C Cr) := by
  have c := D.c
  have GK : FnOk P w K mg base (L2.CX P w) 3 hk gk ["self", "row"] (sp_check C Cr) := ok_check T D
  refine D.has.F.okX sc_has (fun vs H Q E h => ?_) (fun cdv A outer s H vs Q E hr h => ?_)
  · obtain ⟨t, W, v, d, cs, rs, rfl, _⟩ := h
    rfl
  · obtain ⟨t, W, v, d, cs, rs, rfl, tb, hd, q0, q1⟩ := h
    have hu65 := u65 hr
    refine ⟨_, pss_cons (ps_expr (pe_methE (pv 0) c.cl D.chk.me GK hr D.chk.b (fun σ => passAt (takes_of rfl rfl rfl rfl) σ) (pa_cons (pv 1) pa_nil)))
      (pss_one (ps_ret (pe_cmpR (op_inD hu65) (pv 1) (pe_fld (pv 0) rfl) rfl))), ?_⟩
    obtain ⟨dx, l, r, as, h1, h2, h3, h4⟩ := id tb
    refine ⟨_, rfl, t, dx, _, rfl, h1, nochk _ _, _, rfl, t, W, v, d, cs, rs, rfl, tb, hd, fun hb => q0 hb, fun hb H1 s1 => ?_⟩
    obtain ⟨a, r', rfl, rfl, ha, hl'⟩ := row_right hd hb
    refine ⟨_, rfl, _, rfl, t, C, dx, _, _, rfl, s1 _ _ h1, c.cl, c.nR, bflds_rows _ _, _, _, DpRow (s1 _ _ ha), DpRows (s1 _ _ h3) (h4.same s1), sh_row _, shRows rs, ?_⟩
    rw [any_row]
    exact q1 r' hb rfl H1 s1
end
end T07

set_option maxHeartbeats 2000000
/- d.setdefault(k, x), the keys of d tuples -/
namespace TSD
open PySem PySem.Spec L2 PyProof.Rows
section
variable {X : Cx} {pins : List (Addr × Obj)} {σ : L2.St} {H : Hp} {s : Shared} {a b : Addr} {r : Value} {d : V} {k : List Key} {A : Around} {E : Value → Shared → Prop}
theorem d_setdT {kvs : List (List Key × V)} {Q : Value → Shared → Prop} (hu : A.units + 1 < cLine) (I : Inv X pins σ H s) (e : H a = some (.dT kvs)) (eb : H b = some (.tup (k.map kV))) (rd : RelV d r) (hl : kvs.length < sizeLine)
    (h1 : ∀ v, valV kvs k = some v → ∀ (w' : Value) (s' : Shared), Inv X pins σ H s' → RelV v w' → Q w' s') (h2 : valV kvs k = none → ∀ (w' : Value) (s' : Shared), Inv X pins σ (upd H a (.dT (putK kvs k d))) s' → RelV d w' → Q w' s') :
    wpAny (model X.prog X.w) A (call (.builtin "dict.setdefault") [.ref a, .ref b, r]) Q E s := by
  obtain ⟨z, hd, xs, rel, dd⟩ := dt_of I.hok e
  have hz : xs.length ≤ sizeLine := by rw [← Paired.length rel]; exact z
  have q := rel.val k
  refine call_setdefault_heap (hsz := hz) (tupleKind_room_in1 hu) (key_of I.hok eb) hd dd (fun p hp => ?_) (fun hn h' dd' hs => ?_)
  · rw [hp] at q
    cases q0 : valV kvs k with
    | none =>
      rw [q0] at q
      exact (show False from q).elim
    | some v0 =>
      rw [q0] at q
      exact h1 v0 q0 _ _ (I.tok _) q
  · rw [hn] at q
    cases q0 : valV kvs k with
    | some v0 =>
      rw [q0] at q
      exact (show False from q).elim
    | none =>
      have hl2 : (putK kvs k d).length ≤ sizeLine := by
        have := length_putK kvs k d
        omega
      refine h2 q0 _ _ ?_ rd
      obtain ⟨p, es, ep, hq, g2, g3, g4, _, g5⟩ := dd'
      refine d_write I (by rw [e]; exact True.intro) hs ⟨p, hq⟩ ⟨hl2, hd, _, (rel.put k eb rd).keeps fun c ys ec => ?_, p, es, ep, hq, g2, g3, g4, g5⟩
      rw [upd_ne (ne_of ec e (fun z => nomatch z))]
      exact ec
end
/-- d.setdefault(y, z), the keys of d tuples -/
def tDSetdT (td ty tx : TE) : TE := fun σ H Q => td σ H fun x H1 => ∃ a, x = .ref a ∧ IsD H1 a ∧ ty σ H1 fun y H2 => tx σ H2 fun z H3 => ∃ (kvs : List (List Key × V)) (k : List Key) (b : Addr), H3 a = some (.dT kvs) ∧ y = .ref b ∧ H3 b = some (.tup (k.map kV)) ∧ kvs.length < sizeLine ∧
  (∀ v, valV kvs k = some v → Q v H3) ∧ (valV kvs k = none → Q z (upd H3 a (.dT (putK kvs k z))))
section
variable {X : Cx} {o e f : Expr} {td ty tx : TE} {apos cpos : Pos}
theorem pe_dsetdT (hu : X.A.units + 1 < cLine) (ho : PE X o td) (he : PE X e ty) (hf : PE X f tx) (m : M2 X o "setdefault" apos e f cpos) : PE X (.Call (.Attribute o "setdefault" apos) [e, f] [] cpos) (tDSetdT td ty tx) := by
  refine ⟨fun pins s σ H Q I h => ?_⟩
  refine wpAny_Call_method m.base m.few m.line PySem.F.plainAttrs_dict PySem.F.slot_dict_setdefault PySem.F.type_dict_setdefault (thn (ho.run pins s σ H _ I h) fun u s1 ⟨x, H1, I1, rx, a, ex, d, q1⟩ => ?_)
  subst ex
  obtain rfl : u = Value.ref a := rx
  obtain ⟨t1, t2, _⟩ := isD_at I1 d
  refine ⟨t1, t2, ?_⟩
  rw [m.trees]
  refine Calls.callWith_builtin rfl (Calls.evalArgs_plain (Calls.spliced_cons (thn (he.run pins s1 σ H1 _ I1 q1) fun iv s2 ⟨y, H2, I2, ry, q2⟩ =>
    Calls.spliced_cons (thn (hf.run pins s2 σ H2 _ I2 q2) fun fv s3 ⟨z, H3, I3, rz, kvs, k, b, ea, ey, eb, hl, q3, q4⟩ => Calls.spliced_nil ?_))))
  subst ey
  cases (show iv = Value.ref b from ry)
  exact d_setdT hu I3 ea eb rz hl (fun v hv w' s4 I4 rw' => ⟨v, _, I4, rw', q3 v hv⟩) fun hn w' s4 I4 rw' => ⟨z, _, I4, rw', q4 hn⟩
end
end TSD

set_option maxHeartbeats 2000000
namespace T07
open PySem L2 PyProof.Rows TX TY TW TD TB TG TUD TE TK TSD
section
variable {P : Program} {w : World} {K : PySem.W.Frag} {mg : Str → Option Value} {base : Heap}
variable {fP fQ : Addr} {dP dQ : FuncData}
variable {C hc hr : Addr} {gc gr : FuncData}
/-- what joining asks of a table -/
structure Tm (K : PySem.W.Frag) (mg : Str → Option Value) (C hc hr : Addr) (gc gr : FuncData) : Prop where
  c : Bc K mg C
  cols : Mt K C "columns" "Table.columns" s_bcolumns ["self"] hc gc
  rows : Mt K C "rows" "Table.rows" s_brows ["self"] hr gr
/-- where names stand -/
def plc (cs ms : List Str) : List Nat := ms.map fun m => cs.idxOf m
def pck (ks : List Nat) (r : List Int) : List Int := ks.map fun k => r.getD k 0
abbrev N_places : List Str := ["table", "columns", "told", "name"]
theorem sc_places : FnScope N_places ["table", "columns"] (defScope s_places) := ⟨rfl, rfl, rfl, by decide +kernel, rfl, by decide +kernel, by decide +kernel⟩
def sp_places (C : Addr) : Sp := fun vs H Q _ => ∃ (t L : Addr) (cs ms : List Str) (rs : List (List Int)), vs = [.ref t, .ref L] ∧ TabAt C H t cs rs ∧ cs.Nodup ∧ H L = some (.lst (ms.map V.str)) ∧ ms.length ≤ 8 ∧ (∀ m ∈ ms, m ∈ cs) ∧
  ∀ H' p, Same H H' → H p = none → H' p = some (.lst ((plc cs ms).map fun (k : Nat) => V.int k)) → Q (.ref p) H'
theorem ok_places (F : Fn K mg "_places" s_places ["table", "columns"] fP dP) (B : Bn mg) (D : Tm K mg C hc hr gc gr) : FnOk P w K mg base CX0 2 fP dP ["table", "columns"] (sp_places C) := by
  have c := D.c
  have GC : FnOk P w K mg base CX0 1 hc gc ["self"] (sp_bcolumns C) := ok_bcolumns D.cols.F B c
  refine F.F.ok sc_places (fun vs H Q E h => ?_) (fun cdv A outer s H vs Q E hr h => ?_)
  · obtain ⟨t, L, cs, ms, rs, rfl, _⟩ := h
    rfl
  · obtain ⟨t, L, cs, ms, rs, rfl, tb, hnd, hL, hl, hm, q⟩ := h
    have nd := sc_places.nd
    refine ⟨_, pss_cons (ps_set (i := 2) nd rfl (Or.inr rfl) (pe_meth0 (pv 0) c.cl D.cols.me GC hr D.cols.b .nil pass0))
      (pss_one (ps_ret (pe_lc (own := [("name", 3)]) (g := gName 3) (tt := tYes) (te := tBM K "list" (rIndex K) (tVar 2) (tCons (tVar 3) tNil)) rfl nd (pi_list (pv 1)) (blkOk_by (N := N_places) (sc := defScope s_places) (by decide +kernel))
        (fun _ _ _ _ _ => pg_name (i := 3) nd rfl (Or.inl rfl)) (fun _ _ _ _ _ => pts_nil) (fun _ _ _ _ _ => pe_bm PySem.F.plainAttrs_list PySem.F.slot_list_index PySem.F.type_list_index mt_index (pv 2) (pa_cons (pv 3) pa_nil))))), ?_⟩
    obtain ⟨dx, l, r, as, h1, h2, h3, h4⟩ := id tb
    refine ⟨_, rfl, t, dx, _, rfl, h1, nocols _ _, t, cs, rs, rfl, tb, fun H1 L1 s1 n1 e1 => ?_⟩
    refine ⟨_, rfl, L, rfl, ⟨_, .of (s1 _ _ hL)⟩, fun Dn nDn => ?_⟩
    refine lc_it (walk_list (xs := ms.map V.str)) (fun i h => h Dn = some (.lst ((plc cs (ms.take i)).map fun (k : Nat) => V.int k)) ∧ Same H1 h) ⟨upd_same, Same.new nDn⟩ (fun i h _ ⟨_, s⟩ => .of (s _ _ (s1 _ _ hL))) ?_ ?_
    · rintro i v h h' hi ⟨e4, s4⟩ ⟨rfl, hv⟩
      rw [List.length_map] at hi
      rw [List.getElem?_map, List.getElem?_eq_getElem hi] at hv
      obtain ⟨m, hmi⟩ : ∃ m, ms[i]? = some m := ⟨_, List.getElem?_eq_getElem hi⟩
      have hv' : v = V.str m := by
        rw [List.getElem?_eq_getElem hi] at hmi
        rw [← Option.some.inj hmi]
        exact (Option.some.inj hv).symm
      subst hv'
      have hmc : m ∈ cs := hm m (List.mem_of_getElem? hmi)
      have hk : cs.idxOf m < cs.length := List.idxOf_lt_length_of_mem hmc
      have hk2 : cs[cs.idxOf m] = m := List.getElem_idxOf hk
      refine ⟨rfl, ?_⟩
      refine ⟨_, rfl, .inl ⟨rfl, _, .inl (.inl (s4 _ _ e1))⟩, _, rfl, ?_⟩
      refine ⟨L1, cs.map V.str, .str m, cs.idxOf m, .str m, rfl, rfl, .of (s4 _ _ e1), rfl, TX.flat_strs _, by rw [List.getElem?_map, List.getElem?_eq_getElem hk, hk2]; rfl, by show (m == m) = true; simp, fun j z' hj hz => ?_, ?_⟩
      · rw [List.getElem?_map] at hz
        obtain ⟨y, hy, rfl⟩ := Option.map_eq_some_iff.mp hz
        obtain ⟨hj1, hj2⟩ := List.getElem?_eq_some_iff.mp hy
        show (y == m) = false
        have : y ≠ m := fun e => by
          have := (List.getElem_inj (h₀ := hj1) (h₁ := hk) hnd).mp (by rw [hj2, hk2, e])
          omega
        simpa using this
      · refine ⟨_, e4, ?_, ?_, Same.mut s4 nDn⟩
        · rw [List.length_map]
          unfold plc
          rw [List.length_map, List.length_take]
          exact line100' (by omega)
        · rw [upd_same, List.take_add_one, hmi]
          unfold plc
          rw [List.map_append, List.map_append]
          rfl
    · rintro h ⟨e4, s4⟩
      rw [List.length_map, List.take_length] at e4
      exact q h Dn (s1.trans s4) (s1.free nDn) e4
theorem sc_picked : FnScope ["row", "places", "at"] ["row", "places"] (defScope s_picked) := ⟨rfl, rfl, rfl, by decide +kernel, rfl, by decide +kernel, by decide +kernel⟩
def sp_picked : Sp := fun vs H Q _ => ∃ (a L : Addr) (r : List Int) (ks : List Nat), vs = [.ref a, .ref L] ∧ H a = some (.tup (r.map V.int)) ∧ H L = some (.lst (ks.map fun (k : Nat) => V.int k)) ∧ ks.length ≤ 8 ∧ (∀ k ∈ ks, k < r.length) ∧
  ∀ H' p, Same H H' → H p = none → H' p = some (.tup ((pck ks r).map V.int)) → Q (.ref p) H'
theorem ok_picked (F : Fn K mg "_picked" s_picked ["row", "places"] fQ dQ) (B : Bn mg) : FnOk P w K mg base CX0 1 fQ dQ ["row", "places"] sp_picked := by
  refine F.F.ok sc_picked (fun vs H Q E h => ?_) (fun cdv A outer s H vs Q E hr h => ?_)
  · obtain ⟨a, L, r, ks, rfl, _⟩ := h
    rfl
  · obtain ⟨a, L, r, ks, rfl, ha, hL, hl, hk, q⟩ := h
    have nd := sc_picked.nd
    refine ⟨_, pss_one (ps_ret (pe_callTy call_tu (by rfl) B.tuple boot_tuple (pa_cons (pe_lc (own := [("at", 2)]) (g := gName 2) (tt := tYes) (te := tOp (rIxT K) (tVar 0) (tVar 2)) rfl nd (pi_list (pv 1)) (blkOk_by (N := ["row", "places", "at"]) (sc := defScope s_picked) (by decide +kernel))
        (fun _ _ _ _ _ => pg_name (i := 2) nd rfl (Or.inl rfl)) (fun _ _ _ _ _ => pts_nil) (fun _ _ _ _ _ => pe_ix ix_tup (pv 0) (pv 2) (fun _ _ => rfl))) pa_nil))), ?_⟩
    refine ⟨_, rfl, L, rfl, ⟨_, .of hL⟩, fun Dn nDn => ?_⟩
    refine lc_it (walk_list (xs := ks.map fun (k : Nat) => V.int k)) (fun i h => h Dn = some (.lst ((pck (ks.take i) r).map V.int)) ∧ Same H h) ⟨upd_same, Same.new nDn⟩ (fun i h _ ⟨_, s⟩ => .of (s _ _ hL)) ?_ ?_
    · rintro i v h h' hi ⟨e4, s4⟩ ⟨rfl, hv⟩
      rw [List.length_map] at hi
      obtain ⟨k, hki⟩ : ∃ k, ks[i]? = some k := ⟨_, List.getElem?_eq_getElem hi⟩
      have hv' : v = V.int (k : Int) := by
        rw [List.getElem?_map, hki] at hv
        exact (Option.some.inj hv).symm
      subst hv'
      have hkr : k < r.length := hk k (List.mem_of_getElem? hki)
      have hkv : r[k]? = some (r.getD k 0) := by
        rw [List.getElem?_eq_getElem hkr, List.getD_eq_getElem?_getD, List.getElem?_eq_getElem hkr]
        rfl
      refine ⟨rfl, ?_⟩
      refine ⟨_, rfl, _, rfl, a, r.map V.int, (k : Int), .int (r.getD k 0), rfl, rfl, .of (s4 _ _ ha), atI_nat (by rw [List.getElem?_map, hkv]; rfl), ?_⟩
      refine ⟨_, e4, ?_, ?_, Same.mut s4 nDn⟩
      · rw [List.length_map]
        unfold pck
        rw [List.length_map, List.length_take]
        exact line100' (by omega)
      · rw [upd_same, List.take_add_one, hki]
        unfold pck
        rw [List.map_append, List.map_append]
        rfl
    · rintro h ⟨e4, s4⟩
      rw [List.length_map, List.take_length] at e4
      refine ⟨Dn, _, rfl, .inl ⟨.of e4, fun p np => ?_⟩⟩
      exact q _ p (s4.trans (Same.new np)) (s4.free np) upd_same
/-! groups of rows by their values at some places -/
def addG (g : List (List Int × List (List Int))) (k r : List Int) : List (List Int × List (List Int)) :=
  if g.any (fun p => decide (p.1 = k)) = true then g.map (fun p => if p.1 = k then (p.1, p.2 ++ [r]) else p) else g ++ [(k, [r])]
def groups (ks : List Nat) (rs : List (List Int)) : List (List Int × List (List Int)) := rs.foldl (fun g r => addG g (pck ks r) r) []
abbrev kI (k : List Int) : List Key := k.map Sum.inl
theorem kI_inj {a b : List Int} (h : kI a = kI b) : a = b := (List.map_inj_right (fun _ _ z => Sum.inl.inj z)).mp h
theorem kI_V (k : List Int) : (kI k).map kV = k.map V.int := by rw [List.map_map]; rfl
def GP (H : Hp) (p : List Key × V) (q : List Int × List (List Int)) : Prop := p.1 = kI q.1 ∧ ∃ (L : Addr) (as : List Addr), p.2 = .ref L ∧ H L = some (.lst (as.map V.ref)) ∧ RowsAt H as q.2
theorem GP.same {H H' : Hp} {p : List Key × V} {q : List Int × List (List Int)} (h : GP H p q) (s : Same H H') : GP H' p q := by
  obtain ⟨h1, L, as, h2, h3, h4⟩ := h
  exact ⟨h1, L, as, h2, s _ _ h3, h4.same s⟩
theorem GP.put {H : Hp} {p : List Key × V} {q : List Int × List (List Int)} {L : Addr} {xs : List V} {o : HO} (h : GP H p q) (hL : H L = some (.lst xs)) (n : p.2 ≠ .ref L) : GP (upd H L o) p q := by
  obtain ⟨h1, L', as, h2, h3, h4⟩ := h
  refine ⟨h1, L', as, h2, ?_, h4.put hL⟩
  rw [upd_ne (fun z => n (by rw [h2, z]))]
  exact h3
theorem gp_val {H : Hp} {kvs : List (List Key × V)} {g : List (List Int × List (List Int))} (h : Paired (GP H) kvs g) (k : List Int) :
    (valV kvs (kI k) = none ∧ g.any (fun p => decide (p.1 = k)) = false) ∨ ∃ (L : Addr) (as : List Addr) (rs : List (List Int)), valV kvs (kI k) = some (.ref L) ∧ (k, rs) ∈ g ∧ g.any (fun p => decide (p.1 = k)) = true ∧ H L = some (.lst (as.map V.ref)) ∧ RowsAt H as rs := by
  induction h with
  | nil => exact .inl ⟨rfl, rfl⟩
  | @cons p q ps qs hd _ ih =>
    obtain ⟨h1, L, as, h2, h3, h4⟩ := hd
    by_cases e : q.1 = k
    · refine .inr ⟨L, as, q.2, ?_, ?_, ?_, h3, h4⟩
      · rw [valV_pos (by rw [h1, e]), h2]
      · rw [← e]
        exact List.mem_cons_self
      · rw [List.any_cons, decide_eq_true e, Bool.true_or]
    · have e' : ¬ p.1 = kI k := fun z => e (kI_inj (h1.symm.trans z))
      rw [valV_neg e', List.any_cons, decide_eq_false e, Bool.false_or]
      rcases ih with ⟨a, b⟩ | ⟨L', as', rs, a, b, b', c, d⟩
      · exact .inl ⟨a, b⟩
      · exact .inr ⟨L', as', rs, a, List.mem_cons_of_mem _ b, b', c, d⟩
theorem val_mem {kvs : List (List Key × V)} {k : List Key} {v : V} (h : valV kvs k = some v) : v ∈ kvs.map (·.2) := by
  induction kvs with
  | nil => cases h
  | cons p r ih =>
    by_cases e : p.1 = k
    · rw [valV_pos e] at h
      rw [← Option.some.inj h]
      exact List.mem_cons_self
    · rw [valV_neg e] at h
      exact List.mem_cons_of_mem _ (ih h)
theorem gp_put {H : Hp} {L x : Addr} {ys : List Addr} {r k : List Int} {kvs : List (List Key × V)} {g : List (List Int × List (List Int))} (h : Paired (GP H) kvs g) (ng : (g.map (·.1)).Nodup) (nv : (kvs.map (·.2)).Nodup)
    (hv : valV kvs (kI k) = some (.ref L)) (hL : H L = some (.lst (ys.map V.ref))) (hx : H x = some (.tup (r.map V.int))) : Paired (GP (upd H L (.lst ((ys ++ [x]).map V.ref)))) kvs (g.map fun p => if p.1 = k then (p.1, p.2 ++ [r]) else p) := by
  induction h with
  | nil => exact .nil
  | @cons p q ps qs hd tl ih =>
    rw [List.map_cons, List.nodup_cons] at ng nv
    rw [List.map_cons]
    obtain ⟨h1, L', as, h2, h3, h4⟩ := hd
    by_cases e : q.1 = k
    · rw [if_pos e]
      have e' : p.1 = kI k := by rw [h1, e]
      rw [valV_pos e'] at hv
      have eL : L' = L := by
        have := h2.symm.trans (Option.some.inj hv)
        injection this
      subst eL
      have ea : as = ys := by
        have := h3.symm.trans hL
        have := Option.some.inj this
        injection this with this
        exact (List.map_inj_right (fun _ _ z => by injection z)).mp this
      subst ea
      refine .cons ⟨h1, L', as ++ [x], h2, upd_same, pr_snoc (h4.put hL) ?_⟩ ?_
      · rw [upd_ne (ne_of hx hL (by intro z; cases z))]
        exact hx
      · have eq : (qs.map fun p => if p.1 = k then (p.1, p.2 ++ [r]) else p) = qs := by
          refine (List.map_congr_left (g := id) fun z hz => ?_).trans (List.map_id _)
          rw [if_neg (fun y => ng.1 (List.mem_map.mpr ⟨z, hz, y.trans e.symm⟩))]
          rfl
        rw [eq]
        have key : ∀ {qs : List (List Key × V)} {bs : List (List Int × List (List Int))}, Paired (GP H) qs bs → (∀ p ∈ qs, p.2 ≠ .ref L') → Paired (GP (upd H L' (.lst ((as ++ [x]).map V.ref)))) qs bs := by
          intro qs bs hp
          induction hp with
          | nil => intro _; exact .nil
          | cons hd _ ih => intro hn; exact .cons (hd.put hL (hn _ List.mem_cons_self)) (ih fun p hp => hn p (List.mem_cons_of_mem _ hp))
        exact key tl fun p' hp' z => nv.1 (by rw [h2]; exact List.mem_map.mpr ⟨p', hp', z⟩)
    · rw [if_neg e]
      have e' : ¬ p.1 = kI k := fun z => e (kI_inj (h1.symm.trans z))
      rw [valV_neg e'] at hv
      have hm := val_mem hv
      refine .cons (GP.put ⟨h1, L', as, h2, h3, h4⟩ hL fun z => nv.1 (by rw [z]; exact hm)) (ih ng.2 nv.2 hv)
end
end T07

set_option maxHeartbeats 2000000
namespace T07
open PySem L2 PyProof.Rows TX TY TW TD TB TG TUD TE TK TSD
section
variable {P : Program} {w : World} {K : PySem.W.Frag} {mg : Str → Option Value} {base : Heap}
variable {fP fQ fM fV : Addr} {dP dQ dM dV : FuncData}
variable {C hc hr : Addr} {gc gr : FuncData}
/-- groups that stand in the heap -/
structure GrAt (H0 H : Hp) (a : Addr) (g : List (List Int × List (List Int))) (kvs : List (List Key × V)) : Prop where
  at_ : H a = some (.dT kvs)
  p : Paired (GP H) kvs g
  ng : (g.map (·.1)).Nodup
  nv : (kvs.map (·.2)).Nodup
  new : ∀ v ∈ kvs.map (·.2), ∃ L : Addr, v = .ref L ∧ H0 L = none
theorem GrAt.same {H0 H H' : Hp} {a : Addr} {g : List (List Int × List (List Int))} {kvs : List (List Key × V)} (h : GrAt H0 H a g kvs) (s : Same H H') : GrAt H0 H' a g kvs :=
  ⟨s _ _ h.at_, Paired.mapP h.p fun _ _ z => z.same s, h.ng, h.nv, h.new⟩
theorem GrAt.weak {H0 H1 H : Hp} {a : Addr} {g : List (List Int × List (List Int))} {kvs : List (List Key × V)} (h : GrAt H1 H a g kvs) (s : Same H0 H1) : GrAt H0 H a g kvs :=
  ⟨h.at_, h.p, h.ng, h.nv, fun v hv => by obtain ⟨L, e, n⟩ := h.new v hv; exact ⟨L, e, s.free n⟩⟩
theorem groups_each {ks : List Nat} {rs : List (List Int)} {p : List Int × List (List Int)} (h : p ∈ groups ks rs) : p.2.length ≤ rs.length := by
  have key : ∀ (rs : List (List Int)) (g : List (List Int × List (List Int))) (n : Nat), (∀ p ∈ g, p.2.length ≤ n) → ∀ p ∈ rs.foldl (fun g r => addG g (pck ks r) r) g, p.2.length ≤ n + rs.length := by
    intro rs
    induction rs with
    | nil => intro g n hg p hp; exact hg p hp
    | cons r rs ih =>
      intro g n hg p hp
      have := ih (addG g (pck ks r) r) (n + 1) (fun p hp => ?_) p hp
      · rw [List.length_cons]
        omega
      · unfold addG at hp
        split at hp
        · obtain ⟨z, hz, rfl⟩ := List.mem_map.mp hp
          have := hg z hz
          by_cases e : z.1 = pck ks r
          · rw [if_pos e]
            show (z.2 ++ [r]).length ≤ _
            rw [List.length_append]
            show z.2.length + 1 ≤ _
            omega
          · rw [if_neg e]
            omega
        · rcases List.mem_append.mp hp with hp | hp
          · have := hg p hp
            omega
          · rw [List.mem_singleton.mp hp]
            show 1 ≤ _
            omega
  have := key rs [] 0 (fun p hp => nomatch hp) p h
  omega
theorem addG_keys {g : List (List Int × List (List Int))} {k r : List Int} (n : (g.map (·.1)).Nodup) : ((addG g k r).map (·.1)).Nodup := by
  unfold addG
  by_cases e : g.any (fun p => decide (p.1 = k)) = true
  · rw [if_pos e, List.map_map]
    have : (g.map ((·.1) ∘ fun p => if p.1 = k then (p.1, p.2 ++ [r]) else p)) = g.map (·.1) := List.map_congr_left fun p _ => by
      show (if p.1 = k then (p.1, p.2 ++ [r]) else p).1 = p.1
      by_cases z : p.1 = k
      · rw [if_pos z]
      · rw [if_neg z]
    rw [this]
    exact n
  · rw [if_neg e, List.map_append]
    refine List.nodup_append.mpr ⟨n, by simp, fun a ha b hb => ?_⟩
    rw [List.mem_singleton.mp hb]
    rintro rfl
    obtain ⟨p, hp, hk⟩ := List.mem_map.mp ha
    exact e (List.any_eq_true.mpr ⟨p, hp, decide_eq_true hk⟩)
theorem putK_new {kvs : List (List Key × V)} {k : List Key} {v : V} (h : valV kvs k = none) : putK kvs k v = kvs ++ [(k, v)] := by
  unfold putK
  rw [valV_any, h]
  rfl
theorem groups_next {ks : List Nat} {rs : List (List Int)} {i : Nat} {r : List Int} (h : rs[i]? = some r) : groups ks (rs.take (i + 1)) = addG (groups ks (rs.take i)) (pck ks r) r := by
  unfold groups
  rw [List.take_add_one, h, List.foldl_append]
  rfl
theorem groups_len (ks : List Nat) (rs : List (List Int)) : (groups ks rs).length ≤ rs.length := by
  have key : ∀ (rs : List (List Int)) (g : List (List Int × List (List Int))), (rs.foldl (fun g r => addG g (pck ks r) r) g).length ≤ g.length + rs.length := by
    intro rs
    induction rs with
    | nil => intro g; exact Nat.le_refl _
    | cons r rs ih =>
      intro g
      have := ih (addG g (pck ks r) r)
      have h2 : (addG g (pck ks r) r).length ≤ g.length + 1 := by
        unfold addG
        split
        · rw [List.length_map]; omega
        · rw [List.length_append]; exact Nat.le_refl _
      rw [List.foldl_cons, List.length_cons]
      omega
  have := key rs []
  rw [List.length_nil, Nat.zero_add] at this
  exact this
abbrev N_byv : List Str := ["table", "columns", "places", "found", "row"]
theorem sc_byv : FnScope N_byv ["table", "columns"] (defScope s_byvalues) := ⟨rfl, rfl, rfl, by decide +kernel, rfl, by decide +kernel, by decide +kernel⟩
def sp_byv (C : Addr) : Sp := fun vs H Q _ => ∃ (t L : Addr) (cs ms : List Str) (rs : List (List Int)), vs = [.ref t, .ref L] ∧ TabAt C H t cs rs ∧ cs.Nodup ∧ (∀ r ∈ rs, r.length = cs.length) ∧ rs.length ≤ 1900 ∧ H L = some (.lst (ms.map V.str)) ∧ ms.length ≤ 8 ∧ (∀ m ∈ ms, m ∈ cs) ∧
  ∀ H' p kvs, Same H H' → H p = none → GrAt H H' p (groups (plc cs ms) rs) kvs → Q (.ref p) H'
theorem ok_byv (F : Fn K mg "_by_values" s_byvalues ["table", "columns"] fV dV) (FP : Fn K mg "_places" s_places ["table", "columns"] fP dP) (FQ : Fn K mg "_picked" s_picked ["row", "places"] fQ dQ) (B : Bn mg) (D : Tm K mg C hc hr gc gr) : FnOk P w K mg base CX0 3 fV dV ["table", "columns"] (sp_byv C) := by
  have c := D.c
  have GP' : FnOk P w K mg base CX0 2 fP dP ["table", "columns"] (sp_places C) := ok_places FP B D
  have GQ : FnOk P w K mg base CX0 1 fQ dQ ["row", "places"] sp_picked := ok_picked FQ B
  have GR : FnOk P w K mg base CX0 1 hr gr ["self"] (sp_brows C) := ok_brows D.rows.F B c
  refine F.F.ok sc_byv (fun vs H Q E h => ?_) (fun cdv A outer s H vs Q E hr h => ?_)
  · obtain ⟨t, L, cs, ms, rs, rfl, _⟩ := h
    rfl
  · obtain ⟨t, L, cs, ms, rs, rfl, tb, hnd, hrl, few, hL, hl, hm, q⟩ := h
    have nd := sc_byv.nd
    have r1 : Room 1 _ := hr.mono (by decide)
    have hu := hu_of hr
    refine ⟨_, pss_cons (ps_set (i := 2) nd rfl (Or.inl rfl) (pe_call GP' hr rfl FP.g FP.F.kp FP.b .nil pass0 (pa_cons (pv 0) (pa_cons (pv 1) pa_nil))))
      (pss_cons (ps_set (i := 3) nd rfl (Or.inl rfl) pe_dnewT)
      (pss_cons (ps_for PassesOwn.never rfl (pi_list (pe_meth0 (pv 0) c.cl D.rows.me GR r1 D.rows.b .nil pass0)) (pg_name (i := 4) nd rfl (Or.inl rfl))
        (pss_one (ps_expr (pe_bm PySem.F.plainAttrs_list PySem.F.slot_list_append PySem.F.type_list_append mt_append (pe_dsetdT hu (pv 3) (pe_call GQ r1 rfl FQ.g FQ.F.kp FQ.b .nil pass0 (pa_cons (pv 4) (pa_cons (pv 2) pa_nil))) (pe_lst pa_nil) ⟨rfl, rfl, rfl, rfl⟩) (pa_cons (pv 4) pa_nil)))))
      (pss_one (ps_ret (pv 3))))), ?_⟩
    obtain ⟨dx, l0, r0, as0, h1, h2, h3, h4⟩ := id tb
    refine ⟨_, rfl, _, rfl, t, L, cs, ms, rs, rfl, tb, hnd, hL, hl, hm, fun H1 Pl s1 nPl ePl => ?_⟩
    refine fun Dd nDd => ?_
    have eD : upd H1 Dd (.dT []) Dd = some (.dT []) := upd_same
    have s2 : Same H (upd H1 Dd (.dT [])) := s1.trans (Same.new nDd)
    have ePl2 : upd H1 Dd (.dT []) Pl = some (.lst ((plc cs ms).map fun (k : Nat) => V.int k)) := (Same.new nDd) _ _ ePl
    have nDdH : H Dd = none := s1.free nDd
    show tSeq _ _ _ _ (upd H1 Dd (.dT []))
    generalize upd H1 Dd (.dT []) = H2 at eD s2 ePl2 ⊢
    refine ⟨_, rfl, t, dx, _, rfl, s2 _ _ h1, norows _ _, t, cs, rs, rfl, tb.same s2, fun H3 Lr as s3 nLr eLr hR => ?_⟩
    refine ⟨Lr, rfl, ⟨_, .of eLr⟩, ?_⟩
    have hal := hR.len
    refine for_it (walk_list (xs := as.map V.ref)) (fun i σ h => ∃ (kvs : List (List Key × V)) (v4 : Option V), σ = [some (.ref t), some (.ref L), some (.ref Pl), some (.ref Dd), v4] ∧ GrAt H3 h Dd (groups (plc cs ms) (rs.take i)) kvs ∧ Same H h ∧ Sm Dd H3 h ∧ h Pl = some (.lst ((plc cs ms).map fun (k : Nat) => V.int k)) ∧ h Lr = some (.lst (as.map V.ref)) ∧ RowsAt h as rs)
      ⟨[], none, rfl, ⟨s3 _ _ eD, .nil, List.nodup_nil, List.nodup_nil, fun v hv => nomatch hv⟩, s2.trans s3, .rfl', s3 _ _ ePl2, eLr, hR⟩ (fun i σ h _ ⟨_, _, _, _, _, _, _, e, _⟩ => .of e) ?_ ?_
    · rintro i v σ h h' hi ⟨kvs, v4, rfl, gr', sh, sd, ePlh, eLrh, hRh⟩ ⟨rfl, hv⟩
      rw [List.length_map] at hi
      obtain ⟨x, hx, rfl⟩ : ∃ a, as[i]? = some a ∧ v = V.ref a := by
        rw [List.getElem?_map, List.getElem?_eq_getElem hi] at hv
        exact ⟨_, List.getElem?_eq_getElem hi, (Option.some.inj hv).symm⟩
      obtain ⟨row, hrow, hta⟩ := pr_at hRh hx
      have rl := hrl row (List.mem_of_getElem? hrow)
      have kl : kvs.length ≤ 1900 := by
        have a := Paired.length gr'.p
        have b := groups_len (plc cs ms) (rs.take i)
        rw [List.length_take] at b
        omega
      refine ⟨_, rfl, Dd, rfl, .inr ⟨kvs, .inl gr'.at_⟩, ?_⟩
      have pl8 : (plc cs ms).length ≤ 8 := by unfold plc; rw [List.length_map]; exact hl
      refine ⟨_, rfl, _, rfl, x, Pl, row, plc cs ms, rfl, hta, ePlh, pl8, fun k hk => ?_, fun h3 p s3' np ep => ?_⟩
      · obtain ⟨m, hm', rfl⟩ := List.mem_map.mp hk
        rw [rl]
        exact List.idxOf_lt_length_of_mem (hm m hm')
      refine ⟨by decide, fun M nM => ?_⟩
      have sM : Same h' (upd h3 M (.lst [])) := s3'.trans (Same.new nM)
      have eM : upd h3 M (.lst []) M = some (.lst (([] : List Addr).map V.ref)) := upd_same
      have ep4 : upd h3 M (.lst []) p = some (.tup ((pck (plc cs ms) row).map V.int)) := (Same.new nM) _ _ ep
      have nMH : H M = none := sh.free (s3'.free nM)
      have nM3 : H3 M = none := by
        cases e : H3 M with
        | none => rfl
        | some o =>
          by_cases z : M = Dd
          · rw [z, s3' _ _ gr'.at_] at nM
            cases nM
          · rw [s3' _ _ (sd _ _ z e)] at nM
            cases nM
      have nMk : ∀ v ∈ kvs.map (·.2), v ≠ .ref M := fun v hv z => by
        subst z
        obtain ⟨⟨k0, v0⟩, hk0, hv0⟩ := List.mem_map.mp hv
        obtain ⟨j, hj⟩ := List.getElem?_of_mem hk0
        obtain ⟨q0, _, _, L0, as0, e0, e1, _⟩ := pr_at gr'.p hj
        have : V.ref M = V.ref L0 := hv0.symm.trans e0
        injection this with this
        rw [this, s3' _ _ e1] at nM
        cases nM
      generalize upd h3 M (.lst []) = h4 at sM eM ep4 ⊢
      have g4 := gr'.same sM
      have sh4 := sh.trans sM
      have hx4 := sM _ _ hta
      have nx := groups_next (ks := plc cs ms) hrow
      refine ⟨kvs, kI (pck (plc cs ms) row), p, g4.at_, rfl, by rw [kI_V]; exact ep4, line100' (by omega), fun v hv => ?_, fun hn => ?_⟩
      · rcases gp_val g4.p (pck (plc cs ms) row) with ⟨a, _⟩ | ⟨Lk, ask, rsk, a, b, b', cc, d⟩
        · rw [a] at hv
          cases hv
        have hv' := hv
        rw [a] at hv
        obtain rfl := Option.some.inj hv
        obtain ⟨L0, e0, nL0⟩ := g4.new _ (val_mem a)
        injection e0 with e0
        subst e0
        have al : ask.length ≤ 1900 := by
          have h1 := d.len
          have h2 := groups_each b
          rw [List.length_take] at h2
          have h2 : rsk.length ≤ min i rs.length := h2
          omega
        refine ⟨.inl ⟨rfl, _, .inl (.inl cc)⟩, _, rfl, Lk, _, _, rfl, rfl, cc, by rw [List.length_map]; exact line100' (by omega), ?_⟩
        have el : ask.map V.ref ++ [V.ref x] = (ask ++ [x]).map V.ref := by rw [List.map_append]; rfl
        rw [el]
        have nDL : Dd ≠ Lk := ne_of g4.at_ cc (by intro z; cases z)
        refine ⟨kvs, _, rfl, ⟨by rw [upd_ne nDL]; exact g4.at_, ?_, ?_, g4.nv, g4.new⟩, Same.mut sh4 ((s2.trans s3).free nL0), (sd.trans (.of sM)).mut nL0, ?_, ?_, (hRh.same sM).put cc⟩
        · rw [nx]
          unfold addG
          rw [if_pos b']
          exact gp_put g4.p g4.ng g4.nv a cc hx4
        · rw [nx]
          exact addG_keys g4.ng
        · rw [upd_ne (fun z => by rw [← z] at nL0; rw [s3 _ _ ePl2] at nL0; cases nL0)]
          exact sM _ _ ePlh
        · rw [upd_ne (fun z => by rw [← z] at nL0; rw [eLr] at nL0; cases nL0)]
          exact sM _ _ eLrh
      · have b : (groups (plc cs ms) (rs.take i)).any (fun p => decide (p.1 = pck (plc cs ms) row)) = false := by
          rcases gp_val g4.p (pck (plc cs ms) row) with ⟨_, b⟩ | ⟨Lk, ask, rsk, a, _⟩
          · exact b
          · rw [a] at hn
            cases hn
        have nMD : M ≠ Dd := ne_of eM g4.at_ (by intro z; cases z)
        have eM5 : ∀ o, upd h4 Dd o M = some (.lst []) := fun o => by rw [upd_ne nMD]; exact eM
        refine ⟨.inl ⟨rfl, _, .inl (.inl (eM5 _))⟩, _, rfl, M, _, _, rfl, rfl, eM5 _, by decide, ?_⟩
        rw [putK_new hn]
        refine ⟨kvs ++ [(kI (pck (plc cs ms) row), .ref M)], _, rfl, ⟨by rw [upd_ne nMD.symm, upd_same], ?_, ?_, ?_, ?_⟩, Same.mut (Same.mut sh4 nDdH) nMH, ?_, ?_, ?_, ?_⟩
        · rw [nx]
          unfold addG
          rw [if_neg (by rw [b]; exact Bool.false_ne_true)]
          have key : ∀ {qs : List (List Key × V)} {bs : List (List Int × List (List Int))}, Paired (GP h4) qs bs → (∀ p ∈ qs, p.2 ≠ .ref M) → Paired (GP (upd (upd h4 Dd (.dT (kvs ++ [(kI (pck (plc cs ms) row), V.ref M)]))) M (.lst ([] ++ [V.ref x])))) qs bs := by
            intro qs bs hp
            induction hp with
            | nil => intro _; exact .nil
            | @cons p0 q0 ps0 qs0 hd _ ih =>
              intro hn'
              refine .cons ?_ (ih fun p hp => hn' p (List.mem_cons_of_mem _ hp))
              obtain ⟨a1, L1, as1, a2, a3, a4⟩ := hd
              have n1 : L1 ≠ M := fun z => hn' _ List.mem_cons_self (by rw [a2, z])
              have n2 : L1 ≠ Dd := ne_of a3 g4.at_ (by intro z; cases z)
              refine ⟨a1, L1, as1, a2, by rw [upd_ne n1, upd_ne n2]; exact a3, Paired.mapP a4 fun a q e => ?_⟩
              rw [upd_ne (ne_of e eM (by intro z; cases z)), upd_ne (ne_of e g4.at_ (by intro z; cases z))]
              exact e
          refine pr_snoc (key g4.p fun p hp => nMk _ (List.mem_map.mpr ⟨p, hp, rfl⟩)) ⟨rfl, M, [x], rfl, upd_same, .cons ?_ .nil⟩
          rw [upd_ne (ne_of hx4 eM (by intro z; cases z)), upd_ne (ne_of hx4 g4.at_ (by intro z; cases z))]
          exact hx4
        · rw [nx]
          exact addG_keys g4.ng
        · rw [List.map_append]
          refine List.nodup_append.mpr ⟨g4.nv, by simp, fun a ha b hb => ?_⟩
          have hb := List.mem_singleton.mp hb
          rw [hb]
          exact nMk _ ha
        · intro v hv
          rw [List.map_append] at hv
          rcases List.mem_append.mp hv with hv | hv
          · exact g4.new v hv
          · exact ⟨M, List.mem_singleton.mp hv, nM3⟩
        · intro a o na e
          have e4 := (sd.trans (.of sM)) a o na e
          rw [upd_ne (fun z => by rw [z, nM3] at e; cases e), upd_ne na]
          exact e4
        · rw [upd_ne (fun z => by rw [← z, s3 _ _ ePl2] at nM3; cases nM3), upd_ne (ne_of (sM _ _ ePlh) g4.at_ (by intro z; cases z))]
          exact sM _ _ ePlh
        · rw [upd_ne (fun z => by rw [← z, eLr] at nM3; cases nM3), upd_ne (ne_of (sM _ _ eLrh) g4.at_ (by intro z; cases z))]
          exact sM _ _ eLrh
        · refine Paired.mapP (hRh.same sM) fun a q e => ?_
          rw [upd_ne (ne_of e eM (by intro z; cases z)), upd_ne (ne_of e g4.at_ (by intro z; cases z))]
          exact e
    · rintro σ h ⟨kvs, v4, rfl, gr', sh, sd, ePlh, eLrh, hRh⟩
      rw [List.length_map, hal, List.take_length] at gr'
      exact ⟨_, rfl, q h Dd kvs sh nDdH (gr'.weak (s2.trans s3))⟩
end
end T07

set_option maxHeartbeats 2000000
namespace T07
open PySem L2 PyProof.Rows TX TY TW TD TB TG TUD TE TK TSD
section
variable {P : Program} {w : World} {K : PySem.W.Frag} {mg : Str → Option Value} {base : Heap}
variable {fP fQ fM fV fC : Addr} {dP dQ dM dV dC : FuncData}
variable {C hc hr : Addr} {gc gr : FuncData}
def comC (cs ds : List Str) : List Str := cs.filter fun x => decide (x ∈ ds)
theorem comC_sub {cs ds : List Str} {x : Str} (h : x ∈ comC cs ds) : x ∈ cs ∧ x ∈ ds := ⟨(List.mem_filter.mp h).1, of_decide_eq_true (List.mem_filter.mp h).2⟩
theorem comC_len (cs ds : List Str) : (comC cs ds).length ≤ cs.length := List.length_filter_le _ _
abbrev N_common : List Str := ["one", "other", "others", "name"]
theorem sc_common : FnScope N_common ["one", "other"] (defScope s_common) := ⟨rfl, rfl, rfl, by decide +kernel, rfl, by decide +kernel, by decide +kernel⟩
def sp_common (C : Addr) : Sp := fun vs H Q _ => ∃ (a b : Addr) (cs ds : List Str) (rs qs : List (List Int)), vs = [.ref a, .ref b] ∧ TabAt C H a cs rs ∧ TabAt C H b ds qs ∧ cs.length ≤ 1900 ∧
  ∀ H' p, Same H H' → H p = none → H' p = some (.lst ((comC cs ds).map V.str)) → Q (.ref p) H'
theorem ok_common (F : Fn K mg "_common" s_common ["one", "other"] fC dC) (B : Bn mg) (D : Tm K mg C hc hr gc gr) : FnOk P w K mg base CX0 2 fC dC ["one", "other"] (sp_common C) := by
  have c := D.c
  have GC : FnOk P w K mg base CX0 1 hc gc ["self"] (sp_bcolumns C) := ok_bcolumns D.cols.F B c
  refine F.F.ok sc_common (fun vs H Q E h => ?_) (fun cdv A outer s H vs Q E hr h => ?_)
  · obtain ⟨a, b, cs, ds, rs, qs, rfl, _⟩ := h
    rfl
  · obtain ⟨a, b, cs, ds, rs, qs, rfl, ta, tb, hl, q⟩ := h
    have nd := sc_common.nd
    refine ⟨_, pss_cons (ps_set (i := 2) nd rfl (Or.inr rfl) (pe_meth0 (pv 1) c.cl D.cols.me GC hr D.cols.b .nil pass0))
      (pss_one (ps_ret (pe_lc (own := [("name", 3)]) (g := gName 3) (tt := tTest (tOp (rIn K false) (tVar 3) (tVar 2))) (te := tVar 3) rfl nd (pi_list (pe_meth0 (pv 0) c.cl D.cols.me GC hr D.cols.b .nil pass0)) (blkOk_by (N := N_common) (sc := defScope s_common) (by decide +kernel))
        (fun _ _ _ _ _ => pg_name (i := 3) nd rfl (Or.inl rfl)) (fun _ _ _ _ _ => pts_one (pt_cmpR op_in_seq (pv 3) (pv 2) rfl)) (fun _ _ _ _ _ => pv 3)))), ?_⟩
    obtain ⟨dx, l, r, as, h1, h2, h3, h4⟩ := id ta
    obtain ⟨dx', l', r', as', h1', h2', h3', h4'⟩ := id tb
    refine ⟨_, rfl, b, dx', _, rfl, h1', nocols _ _, b, ds, qs, rfl, tb, fun H1 Lo s1 n1 e1 => ?_⟩
    refine ⟨_, rfl, a, dx, _, rfl, s1 _ _ h1, nocols _ _, a, cs, rs, rfl, ta.same s1, fun H2 Lc s2 n2 e2 => ?_⟩
    refine ⟨Lc, rfl, ⟨_, .of e2⟩, fun Dn nDn => ?_⟩
    refine lc_it (walk_list (xs := cs.map V.str)) (fun i h => h Dn = some (.lst ((comC (cs.take i) ds).map V.str)) ∧ Same H2 h) ⟨upd_same, Same.new nDn⟩ (fun i h _ ⟨_, s⟩ => .of (s _ _ e2)) ?_ ?_
    · rintro i v h h' hi ⟨e4, s4⟩ ⟨rfl, hv⟩
      rw [List.length_map] at hi
      obtain ⟨m, hm, rfl⟩ : ∃ m, cs[i]? = some m ∧ v = V.str m := by
        rw [List.getElem?_map, List.getElem?_eq_getElem hi] at hv
        exact ⟨_, List.getElem?_eq_getElem hi, (Option.some.inj hv).symm⟩
      refine ⟨rfl, ?_⟩
      refine ⟨_, rfl, _, rfl, Lo, _, rfl, .inl (.of (s4 _ _ (s2 _ _ e1))), rfl, TX.flat_strs _, _, rfl, ?_⟩
      rw [if_neg Bool.false_ne_true]
      have nx : comC (cs.take (i + 1)) ds = comC (cs.take i) ds ++ (if decide (m ∈ ds) = true then [m] else []) := by
        unfold comC
        rw [List.take_add_one, hm, List.filter_append]
        congr 1
        show List.filter _ [m] = _
        rw [List.filter_cons, List.filter_nil]
      have ei : inV (V.str m) (ds.map V.str) = decide (m ∈ ds) := inV_str m ds
      show (if inV (V.str m) (ds.map V.str) = true then _ else _)
      rw [ei]
      by_cases z : m ∈ ds
      · rw [if_pos (decide_eq_true z)]
        rw [if_pos (decide_eq_true z)] at nx
        refine ⟨_, rfl, _, e4, ?_, ?_, Same.mut s4 nDn⟩
        · rw [List.length_map]
          have := comC_len (cs.take i) ds
          rw [List.length_take] at this
          exact line100' (by omega)
        · rw [upd_same, nx, List.map_append]
          rfl
      · rw [if_neg (by rw [decide_eq_false z]; exact Bool.false_ne_true)]
        rw [if_neg (by rw [decide_eq_false z]; exact Bool.false_ne_true), List.append_nil] at nx
        refine ⟨?_, s4⟩
        rw [nx]
        exact e4
    · rintro h ⟨e4, s4⟩
      rw [List.length_map, List.take_length] at e4
      exact q h Dn ((s1.trans s2).trans s4) ((s1.trans s2).free nDn) e4
end
end T07

set_option maxHeartbeats 2000000
namespace T07
open PySem L2 PyProof.Rows TX TY TW TD TB TG TUD TE TK TSD
def valG (g : List (List Int × List (List Int))) (k : List Int) : Option (List (List Int)) := (g.find? fun p => decide (p.1 = k)).map (·.2)
theorem gp_val2 {H : Hp} {kvs : List (List Key × V)} {g : List (List Int × List (List Int))} (h : Paired (GP H) kvs g) (k : List Int) :
    (valV kvs (kI k) = none ∧ valG g k = none) ∨ ∃ (L : Addr) (as : List Addr) (rs : List (List Int)), valV kvs (kI k) = some (.ref L) ∧ valG g k = some rs ∧ H L = some (.lst (as.map V.ref)) ∧ RowsAt H as rs := by
  induction h with
  | nil => exact .inl ⟨rfl, rfl⟩
  | @cons p q ps qs hd _ ih =>
    obtain ⟨h1, L, as, h2, h3, h4⟩ := hd
    unfold valG
    by_cases e : q.1 = k
    · refine .inr ⟨L, as, q.2, ?_, ?_, h3, h4⟩
      · rw [valV_pos (by rw [h1, e]), h2]
      · simp [List.find?_cons, e]
    · have e' : ¬ p.1 = kI k := fun z => e (kI_inj (h1.symm.trans z))
      rw [valV_neg e', List.find?_cons, decide_eq_false e]
      exact ih
theorem val_at {H : Hp} {kvs : List (List Key × V)} {g : List (List Int × List (List Int))} {i : Nat} {k : List Int} {v : V} {q : List Int × List (List Int)} (h : Paired (GP H) kvs g) (ng : (g.map (·.1)).Nodup) (hk : kvs[i]? = some (kI k, v)) (hg : g[i]? = some q) : valV kvs (kI k) = some v := by
  induction h generalizing i with
  | nil => cases hk
  | @cons p0 q0 ps qs hd tl ih =>
    rw [List.map_cons, List.nodup_cons] at ng
    cases i with
    | zero =>
      have hk : p0 = (kI k, v) := Option.some.inj hk
      rw [valV_pos (by rw [hk]), hk]
    | succ i =>
      have hk : ps[i]? = some (kI k, v) := hk
      have hg : qs[i]? = some q := hg
      obtain ⟨q1, e1, h1, _⟩ := pr_at tl hk
      have hm : q1.1 ∈ qs.map (·.1) := List.mem_map.mpr ⟨q1, List.mem_of_getElem? e1, rfl⟩
      have e : ¬ p0.1 = kI k := fun z => ng.1 (by rw [kI_inj (hd.1.symm.trans (z.trans h1))]; exact hm)
      rw [valV_neg e]
      exact ih ng.2 hk hg
theorem valG_mem {g : List (List Int × List (List Int))} {k : List Int} {rs : List (List Int)} (h : valG g k = some rs) : (k, rs) ∈ g := by
  unfold valG at h
  obtain ⟨p, hp, rfl⟩ := Option.map_eq_some_iff.mp h
  have h1 := List.mem_of_find?_eq_some hp
  have h2 := List.find?_some hp
  have h2 : p.1 = k := of_decide_eq_true h2
  rw [← h2]
  exact h1
theorem GP.but {H : Hp} {p : List Key × V} {q : List Int × List (List Int)} {D : Addr} {kvs : List (List Key × V)} {o : HO} (h : GP H p q) (hD : H D = some (.dT kvs)) : GP (upd H D o) p q := by
  obtain ⟨h1, L, as, h2, h3, h4⟩ := h
  refine ⟨h1, L, as, h2, by rw [upd_ne (ne_of h3 hD (by intro z; cases z))]; exact h3, Paired.mapP h4 fun a r e => ?_⟩
  rw [upd_ne (ne_of e hD (by intro z; cases z))]
  exact e
abbrev rLn (K : PySem.W.Frag) : List V → Hp → VK → Prop := fun xs H Q => ∃ p ys, xs = [V.ref p] ∧ (SqL K H p ys ∨ SqT K H p ys) ∧ Q (V.int (ys.length : Nat)) H
/-- how many rows two groupings have together -/
def manyL (g1 g2 : List (List Int × List (List Int))) : List Int := (g1.filter fun p => (valG g2 p.1).isSome).map fun p => (p.2.length : Int) * ((((valG g2 p.1).getD []).length : Nat) : Int)
def manyN (g1 g2 : List (List Int × List (List Int))) : Int := (manyL g1 g2).sum
section
variable {P : Program} {w : World} {K : PySem.W.Frag} {mg : Str → Option Value} {base : Heap}
variable {fP fQ fM fV fC : Addr} {dP dQ dM dV dC : FuncData}
variable {C hc hr : Addr} {gc gr : FuncData}
abbrev N_many : List Str := ["one", "other", "common", "ones", "others", "key"]
theorem sc_many : FnScope N_many ["one", "other"] (defScope s_manytog) := ⟨rfl, rfl, rfl, by decide +kernel, rfl, by decide +kernel, by decide +kernel⟩
/-- a table that may be joined -/
structure Ta (C : Addr) (H : Hp) (t : Addr) (cs : List Str) (rs : List (List Int)) : Prop where
  at_ : TabAt C H t cs rs
  cok : Cs cs
  len : ∀ r ∈ rs, r.length = cs.length
  few : rs.length ≤ 1900
theorem Ta.same {H H' : Hp} {t : Addr} {cs : List Str} {rs : List (List Int)} (h : Ta C H t cs rs) (s : Same H H') : Ta C H' t cs rs := ⟨h.at_.same s, h.cok, h.len, h.few⟩
def grp (cs ms : List Str) (rs : List (List Int)) : List (List Int × List (List Int)) := groups (plc cs ms) rs
def manyT (cs ds : List Str) (rs qs : List (List Int)) : Int := manyN (grp cs (comC cs ds) rs) (grp ds (comC cs ds) qs)
def sp_many (C : Addr) : Sp := fun vs H Q _ => ∃ (a b : Addr) (cs ds : List Str) (rs qs : List (List Int)), vs = [.ref a, .ref b] ∧ Ta C H a cs rs ∧ Ta C H b ds qs ∧ ∀ H', Same H H' → Q (.int (manyT cs ds rs qs)) H'
theorem ok_many (F : Fn K mg "_many_together" s_manytog ["one", "other"] fM dM) (FC : Fn K mg "_common" s_common ["one", "other"] fC dC) (FV : Fn K mg "_by_values" s_byvalues ["table", "columns"] fV dV) (FP : Fn K mg "_places" s_places ["table", "columns"] fP dP) (FQ : Fn K mg "_picked" s_picked ["row", "places"] fQ dQ)
    (B : Bn mg) (Bsum : mg "sum" = none) (D : Tm K mg C hc hr gc gr) : FnOk P w K mg base CX0 4 fM dM ["one", "other"] (sp_many C) := by
  have c := D.c
  have GC : FnOk P w K mg base CX0 2 fC dC ["one", "other"] (sp_common C) := ok_common FC B D
  have GV : FnOk P w K mg base CX0 3 fV dV ["table", "columns"] (sp_byv C) := ok_byv FV FP FQ B D
  refine F.F.ok sc_many (fun vs H Q E h => ?_) (fun cdv A outer s H vs Q E hr h => ?_)
  · obtain ⟨a, b, cs, ds, rs, qs, rfl, _⟩ := h
    rfl
  · obtain ⟨a, b, cs, ds, rs, qs, rfl, ta, tb, q⟩ := h
    have nd := sc_many.nd
    have r2 : Room 2 _ := hr.mono (by decide)
    have hu := hu_of hr
    refine ⟨_, pss_cons (ps_set (i := 2) nd rfl (Or.inl rfl) (pe_call GC r2 rfl FC.g FC.F.kp FC.b .nil pass0 (pa_cons (pv 0) (pa_cons (pv 1) pa_nil))))
      (pss_cons (ps_set (i := 3) nd rfl (Or.inr rfl) (pe_call GV hr rfl FV.g FV.F.kp FV.b .nil pass0 (pa_cons (pv 0) (pa_cons (pv 2) pa_nil))))
      (pss_cons (ps_set (i := 4) nd rfl (Or.inr rfl) (pe_call GV hr rfl FV.g FV.F.kp FV.b .nil pass0 (pa_cons (pv 1) (pa_cons (pv 2) pa_nil))))
      (pss_one (ps_ret (pe_callB (cr_sum rfl) (by rfl) Bsum (by decide +kernel) (pa_cons (pe_lock (pe_lc (own := [("key", 5)]) (g := gName 5) (tt := tB (tDIn (tVar 5) (tVar 4))) (te := tOp (rI CMul fun i j => V.int (i * j)) (tCB (rLn K) (tCons (tDGet (tVar 3) (tVar 5)) tNil)) (tCB (rLn K) (tCons (tDGet (tVar 4) (tVar 5)) tNil))) rfl nd (pi_keys (pv 3)) (blkOk_by (N := N_many) (sc := defScope s_manytog) (by decide +kernel))
        (fun _ _ _ _ _ => pg_name (i := 5) nd rfl (Or.inl rfl)) (fun _ _ _ _ _ => pts_one (pt_cmp (pc_din hu (pv 5) (pv 4))))
        (fun _ _ _ _ _ => pe_op op_mul (pe_callB call_len_seq (by rfl) B.len PySem.boot_len (pa_cons (pe_dget hu (pv 3) (pv 5) (fun _ _ => rfl)) pa_nil)) (pe_callB call_len_seq (by rfl) B.len PySem.boot_len (pa_cons (pe_dget hu (pv 4) (pv 5) (fun _ _ => rfl)) pa_nil))))) pa_nil)))))), ?_⟩
    have l8 := ta.cok.le
    refine ⟨_, rfl, _, rfl, a, b, cs, ds, rs, qs, rfl, ta.at_, tb.at_, by omega, fun H1 Cn s1 nCn eCn => ?_⟩
    have cl := comC_len cs ds
    refine ⟨_, rfl, _, rfl, a, Cn, cs, comC cs ds, rs, rfl, ta.at_.same s1, ta.cok.nd, ta.len, ta.few, eCn, by omega, fun m hm => (comC_sub hm).1, fun H2 D1 kvs1 s2 nD1 g1 => ?_⟩
    refine ⟨_, rfl, _, rfl, b, Cn, ds, comC cs ds, qs, rfl, tb.at_.same (s1.trans s2), tb.cok.nd, tb.len, tb.few, s2 _ _ eCn, by omega, fun m hm => (comC_sub hm).2, fun H3 D2 kvs2 s3 nD2 g2 => ?_⟩
    have g1' := g1.same s3
    have s13 := (s1.trans s2).trans s3
    refine ⟨D1, _, g1'.at_, trivial, fun od => ?_⟩
    have nD12 : D2 ≠ D1 := fun z => by rw [z, g1.at_] at nD2; cases nD2
    have f1 : upd H3 D1 (.frz od (.dT kvs1)) D1 = some (.frz od (.dT kvs1)) := upd_same
    have f2 : upd H3 D1 (.frz od (.dT kvs1)) D2 = some (.dT kvs2) := by rw [upd_ne nD12]; exact g2.at_
    have p1 : Paired (GP (upd H3 D1 (.frz od (.dT kvs1)))) kvs1 (groups (plc cs (comC cs ds)) rs) := Paired.mapP g1'.p fun _ _ z => z.but g1'.at_
    have p2 : Paired (GP (upd H3 D1 (.frz od (.dT kvs1)))) kvs2 (groups (plc ds (comC cs ds)) qs) := Paired.mapP g2.p fun _ _ z => z.but g1'.at_
    have back : ∀ h, Same (upd H3 D1 (.frz od (.dT kvs1))) h → Same H (upd h D1 (.dT kvs1)) := fun h s x o e => by
      have e3 := s13 _ _ e
      by_cases z : x = D1
      · subst z
        rw [upd_same]
        rw [g1'.at_] at e3
        exact e3
      · rw [upd_ne z]
        exact s _ _ (by rw [upd_ne z]; exact e3)
    generalize upd H3 D1 (.frz od (.dT kvs1)) = H4 at f1 f2 p1 p2 back ⊢
    refine ⟨_, rfl, D1, od, rfl, .inr ⟨kvs1, f1, fun Dn nDn => ?_⟩⟩
    refine lc_it (walk_keysT (kvs := kvs1)) (fun i h => h Dn = some (.lst ((manyL ((groups (plc cs (comC cs ds)) rs).take i) (groups (plc ds (comC cs ds)) qs)).map V.int)) ∧ Same H4 h) ⟨upd_same, Same.new nDn⟩ (fun i h _ ⟨_, s⟩ => s _ _ f1) ?_ ?_
    · rintro i v h h' hi ⟨e4, s4⟩ ⟨rfl, k, v0, kq, hk, rfl, hq⟩
      obtain ⟨gq, hgq, hk1, L1, as1, rfl, eL1, hR1⟩ := pr_at p1 hk
      subst hk1
      refine ⟨rfl, ?_⟩
      have nx : ∀ (g1 g2 : List (List Int × List (List Int))), g1[i]? = some gq → manyL (g1.take (i + 1)) g2 = manyL (g1.take i) g2 ++ (if (valG g2 gq.1).isSome = true then [(gq.2.length : Int) * ((((valG g2 gq.1).getD []).length : Nat) : Int)] else []) := fun g1 g2 h => by
        unfold manyL
        rw [List.take_add_one, h, List.filter_append, List.map_append]
        congr 1
        show List.map _ (List.filter _ [gq]) = _
        rw [List.filter_cons, List.filter_nil]
        by_cases z : (valG g2 gq.1).isSome = true
        · rw [if_pos z, if_pos z]
          rfl
        · rw [if_neg z, if_neg z]
          rfl
      have nx := nx _ (groups (plc ds (comC cs ds)) qs) hgq
      have glen := groups_len (plc cs (comC cs ds)) rs
      have tfew := ta.few
      have bfew := tb.few
      have gl1 := groups_each (List.mem_of_getElem? hgq)
      have al1 := hR1.len
      refine ⟨_, rfl, _, rfl, D2, _, rfl, .inr ⟨kvs2, kI gq.1, kq, .inl (s4 _ _ f2), rfl, hq, rfl⟩, _, rfl, ?_⟩
      rcases gp_val2 p2 gq.1 with ⟨n1, n2⟩ | ⟨M2', as2, rs2, n1, n2, eL2, hR2⟩
      · rw [n1]
        rw [n2, if_neg (by simp), List.append_nil] at nx
        show (if false = true then _ else _)
        rw [if_neg Bool.false_ne_true, nx]
        exact ⟨e4, s4⟩
      · rw [n1]
        rw [n2, if_pos (show (some rs2).isSome = true from rfl)] at nx
        show (if true = true then _ else _)
        rw [if_pos rfl]
        have gl2 := groups_each (valG_mem n2)
        have al2 := hR2.len
        have gl2 : rs2.length ≤ qs.length := gl2
        refine ⟨_, rfl, _, rfl, D1, _, rfl, .inr ⟨kvs1, kI gq.1, kq, .inr ⟨od, s4 _ _ f1⟩, rfl, hq, (val_at (Paired.mapP p1 fun _ _ z => z) (by
          have := (show ((groups (plc cs (comC cs ds)) rs).map (·.1)).Nodup from g1.ng)
          exact this) hk hgq).symm⟩, L1, _, rfl, .inl (.of (s4 _ _ eL1)), ?_⟩
        refine ⟨_, rfl, _, rfl, D2, _, rfl, .inr ⟨kvs2, kI gq.1, kq, .inl (s4 _ _ f2), rfl, hq, n1.symm⟩, M2', _, rfl, .inl (.of (s4 _ _ eL2)), ?_⟩
        refine ⟨_, _, rfl, rfl, .inl ⟨by rw [List.length_map]; omega, by rw [List.length_map]; omega⟩, _, e4, ?_, ?_, Same.mut s4 nDn⟩
        · rw [List.length_map]
          unfold manyL
          rw [List.length_map]
          have := List.length_filter_le (fun p : List Int × List (List Int) => (valG (groups (plc ds (comC cs ds)) qs) p.1).isSome) ((groups (plc cs (comC cs ds)) rs).take i)
          rw [List.length_take] at this
          exact line100' (by omega)
        · rw [upd_same, nx, List.map_append, List.length_map, List.length_map, al1, al2]
          rfl
    · rintro h ⟨e4, s4⟩
      have hlk := Paired.length p1
      rw [hlk, List.take_length] at e4
      have nD : Dn ≠ D1 := ne_of e4 (s4 _ _ f1) (by intro z; cases z)
      exact ⟨s4 _ _ f1, Dn, _, rfl, .of (by rw [upd_ne nD]; exact e4), q _ (back h s4)⟩
end
end T07

set_option maxHeartbeats 1000000
/-! Rules of our own: <= of data that are alike; a text times a number. -/
namespace TLL
open PySem L2 PyProof.Rows TX TY TB TG TW TD
section
variable {X : Cx}
def rLeD (K : PySem.W.Frag) : R2 := fun x y H Q => ∃ d e, Dp K H x d ∧ Dp K H y e ∧ PySem.W.alike d e = true ∧ d ≠ .none ∧ PyData.depth d ≤ 64 ∧ Q (.bl (!PySem.W.dataLt e d)) H
theorem op_leD (hu : X.A.units + 64 < cLine) : OpR X (compareOp .LtE) (rLeD X.K) := by
  intro pins s σ H x y v u Q I rx ry h
  obtain ⟨d, e, hd, he, ha, hn, hp, q⟩ := h
  obtain ⟨as, r1⟩ := Dp.reads I d x v hd rx
  obtain ⟨bs, r2⟩ := Dp.reads I e y u he ry
  exact PySem.W.le_data r1 r2 ha hn (by omega) ⟨.bl _, H, I, rfl, q⟩
def rRepS : R2 := fun x y H Q => ∃ (a : Str) (k : Int), x = .str a ∧ y = .int k ∧ 2 ≤ k ∧ k ≤ 1000 ∧ 1 ≤ a.length ∧ a.length ≤ 1000 ∧ Q (.str ⟨(List.replicate k.toNat a.cps).foldl (· ++ ·) #[]⟩) H
theorem op_repS : OpR X (binaryOp .Mult) rRepS := by
  intro pins s σ H x y v u Q I rx ry h
  obtain ⟨a, k, rfl, rfl, h0, h1, h2, h3, q⟩ := h
  obtain ⟨t, rfl⟩ := rx
  obtain ⟨t2, rfl⟩ := ry
  have n1 : ¬ k < 1 := by omega
  have n2 : (k == 1 || a.length == 0) = false := by
    rw [Bool.or_eq_false_iff]
    refine ⟨beq_eq_false_iff_ne.mpr (by omega), beq_eq_false_iff_ne.mpr (by omega)⟩
  refine P.mul_str ?_ (fun _ _ z => ?_) (fun _ _ => ?_) ?_
  · rw [decide_eq_false (by omega), decide_eq_false (by omega)]
    rfl
  · have e : (1000 : Int) ≤ (2 ^ 63 - 1) / k := by
      rw [Int.le_ediv_iff_mul_le (by omega)]
      omega
    omega
  · have e : a.length * k.toNat ≤ 1000 * 1000 := Nat.mul_le_mul h3 (by omega)
    unfold Builtin.Str.tooLong
    exact decide_eq_false (Nat.not_lt.mpr (Nat.le_trans e (by decide)))
  · rw [if_neg n1, n2, if_neg Bool.false_ne_true]
    refine ⟨?_, .str _, H, I.tok _, ⟨_, rfl⟩, q⟩
    have e : ∀ (m : Nat) (z : Array Nat), (List.foldl (· ++ ·) z (List.replicate m a.cps)).size = z.size + m * a.cps.size := by
      intro m
      induction m with
      | zero => intro z; simp
      | succ m ih =>
        intro z
        rw [List.replicate_succ, List.foldl_cons, ih, Array.size_append, Nat.succ_mul]
        omega
    show (List.foldl (· ++ ·) #[] (List.replicate k.toNat a.cps)).size ≤ _
    rw [e]
    have e : k.toNat * a.length ≤ 1000 * 1000 := Nat.mul_le_mul (by omega) h3
    refine Nat.le_trans (show _ ≤ 1000 * 1000 from ?_) (by decide)
    have : a.cps.size = a.length := rfl
    rw [this]
    simpa using e
end
end TLL

set_option maxHeartbeats 1000000
/-! A rule of our own: min of a list of data that are alike. -/
namespace TMI
open PySem L2 PyProof.Rows TX TY TB TG TW TD
theorem vals_by {vs : List V} {us : List Value} (h : Vals vs us) : ∀ {i : Nat} {u : Value}, us[i]? = some u → ∃ v, vs[i]? = some v ∧ RelV v u := by
  induction h with
  | nil => intro i u e; cases e
  | cons r t ih =>
    intro i u e
    cases i with
    | zero => cases e; exact ⟨_, rfl, r⟩
    | succ i => exact ih e
theorem dp_by {K : PySem.W.Frag} {H : Hp} : ∀ {vs : List V} {ds : List PyData}, DpAll K H vs ds → ∀ {i : Nat} {v : V}, vs[i]? = some v → ∃ d, ds[i]? = some d ∧ Dp K H v d
  | _, _, .nil, i, v, e => by cases e
  | _, _, .cons h t, i, v, e => by
    cases i with
    | zero => cases e; exact ⟨_, rfl, h⟩
    | succ i => exact dp_by t e
section
variable {X : Cx}
def rMinD (K : PySem.W.Frag) : List V → Hp → VK → Prop := fun us H Q => ∃ (a : Addr) (vs : List V) (x : PyData) (xs : List PyData), us = [.ref a] ∧ SqL K H a vs ∧ DpAll K H vs (x :: xs) ∧ PySem.W.AlikeAll (x :: xs) ∧ PyData.depthAll (x :: xs) ≤ 60 ∧
  ∀ (i : Nat) (v : V), vs[i]? = some v → (x :: xs)[i]? = some (PySem.W.minD x xs) → Q v H
theorem cr_minD (hc : X.calm = true) (hu : X.A.units + 64 < cLine) : CallR X (.builtin "min") (rMinD X.K) := by
  intro pins s σ H vs us Q I r h
  obtain ⟨a, ys, x, xs, rfl, hs, hd, ha, hdep, q⟩ := h
  obtain ⟨its, rv, hl', _⟩ := I.list hs
  rw [Vals.ref1 r]
  obtain ⟨as, hra⟩ := Dp.readsAll I _ _ _ hd rv
  refine PySem.W.min_list_data (I.ok.hd hc) hl'.isList (by simpa using hra) ha (by omega) fun i v h' tk bs hv hrd hk => ?_
  have hv' : its[i]? = some v := by simpa using hv
  obtain ⟨y, hy, ry⟩ := vals_by rv hv'
  obtain ⟨d, hd1, hd2⟩ := dp_by hd hy
  obtain ⟨bs', r1⟩ := Dp.reads I d y v hd2 ry
  have e : d = PySem.W.minD x xs := (PySem.Reads.unique (PySem.W.reads_keeps hk r1) _ _ hrd).1
  exact ⟨y, H, I.kept (t' := tk) hk, ry, q i y hy (by rw [hd1, e])⟩
end
end TMI

set_option maxHeartbeats 1000000
/-! A walk, whatever the turn does: for comprehensions of two fors. -/
namespace TL2
open PySem L2
variable {J : It} {n : Nat} {G : Hp → Prop} {Y : Nat → Hp → V → Hp → Prop}
theorem walk_any (w : Walk J n G Y) {B : (Hp → Prop) → V → Hp → Prop} {H0 : Hp} {Qd : Hp → Prop} (Pv : Nat → Hp → Prop) (h0 : Pv 0 H0) (hG : ∀ i H, i ≤ n → Pv i H → G H)
    (hs : ∀ i x H H', i < n → Pv i H → Y i H x H' → B (Pv (i + 1)) x H') (hd : ∀ H, Pv n H → Qd H) :
    ∃ W : Nat → Nat → Hp → Prop, (∃ m, W 0 m H0) ∧ ∀ i m H, W i m H → (J.stop i H ∧ Qd H) ∨ (J.go i H ∧ ∃ Nx : Hp → Prop, (∀ H', Nx H' → ∃ m', m' < m ∧ W (i + 1) m' H') ∧ ∀ x H', J.yld i H x H' → B Nx x H') := by
  refine ⟨fun i m H => m = n - i ∧ i ≤ n ∧ Pv i H, ⟨n, by simp, Nat.zero_le _, h0⟩, ?_⟩
  rintro i m H ⟨rfl, hi, p⟩
  have q := hG i H hi p
  by_cases hlt : i < n
  · refine .inr ⟨w.goes i H hlt q, Pv (i + 1), fun H' p' => ⟨n - (i + 1), by omega, rfl, hlt, p'⟩, fun x H' y => hs i x H H' hlt p (w.yields i H x H' hlt q y)⟩
  · have e : i = n := by omega
    subst e
    exact .inl ⟨w.stops H q, hd H p⟩
end TL2

set_option maxHeartbeats 2000000
namespace T07
open PySem L2 PyProof.Rows TX TY TW TD TB TG TUD TE TK TSD TMI TL2
abbrev Tabs := List (List Str × List (List Int))
abbrev TasAt (C : Addr) (H : Hp) (ts : List Addr) (tabs : Tabs) : Prop := Paired (fun t p => Ta C H t p.1 p.2) ts tabs
theorem TasAt.same {C : Addr} {H H' : Hp} {ts : List Addr} {tabs : Tabs} (h : TasAt C H ts tabs) (s : Same H H') : TasAt C H' ts tabs := Paired.mapP h fun _ _ e => e.same s
def pairsF (n : Nat) : List (Nat × Nat) := (List.range n).flatMap fun o => (List.range o).map fun i => (i, o)
def manyP (tabs : Tabs) (i o : Nat) : Int := manyT (tabs.getD i ([], [])).1 (tabs.getD o ([], [])).1 (tabs.getD i ([], [])).2 (tabs.getD o ([], [])).2
def tripF (tabs : Tabs) : List (List Int) := (pairsF tabs.length).map fun p => [manyP tabs p.1 p.2, (p.1 : Int), (p.2 : Int)]
def minI (x : List Int) (xs : List (List Int)) : List Int := xs.foldl (fun a y => if ltI y a = true then y else a) x
theorem minI_mem (x : List Int) (xs : List (List Int)) : minI x xs ∈ x :: xs := by
  unfold minI
  induction xs generalizing x with
  | nil => exact List.mem_cons_self
  | cons y xs ih =>
    rw [List.foldl_cons]
    have := ih (if ltI y x = true then y else x)
    rcases List.mem_cons.mp this with e | e
    · rw [e]
      by_cases z : ltI y x = true
      · rw [if_pos z]
        exact List.mem_cons_of_mem _ List.mem_cons_self
      · rw [if_neg z]
        exact List.mem_cons_self
    · exact List.mem_cons_of_mem _ (List.mem_cons_of_mem _ e)
def minL (l : List (List Int)) : List Int := match l with
  | [] => []
  | x :: xs => minI x xs
def fewF (tabs : Tabs) : Nat × Nat := match minL (tripF tabs) with
  | [_, i, o] => (i.toNat, o.toNat)
  | _ => (0, 1)
theorem pairs_mem {n i o : Nat} (h : (i, o) ∈ pairsF n) : i < o ∧ o < n := by
  obtain ⟨o', ho, h⟩ := List.mem_flatMap.mp h
  obtain ⟨i', hi, e⟩ := List.mem_map.mp h
  injection e with e1 e2
  subst e1 e2
  exact ⟨List.mem_range.mp hi, List.mem_range.mp ho⟩
theorem pairs_pos {n : Nat} (h : 2 ≤ n) : pairsF n ≠ [] := by
  intro z
  have : (0, 1) ∈ pairsF n := List.mem_flatMap.mpr ⟨1, List.mem_range.mpr h, List.mem_map.mpr ⟨0, List.mem_range.mpr (by decide), rfl⟩⟩
  rw [z] at this
  cases this
theorem few_min {tabs : Tabs} (h : 2 ≤ tabs.length) : ∃ (m : Int) (i o : Nat), minL (tripF tabs) = [m, (i : Int), (o : Int)] ∧ fewF tabs = (i, o) ∧ i < o ∧ o < tabs.length ∧ minL (tripF tabs) ∈ tripF tabs := by
  have hne : tripF tabs ≠ [] := fun z => pairs_pos h (List.map_eq_nil_iff.mp z)
  have hm : minL (tripF tabs) ∈ tripF tabs := by
    cases e : tripF tabs with
    | nil => exact absurd e hne
    | cons x xs => exact minI_mem x xs
  obtain ⟨⟨i, o⟩, hp, e⟩ := List.mem_map.mp hm
  obtain ⟨a, b⟩ := pairs_mem hp
  refine ⟨_, i, o, e.symm, ?_, a, b, hm⟩
  unfold fewF
  rw [← e]
  rfl
/-! data -/
abbrev dI (r : List Int) : List PyData := (r.map V.int).map dV
theorem alike_ints : ∀ a b : List Int, PySem.W.alikeAll (dI a) (dI b) = true := by
  intro a
  induction a with
  | nil => intro b; cases b <;> rfl
  | cons x a ih =>
    intro b
    cases b with
    | nil => rfl
    | cons y b =>
      show (PySem.W.alike (.int x) (.int y) && PySem.W.alikeAll (dI a) (dI b)) = true
      rw [ih]
      rfl
theorem lex_ints : ∀ a b : List Int, lexLt itemOrd (PySem.W.keyToksAll (dI a)) (PySem.W.keyToksAll (dI b)) = ltI a b := by
  intro a
  induction a with
  | nil =>
    intro b
    cases b with
    | nil => decide +kernel
    | cons y b =>
      rw [show PySem.W.keyToksAll (dI ([] : List Int)) = [Sum.inl 0] by unfold dI; simp only [List.map_nil, PySem.W.keyToksAll], show dI (y :: b) = PyData.int y :: dI b from rfl, PySem.W.toks_all_cons]
      exact lex_diff (by decide)
  | cons x a ih =>
    intro b
    cases b with
    | nil =>
      rw [show PySem.W.keyToksAll (dI ([] : List Int)) = [Sum.inl 0] by unfold dI; simp only [List.map_nil, PySem.W.keyToksAll], show dI (x :: a) = PyData.int x :: dI a from rfl, PySem.W.toks_all_cons]
      exact lex_diff (by decide)
    | cons y b =>
      rw [show dI (x :: a) = PyData.int x :: dI a from rfl, show dI (y :: b) = PyData.int y :: dI b from rfl]
      have e0 : PyData.eqv (.int x) (.int y) = decide (x = y) := by
        unfold PyData.eqv
        by_cases h : x = y
        · rw [decide_eq_true h]
          exact beq_iff_eq.mpr h
        · rw [decide_eq_false h]
          exact beq_eq_false_iff_ne.mpr h
      unfold ltI
      by_cases e : x = y
      · rw [PySem.W.dataLt_all_yes rfl (by rw [e0, decide_eq_true e]), ih, if_pos e]
      · rw [PySem.W.dataLt_all_no rfl (by rw [e0, decide_eq_false e]), if_neg e]
        exact PySem.W.dataLt_int x y
theorem lt_tups (a b : List Int) : PySem.W.dataLt (.tuple (dI a)) (.tuple (dI b)) = ltI a b := by rw [PySem.W.dataLt_tuple, lex_ints]
theorem min_tups (x : List Int) (xs : List (List Int)) : PySem.W.minD (.tuple (dI x)) (xs.map fun r => .tuple (dI r)) = .tuple (dI (minI x xs)) := by
  unfold PySem.W.minD minI
  induction xs generalizing x with
  | nil => rfl
  | cons y xs ih =>
    rw [List.map_cons, List.foldl_cons, List.foldl_cons, lt_tups]
    by_cases z : ltI y x = true
    · rw [if_pos z, if_pos z]
      exact ih y
    · rw [if_neg z, if_neg z]
      exact ih x
theorem dI_inj {a b : List Int} (h : PyData.tuple (dI a) = .tuple (dI b)) : a = b := by
  injection h with h
  unfold dI at h
  rw [List.map_map, List.map_map] at h
  exact (List.map_inj_right (fun x y z => by injection z)).mp h
end T07

set_option maxHeartbeats 2000000
namespace T07
open PySem L2 PyProof.Rows TX TY TW TD TB TG TUD TE TK TSD TMI TL2
section
variable {P : Program} {w : World} {K : PySem.W.Frag} {mg : Str → Option Value} {base : Heap}
variable {fP fQ fM fV fC fF : Addr} {dP dQ dM dV dC dF : FuncData}
variable {C hc hr : Addr} {gc gr : FuncData}
/-- the defs of joining -/
structure Jd (K : PySem.W.Frag) (mg : Str → Option Value) (C hc hr fP fQ fM fV fC : Addr) (gc gr dP dQ dM dV dC : FuncData) : Prop where
  B : Bn mg
  sum : mg "sum" = none
  min : mg "min" = none
  t : Tm K mg C hc hr gc gr
  plc : Fn K mg "_places" s_places ["table", "columns"] fP dP
  pck : Fn K mg "_picked" s_picked ["row", "places"] fQ dQ
  many : Fn K mg "_many_together" s_manytog ["one", "other"] fM dM
  byv : Fn K mg "_by_values" s_byvalues ["table", "columns"] fV dV
  com : Fn K mg "_common" s_common ["one", "other"] fC dC
abbrev PrAt (H : Hp) : List Addr → List (Nat × Nat) → Prop := Paired fun p q => H p = some (.tup [.int (q.1 : Nat), .int (q.2 : Nat)])
theorem pairs_succ (n : Nat) : pairsF (n + 1) = pairsF n ++ (List.range n).map fun i => (i, n) := by
  unfold pairsF
  rw [List.range_succ, List.flatMap_append]
  simp
theorem pairs_few {n : Nat} (h : n ≤ 8) : (pairsF n).length ≤ 28 := by
  have : ∀ n, n ≤ 8 → (pairsF n).length ≤ 28 := by decide +kernel
  exact this n h
theorem dp_rows {H : Hp} {as : List Addr} {rs : List (List Int)} (h : RowsAt H as rs) : DpAll K H (as.map V.ref) (rs.map fun r => PyData.tuple (dI r)) := by
  induction h with
  | nil => exact .nil
  | cons e _ ih => exact .cons (DpRow e) ih
theorem dep_rows (rs : List (List Int)) : PyData.depthAll (rs.map fun r => PyData.tuple (dI r)) ≤ 1 := by
  induction rs with
  | nil => exact Nat.zero_le _
  | cons r rs ih =>
    rw [List.map_cons]
    unfold PyData.depthAll
    rw [dep_tup]
    exact Nat.max_le.mpr ⟨Nat.le_refl _, ih⟩
theorem alike_rows (rs : List (List Int)) : PySem.W.AlikeAll (rs.map fun r => PyData.tuple (dI r)) := by
  refine ⟨fun x hx y hy => ?_, fun x hx => ?_⟩
  · obtain ⟨r, _, rfl⟩ := List.mem_map.mp hx
    obtain ⟨q, _, rfl⟩ := List.mem_map.mp hy
    unfold PySem.W.alike
    exact alike_ints _ _
  · obtain ⟨r, _, rfl⟩ := List.mem_map.mp hx
    intro z
    cases z
abbrev N_few : List Str := ["parts", "other", "one", "pairs", "found"]
theorem sc_few : FnScope N_few ["parts"] (defScope s_fewest) := ⟨rfl, rfl, rfl, by decide +kernel, rfl, by decide +kernel, by decide +kernel⟩
def sp_few (C : Addr) : Sp := fun vs H Q _ => ∃ (a : Addr) (ts : List Addr) (tabs : Tabs), vs = [.ref a] ∧ H a = some (.lst (ts.map V.ref)) ∧ TasAt C H ts tabs ∧ 2 ≤ tabs.length ∧ tabs.length ≤ 8 ∧
  ∀ H' p, Same H H' → H' p = some (.tup [.int ((fewF tabs).1 : Nat), .int ((fewF tabs).2 : Nat)]) → Q (.ref p) H'
abbrev tPair : TE := tTup (tCons (tVar 2) (tCons (tVar 1) tNil))
abbrev tTrip (K : PySem.W.Frag) (C : Addr) : TE := tTup (tCons (tCall (sp_many C) [] E0 (tCons (tOp (rIxL K) (tVar 0) (tVar 2)) (tCons (tOp (rIxL K) (tVar 0) (tVar 1)) tNil))) (tCons (tVar 2) (tCons (tVar 1) tNil)))
theorem ok_few (F : Fn K mg "_fewest_together" s_fewest ["parts"] fF dF) (J : Jd K mg C hc hr fP fQ fM fV fC gc gr dP dQ dM dV dC) : FnOk P w K mg base CX0 5 fF dF ["parts"] (sp_few C) := by
  have B := J.B
  have GM : FnOk P w K mg base CX0 4 fM dM ["one", "other"] (sp_many C) := ok_many J.many J.com J.byv J.plc J.pck B J.sum J.t
  refine F.F.ok sc_few (fun vs H Q E h => ?_) (fun cdv A outer s H vs Q E hr h => ?_)
  · obtain ⟨a, ts, tabs, rfl, _⟩ := h
    rfl
  · obtain ⟨a, ts, tabs, rfl, ha, hT, h2, h6, q⟩ := h
    have nd := sc_few.nd
    have hu64 := hr.units
    refine ⟨_, pss_cons (ps_setLc2 (i := 3) (own := [("other", 1), ("one", 2)]) (vs1 := [2]) (g := gName 1) (tt := tYes) (g1 := gName 2) (tt1 := tYes) (te := tPair) (by rfl) nd rfl rfl (sw_true rfl rfl rfl (by decide +kernel)) (pi_range1 rfl B.range (pa_cons (pe_callB call_len_seq (by rfl) B.len PySem.boot_len (pa_cons (pv 0) pa_nil)) pa_nil))
          (blkOk_by (N := N_few) (sc := defScope s_fewest) (by decide +kernel)) (by decide) (fun _ _ _ _ _ => pg_name (i := 1) nd rfl (Or.inl rfl)) (fun _ _ _ _ _ => pts_nil)
          (fun _ _ _ _ _ => pi_range1 rfl B.range (pa_cons (pv 1) pa_nil)) (fun _ _ _ _ _ => pg_name (i := 2) nd rfl (Or.inl rfl)) (fun _ _ _ _ _ => pts_nil) (fun _ _ _ _ _ => pe_tup (pa_cons (pv 2) (pa_cons (pv 1) pa_nil))))
      (pss_cons (ps_setLc (i := 4) (own := [("one", 2), ("other", 1)]) (g := gTup K 2 (gCons (gName 2) (gCons (gName 1) gNil))) (tt := tYes) (te := tTrip K C) (by rfl) nd rfl rfl (sw_true rfl rfl rfl (by decide +kernel)) (pi_list (pv 3))
          (blkOk_by (N := N_few) (sc := defScope s_fewest) (by decide +kernel)) (fun _ _ _ _ _ => pg_tup rfl (pgs_cons (pg_name (i := 2) nd rfl (Or.inl rfl)) (pgs_cons (pg_name (i := 1) nd rfl (Or.inl rfl)) pgs_nil))) (fun _ _ _ _ _ => pts_nil)
          (fun _ _ _ _ _ => pe_tup (pa_cons (pe_call GM hr rfl J.many.g J.many.F.kp J.many.b .nil pass0 (pa_cons (pe_ix ix_list (pv 0) (pv 2) (fun _ _ => rfl)) (pa_cons (pe_ix ix_list (pv 0) (pv 1) (fun _ _ => rfl)) pa_nil))) (pa_cons (pv 2) (pa_cons (pv 1) pa_nil)))))
      (pss_one (ps_ret (pe_slice sl_tupA (pe_callB (cr_minD rfl hu64) (by rfl) J.min boot_min (pa_cons (pv 4) pa_nil)) (po_some pe_int) po_none)))), ?_⟩
    have hal := Paired.length hT
    refine ⟨_, rfl, a, _, rfl, .inl (.of ha), ((ts.map V.ref).length : Int), rfl, by rw [List.length_map]; omega, by rw [List.length_map]; omega, fun Dn nDn => ?_⟩
    rw [List.length_map, hal, show ((tabs.length : Nat) : Int).toNat = tabs.length by omega]
    refine walk_any (walk_range (lo := 0) (n := tabs.length)) (fun o h => ∃ ps, h Dn = some (.lst (ps.map V.ref)) ∧ PrAt h ps (pairsF o) ∧ Same H h) ⟨[], upd_same, .nil, Same.new nDn⟩ (fun _ _ _ _ => trivial) ?_ ?_
    · rintro o x h h' ho ⟨ps, eD, hp, sh⟩ ⟨rfl, rfl⟩
      refine ⟨rfl, ?_⟩
      refine ⟨_, rfl, (0 + (o : Int)), rfl, by omega, by omega, ?_⟩
      rw [show (0 + (o : Int)).toNat = o by omega]
      have pf := pairs_few (n := o) (by omega)
      refine walk_any (walk_range (lo := 0) (n := o)) (fun i h => ∃ ps, h Dn = some (.lst (ps.map V.ref)) ∧ PrAt h ps (pairsF o ++ (List.range i).map fun i => (i, o)) ∧ Same H h) ⟨ps, eD, by rw [List.range_zero, List.map_nil, List.append_nil]; exact hp, sh⟩ (fun _ _ _ _ => trivial) ?_ ?_
      · rintro i x h1 h1' hi ⟨ps1, eD1, hp1, sh1⟩ ⟨rfl, rfl⟩
        refine ⟨rfl, ?_⟩
        have pl := Paired.length hp1
        rw [List.length_append, List.length_map, List.length_range] at pl
        refine ⟨_, rfl, _, rfl, by show 2 ≤ sizeLine; decide, fun T nT => ?_⟩
        have DT : Dn ≠ T := ne_of_none eD1 nT
        refine ⟨_, by rw [upd_ne DT]; exact eD1, by rw [List.length_map]; exact line100' (by omega), ps1 ++ [T], by rw [upd_same, List.map_append]; rfl, ?_, Same.mut (sh1.trans (Same.new nT)) nDn⟩
        rw [List.range_succ, List.map_append, ← List.append_assoc]
        refine pr_snoc (Paired.mapP hp1 fun p q e => ?_) ?_
        · have e2 : upd h1' T (.tup [.int (0 + (i : Int)), .int (0 + (o : Int))]) p = some (.tup [.int (q.1 : Nat), .int (q.2 : Nat)]) := (Same.new nT) _ _ e
          rw [upd_ne (ne_of e eD1 (by intro z; cases z))]
          exact e2
        · rw [upd_ne DT.symm]
          show upd _ T (.tup [.int (0 + (i : Int)), .int (0 + (o : Int))]) T = _
          rw [upd_same, Int.zero_add, Int.zero_add]
      · rintro h1 ⟨ps1, eD1, hp1, sh1⟩
        exact ⟨ps1, eD1, by rw [pairs_succ]; exact hp1, sh1⟩
    · rintro h ⟨ps, eD, hp, sh⟩
      have pl := Paired.length hp
      have pf := pairs_few h6
      have tl : (tripF tabs).length = (pairsF tabs.length).length := by unfold tripF; rw [List.length_map]
      refine ⟨_, rfl, Dn, rfl, ⟨_, .of eD⟩, fun D2 nD2 => ?_⟩
      refine lc_it (walk_list (xs := ps.map V.ref)) (fun i h2 => ∃ qs, h2 D2 = some (.lst (qs.map V.ref)) ∧ RowsAt h2 qs ((tripF tabs).take i) ∧ Same h h2) ⟨[], upd_same, .nil, Same.new nD2⟩ (fun i h2 _ ⟨_, _, _, s⟩ => .of (s _ _ eD)) ?_ ?_
      · rintro i v h1 h1' hi ⟨qs, eQ, hQ, s1⟩ ⟨rfl, hv⟩
        rw [List.length_map] at hi
        obtain ⟨p, hpi, rfl⟩ : ∃ a, ps[i]? = some a ∧ v = V.ref a := by
          rw [List.getElem?_map, List.getElem?_eq_getElem hi] at hv
          exact ⟨_, List.getElem?_eq_getElem hi, (Option.some.inj hv).symm⟩
        obtain ⟨⟨one, oth⟩, hpr, hpt⟩ := pr_at hp hpi
        obtain ⟨lt1, lt2⟩ := pairs_mem (List.mem_of_getElem? hpr)
        have hpt := s1 _ _ hpt
        have hT1 := hT.same (sh.trans s1)
        have ha1 := (sh.trans s1) _ _ ha
        obtain ⟨p1, hp1⟩ : ∃ p, tabs[one]? = some p := ⟨_, List.getElem?_eq_getElem (by omega)⟩
        obtain ⟨p2, hp2⟩ : ∃ p, tabs[oth]? = some p := ⟨_, List.getElem?_eq_getElem lt2⟩
        obtain ⟨t1, ht1, ta1⟩ := pr_by hT1 hp1
        obtain ⟨t2, ht2, ta2⟩ := pr_by hT1 hp2
        have g1 : tabs.getD one ([], []) = p1 := by rw [List.getD_eq_getElem?_getD, hp1]; rfl
        have g2 : tabs.getD oth ([], []) = p2 := by rw [List.getD_eq_getElem?_getD, hp2]; rfl
        refine ⟨p, _, rfl, .of hpt, rfl, _, _, rfl, _, _, rfl, rfl, rfl, ?_⟩
        refine ⟨_, rfl, _, rfl, a, _, _, .ref t1, rfl, rfl, .of ha1, atI_nat (by rw [List.getElem?_map, ht1]; rfl), _, rfl, _, rfl, a, _, _, .ref t2, rfl, rfl, .of ha1, atI_nat (by rw [List.getElem?_map, ht2]; rfl), ?_⟩
        refine ⟨t1, t2, _, _, _, _, rfl, ta1, ta2, fun h5 s5 => ⟨_, rfl, _, rfl, by show 3 ≤ sizeLine; decide, fun T nT => ?_⟩⟩
        have eQ5 := s5 _ _ eQ
        have DT : D2 ≠ T := ne_of_none eQ5 nT
        have ql := hQ.len
        rw [List.length_take] at ql
        refine ⟨_, by rw [upd_ne DT]; exact eQ5, by rw [List.length_map]; exact line100' (by omega), qs ++ [T], by rw [upd_same, List.map_append]; rfl, ?_, Same.mut (s1.trans (s5.trans (Same.new nT))) nD2⟩
        have nx : (tripF tabs).take (i + 1) = (tripF tabs).take i ++ [[manyT p1.1 p2.1 p1.2 p2.2, (one : Int), (oth : Int)]] := by
          rw [List.take_add_one]
          congr 1
          unfold tripF manyP
          rw [List.getElem?_map, hpr]
          show [[manyT (tabs.getD one ([], [])).1 _ _ _, _, _]] = _
          rw [g1, g2]
        rw [nx]
        refine pr_snoc (Paired.mapP hQ fun p q e => ?_) ?_
        · have e2 : upd h5 T (.tup [.int (manyT p1.1 p2.1 p1.2 p2.2), .int (one : Nat), .int (oth : Nat)]) p = some (.tup (q.map V.int)) := (s5.trans (Same.new nT)) _ _ e
          rw [upd_ne (ne_of e eQ (by intro z; cases z))]
          exact e2
        · rw [upd_ne DT.symm, upd_same]
          rfl
      · rintro h1 ⟨qs, eQ, hQ, s1⟩
        rw [List.length_map, pl, ← tl, List.take_length] at hQ
        obtain ⟨m, i, o, hm, hf, lt1, lt2, hmem⟩ := few_min h2
        cases ht : tripF tabs with
        | nil => rw [ht] at hmem; cases hmem
        | cons x xs =>
          rw [ht] at hQ hm
          have hd : DpAll K h1 (qs.map V.ref) (PyData.tuple (dI x) :: xs.map fun r => PyData.tuple (dI r)) := dp_rows hQ
          refine ⟨_, rfl, D2, qs.map V.ref, _, _, rfl, .of eQ, hd, alike_rows (x :: xs), Nat.le_trans (dep_rows (x :: xs)) (by decide), fun j v hj hd2 => ?_⟩
          rw [min_tups] at hd2
          obtain ⟨t, hqj, rfl⟩ : ∃ a, qs[j]? = some a ∧ v = V.ref a := by
            rw [List.getElem?_map] at hj
            obtain ⟨a, e1, e2⟩ := Option.map_eq_some_iff.mp hj
            exact ⟨a, e1, e2.symm⟩
          obtain ⟨r, hr1, hr2⟩ := pr_at hQ hqj
          have er : r = minI x xs := by
            have e1 : (PyData.tuple (dI x) :: xs.map fun r => PyData.tuple (dI r)) = (x :: xs).map fun r => PyData.tuple (dI r) := rfl
            rw [e1, List.getElem?_map, hr1] at hd2
            exact dI_inj (Option.some.inj hd2)
          have hm : minI x xs = [m, (i : Int), (o : Int)] := hm
          rw [er, hm] at hr2
          refine ⟨_, rfl, sl_both hr2 fun p H' s e => ?_⟩
          refine q H' p ((sh.trans s1).trans s) ?_
          rw [hf]
          exact e
end
end T07

set_option maxHeartbeats 2000000
namespace T07
open PySem L2 PyProof.Rows TX TY TW TD TB TG TUD TE TK TSD TMI TL2
def furC (cs ds : List Str) : List Str := ds.filter fun x => !decide (x ∈ comC cs ds)
def rowsK (ks : List Nat) (r1 r2 : List (List Int)) : List (List Int) := r1.flatMap fun r => r2.map fun q => r ++ pck ks q
def rowsJ (ks : List Nat) (g1 g2 : List (List Int × List (List Int))) : List (List Int) := g1.flatMap fun p => rowsK ks p.2 ((valG g2 p.1).getD [])
def j2C (cs ds : List Str) : List Str := cs ++ furC cs ds
def j2R (cs ds : List Str) (rs qs : List (List Int)) : List (List Int) := rowsJ (plc ds (furC cs ds)) (grp cs (comC cs ds) rs) (grp ds (comC cs ds) qs)
theorem fur_mem {cs ds : List Str} {x : Str} : x ∈ furC cs ds ↔ x ∈ ds ∧ x ∉ cs := by
  unfold furC comC
  rw [List.mem_filter]
  constructor
  · rintro ⟨a, b⟩
    refine ⟨a, fun z => ?_⟩
    have : x ∈ cs.filter fun x => decide (x ∈ ds) := List.mem_filter.mpr ⟨z, decide_eq_true a⟩
    rw [decide_eq_true this] at b
    cases b
  · rintro ⟨a, b⟩
    refine ⟨a, ?_⟩
    rw [decide_eq_false fun z => b (List.mem_filter.mp z).1]
    rfl
theorem addG_sum {g : List (List Int × List (List Int))} {k r : List Int} (n : (g.map (·.1)).Nodup) : ((addG g k r).map fun p => p.2.length).sum = (g.map fun p => p.2.length).sum + 1 := by
  unfold addG
  by_cases e : g.any (fun p => decide (p.1 = k)) = true
  · rw [if_pos e]
    have key : ∀ g : List (List Int × List (List Int)), (g.map (·.1)).Nodup → g.any (fun p => decide (p.1 = k)) = true → ((g.map fun p => if p.1 = k then (p.1, p.2 ++ [r]) else p).map fun p => p.2.length).sum = (g.map fun p => p.2.length).sum + 1 := by
      intro g
      induction g with
      | nil => intro _ h; cases h
      | cons p g ih =>
        intro n h
        rw [List.map_cons, List.nodup_cons] at n
        rw [List.map_cons, List.map_cons, List.sum_cons, List.map_cons, List.sum_cons]
        by_cases z : p.1 = k
        · rw [if_pos z]
          have : (g.map fun p => if p.1 = k then (p.1, p.2 ++ [r]) else p) = g := (List.map_congr_left (g := id) fun q hq => by
            rw [if_neg (fun y => n.1 (List.mem_map.mpr ⟨q, hq, y.trans z.symm⟩))]
            rfl).trans (List.map_id _)
          rw [this]
          show (p.2 ++ [r]).length + _ = _
          rw [List.length_append]
          show p.2.length + 1 + _ = _
          omega
        · rw [if_neg z]
          rw [List.any_cons, decide_eq_false z, Bool.false_or] at h
          rw [ih n.2 h]
          omega
    exact key g n e
  · rw [if_neg e, List.map_append, List.sum_append]
    rfl
theorem groups_nd (ks : List Nat) (rs : List (List Int)) : ((groups ks rs).map (·.1)).Nodup ∧ ((groups ks rs).map fun p => p.2.length).sum = rs.length ∧ ∀ p ∈ groups ks rs, ∀ r ∈ p.2, r ∈ rs := by
  have key : ∀ (rs : List (List Int)) (g : List (List Int × List (List Int))), (g.map (·.1)).Nodup → ((rs.foldl (fun g r => addG g (pck ks r) r) g).map (·.1)).Nodup ∧ ((rs.foldl (fun g r => addG g (pck ks r) r) g).map fun p => p.2.length).sum = (g.map fun p => p.2.length).sum + rs.length ∧
      ∀ p ∈ rs.foldl (fun g r => addG g (pck ks r) r) g, ∀ r ∈ p.2, r ∈ rs ∨ ∃ q ∈ g, r ∈ q.2 := by
    intro rs
    induction rs with
    | nil => intro g n; exact ⟨n, rfl, fun p hp r hr => .inr ⟨p, hp, hr⟩⟩
    | cons r rs ih =>
      intro g n
      obtain ⟨a, b, c⟩ := ih (addG g (pck ks r) r) (addG_keys n)
      refine ⟨a, ?_, fun p hp x hx => ?_⟩
      · rw [List.foldl_cons, b, addG_sum n, List.length_cons]
        omega
      · rcases c p hp x hx with h | ⟨q, hq, h⟩
        · exact .inl (List.mem_cons_of_mem _ h)
        · unfold addG at hq
          split at hq
          · obtain ⟨z, hz, rfl⟩ := List.mem_map.mp hq
            by_cases e : z.1 = pck ks r
            · rw [if_pos e] at h
              rcases List.mem_append.mp h with h | h
              · exact .inr ⟨z, hz, h⟩
              · exact .inl (by rw [List.mem_singleton.mp h]; exact List.mem_cons_self)
            · rw [if_neg e] at h
              exact .inr ⟨z, hz, h⟩
          · rcases List.mem_append.mp hq with hq | hq
            · exact .inr ⟨q, hq, h⟩
            · rw [List.mem_singleton.mp hq] at h
              exact .inl (by rw [List.mem_singleton.mp h]; exact List.mem_cons_self)
  obtain ⟨a, b, c⟩ := key rs [] List.nodup_nil
  refine ⟨a, ?_, fun p hp r hr => ?_⟩
  · unfold groups
    rw [b]
    exact Nat.zero_add _
  · rcases c p hp r hr with h | ⟨q, hq, _⟩
    · exact h
    · cases hq
theorem rowsK_len (ks : List Nat) (r1 r2 : List (List Int)) : (rowsK ks r1 r2).length = r1.length * r2.length := by
  unfold rowsK
  induction r1 with
  | nil => exact (Nat.zero_mul _).symm
  | cons r r1 ih => rw [List.flatMap_cons, List.length_append, ih, List.length_map, List.length_cons, Nat.succ_mul, Nat.add_comm]
theorem j2R_len (cs ds : List Str) (rs qs : List (List Int)) : (j2R cs ds rs qs).length ≤ rs.length * qs.length := by
  unfold j2R rowsJ grp
  have h1 := (groups_nd (plc cs (comC cs ds)) rs).2.1
  rw [← h1]
  have h2 : ∀ k, ((valG (groups (plc ds (comC cs ds)) qs) k).getD []).length ≤ qs.length := fun k => by
    cases e : valG (groups (plc ds (comC cs ds)) qs) k with
    | none => exact Nat.zero_le _
    | some r => exact groups_each (valG_mem e)
  generalize groups (plc cs (comC cs ds)) rs = g1
  induction g1 with
  | nil => exact Nat.zero_le _
  | cons p g ih =>
    rw [List.flatMap_cons, List.length_append, rowsK_len, List.map_cons, List.sum_cons, Nat.add_mul]
    exact Nat.add_le_add (Nat.mul_le_mul_left _ (h2 _)) ih
theorem j2R_wide {cs ds : List Str} {rs qs : List (List Int)} (h : ∀ r ∈ rs, r.length = cs.length) : ∀ r ∈ j2R cs ds rs qs, r.length = (j2C cs ds).length := by
  intro r hr
  unfold j2R rowsJ grp at hr
  obtain ⟨p, hp, hr⟩ := List.mem_flatMap.mp hr
  unfold rowsK at hr
  obtain ⟨x, hx, hr⟩ := List.mem_flatMap.mp hr
  obtain ⟨q, _, rfl⟩ := List.mem_map.mp hr
  unfold j2C pck plc
  rw [List.length_append, List.length_append, List.length_map, List.length_map, h x ((groups_nd _ _).2.2 p hp x hx)]
theorem j2C_cs {cs ds U : List Str} (h1 : Cs cs) (h2 : Cs ds) (hU : ∀ x, x ∈ cs ∨ x ∈ ds → x ∈ U) (lU : U.length ≤ 8) : Cs (j2C cs ds) := by
  have nd : (j2C cs ds).Nodup := by
    unfold j2C
    refine List.nodup_append.mpr ⟨h1.nd, h2.nd.sublist List.filter_sublist, fun a ha b hb => ?_⟩
    rintro rfl
    exact (fur_mem.mp hb).2 ha
  refine ⟨nd, ?_, fun x hx => ?_⟩
  · have : (j2C cs ds).length ≤ U.length := by
      have sub : ∀ x ∈ j2C cs ds, x ∈ U := fun x hx => by
        rcases List.mem_append.mp hx with h | h
        · exact hU x (.inl h)
        · exact hU x (.inr (fur_mem.mp h).1)
      have key : ∀ (l m : List Str), l.Nodup → (∀ x ∈ l, x ∈ m) → l.length ≤ m.length := by
        intro l
        induction l with
        | nil => intro m _ _; exact Nat.zero_le _
        | cons a l ih =>
          intro m n s
          have ha := s a List.mem_cons_self
          rw [List.nodup_cons] at n
          have := ih (m.erase a) n.2 fun x hx => (List.mem_erase_of_ne (show x ≠ a from fun e => n.1 (by rw [← e]; exact hx))).mpr (s x (List.mem_cons_of_mem _ hx))
          rw [List.length_erase_of_mem ha] at this
          have : 0 < m.length := List.length_pos_of_mem ha
          rw [List.length_cons]
          omega
      exact key _ _ nd sub
    omega
  · rcases List.mem_append.mp hx with h | h
    · exact h1.ok x h
    · exact h2.ok x (fur_mem.mp h).1
end T07

set_option maxHeartbeats 4000000
namespace T07
open PySem L2 PyProof.Rows TX TY TW TD TB TG TUD TE TK TSD TMI TL2
section
variable {P : Program} {w : World} {K : PySem.W.Frag} {mg : Str → Option Value} {base : Heap}
variable {fW fN fA fR fK fS : Addr} {dW dN dA dR dK dS : FuncData}
variable {fP fQ fM fV fC fJ fI : Addr} {dP dQ dM dV dC dJ dI' : FuncData}
variable {C hc hr : Addr} {gc gr : FuncData}
theorem sq_asg {te : TE} {g : TG} {B : TS} {D : Ends} {s : L2.St} {H : Hp} (h : te s H fun x H1 => g x s H1 (B D)) : tSeq (tAsg te g) B D s H := h
/-- tables are made -/
structure Im (K : PySem.W.Frag) (mg : Str → Option Value) (C fI : Addr) (dI : FuncData) : Prop where
  iF : FunD K "__init__" "Table.__init__" (defArgs s_binit) (defBody s_binit) (defScope s_binit) [.non] [] fI dI
  iM : Mk K C fI
  iB : Binds K dI ["self", "columns", "rows"] []
abbrev N_j2 : List Str := ["one", "other", "common", "name", "further", "places", "ones", "others", "rows", "key", "row", "behind", "more"]
theorem sc_j2 : FnScope N_j2 ["one", "other"] (defScope s_joinedtwo) := ⟨rfl, rfl, rfl, by decide +kernel, rfl, by decide +kernel, by decide +kernel⟩
def sp_j2 (C : Addr) : Sp := fun vs H Q _ => ∃ (a b : Addr) (cs ds : List Str) (rs qs : List (List Int)), vs = [.ref a, .ref b] ∧ Ta C H a cs rs ∧ Ta C H b ds qs ∧ Cs (j2C cs ds) ∧ rs.length * qs.length ≤ 1900 ∧
  ∀ H' p, Same H H' → Ta C H' p (j2C cs ds) (norm (j2R cs ds rs qs)) → Q (.ref p) H'
theorem ok_j2 (F : Fn K mg "_joined_two" s_joinedtwo ["one", "other"] fJ dJ) (T : Kt K mg fW fN fA fR fK fS dW dN dA dR dK dS) (I : Im K mg C fI dI') (J : Jd K mg C hc hr fP fQ fM fV fC gc gr dP dQ dM dV dC) : FnOk P w K mg base CX0 6 fJ dJ ["one", "other"] (sp_j2 C) := by
  have B := J.B
  have D := J.t
  have c := D.c
  have GI : FnOk P w K mg base CX0 4 fI dI' ["self", "columns", "rows"] (sp_binit C) := ok_binit I.iF T c
  have GC : FnOk P w K mg base CX0 1 hc gc ["self"] (sp_bcolumns C) := ok_bcolumns D.cols.F B c
  have GCm : FnOk P w K mg base CX0 2 fC dC ["one", "other"] (sp_common C) := ok_common J.com B D
  have GV : FnOk P w K mg base CX0 3 fV dV ["table", "columns"] (sp_byv C) := ok_byv J.byv J.plc J.pck B D
  have GP' : FnOk P w K mg base CX0 2 fP dP ["table", "columns"] (sp_places C) := ok_places J.plc B D
  have GQ : FnOk P w K mg base CX0 1 fQ dQ ["row", "places"] sp_picked := ok_picked J.pck B
  refine F.F.ok sc_j2 (fun vs H Q E h => ?_) (fun cdv A outer s H vs Q E hr h => ?_)
  · obtain ⟨a, b, cs, ds, rs, qs, rfl, _⟩ := h
    rfl
  · obtain ⟨a, b, cs, ds, rs, qs, rfl, ta, tb, cj, hprod, q⟩ := h
    have nd := sc_j2.nd
    have r1 : Room 1 _ := hr.mono (by decide)
    have r2 : Room 2 _ := hr.mono (by decide)
    have r3 : Room 3 _ := hr.mono (by decide)
    have hu := hu_of hr
    refine ⟨_, pss_cons (ps_set (i := 2) nd rfl (Or.inr rfl) (pe_call GCm r2 rfl J.com.g J.com.F.kp J.com.b .nil pass0 (pa_cons (pv 0) (pa_cons (pv 1) pa_nil))))
      (pss_cons (ps_setLc (i := 4) (own := [("name", 3)]) (g := gName 3) (tt := tTest (tOp (rIn K true) (tVar 3) (tVar 2))) (te := tVar 3) (by rfl) nd rfl rfl (sw_true rfl rfl rfl (by decide +kernel)) (pi_list (pe_meth0 (pv 1) c.cl D.cols.me GC r1 D.cols.b .nil pass0)) (blkOk_by (N := N_j2) (sc := defScope s_joinedtwo) (by decide +kernel))
          (fun _ _ _ _ _ => pg_name (i := 3) nd rfl (Or.inl rfl)) (fun _ _ _ _ _ => pts_one (pt_cmpR op_notIn_seq (pv 3) (pv 2) rfl)) (fun _ _ _ _ _ => pv 3))
      (pss_cons (ps_set (i := 5) nd rfl (Or.inr rfl) (pe_call GP' r2 rfl J.plc.g J.plc.F.kp J.plc.b .nil pass0 (pa_cons (pv 1) (pa_cons (pv 4) pa_nil))))
      (pss_cons (ps_set (i := 6) nd rfl (Or.inl rfl) (pe_call GV r3 rfl J.byv.g J.byv.F.kp J.byv.b .nil pass0 (pa_cons (pv 0) (pa_cons (pv 2) pa_nil))))
      (pss_cons (ps_set (i := 7) nd rfl (Or.inl rfl) (pe_call GV r3 rfl J.byv.g J.byv.F.kp J.byv.b .nil pass0 (pa_cons (pv 1) (pa_cons (pv 2) pa_nil))))
      (pss_cons (ps_set (i := 8) nd rfl (Or.inl rfl) (pe_lst pa_nil))
      (pss_cons (ps_lock (ps_for PassesOwn.never rfl (pi_keys (pv 6)) (pg_name (i := 9) nd rfl (Or.inl rfl))
        (pss_cons (ps_set (i := 11) nd rfl (Or.inr rfl) (pe_lc (own := [("row", 10)]) (g := gName 10) (tt := tYes) (te := tCall sp_picked [] E0 (tCons (tVar 10) (tCons (tVar 5) tNil))) rfl nd (pi_list (pe_dget2 hu (pv 7) (pv 9) (pe_lst pa_nil) ⟨rfl, rfl, rfl, rfl⟩)) (blkOk_by (N := N_j2) (sc := defScope s_joinedtwo) (by decide +kernel))
            (fun _ _ _ _ _ => pg_name (i := 10) nd rfl (Or.inl rfl)) (fun _ _ _ _ _ => pts_nil) (fun _ _ _ _ _ => pe_call GQ r1 rfl J.pck.g J.pck.F.kp J.pck.b .nil pass0 (pa_cons (pv 10) (pa_cons (pv 5) pa_nil)))))
        (pss_one (ps_expr (pe_bm PySem.F.plainAttrs_list PySem.F.slot_list_extend PySem.F.type_list_extend mt_extend (pv 8) (pa_cons (pe_lc2 (own := [("row", 10), ("more", 12)]) (vs1 := [12]) (g := gName 10) (tt := tYes) (g1 := gName 12) (tt1 := tYes) (wi1 := iList K (tVar 11)) (te := tOp (rCatA K) (tVar 10) (tVar 12)) rfl nd (pi_list (pe_dget hu (pv 6) (pv 9) (fun _ _ => rfl))) (blkOk_by (N := N_j2) (sc := defScope s_joinedtwo) (by decide +kernel)) (by decide)
            (fun _ _ _ _ _ => pg_name (i := 10) nd rfl (Or.inl rfl)) (fun _ _ _ _ _ => pts_nil) (fun _ _ _ _ _ => pi_list (pv 11)) (fun _ _ _ _ _ => pg_name (i := 12) nd rfl (Or.inl rfl)) (fun _ _ _ _ _ => pts_nil) (fun _ _ _ _ _ => pe_op op_catA (pv 10) (pv 12))) pa_nil)))))))
      (pss_one (ps_ret (pe_make I.iM GI hr rfl c.g I.iB .nil pass0 (pa_cons (pe_op op_cat (pe_meth0 (pv 0) c.cl D.cols.me GC r1 D.cols.b .nil pass0) (pv 4)) (pa_cons (pv 8) pa_nil))))))))))), ?_⟩
    have l8 := ta.cok.le
    have m8 := tb.cok.le
    have tfew := ta.few
    have bfew := tb.few
    obtain ⟨dxa, la, ra, asa, ha1, _, _, _⟩ := id ta.at_
    obtain ⟨dxb, lb, rb, asb, hb1, _, _, _⟩ := id tb.at_
    refine ⟨_, rfl, _, rfl, a, b, cs, ds, rs, qs, rfl, ta.at_, tb.at_, by omega, fun H1 Cn s1 nCn eCn => ?_⟩
    have cl := comC_len cs ds
    refine ⟨_, rfl, b, dxb, _, rfl, s1 _ _ hb1, nocols _ _, b, ds, qs, rfl, tb.at_.same s1, fun H2 Lo s2 nLo eLo => ?_⟩
    refine ⟨Lo, rfl, ⟨_, .of eLo⟩, fun Fn nFn => ?_⟩
    refine lc_it (walk_list (xs := ds.map V.str)) (fun i h => h Fn = some (.lst (((ds.take i).filter fun x => !decide (x ∈ comC cs ds)).map V.str)) ∧ Same H2 h) ⟨upd_same, Same.new nFn⟩ (fun i h _ ⟨_, s⟩ => .of (s _ _ eLo)) ?_ ?_
    · rintro i v h h' hi ⟨e4, s4⟩ ⟨rfl, hv⟩
      rw [List.length_map] at hi
      obtain ⟨m, hm, rfl⟩ : ∃ m, ds[i]? = some m ∧ v = V.str m := by
        rw [List.getElem?_map, List.getElem?_eq_getElem hi] at hv
        exact ⟨_, List.getElem?_eq_getElem hi, (Option.some.inj hv).symm⟩
      refine ⟨rfl, ?_⟩
      refine ⟨_, rfl, _, rfl, Cn, _, rfl, .inl (.of (s4 _ _ (s2 _ _ eCn))), rfl, TX.flat_strs _, _, rfl, ?_⟩
      rw [if_pos rfl]
      have nx : (ds.take (i + 1)).filter (fun x => !decide (x ∈ comC cs ds)) = (ds.take i).filter (fun x => !decide (x ∈ comC cs ds)) ++ (if (!decide (m ∈ comC cs ds)) = true then [m] else []) := by
        rw [List.take_add_one, hm, List.filter_append]
        congr 1
        show List.filter _ [m] = _
        rw [List.filter_cons, List.filter_nil]
      have ei : inV (V.str m) ((comC cs ds).map V.str) = decide (m ∈ comC cs ds) := inV_str m _
      show (if (!inV (V.str m) ((comC cs ds).map V.str)) = true then _ else _)
      rw [ei]
      by_cases z : (!decide (m ∈ comC cs ds)) = true
      · rw [if_pos z]
        rw [if_pos z] at nx
        refine ⟨_, rfl, _, e4, ?_, ?_, Same.mut s4 nFn⟩
        · rw [List.length_map]
          have := List.length_filter_le (fun x => !decide (x ∈ comC cs ds)) (ds.take i)
          rw [List.length_take] at this
          exact line100' (by omega)
        · rw [upd_same, nx, List.map_append]
          rfl
      · rw [if_neg z]
        rw [if_neg z, List.append_nil] at nx
        refine ⟨?_, s4⟩
        rw [nx]
        exact e4
    rintro H3 ⟨eFn, s3⟩
    rw [List.length_map, List.take_length] at eFn
    have eFn : H3 Fn = some (.lst ((furC cs ds).map V.str)) := eFn
    have t3 := (s1.trans s2).trans s3
    have fl : (furC cs ds).length ≤ ds.length := List.length_filter_le _ _
    refine ⟨_, rfl, _, rfl, b, Fn, ds, furC cs ds, qs, rfl, tb.at_.same t3, tb.cok.nd, eFn, by omega, fun m hm => (fur_mem.mp hm).1, fun H4 Pl s4 nPl ePl => ?_⟩
    have eCn4 := ((s2.trans s3).trans s4) _ _ eCn
    have t4 := t3.trans s4
    refine ⟨_, rfl, _, rfl, a, Cn, cs, comC cs ds, rs, rfl, ta.at_.same t4, ta.cok.nd, ta.len, ta.few, eCn4, by omega, fun m hm => (comC_sub hm).1, fun H5 D1 kvs1 s5 nD1 g1 => ?_⟩
    refine ⟨_, rfl, _, rfl, b, Cn, ds, comC cs ds, qs, rfl, tb.at_.same (t4.trans s5), tb.cok.nd, tb.len, tb.few, s5 _ _ eCn4, by omega, fun m hm => (comC_sub hm).2, fun H6 D2 kvs2 s6 nD2 g2 => ?_⟩
    have t6 := (t4.trans s5).trans s6
    have nD12 : D2 ≠ D1 := fun z => by rw [z, g1.at_] at nD2; cases nD2
    have g1 := g1.same s6
    have ePl6 := (s5.trans s6) _ _ ePl
    have eFn6 := (s4.trans (s5.trans s6)) _ _ eFn
    have nD1H : H D1 = none := t4.free nD1
    have glen := groups_len (plc cs (comC cs ds)) rs
    obtain ⟨G1, hG1⟩ : ∃ G, G = groups (plc cs (comC cs ds)) rs := ⟨_, rfl⟩
    obtain ⟨G2, hG2⟩ : ∃ G, G = groups (plc ds (comC cs ds)) qs := ⟨_, rfl⟩
    have gnd := groups_nd (plc cs (comC cs ds)) rs
    have gnd2 := groups_nd (plc ds (comC cs ds)) qs
    have geach : ∀ p ∈ G1, p.2.length ≤ rs.length := fun p hp => by rw [hG1] at hp; exact groups_each hp
    have geach2 : ∀ p ∈ G2, p.2.length ≤ qs.length := fun p hp => by rw [hG2] at hp; exact groups_each hp
    have jlen : ∀ i, (rowsJ (plc ds (furC cs ds)) (G1.take i) G2).length ≤ 1900 := fun i => by
      have a := j2R_len cs ds rs qs
      have b : (rowsJ (plc ds (furC cs ds)) (G1.take i) G2).length ≤ (rowsJ (plc ds (furC cs ds)) G1 G2).length := by
        have e : rowsJ (plc ds (furC cs ds)) G1 G2 = rowsJ (plc ds (furC cs ds)) (G1.take i) G2 ++ rowsJ (plc ds (furC cs ds)) (G1.drop i) G2 := by
          unfold rowsJ
          rw [← List.flatMap_append, List.take_append_drop]
        rw [e, List.length_append]
        omega
      unfold j2R grp at a
      rw [← hG1, ← hG2] at a
      omega
    rw [← hG1] at g1 glen gnd
    rw [← hG2] at g2 gnd2
    -- the rows
    refine ⟨by decide, fun R nR => ?_⟩
    have R1 : R ≠ D1 := fun z => by rw [z, g1.at_] at nR; cases nR
    have R2 : R ≠ D2 := fun z => by rw [z, g2.at_] at nR; cases nR
    have nRH : H R = none := t6.free nR
    refine ⟨D1, .dT kvs1, by rw [upd_ne R1.symm]; exact g1.at_, trivial, fun od => ?_⟩
    have f1 : upd (upd H6 R (.lst [])) D1 (.frz od (.dT kvs1)) D1 = some (.frz od (.dT kvs1)) := upd_same
    have f2 : upd (upd H6 R (.lst [])) D1 (.frz od (.dT kvs1)) R = some (.lst (([] : List Addr).map V.ref)) := by rw [upd_ne R1, upd_same]; rfl
    have f3 : ∀ x o, x ≠ D1 → H6 x = some o → upd (upd H6 R (.lst [])) D1 (.frz od (.dT kvs1)) x = some o := fun x o n e => by
      rw [upd_ne n, upd_ne (fun z => by rw [z, nR] at e; cases e)]
      exact e
    generalize upd (upd H6 R (.lst [])) D1 (.frz od (.dT kvs1)) = H7 at f1 f2 f3 ⊢
    have gk : ∀ {h : Hp} {kvs : List (List Key × V)} {g : List (List Int × List (List Int))}, (∀ x o, x ≠ D1 → H6 x = some o → h x = some o) → Paired (GP H6) kvs g → Paired (GP h) kvs g := fun k hp => Paired.mapP hp fun p q hpq => by
      obtain ⟨a1, L0, as0, a2, a3, a4⟩ := hpq
      exact ⟨a1, L0, as0, a2, k _ _ (ne_of a3 g1.at_ (by intro z; cases z)) a3, Paired.mapP a4 fun _ _ e => k _ _ (ne_of e g1.at_ (by intro z; cases z)) e⟩
    refine ⟨_, rfl, D1, od, rfl, .inr ⟨kvs1, f1, ?_⟩⟩
    refine for_it (walk_keysT (kvs := kvs1)) (fun i σ h => ∃ (as : List Addr) (v9 v11 : Option V), σ = [some (.ref a), some (.ref b), some (.ref Cn), none, some (.ref Fn), some (.ref Pl), some (.ref D1), some (.ref D2), some (.ref R), v9, none, v11, none] ∧ h R = some (.lst (as.map V.ref)) ∧ RowsAt h as (rowsJ (plc ds (furC cs ds)) (G1.take i) G2) ∧
        (∀ x o, x ≠ D1 → H6 x = some o → h x = some o) ∧ h D1 = some (.frz od (.dT kvs1)))
      ⟨[], none, none, rfl, f2, .nil, f3, f1⟩ (fun i σ h _ ⟨_, _, _, _, _, _, _, e⟩ => e) ?_ ?_
    · rintro i v σ h h' hi ⟨as, v9, v11, rfl, eR, hR, kk, fz⟩ ⟨rfl, k, v0, kq, hk, rfl, hq⟩
      obtain ⟨gq, hgq, hk1, L1, as1, rfl, eL1, hR1⟩ := pr_at (gk kk g1.p) hk
      subst hk1
      dsimp only [gName]
      have ek2 : ∃ r2, (valG G2 gq.1).getD [] = r2 ∧ r2.length ≤ qs.length ∧ ∀ r ∈ r2, r ∈ qs := by
        refine ⟨_, rfl, ?_, ?_⟩
        · cases e : valG G2 gq.1 with
          | none => exact Nat.zero_le _
          | some r => exact geach2 _ (valG_mem e)
        · cases e : valG G2 gq.1 with
          | none => intro r hr; cases hr
          | some r2 => intro r hr; exact gnd2.2.2 _ (valG_mem e) r hr
      obtain ⟨r2, hr2, lr2, mr2⟩ := ek2
      have f2h := kk _ _ nD12 g2.at_
      refine sq_asg ?_
      refine ⟨_, rfl, D2, rfl, .inr ⟨kvs2, .inl f2h⟩, _, rfl, by decide, fun M nM => ?_⟩
      have sM : Same h' (upd h' M (.lst [])) := Same.new nM
      have eM : upd h' M (.lst []) M = some (.lst (([] : List Addr).map V.ref)) := upd_same
      have kk2 : ∀ x o, x ≠ D1 → H6 x = some o → upd h' M (.lst []) x = some o := fun x o n e => sM _ _ (kk x o n e)
      have fz2 := sM _ _ fz
      have eR2 := sM _ _ eR
      have hR2 := hR.same sM
      have hq2 := sM _ _ hq
      have eL12 := sM _ _ eL1
      have hR12 := hR1.same sM
      have nRM : R ≠ M := ne_of_none eR nM
      generalize upd h' M (.lst []) = h2 at sM eM kk2 fz2 eR2 hR2 hq2 eL12 hR12 ⊢
      refine ⟨_, .inr ⟨kvs2, kI gq.1, kq, .inl (kk2 _ _ nD12 g2.at_), rfl, hq2, rfl⟩, ?_⟩
      obtain ⟨Lb, as2, hv2, eLb, hRb⟩ : ∃ (Lb : Addr) (as2 : List Addr), (valV kvs2 (kI gq.1)).getD (.ref M) = .ref Lb ∧ h2 Lb = some (.lst (as2.map V.ref)) ∧ RowsAt h2 as2 r2 := by
        rcases gp_val2 (gk kk2 g2.p) gq.1 with ⟨n1, n2⟩ | ⟨L2', as2, rs2, n1, n2, e1, e2⟩
        · rw [n1]
          rw [n2] at hr2
          subst hr2
          exact ⟨M, [], rfl, eM, .nil⟩
        · rw [n1]
          rw [n2] at hr2
          subst hr2
          exact ⟨L2', as2, rfl, e1, e2⟩
      rw [hv2]
      refine ⟨Lb, rfl, ⟨_, .of eLb⟩, fun Bh nBh => ?_⟩
      have lb2 := hRb.len
      have ePlh := kk2 _ _ (ne_of ePl6 g1.at_ (by intro z; cases z)) ePl6
      have plen : (plc ds (furC cs ds)).length ≤ 8 := by unfold plc; rw [List.length_map]; omega
      refine lc_it (walk_list (xs := as2.map V.ref)) (fun j h3 => ∃ bs, h3 Bh = some (.lst (bs.map V.ref)) ∧ RowsAt h3 bs ((r2.take j).map (pck (plc ds (furC cs ds)))) ∧ Same h2 h3) ⟨[], upd_same, .nil, Same.new nBh⟩ (fun j h3 _ ⟨_, _, _, s⟩ => .of (s _ _ eLb)) ?_ ?_
      · rintro j v h3 h3' hj ⟨bs, eB, hB, s3'⟩ ⟨rfl, hv⟩
        rw [List.length_map] at hj
        obtain ⟨y, hy, rfl⟩ : ∃ a, as2[j]? = some a ∧ v = V.ref a := by
          rw [List.getElem?_map, List.getElem?_eq_getElem hj] at hv
          exact ⟨_, List.getElem?_eq_getElem hj, (Option.some.inj hv).symm⟩
        obtain ⟨row, hrow, hty⟩ := pr_at hRb hy
        have rl := tb.len row (mr2 row (List.mem_of_getElem? hrow))
        refine ⟨rfl, ?_⟩
        refine ⟨_, rfl, _, rfl, y, Pl, row, plc ds (furC cs ds), rfl, s3' _ _ hty, s3' _ _ ePlh, plen, fun k hk => ?_, fun h5 p s5 np ep => ?_⟩
        · obtain ⟨m, hm', rfl⟩ := List.mem_map.mp hk
          rw [rl]
          exact List.idxOf_lt_length_of_mem (fur_mem.mp hm').1
        have bl := hB.len
        rw [List.length_map, List.length_take] at bl
        have eB5 := s5 _ _ eB
        refine ⟨_, eB5, by rw [List.length_map]; exact line100' (by omega), bs ++ [p], by rw [upd_same, List.map_append]; rfl, ?_, Same.mut (s3'.trans s5) nBh⟩
        rw [List.take_add_one, hrow, List.map_append]
        refine pr_snoc ((hB.same s5).put eB5) ?_
        rw [upd_ne (ne_of ep eB5 (by intro z; cases z))]
        exact ep
      rintro h3 ⟨bs, eB, hB, s3'⟩
      rw [List.length_map, lb2, List.take_length] at hB
      have fz3 := s3' _ _ fz2
      have eR3 := s3' _ _ eR2
      have hR3 := hR2.same s3'
      have hq3 := s3' _ _ hq2
      have eL13 := s3' _ _ eL12
      have hR13 := hR12.same s3'
      have kk3 : ∀ x o, x ≠ D1 → H6 x = some o → h3 x = some o := fun x o n e => s3' _ _ (kk2 x o n e)
      have nRB : R ≠ Bh := ne_of_none eR2 nBh
      have bl := hB.len
      rw [List.length_map] at bl
      have gl1 := geach _ (List.mem_of_getElem? hgq)
      have al1 := hR13.len
      have prod : gq.2.length * r2.length ≤ 1900 := by
        have : gq.2.length * r2.length ≤ rs.length * qs.length := Nat.mul_le_mul gl1 lr2
        omega
      obtain ⟨bq, hbq⟩ : ∃ bq, bq = r2.map (pck (plc ds (furC cs ds))) := ⟨_, rfl⟩
      rw [← hbq] at hB
      have lbq : bq.length = r2.length := by rw [hbq, List.length_map]
      refine ⟨_, rfl, .inl ⟨rfl, _, .inl (.inl eR3)⟩, _, rfl, _, rfl, D1, _, rfl, .inr ⟨kvs1, kI gq.1, kq, .inr ⟨od, fz3⟩, rfl, hq3, (val_at g1.p g1.ng hk hgq).symm⟩, L1, rfl, ⟨_, .of eL13⟩, fun Dn nDn => ?_⟩
      refine walk_any (walk_list (xs := as1.map V.ref)) (fun j h4 => ∃ zs, h4 Dn = some (.lst (zs.map V.ref)) ∧ RowsAt h4 zs ((gq.2.take j).flatMap fun r => bq.map fun q => r ++ q) ∧ Same h3 h4) ⟨[], upd_same, .nil, Same.new nDn⟩ (fun j h4 _ ⟨_, _, _, s⟩ => .of (s _ _ eL13)) ?_ ?_
      · rintro j v h4 h4' hj ⟨zs, eZ, hZ, s4'⟩ ⟨rfl, hv⟩
        rw [List.length_map] at hj
        obtain ⟨y, hy, rfl⟩ : ∃ a, as1[j]? = some a ∧ v = V.ref a := by
          rw [List.getElem?_map, List.getElem?_eq_getElem hj] at hv
          exact ⟨_, List.getElem?_eq_getElem hj, (Option.some.inj hv).symm⟩
        obtain ⟨row, hrow, hty⟩ := pr_at hR13 hy
        have jl : j < gq.2.length := by omega
        refine ⟨rfl, ?_⟩
        refine ⟨_, rfl, Bh, rfl, ⟨_, .of (s4' _ _ eB)⟩, ?_⟩
        refine walk_any (walk_list (xs := bs.map V.ref)) (fun k h5 => ∃ zs, h5 Dn = some (.lst (zs.map V.ref)) ∧ RowsAt h5 zs (((gq.2.take j).flatMap fun r => bq.map fun q => r ++ q) ++ (bq.take k).map fun q => row ++ q) ∧ Same h3 h5) ⟨zs, eZ, by rw [List.take_zero, List.map_nil, List.append_nil]; exact hZ, s4'⟩ (fun k h5 _ ⟨_, _, _, s⟩ => .of (s _ _ eB)) ?_ ?_
        · rintro k v h5 h5' hk' ⟨zs1, eZ1, hZ1, s5'⟩ ⟨rfl, hv⟩
          rw [List.length_map] at hk'
          obtain ⟨z, hz, rfl⟩ : ∃ a, bs[k]? = some a ∧ v = V.ref a := by
            rw [List.getElem?_map, List.getElem?_eq_getElem hk'] at hv
            exact ⟨_, List.getElem?_eq_getElem hk', (Option.some.inj hv).symm⟩
          obtain ⟨rz, hrz, htz⟩ := pr_at hB hz
          refine ⟨rfl, ?_⟩
          have wl : row.length ≤ 8 := by
            have := ta.len row (gnd.2.2 _ (List.mem_of_getElem? hgq) row (List.mem_of_getElem? hrow))
            omega
          have wz : rz.length ≤ 8 := by
            have := List.mem_of_getElem? hrz
            rw [hbq] at this
            obtain ⟨q0, _, rfl⟩ := List.mem_map.mp this
            unfold pck
            rw [List.length_map]
            exact plen
          have zl := hZ1.len
          rw [List.length_append, List.length_map, List.length_take] at zl
          have fl2 : ((gq.2.take j).flatMap fun r => bq.map fun q => r ++ q).length = j * bq.length := by
            have : ∀ l : List (List Int), (l.flatMap fun r => bq.map fun q => r ++ q).length = l.length * bq.length := by
              intro l
              induction l with
              | nil => exact (Nat.zero_mul _).symm
              | cons a l ih => rw [List.flatMap_cons, List.length_append, ih, List.length_map, List.length_cons, Nat.succ_mul, Nat.add_comm]
            rw [this, List.length_take, Nat.min_eq_left (by omega)]
          have jm : j * bq.length ≤ gq.2.length * r2.length := by rw [lbq]; exact Nat.mul_le_mul_right _ (by omega)
          refine ⟨_, rfl, _, rfl, cat_both (s5' _ _ hty) (s5' _ _ htz) (by rw [List.length_map, List.length_map]; omega) fun p h6 s6' e6 => ?_⟩
          have eZ6 := s6' _ _ eZ1
          refine ⟨_, eZ6, by rw [List.length_map]; exact line100' (by omega), zs1 ++ [p], by rw [upd_same, List.map_append]; rfl, ?_, Same.mut (s5'.trans s6') nDn⟩
          rw [List.take_add_one, hrz, List.map_append, ← List.append_assoc]
          refine pr_snoc ((hZ1.same s6').put eZ6) ?_
          rw [upd_ne (ne_of e6 eZ6 (by intro z; cases z))]
          rw [e6, List.map_append]
        · rintro h5 ⟨zs1, eZ1, hZ1, s5'⟩
          rw [List.length_map, bl, ← lbq, List.take_length] at hZ1
          refine ⟨zs1, eZ1, ?_, s5'⟩
          rw [List.take_add_one, hrow, List.flatMap_append]
          have : (some row).toList.flatMap (fun r => bq.map fun q => r ++ q) = bq.map fun q => row ++ q := by simp
          rw [this]
          exact hZ1
      · rintro h4 ⟨zs, eZ, hZ, s4'⟩
        rw [List.length_map, al1, List.take_length] at hZ
        have jn := jlen (i + 1)
        have nxt : rowsJ (plc ds (furC cs ds)) (G1.take (i + 1)) G2 = rowsJ (plc ds (furC cs ds)) (G1.take i) G2 ++ gq.2.flatMap fun r => bq.map fun q => r ++ q := by
          unfold rowsJ
          rw [List.take_add_one, hgq, List.flatMap_append]
          congr 1
          show [gq].flatMap _ = _
          rw [List.flatMap_cons, List.flatMap_nil, List.append_nil, hr2]
          unfold rowsK
          rw [hbq]
          simp only [List.map_map]
          rfl
        have eR4 := s4' _ _ eR3
        have al := hR3.len
        have zl := hZ.len
        have jn2 := jn
        rw [nxt, List.length_append] at jn2
        have nRD : R ≠ Dn := ne_of_none eR3 nDn
        refine ⟨R, Dn, _, _, rfl, rfl, eR4, eZ, by rw [List.length_map, List.length_map]; exact line100 (by omega), ?_⟩
        refine ⟨as ++ zs, _, _, rfl, by rw [upd_same, List.map_append], ?_, fun x o n e => ?_, ?_⟩
        · rw [nxt]
          exact pr_app ((hR3.same s4').put eR4) (hZ.put eR4)
        · rw [upd_ne (fun z => by rw [z, nR] at e; cases e)]
          exact s4' _ _ (kk3 x o n e)
        · rw [upd_ne R1.symm]
          exact s4' _ _ fz3
    · rintro σ h ⟨as, v9, v11, rfl, eR, hR, kk, fz⟩
      have hlk := Paired.length g1.p
      rw [hlk, List.take_length] at hR
      refine ⟨fz, ?_⟩
      have s8 : Same H (upd h D1 (.dT kvs1)) := fun x o e => by
        have n : x ≠ D1 := fun z => by rw [z, nD1H] at e; cases e
        rw [upd_ne n]
        exact kk x o n (t6 x o e)
      have eR8 : upd h D1 (.dT kvs1) R = some (.lst (as.map V.ref)) := by rw [upd_ne R1]; exact eR
      have eF8 : upd h D1 (.dT kvs1) Fn = some (.lst ((furC cs ds).map V.str)) := by
        have n : Fn ≠ D1 := ne_of eFn6 g1.at_ (by intro z; cases z)
        rw [upd_ne n]
        exact kk _ _ n eFn6
      have hR8 : RowsAt (upd h D1 (.dT kvs1)) as (rowsJ (plc ds (furC cs ds)) G1 G2) := Paired.mapP hR fun x o e => by
        rw [upd_ne (ne_of e fz (by intro z; cases z))]
        exact e
      generalize upd h D1 (.dT kvs1) = h8 at s8 eR8 eF8 hR8 ⊢
      refine ⟨_, rfl, a, dxa, _, rfl, s8 _ _ ha1, nocols _ _, a, cs, rs, rfl, ta.at_.same s8, fun H9 Lc s9 nLc eLc => ?_⟩
      refine ⟨_, rfl, Lc, Fn, _, _, rfl, rfl, eLc, s9 _ _ eF8, by rw [List.length_map, List.length_map]; exact line100 (by omega), fun L3 nL3 => ?_⟩
      have eL3 : upd H9 L3 (.lst (cs.map V.str ++ (furC cs ds).map V.str)) L3 = some (.lst ((j2C cs ds).map V.str)) := by rw [upd_same, ← List.map_append]; rfl
      have s10 : Same h8 (upd H9 L3 (.lst (cs.map V.str ++ (furC cs ds).map V.str))) := s9.trans (Same.new nL3)
      generalize upd H9 L3 (.lst (cs.map V.str ++ (furC cs ds).map V.str)) = H10 at eL3 s10 ⊢
      refine ⟨_, rfl, fun x dx nx ndx hne => ?_⟩
      have sx : Same H10 (upd (upd H10 dx (.own x)) x (.ins C dx [])) := fun c o e => by rw [upd_ne (ne_of_none e nx), upd_ne (ne_of_none e ndx)]; exact e
      have ej : rowsJ (plc ds (furC cs ds)) G1 G2 = j2R cs ds rs qs := by unfold j2R grp; rw [hG1, hG2]
      rw [ej] at hR8
      have jl := j2R_len cs ds rs qs
      refine ⟨x, L3, dx, .ref R, j2C cs ds, as, j2R cs ds rs qs, rfl, upd_same, sx _ _ eL3, cj, .inr ⟨R, rfl, sx _ _ (s10 _ _ eR8), (hR8.same s10).same sx⟩, ⟨j2R_wide ta.len, by omega⟩, fun H11 tb' keep => ⟨rfl, ?_⟩⟩
      have nn := norm_len (j2R cs ds rs qs)
      exact q H11 x ((s8.trans s10).trans fun c o e => keep c o (ne_of_none e nx) (sx _ _ e)) ⟨tb'.tab, cj, fun r hr => j2R_wide ta.len r (mem_norm.mp hr), by omega⟩
end
end T07

set_option maxHeartbeats 2000000
namespace T07
open PySem L2 PyProof.Rows TX TY TW TD TB TG TUD TE TK TSD TMI TL2
section
variable {P : Program} {w : World} {K : PySem.W.Frag} {mg : Str → Option Value} {base : Heap}
variable {fW fN fA fR fK fS : Addr} {dW dN dA dR dK dS : FuncData}
variable {fP fQ fM fV fC fJ fI fL fO : Addr} {dP dQ dM dV dC dJ dI' dL dO : FuncData}
variable {C hc hr : Addr} {gc gr : FuncData}
abbrev N_of : List Str := ["self", "columns", "name", "places", "row"]
theorem sc_of : FnScope N_of ["self", "columns"] (defScope s_bof) := ⟨rfl, rfl, rfl, by decide +kernel, rfl, by decide +kernel, by decide +kernel⟩
def ofR (cs ms : List Str) (rs : List (List Int)) : List (List Int) := norm (rs.map (pck (plc cs ms)))
def sp_ofV (C : Addr) : Sp := fun vs H Q _ => ∃ (t L : Addr) (cs ms : List Str) (rs : List (List Int)), vs = [.ref t, .ref L] ∧ Ta C H t cs rs ∧ H L = some (.lst (ms.map V.str)) ∧ Cs ms ∧ (∀ m ∈ ms, m ∈ cs) ∧
  ∀ H' p, Same H H' → TabN C H H' p ms (ofR cs ms rs) → Ta C H' p ms (ofR cs ms rs) → Q (.ref p) H'
theorem ok_ofV (F : Fun K "of" "Table.of" s_bof fO dO) (T : Kt K mg fW fN fA fR fK fS dW dN dA dR dK dS) (I : Im K mg C fI dI') (J : Jd K mg C hc hr fP fQ fM fV fC gc gr dP dQ dM dV dC) : FnOk P w K mg base CX0 6 fO dO ["self", "columns"] (sp_ofV C) := by
  have B := J.B
  have D := J.t
  have c := D.c
  have GK : FnOk P w K mg base CX0 3 fK dK ["columns"] sp_ccV := ok_ccV T
  have GP' : FnOk P w K mg base CX0 2 fP dP ["table", "columns"] (sp_places C) := ok_places J.plc B D
  have GQ : FnOk P w K mg base CX0 1 fQ dQ ["row", "places"] sp_picked := ok_picked J.pck B
  have GI : FnOk P w K mg base CX0 4 fI dI' ["self", "columns", "rows"] (sp_binit C) := ok_binit I.iF T c
  refine F.ok sc_of (fun vs H Q E h => ?_) (fun cdv A outer s H vs Q E hr h => ?_)
  · obtain ⟨t, L, cs, ms, rs, rfl, _⟩ := h
    rfl
  · obtain ⟨t, L, cs, ms, rs, rfl, tb, hL, hms, hall, q⟩ := h
    have r1 : Room 1 _ := hr.mono (by decide)
    have r2 : Room 2 _ := hr.mono (by decide)
    have r3 : Room 3 _ := hr.mono (by decide)
    have nd := sc_of.nd
    refine ⟨_, pss_cons (ps_expr (pe_call GK r3 rfl T.chk.g T.chk.F.kp T.chk.b .nil pass0 (pa_cons (pv 1) pa_nil)))
      (pss_cons (ps_for PassesOwn.never rfl (pi_list (pv 1)) (pg_name (i := 2) nd rfl (Or.inl rfl))
        (pss_one (ps_if (pt_cmpR op_notIn_seq (pv 2) (pe_fld (pv 0) rfl) rfl) (pss_one ps_never) pss_nil)))
      (pss_cons (ps_set (i := 3) nd rfl (Or.inr rfl) (pe_call GP' r2 rfl J.plc.g J.plc.F.kp J.plc.b .nil pass0 (pa_cons (pv 0) (pa_cons (pv 1) pa_nil))))
      (pss_one (ps_ret (pe_make I.iM GI hr rfl c.g I.iB .nil pass0 (pa_cons (pv 1) (pa_cons (pe_lc (own := [("row", 4)]) (g := gName 4) (tt := tYes) (te := tCall sp_picked [] E0 (tCons (tVar 4) (tCons (tVar 3) tNil))) rfl nd (pi_list (pe_fld (pv 0) rfl)) (blkOk_by (N := N_of) (sc := defScope s_bof) (by decide +kernel))
          (fun _ _ _ _ _ => pg_name (i := 4) nd rfl (Or.inl rfl)) (fun _ _ _ _ _ => pts_nil) (fun _ _ _ _ _ => pe_call GQ r1 rfl J.pck.g J.pck.F.kp J.pck.b .nil pass0 (pa_cons (pv 4) (pa_cons (pv 3) pa_nil)))) pa_nil))))))), ?_⟩
    obtain ⟨dx, l, r, as, h1, h2, h3, h4⟩ := id tb.at_
    have hle := hms.le
    refine ⟨_, rfl, L, ms, rfl, hL, hms, fun H1 s1 => ?_⟩
    refine ⟨_, rfl, L, rfl, ⟨_, .of (s1 _ _ hL)⟩, ?_⟩
    refine for_it (walk_list (xs := ms.map V.str)) (fun i σ h => ∃ v2 : Option V, σ = [some (.ref t), some (.ref L), v2, none, none] ∧ Same H h)
      ⟨none, rfl, s1⟩ (fun i σ h _ ⟨_, _, s⟩ => .of (s _ _ hL)) ?_ ?_
    · rintro i x σ h h' hi ⟨v2, rfl, s3⟩ ⟨rfl, hx⟩
      rw [List.length_map] at hi
      obtain ⟨m, hm, rfl⟩ : ∃ m, ms[i]? = some m ∧ x = V.str m := by
        rw [List.getElem?_map, List.getElem?_eq_getElem hi] at hx
        exact ⟨_, List.getElem?_eq_getElem hi, (Option.some.inj hx).symm⟩
      refine ⟨_, rfl, _, rfl, t, C, dx, _, _, rfl, s3 _ _ h1, c.cl, c.nC, bflds_col _ _, l, _, rfl, .inl (.of (s3 _ _ h2)), rfl, TX.flat_strs _, _, rfl, ?_⟩
      rw [show (if true = true then !inV (V.str m) (cs.map V.str) else inV (V.str m) (cs.map V.str)) = !inV (V.str m) (cs.map V.str) from rfl, inV_str, decide_eq_true (hall m (List.mem_of_getElem? hm))]
      exact ⟨_, rfl, s3⟩
    · rintro σ h ⟨v2, rfl, s3⟩
      refine ⟨_, rfl, _, rfl, t, L, cs, ms, rs, rfl, tb.at_.same s3, tb.cok.nd, s3 _ _ hL, hle, hall, fun h5 Lp s5 n5 e5 => ?_⟩
      have t5 := s3.trans s5
      refine ⟨_, rfl, _, rfl, t, C, dx, _, _, rfl, t5 _ _ h1, c.cl, c.nR, bflds_rows _ _, r, rfl, ⟨_, .of (t5 _ _ h3)⟩, fun Dn nDn => ?_⟩
      have hal := h4.len
      have few := tb.few
      refine lc_it (walk_list (xs := as.map V.ref)) (fun n h => ∃ bs : List Addr, h Dn = some (.lst (bs.map V.ref)) ∧ RowsAt h bs ((rs.take n).map (pck (plc cs ms))) ∧ Same h5 h)
        ⟨[], upd_same, .nil, Same.new nDn⟩ (fun n h _ ⟨_, _, _, s⟩ => .of (s _ _ (t5 _ _ h3))) ?_ ?_
      · rintro n x h h' hn ⟨bs, e6, r6, s6⟩ ⟨rfl, hx⟩
        rw [List.length_map] at hn
        obtain ⟨a, ha, rfl⟩ : ∃ a, as[n]? = some a ∧ x = V.ref a := by
          rw [List.getElem?_map, List.getElem?_eq_getElem hn] at hx
          exact ⟨_, List.getElem?_eq_getElem hn, (Option.some.inj hx).symm⟩
        obtain ⟨row, hrow, hta⟩ := pr_at h4 ha
        have hlen : row.length = cs.length := tb.len row (List.mem_of_getElem? hrow)
        refine ⟨rfl, ?_⟩
        refine ⟨_, rfl, _, rfl, a, Lp, row, plc cs ms, rfl, s6 _ _ (t5 _ _ hta), s6 _ _ e5, by unfold plc; rw [List.length_map]; exact hle, fun k hk => ?_, fun h7 p s7 np ep => ?_⟩
        · obtain ⟨m, hmm, rfl⟩ := List.mem_map.mp hk
          rw [hlen]
          exact List.idxOf_lt_length_of_mem (hall m hmm)
        · have hlb : bs.length ≤ n := by
            have e1 := r6.len
            rw [List.length_map, List.length_take] at e1
            omega
          refine ⟨_, s7 _ _ e6, by rw [List.length_map]; exact line100' (by omega), bs ++ [p], by rw [upd_same, List.map_append]; rfl, ?_, Same.mut (s6.trans s7) nDn⟩
          rw [List.take_add_one, hrow, List.map_append]
          exact RowsAt.put (pr_snoc (r6.same s7) ep) (s7 _ _ e6)
      · rintro h ⟨bs, e6, r6, s6⟩
        rw [List.length_map, hal, List.take_length] at r6
        intro p dp np ndp hne
        have sp : Same h (upd (upd h dp (.own p)) p (.ins C dp [])) := fun b o e => by rw [upd_ne (ne_of_none e np), upd_ne (ne_of_none e ndp)]; exact e
        have wide : ∀ r ∈ rs.map (pck (plc cs ms)), r.length = ms.length := fun r hr => by
          obtain ⟨q0, _, rfl⟩ := List.mem_map.mp hr
          unfold pck plc
          rw [List.length_map, List.length_map]
        refine ⟨p, L, dp, .ref Dn, ms, bs, _, rfl, upd_same, sp _ _ (s6 _ _ (t5 _ _ hL)), hms, .inr ⟨Dn, rfl, sp _ _ e6, r6.same sp⟩, ⟨wide, by rw [List.length_map]; exact few⟩, fun H' tb' keep => ⟨rfl, ?_⟩⟩
        have sf : Same h H' := fun b o e => keep b o (ne_of_none e np) (sp _ _ e)
        have nn := norm_len (rs.map (pck (plc cs ms)))
        rw [List.length_map] at nn
        exact q H' p ((t5.trans s6).trans sf) (tb'.back ((t5.trans s6).trans sp)) ⟨tb'.tab, hms, fun r hr => wide r (mem_norm.mp hr), by show (norm (rs.map (pck (plc cs ms)))).length ≤ 1900; omega⟩
/-! all columns -/
def addN (acc : List Str) (n : Str) : List Str := if n ∈ acc then acc else acc ++ [n]
def addNs (acc cs : List Str) : List Str := cs.foldl addN acc
def allC (tabs : Tabs) : List Str := tabs.foldl (fun acc p => addNs acc p.1) []
theorem addN_len (acc : List Str) (n : Str) : (addN acc n).length ≤ acc.length + 1 := by
  unfold addN
  split
  · omega
  · rw [List.length_append]
    exact Nat.le_refl _
theorem addNs_len (acc cs : List Str) : (addNs acc cs).length ≤ acc.length + cs.length := by
  unfold addNs
  induction cs generalizing acc with
  | nil => exact Nat.le_refl _
  | cons c cs ih =>
    have := ih (addN acc c)
    have := addN_len acc c
    rw [List.foldl_cons, List.length_cons]
    omega
abbrev N_all : List Str := ["tables", "found", "table", "name"]
theorem sc_all : FnScope N_all ["tables"] (defScope s_allcols) := ⟨rfl, rfl, rfl, by decide +kernel, rfl, by decide +kernel, by decide +kernel⟩
def sp_all (C : Addr) : Sp := fun vs H Q _ => ∃ (a : Addr) (ts : List Addr) (tabs : Tabs), vs = [.ref a] ∧ H a = some (.lst (ts.map V.ref)) ∧ TasAt C H ts tabs ∧ tabs.length ≤ 8 ∧
  ∀ H' p, Same H H' → H p = none → H' p = some (.lst ((allC tabs).map V.str)) → Q (.ref p) H'
theorem ok_all (F : Fn K mg "_all_columns" s_allcols ["tables"] fL dL) (B : Bn mg) (D : Tm K mg C hc hr gc gr) : FnOk P w K mg base CX0 2 fL dL ["tables"] (sp_all C) := by
  have c := D.c
  have GC : FnOk P w K mg base CX0 1 hc gc ["self"] (sp_bcolumns C) := ok_bcolumns D.cols.F B c
  refine F.F.ok sc_all (fun vs H Q E h => ?_) (fun cdv A outer s H vs Q E hr h => ?_)
  · obtain ⟨a, ts, tabs, rfl, _⟩ := h
    rfl
  · obtain ⟨a, ts, tabs, rfl, ha, hT, h6, q⟩ := h
    have nd := sc_all.nd
    refine ⟨_, pss_cons (ps_set (i := 1) nd rfl (Or.inl rfl) (pe_lst pa_nil))
      (pss_cons (ps_for PassesOwn.never rfl (pi_list (pv 0)) (pg_name (i := 2) nd rfl (Or.inl rfl))
        (pss_one (ps_for PassesOwn.never rfl (pi_list (pe_meth0 (pv 2) c.cl D.cols.me GC hr D.cols.b .nil pass0)) (pg_name (i := 3) nd rfl (Or.inl rfl))
          (pss_one (ps_if (pt_cmpR op_notIn_seq (pv 3) (pv 1) rfl) (pss_one (ps_expr (pe_bm PySem.F.plainAttrs_list PySem.F.slot_list_append PySem.F.type_list_append mt_append (pv 1) (pa_cons (pv 3) pa_nil)))) pss_nil)))))
      (pss_one (ps_ret (pv 1)))), ?_⟩
    have hal := Paired.length hT
    refine ⟨by decide, fun R nR => ?_⟩
    have s1 : Same H (upd H R (.lst [])) := Same.new nR
    have e1 : upd H R (.lst []) R = some (.lst (([] : List Str).map V.str)) := upd_same
    generalize upd H R (.lst []) = H1 at s1 e1 ⊢
    refine ⟨_, rfl, a, rfl, ⟨_, .of (s1 _ _ ha)⟩, ?_⟩
    refine for_it (walk_list (xs := ts.map V.ref)) (fun i σ h => ∃ (acc : List Str) (v2 v3 : Option V), σ = [some (.ref a), some (.ref R), v2, v3] ∧ acc = allC (tabs.take i) ∧ acc.length ≤ 8 * i ∧ h R = some (.lst (acc.map V.str)) ∧ Same H h)
      ⟨[], none, none, rfl, by rw [List.take_zero]; rfl, by simp, e1, s1⟩ (fun i σ h _ ⟨_, _, _, _, _, _, _, s⟩ => .of (s _ _ ha)) ?_ ?_
    · rintro i x σ h h' hi ⟨acc, v2, v3, rfl, hacc, lacc, eR, sh⟩ ⟨rfl, hx⟩
      rw [List.length_map] at hi
      obtain ⟨t, ht, rfl⟩ : ∃ a, ts[i]? = some a ∧ x = V.ref a := by
        rw [List.getElem?_map, List.getElem?_eq_getElem hi] at hx
        exact ⟨_, List.getElem?_eq_getElem hi, (Option.some.inj hx).symm⟩
      obtain ⟨p, hp, ta⟩ := pr_at hT ht
      have ta := ta.same sh
      obtain ⟨dx, l, r, as, h1, _, _, _⟩ := id ta.at_
      have c8 := ta.cok.le
      refine ⟨_, rfl, t, dx, _, rfl, h1, nocols _ _, t, p.1, p.2, rfl, ta.at_, fun h2 Lc s2 nLc eLc => ?_⟩
      refine ⟨Lc, rfl, ⟨_, .of eLc⟩, ?_⟩
      have RL : R ≠ Lc := ne_of_none eR nLc
      refine for_it (walk_list (xs := p.1.map V.str)) (fun j σ h => ∃ (acc2 : List Str) (v3 : Option V), σ = [some (.ref a), some (.ref R), some (.ref t), v3] ∧ acc2 = addNs acc (p.1.take j) ∧ h R = some (.lst (acc2.map V.str)) ∧ Same H h ∧ h Lc = some (.lst (p.1.map V.str)))
        ⟨acc, v3, rfl, by rw [List.take_zero]; rfl, s2 _ _ eR, sh.trans s2, eLc⟩ (fun j σ h _ ⟨_, _, _, _, _, _, e⟩ => .of e) ?_ ?_
      · rintro j x σ h3 h3' hj ⟨acc2, v3, rfl, ha2, eR3, sh3, eLc3⟩ ⟨rfl, hx⟩
        rw [List.length_map] at hj
        obtain ⟨m, hm, rfl⟩ : ∃ m, p.1[j]? = some m ∧ x = V.str m := by
          rw [List.getElem?_map, List.getElem?_eq_getElem hj] at hx
          exact ⟨_, List.getElem?_eq_getElem hj, (Option.some.inj hx).symm⟩
        have nx : addNs acc (p.1.take (j + 1)) = addN acc2 m := by
          rw [ha2]
          unfold addNs
          rw [List.take_add_one, hm, List.foldl_append]
          rfl
        have l2 := addNs_len acc (p.1.take j)
        rw [List.length_take, ← ha2] at l2
        refine ⟨_, rfl, _, rfl, R, _, rfl, .inl (.of eR3), rfl, TX.flat_strs _, _, rfl, ?_⟩
        rw [show (if true = true then !inV (V.str m) (acc2.map V.str) else inV (V.str m) (acc2.map V.str)) = !inV (V.str m) (acc2.map V.str) from rfl, inV_str]
        unfold addN at nx
        by_cases z : m ∈ acc2
        · rw [if_pos z] at nx
          rw [decide_eq_true z]
          exact ⟨acc2, _, rfl, nx.symm, eR3, sh3, eLc3⟩
        · rw [if_neg z] at nx
          rw [decide_eq_false z]
          refine ⟨_, rfl, .inl ⟨rfl, _, .inl (.inl eR3)⟩, _, rfl, R, _, _, rfl, rfl, eR3, by rw [List.length_map]; exact line100' (by omega), ?_⟩
          refine ⟨acc2 ++ [m], _, rfl, nx.symm, by rw [upd_same, List.map_append]; rfl, Same.mut sh3 nR, by rw [upd_ne RL.symm]; exact eLc3⟩
      · rintro σ h3 ⟨acc2, v3, rfl, ha2, eR3, sh3, eLc3⟩
        rw [List.length_map, List.take_length] at ha2
        have l2 := addNs_len acc p.1
        refine ⟨acc2, _, _, rfl, ?_, by rw [ha2]; omega, eR3, sh3⟩
        rw [ha2, hacc]
        unfold allC
        rw [List.take_add_one, hp, List.foldl_append]
        rfl
    · rintro σ h ⟨acc, v2, v3, rfl, hacc, lacc, eR, sh⟩
      rw [List.length_map, hal, List.take_length] at hacc
      subst hacc
      exact ⟨_, rfl, q h R sh nR eR⟩
end
end T07

set_option maxHeartbeats 2000000
namespace T07
open PySem L2 PyProof.Rows TX TY TW TD TB TG TUD TE TK TSD TMI TL2
/-! what joining tells -/
def er2 {α : Type} (i o : Nat) (l : List α) : List α := (l.eraseIdx o).eraseIdx i
theorem er2_step {α : Type} {i o : Nat} (h : i < o) (l : List α) (x : α) : er2 i o (l ++ [x]) = if l.length = i ∨ l.length = o then er2 i o l else er2 i o l ++ [x] := by
  unfold er2
  have la : (l ++ [x]).length = l.length + 1 := by rw [List.length_append]; rfl
  rcases Nat.lt_trichotomy l.length o with c | c | c
  · have e1 : (l ++ [x]).eraseIdx o = l ++ [x] := List.eraseIdx_of_length_le (by omega)
    have e2 : l.eraseIdx o = l := List.eraseIdx_of_length_le (by omega)
    rw [e1, e2]
    rcases Nat.lt_trichotomy l.length i with d | d | d
    · have e3 : (l ++ [x]).eraseIdx i = l ++ [x] := List.eraseIdx_of_length_le (by omega)
      have e4 : l.eraseIdx i = l := List.eraseIdx_of_length_le (by omega)
      rw [if_neg (by omega), e3, e4]
    · have e4 : l.eraseIdx i = l := List.eraseIdx_of_length_le (by omega)
      rw [if_pos (.inl d), e4, List.eraseIdx_append_of_length_le (by omega), d, Nat.sub_self]
      simp
    · rw [if_neg (by omega), List.eraseIdx_append_of_lt_length d]
  · have e2 : l.eraseIdx o = l := List.eraseIdx_of_length_le (by omega)
    have e1 : (l ++ [x]).eraseIdx o = l := by
      rw [List.eraseIdx_append_of_length_le (by omega), c, Nat.sub_self]
      simp
    rw [if_pos (.inr c), e1, e2]
  · have e1 : (l ++ [x]).eraseIdx o = l.eraseIdx o ++ [x] := List.eraseIdx_append_of_lt_length c _
    have : i < (l.eraseIdx o).length := by rw [List.length_eraseIdx, if_pos c]; omega
    rw [if_neg (by omega), e1, List.eraseIdx_append_of_lt_length this]
theorem er_perm {α : Type} {l : List α} {o : Nat} {x : α} (h : l[o]? = some x) : (x :: l.eraseIdx o).Perm l := by
  obtain ⟨ho, e⟩ := List.getElem?_eq_some_iff.mp h
  rw [List.eraseIdx_eq_take_drop_succ, ← e]
  refine List.perm_middle.symm.trans ?_
  rw [← List.drop_eq_getElem_cons ho, List.take_append_drop]
theorem er2_perm {α : Type} {l : List α} {i o : Nat} {x y : α} (h : i < o) (hx : l[i]? = some x) (hy : l[o]? = some y) : (x :: y :: er2 i o l).Perm l := by
  have h1 : (l.eraseIdx o)[i]? = some x := by
    rw [List.getElem?_eraseIdx_of_lt h]
    exact hx
  have a := er_perm h1
  have b := er_perm hy
  unfold er2
  exact (List.Perm.swap y x _).trans ((List.Perm.cons y a).trans b)
abbrev Tab := List Str × List (List Int)
def j2T (p q : Tab) : Tab := (j2C p.1 q.1, norm (j2R p.1 q.1 p.2 q.2))
def stepJ (tabs : Tabs) : Tabs := er2 (fewF tabs).1 (fewF tabs).2 tabs ++ [j2T (tabs.getD (fewF tabs).1 ([], [])) (tabs.getD (fewF tabs).2 ([], []))]
def loopJ : Nat → Tabs → Tabs
  | 0, tabs => tabs
  | n + 1, tabs => loopJ n (stepJ tabs)
def bnd : Tabs → Nat
  | [] => 1
  | p :: r => max 1 p.2.length * bnd r
theorem bnd_pos : ∀ l : Tabs, 1 ≤ bnd l
  | [] => Nat.le_refl _
  | p :: r => by
    show 1 ≤ max 1 p.2.length * bnd r
    exact Nat.le_trans (Nat.le_refl (1 * 1)) (Nat.mul_le_mul (Nat.le_max_left _ _) (bnd_pos r))
theorem bnd_perm {l m : Tabs} (h : l.Perm m) : bnd l = bnd m := by
  induction h with
  | nil => rfl
  | cons x _ ih => unfold bnd; rw [ih]
  | swap x y l => unfold bnd bnd; rw [← Nat.mul_assoc, ← Nat.mul_assoc, Nat.mul_comm (max 1 y.2.length)]
  | trans _ _ a b => exact a.trans b
theorem bnd_app (l : Tabs) (p : Tab) : bnd (l ++ [p]) = bnd l * max 1 p.2.length := by
  rw [bnd_perm (List.perm_append_singleton p l)]
  show max 1 p.2.length * bnd l = _
  rw [Nat.mul_comm]
theorem bnd_mem {l : Tabs} {p : Tab} (h : p ∈ l) : max 1 p.2.length ≤ bnd l := by
  induction l with
  | nil => cases h
  | cons q l ih =>
    unfold bnd
    rcases List.mem_cons.mp h with rfl | h
    · exact Nat.le_trans (Nat.le_of_eq (Nat.mul_one _).symm) (Nat.mul_le_mul_left _ (bnd_pos l))
    · exact Nat.le_trans (ih h) (Nat.le_trans (Nat.le_of_eq (Nat.one_mul _).symm) (Nat.mul_le_mul_right _ (Nat.le_max_left _ _)))
/-- the tables' columns are these -/
def Un (U : List Str) (tabs : Tabs) : Prop := ∀ x, x ∈ U ↔ ∃ p ∈ tabs, x ∈ p.1
theorem j2C_mem {cs ds : List Str} {x : Str} : x ∈ j2C cs ds ↔ x ∈ cs ∨ x ∈ ds := by
  unfold j2C
  rw [List.mem_append, fur_mem]
  constructor
  · rintro (h | ⟨h, _⟩)
    · exact .inl h
    · exact .inr h
  · rintro (h | h)
    · exact .inl h
    · by_cases z : x ∈ cs
      · exact .inl z
      · exact .inr ⟨h, z⟩
theorem step_parts {tabs : Tabs} (h : 2 ≤ tabs.length) : ∃ (i o : Nat) (p q : Tab), fewF tabs = (i, o) ∧ i < o ∧ o < tabs.length ∧ tabs[i]? = some p ∧ tabs[o]? = some q ∧ stepJ tabs = er2 i o tabs ++ [j2T p q] ∧ (p :: q :: er2 i o tabs).Perm tabs := by
  obtain ⟨m, i, o, _, hf, lt1, lt2, _⟩ := few_min h
  obtain ⟨p, hp⟩ : ∃ p, tabs[i]? = some p := ⟨_, List.getElem?_eq_getElem (by omega)⟩
  obtain ⟨q, hq⟩ : ∃ q, tabs[o]? = some q := ⟨_, List.getElem?_eq_getElem lt2⟩
  refine ⟨i, o, p, q, hf, lt1, lt2, hp, hq, ?_, er2_perm lt1 hp hq⟩
  unfold stepJ
  rw [hf, List.getD_eq_getElem?_getD, List.getD_eq_getElem?_getD, hp, hq]
  rfl
theorem step_len {tabs : Tabs} (h : 2 ≤ tabs.length) : (stepJ tabs).length + 1 = tabs.length := by
  obtain ⟨i, o, p, q, _, _, _, _, _, e, pm⟩ := step_parts h
  have := pm.length_eq
  rw [List.length_cons, List.length_cons] at this
  rw [e, List.length_append]
  show _ + 1 + 1 = _
  omega
theorem step_bnd {tabs : Tabs} (h : 2 ≤ tabs.length) : bnd (stepJ tabs) ≤ bnd tabs := by
  obtain ⟨i, o, p, q, _, _, _, _, _, e, pm⟩ := step_parts h
  rw [e, bnd_app, ← bnd_perm pm]
  show _ ≤ max 1 p.2.length * (max 1 q.2.length * bnd (er2 i o tabs))
  rw [Nat.mul_comm, ← Nat.mul_assoc]
  refine Nat.mul_le_mul_right _ ?_
  have a := j2R_len p.1 q.1 p.2 q.2
  have b := norm_len (j2R p.1 q.1 p.2 q.2)
  have c : p.2.length * q.2.length ≤ max 1 p.2.length * max 1 q.2.length := Nat.mul_le_mul (Nat.le_max_right _ _) (Nat.le_max_right _ _)
  have d : 1 ≤ max 1 p.2.length * max 1 q.2.length := Nat.le_trans (Nat.le_refl (1 * 1)) (Nat.mul_le_mul (Nat.le_max_left _ _) (Nat.le_max_left _ _))
  show max 1 (norm (j2R p.1 q.1 p.2 q.2)).length ≤ _
  omega
theorem step_un {U : List Str} {tabs : Tabs} (h : 2 ≤ tabs.length) (u : Un U tabs) : Un U (stepJ tabs) := by
  obtain ⟨i, o, p, q, _, _, _, _, _, e, pm⟩ := step_parts h
  intro x
  rw [u x, e]
  constructor
  · rintro ⟨z, hz, hx⟩
    rcases List.mem_cons.mp (pm.mem_iff.mpr hz) with rfl | hz
    · exact ⟨j2T z q, List.mem_append.mpr (.inr (List.mem_singleton.mpr rfl)), j2C_mem.mpr (.inl hx)⟩
    · rcases List.mem_cons.mp hz with rfl | hz
      · exact ⟨j2T p z, List.mem_append.mpr (.inr (List.mem_singleton.mpr rfl)), j2C_mem.mpr (.inr hx)⟩
      · exact ⟨z, List.mem_append.mpr (.inl hz), hx⟩
  · rintro ⟨z, hz, hx⟩
    rcases List.mem_append.mp hz with hz | hz
    · exact ⟨z, pm.mem_iff.mp (List.mem_cons_of_mem _ (List.mem_cons_of_mem _ hz)), hx⟩
    · rw [List.mem_singleton.mp hz] at hx
      rcases j2C_mem.mp hx with hx | hx
      · exact ⟨p, pm.mem_iff.mp List.mem_cons_self, hx⟩
      · exact ⟨q, pm.mem_iff.mp (List.mem_cons_of_mem _ List.mem_cons_self), hx⟩
theorem addNs_mem {acc cs : List Str} {x : Str} : x ∈ addNs acc cs ↔ x ∈ acc ∨ x ∈ cs := by
  unfold addNs
  induction cs generalizing acc with
  | nil => simp
  | cons c cs ih =>
    rw [List.foldl_cons, ih, List.mem_cons]
    unfold addN
    by_cases z : c ∈ acc
    · rw [if_pos z]
      constructor
      · rintro (h | h)
        · exact .inl h
        · exact .inr (.inr h)
      · rintro (h | rfl | h)
        · exact .inl h
        · exact .inl z
        · exact .inr h
    · rw [if_neg z, List.mem_append, List.mem_singleton, or_assoc]
theorem allC_un (tabs : Tabs) : Un (allC tabs) tabs := by
  have key : ∀ (tabs : Tabs) (acc : List Str) (x : Str), x ∈ tabs.foldl (fun acc p => addNs acc p.1) acc ↔ x ∈ acc ∨ ∃ p ∈ tabs, x ∈ p.1 := by
    intro tabs
    induction tabs with
    | nil => intro acc x; simp
    | cons p tabs ih =>
      intro acc x
      rw [List.foldl_cons, ih, addNs_mem]
      constructor
      · rintro ((h | h) | ⟨q, hq, h⟩)
        · exact .inl h
        · exact .inr ⟨p, List.mem_cons_self, h⟩
        · exact .inr ⟨q, List.mem_cons_of_mem _ hq, h⟩
      · rintro (h | ⟨q, hq, h⟩)
        · exact .inl (.inl h)
        · rcases List.mem_cons.mp hq with rfl | hq
          · exact .inl (.inr h)
          · exact .inr ⟨q, hq, h⟩
  intro x
  unfold allC
  rw [key]
  simp
end T07

set_option maxHeartbeats 4000000
namespace T07
open PySem L2 PyProof.Rows TX TY TW TD TB TG TUD TE TK TSD TMI TL2
def unitT : Tab := ([], [[]])
def finJ (l : Tabs) : Tab := (loopJ (l.length - 1) l).getD 0 ([], [])
theorem fin_step {l : Tabs} (h : 2 ≤ l.length) : finJ (stepJ l) = finJ l := by
  unfold finJ
  have := step_len h
  obtain ⟨n, hn⟩ : ∃ n, l.length = n + 2 := ⟨l.length - 2, by omega⟩
  rw [show l.length - 1 = n + 1 by omega, show (stepJ l).length - 1 = n by omega]
  rfl
def joinedR (tabs : Tabs) : List (List Int) := ofR (finJ (unitT :: tabs)).1 (allC tabs) (finJ (unitT :: tabs)).2
theorem norm_unit : norm [([] : List Int)] = [[]] := rfl
section
variable {P : Program} {w : World} {K : PySem.W.Frag} {mg : Str → Option Value} {base : Heap}
variable {fW fN fA fR fK fS : Addr} {dW dN dA dR dK dS : FuncData}
variable {fP fQ fM fV fC fJ fI fL fO fF fX : Addr} {dP dQ dM dV dC dJ dI' dL dO dF dX : FuncData}
variable {C hc hr : Addr} {gc gr : FuncData}
abbrev N_joined : List Str := ["tables", "columns", "parts", "one", "other", "at", "part", "rest"]
theorem sc_joined : FnScope N_joined ["tables"] (defScope s_joined) := ⟨rfl, rfl, rfl, by decide +kernel, rfl, by decide +kernel, by decide +kernel⟩
theorem noof (l r : Addr) : (bflds l r).lookup ("of" : Str) = none := bflds_no l r (by decide +kernel) (by decide +kernel)
theorem pr_erase {α β : Type} {R : α → β → Prop} {as : List α} {bs : List β} (h : Paired R as bs) (k : Nat) : Paired R (as.eraseIdx k) (bs.eraseIdx k) := by
  induction h generalizing k with
  | nil => cases k <;> exact .nil
  | cons x t ih =>
    cases k with
    | zero => exact t
    | succ k => exact .cons x (ih k)
theorem pr_er2 {α β : Type} {R : α → β → Prop} {as : List α} {bs : List β} (h : Paired R as bs) (i o : Nat) : Paired R (er2 i o as) (er2 i o bs) := pr_erase (pr_erase h o) i
theorem in_two (k i o : Nat) : inV (V.int (k : Int)) [V.int (i : Int), V.int (o : Int)] = decide (k = i ∨ k = o) := by
  show (eqV (V.int (i : Int)) (V.int (k : Int)) || (eqV (V.int (o : Int)) (V.int (k : Int)) || false)) = _
  have e : ∀ a b : Nat, eqV (V.int (a : Int)) (V.int (b : Int)) = decide (b = a) := fun a b => by
    show ((a : Int) == (b : Int)) = _
    rw [Bool.eq_iff_iff, beq_iff_eq, decide_eq_true_iff]
    omega
  rw [e, e, Bool.or_false, Bool.eq_iff_iff, Bool.or_eq_true, decide_eq_true_iff, decide_eq_true_iff, decide_eq_true_iff]
def sp_joined (C : Addr) : Sp := fun vs H Q _ => ∃ (a : Addr) (ts : List Addr) (tabs : Tabs), vs = [.ref a] ∧ H a = some (.lst (ts.map V.ref)) ∧ TasAt C H ts tabs ∧ tabs.length ≤ 7 ∧ Cs (allC tabs) ∧ bnd tabs ≤ 1900 ∧
  ∀ H' p, Same H H' → TabN C H H' p (allC tabs) (joinedR tabs) → Ta C H' p (allC tabs) (joinedR tabs) → Q (.ref p) H'
theorem ok_joined (F : Fn K mg "joined" s_joined ["tables"] fX dX) (FL : Fn K mg "_all_columns" s_allcols ["tables"] fL dL) (FF : Fn K mg "_fewest_together" s_fewest ["parts"] fF dF) (FJ : Fn K mg "_joined_two" s_joinedtwo ["one", "other"] fJ dJ) (Of : Mt K C "of" "Table.of" s_bof ["self", "columns"] fO dO)
    (T : Kt K mg fW fN fA fR fK fS dW dN dA dR dK dS) (I : Im K mg C fI dI') (J : Jd K mg C hc hr fP fQ fM fV fC gc gr dP dQ dM dV dC) : FnOk P w K mg base CX0 7 fX dX ["tables"] (sp_joined C) := by
  have B := J.B
  have D := J.t
  have c := D.c
  have GI : FnOk P w K mg base CX0 4 fI dI' ["self", "columns", "rows"] (sp_binit C) := ok_binit I.iF T c
  have GL : FnOk P w K mg base CX0 2 fL dL ["tables"] (sp_all C) := ok_all FL B D
  have GF : FnOk P w K mg base CX0 5 fF dF ["parts"] (sp_few C) := ok_few FF J
  have GJ : FnOk P w K mg base CX0 6 fJ dJ ["one", "other"] (sp_j2 C) := ok_j2 FJ T I J
  have GO : FnOk P w K mg base CX0 6 fO dO ["self", "columns"] (sp_ofV C) := ok_ofV Of.F T I J
  refine F.F.ok sc_joined (fun vs H Q E h => ?_) (fun cdv A outer s H vs Q E hr h => ?_)
  · obtain ⟨a, ts, tabs, rfl, _⟩ := h
    rfl
  · obtain ⟨a, ts, tabs, rfl, ha, hT, h4, hU, hB, q⟩ := h
    have nd := sc_joined.nd
    have r2 : Room 2 _ := hr.mono (by decide)
    have r5 : Room 5 _ := hr.mono (by decide)
    obtain ⟨t8, hm8⟩ := T.C.most
    refine ⟨_, pss_cons (ps_set (i := 1) nd rfl (Or.inl rfl) (pe_call GL r2 rfl FL.g FL.F.kp FL.b .nil pass0 (pa_cons (pv 0) pa_nil)))
      (pss_cons (ps_if (pt_cmpR op_gt (pe_callB call_len_seq (by rfl) B.len PySem.boot_len (pa_cons (pv 1) pa_nil)) (pe_glob (v := .int 8) (by rfl) hm8 ⟨_, rfl⟩) (nomark _)) (pss_one ps_never) pss_nil)
      (pss_cons (ps_set (i := 2) nd rfl (Or.inl rfl) (pe_op op_cat (pe_lst (pa_cons (pe_make I.iM GI r5 rfl c.g I.iB .nil pass0 (pa_cons (pe_lst pa_nil) (pa_cons (pe_lst (pa_cons (pe_tup pa_nil) pa_nil)) pa_nil))) pa_nil)) (pv 0)))
      (pss_cons (ps_while PassesOwn.never (pt_cmpR op_gt (pe_callB call_len_seq (by rfl) B.len PySem.boot_len (pa_cons (pv 2) pa_nil)) pe_int (nomark _))
        (pss_cons (ps_asg (pe_call GF r5 rfl FF.g FF.F.kp FF.b .nil pass0 (pa_cons (pv 2) pa_nil)) (pg_tup rfl (pgs_cons (pg_name (i := 3) nd rfl (Or.inr rfl)) (pgs_cons (pg_name (i := 4) nd rfl (Or.inr rfl)) pgs_nil))))
        (pss_cons (ps_setLc (i := 7) (own := [("at", 5), ("part", 6)]) (g := gTup K 2 (gCons (gName 5) (gCons (gName 6) gNil))) (tt := tTest (tOp (rIn K true) (tVar 5) (tTup (tCons (tVar 3) (tCons (tVar 4) tNil))))) (te := tVar 6) (by rfl) nd rfl rfl (sw_true rfl rfl rfl (by decide +kernel)) (pi_enum rfl B.enum (pa_cons (pv 2) pa_nil)) (blkOk_by (N := N_joined) (sc := defScope s_joined) (by decide +kernel))
            (fun _ _ _ _ _ => pg_tup rfl (pgs_cons (pg_name (i := 5) nd rfl (Or.inl rfl)) (pgs_cons (pg_name (i := 6) nd rfl (Or.inl rfl)) pgs_nil))) (fun _ _ _ _ _ => pts_one (pt_cmpR op_notIn_seq (pv 5) (pe_tup (pa_cons (pv 3) (pa_cons (pv 4) pa_nil))) rfl)) (fun _ _ _ _ _ => pv 6))
        (pss_one (ps_set (i := 2) nd rfl (Or.inl rfl) (pe_op op_cat (pv 7) (pe_lst (pa_cons (pe_call GJ hr rfl FJ.g FJ.F.kp FJ.b .nil pass0 (pa_cons (pe_ix ix_list (pv 2) (pv 3) (fun _ _ => rfl)) (pa_cons (pe_ix ix_list (pv 2) (pv 4) (fun _ _ => rfl)) pa_nil))) pa_nil))))))))
      (pss_one (ps_ret (pe_meth (pe_ix ix_list (pv 2) pe_int (fun _ _ => rfl)) c.cl Of.me GO hr Of.b .nil pass0 (pa_cons (pv 1) pa_nil))))))), ?_⟩
    have hal := Paired.length hT
    have hlU := hU.le
    refine ⟨_, rfl, a, ts, tabs, rfl, ha, hT, by omega, fun H1 Lc s1 nLc eLc => ?_⟩
    refine ⟨_, rfl, Lc, _, rfl, .inl (.of eLc), _, _, rfl, rfl, _, rfl, ?_⟩
    rw [decide_eq_false (show ¬ (8 : Int) < (((allC tabs).map V.str).length : Int) by rw [List.length_map]; omega)]
    dsimp only
    rw [if_neg Bool.false_ne_true]
    -- the table without columns
    refine ⟨by decide, fun E0' nE => ?_⟩
    have sE : Same H (upd H1 E0' (.lst [])) := s1.trans (Same.new nE)
    have eE : upd H1 E0' (.lst []) E0' = some (.lst (([] : List Str).map V.str)) := upd_same
    have eLc2 : upd H1 E0' (.lst []) Lc = some (.lst ((allC tabs).map V.str)) := (Same.new nE) _ _ eLc
    generalize upd H1 E0' (.lst []) = H2 at sE eE eLc2 ⊢
    refine ⟨by decide, fun U nU => ?_⟩
    have sU : Same H2 (upd H2 U (.tup [])) := Same.new nU
    have eU : upd H2 U (.tup []) U = some (.tup (([] : List Int).map V.int)) := upd_same
    generalize upd H2 U (.tup []) = H3 at sU eU ⊢
    refine ⟨by show 1 ≤ sizeLine; decide, fun R nR => ?_⟩
    have sR : Same H3 (upd H3 R (.lst [.ref U])) := Same.new nR
    have eR : upd H3 R (.lst [.ref U]) R = some (.lst ([U].map V.ref)) := upd_same
    generalize upd H3 R (.lst [.ref U]) = H4 at sR eR ⊢
    intro x dx nx ndx hne
    have sx : Same H4 (upd (upd H4 dx (.own x)) x (.ins C dx [])) := fun c o e => by rw [upd_ne (ne_of_none e nx), upd_ne (ne_of_none e ndx)]; exact e
    have cs0 : Cs [] := ⟨List.nodup_nil, by decide, fun x hx => nomatch hx⟩
    refine ⟨x, E0', dx, .ref R, [], [U], [[]], rfl, upd_same, sx _ _ ((sU.trans sR) _ _ eE), cs0, .inr ⟨R, rfl, sx _ _ eR, .cons (sx _ _ (sR _ _ eU)) .nil⟩, ⟨fun r hr => by rw [List.mem_singleton.mp hr]; rfl, by decide⟩, fun H5 tb keep => ⟨rfl, ?_⟩⟩
    have s5 : Same H H5 := (sE.trans (sU.trans sR)).trans fun c o e => keep c o (ne_of_none e nx) (sx _ _ e)
    have eLc5 : H5 Lc = some (.lst ((allC tabs).map V.str)) := by
      have e := (sU.trans sR) _ _ eLc2
      exact keep _ _ (ne_of_none e nx) (sx _ _ e)
    have tu : Ta C H5 x [] [[]] := ⟨tb.tab, cs0, fun r hr => by rw [List.mem_singleton.mp hr]; rfl, by decide⟩
    clear sE eE eLc2 sU eU sR eR sx keep tb
    refine ⟨by show 1 ≤ sizeLine; decide, fun L1 nL1 => ?_⟩
    have sL : Same H5 (upd H5 L1 (.lst [.ref x])) := Same.new nL1
    have eL1 : upd H5 L1 (.lst [.ref x]) L1 = some (.lst ([x].map V.ref)) := upd_same
    generalize upd H5 L1 (.lst [.ref x]) = H6 at sL eL1 ⊢
    refine ⟨_, rfl, L1, a, _, _, rfl, rfl, eL1, (s5.trans sL) _ _ ha, by rw [List.length_map, List.length_map]; show 1 + _ ≤ sizeLine; exact line100 (by omega), fun Pt nPt => ?_⟩
    have sP : Same H6 (upd H6 Pt (.lst ([x].map V.ref ++ ts.map V.ref))) := Same.new nPt
    have eP : upd H6 Pt (.lst ([x].map V.ref ++ ts.map V.ref)) Pt = some (.lst ((x :: ts).map V.ref)) := by rw [upd_same]; rfl
    have s7 : Same H (upd H6 Pt (.lst ([x].map V.ref ++ ts.map V.ref))) := (s5.trans sL).trans sP
    have T7 : TasAt C (upd H6 Pt (.lst ([x].map V.ref ++ ts.map V.ref))) (x :: ts) (unitT :: tabs) := .cons (tu.same (sL.trans sP)) (hT.same s7)
    have eLc7 := (sL.trans sP) _ _ eLc5
    show tSeq _ _ _ _ (upd H6 Pt (.lst ([x].map V.ref ++ ts.map V.ref)))
    generalize upd H6 Pt (.lst ([x].map V.ref ++ ts.map V.ref)) = H7 at eP s7 T7 eLc7 ⊢
    have un0 : Un (allC tabs) (unitT :: tabs) := fun z => by
      rw [allC_un tabs z]
      constructor
      · rintro ⟨p, hp, h⟩
        exact ⟨p, List.mem_cons_of_mem _ hp, h⟩
      · rintro ⟨p, hp, h⟩
        rcases List.mem_cons.mp hp with rfl | hp
        · cases h
        · exact ⟨p, hp, h⟩
    have b0 : bnd (unitT :: tabs) ≤ 1900 := by
      show max 1 1 * bnd tabs ≤ 1900
      rw [Nat.max_self, Nat.one_mul]
      exact hB
    refine ⟨fun m σ h => ∃ (Pt : Addr) (ts' : List Addr) (l : Tabs) (v3 v4 v7 : Option V), σ = [some (.ref a), some (.ref Lc), some (.ref Pt), v3, v4, none, none, v7] ∧ h Pt = some (.lst (ts'.map V.ref)) ∧ TasAt C h ts' l ∧ l.length = m ∧ 1 ≤ m ∧ m ≤ 8 ∧ Un (allC tabs) l ∧ bnd l ≤ 1900 ∧ finJ l = finJ (unitT :: tabs) ∧ Same H h ∧ h Lc = some (.lst ((allC tabs).map V.str)),
      ⟨_, Pt, x :: ts, unitT :: tabs, none, none, none, rfl, eP, T7, rfl, by rw [List.length_cons]; omega, by rw [List.length_cons]; omega, un0, b0, rfl, s7, eLc7⟩, ?_⟩
    clear eP s7 T7 eLc7 un0 b0 sP sL eL1 nPt nL1 tu s5 eLc5 nx ndx hne nR nU nE
    rintro m σ h ⟨Pt, ts', l, v3, v4, v7, rfl, eP, hTl, rfl, m1, m6, un, bl, fl, sh, eLch⟩
    have hl := Paired.length hTl
    refine ⟨_, rfl, Pt, _, rfl, .inl (.of eP), _, _, rfl, rfl, _, rfl, ?_⟩
    by_cases h2 : 2 ≤ l.length
    · rw [decide_eq_true (show (1 : Int) < ((ts'.map V.ref).length : Int) by rw [List.length_map]; omega)]
      show (if true = true then _ else _)
      rw [if_pos rfl]
      obtain ⟨i, o, pp, qq, hf, lt1, lt2, hpp, hqq, est, pm⟩ := step_parts h2
      refine ⟨_, fun σ' H' hh => ⟨l.length - 1, by omega, hh⟩, ?_⟩
      refine ⟨_, rfl, Pt, ts', l, rfl, eP, hTl, h2, m6, fun h3 p s3 ep => ?_⟩
      rw [hf] at ep
      refine ⟨p, _, rfl, .of ep, rfl, _, _, rfl, _, _, rfl, rfl, ?_⟩
      dsimp only [gName]
      have eP3 := s3 _ _ eP
      have hT3 := hTl.same s3
      refine sq_asg ?_
      refine ⟨_, rfl, Pt, ts'.map V.ref, rfl, .of eP3, fun Dn nDn => ?_⟩
      refine lc_it (walk_enum (xs := ts'.map V.ref)) (fun k h4 => h4 Dn = some (.lst ((er2 i o (ts'.take k)).map V.ref)) ∧ Same h3 h4) ⟨by unfold er2; rw [List.take_zero]; simp [upd_same], Same.new nDn⟩ (fun k h4 _ ⟨_, s⟩ => .of (s _ _ eP3)) ?_ ?_
      · rintro k v h4 h4' hk ⟨eD, s4⟩ ⟨T', x1, x2, rfl, nT, rfl, hx1, hx2⟩
        rw [List.length_map] at hk
        obtain rfl : V.int ((k : Nat) : Int) = x1 := Option.some.inj hx1
        obtain ⟨t, ht, rfl⟩ : ∃ t, ts'[k]? = some t ∧ x2 = V.ref t := by
          have h2 : (ts'.map V.ref)[k]? = some x2 := hx2
          rw [List.getElem?_map, List.getElem?_eq_getElem hk] at h2
          exact ⟨_, List.getElem?_eq_getElem hk, (Option.some.inj h2).symm⟩
        have nx : er2 i o (ts'.take (k + 1)) = if k = i ∨ k = o then er2 i o (ts'.take k) else er2 i o (ts'.take k) ++ [t] := by
          have e := er2_step lt1 (ts'.take k) t
          rw [List.length_take, Nat.min_eq_left (by omega)] at e
          rw [List.take_add_one, ht]
          exact e
        have s5 : Same h3 (upd h4 T' (.tup [.int ((k : Nat) : Int), .ref t])) := s4.trans (Same.new nT)
        have eD5 : upd h4 T' (.tup [.int ((k : Nat) : Int), .ref t]) Dn = some (.lst ((er2 i o (ts'.take k)).map V.ref)) := (Same.new nT) _ _ eD
        refine ⟨T', _, rfl, .of upd_same, rfl, _, _, rfl, _, _, rfl, rfl, rfl, ?_⟩
        generalize upd h4 T' (.tup [.int ((k : Nat) : Int), .ref t]) = h5 at s5 eD5 ⊢
        refine ⟨_, rfl, _, rfl, _, rfl, two_le, fun p2 np2 => ?_⟩
        refine ⟨p2, [V.int (i : Nat), V.int (o : Nat)], rfl, .inr (.of upd_same), rfl, rfl, _, rfl, ?_⟩
        have s6 : Same h3 (upd h5 p2 (.tup [V.int (i : Nat), V.int (o : Nat)])) := s5.trans (Same.new np2)
        have eD6 : upd h5 p2 (.tup [V.int (i : Nat), V.int (o : Nat)]) Dn = some (.lst ((er2 i o (ts'.take k)).map V.ref)) := (Same.new np2) _ _ eD5
        show (fun b H3 => if b = true then _ else _) (!inV (V.int (k : Int)) [V.int (i : Int), V.int (o : Int)]) (upd h5 p2 (.tup [V.int (i : Nat), V.int (o : Nat)]))
        generalize upd h5 p2 (.tup [V.int (i : Nat), V.int (o : Nat)]) = h6 at s6 eD6 ⊢
        rw [in_two]
        by_cases z : k = i ∨ k = o
        · rw [if_pos z] at nx
          rw [decide_eq_true z]
          show (if (!true) = true then _ else _)
          rw [if_neg (by decide), nx]
          exact ⟨eD6, s6⟩
        · rw [if_neg z] at nx
          rw [decide_eq_false z]
          show (if (!false) = true then _ else _)
          rw [if_pos (by rfl)]
          refine ⟨_, rfl, _, eD6, ?_, ?_, Same.mut s6 nDn⟩
          · rw [List.length_map]
            have : (er2 i o (ts'.take k)).length ≤ 8 := by
              unfold er2
              have a := List.length_eraseIdx_le (ts'.take k) o
              have b := List.length_eraseIdx_le ((ts'.take k).eraseIdx o) i
              rw [List.length_take] at a
              omega
            exact line100' (by omega)
          · rw [upd_same, nx, List.map_append]
            rfl
      rintro h4 ⟨eD, s4⟩
      rw [List.length_map, List.take_length] at eD
      have s34 := s3.trans s4
      have eP4 := s4 _ _ eP3
      have hT4 := hT3.same s4
      obtain ⟨t1, ht1, ta1⟩ := pr_by hT4 hpp
      obtain ⟨t2, ht2, ta2⟩ := pr_by hT4 hqq
      dsimp only [gName]
      have cj : Cs (j2C pp.1 qq.1) := j2C_cs ta1.cok ta2.cok (U := allC tabs) (fun z hz => (un z).mpr (by
        rcases hz with hz | hz
        · exact ⟨pp, List.mem_of_getElem? hpp, hz⟩
        · exact ⟨qq, List.mem_of_getElem? hqq, hz⟩)) hlU
      have prod : pp.2.length * qq.2.length ≤ 1900 := by
        have e := bnd_perm pm
        have e2 : bnd (pp :: qq :: er2 i o l) = max 1 pp.2.length * (max 1 qq.2.length * bnd (er2 i o l)) := rfl
        have a : pp.2.length * qq.2.length ≤ max 1 pp.2.length * (max 1 qq.2.length * bnd (er2 i o l)) :=
          Nat.mul_le_mul (Nat.le_max_right _ _) (Nat.le_trans (Nat.le_max_right 1 _) (Nat.le_trans (Nat.le_of_eq (Nat.mul_one _).symm) (Nat.mul_le_mul_left _ (bnd_pos _))))
        omega
      refine ⟨_, rfl, _, rfl, _, rfl, Pt, _, _, .ref t1, rfl, rfl, .of eP4, atI_nat (by rw [List.getElem?_map, ht1]; rfl), _, rfl, _, rfl, Pt, _, _, .ref t2, rfl, rfl, .of eP4, atI_nat (by rw [List.getElem?_map, ht2]; rfl), ?_⟩
      refine ⟨t1, t2, _, _, _, _, rfl, ta1, ta2, cj, prod, fun h6 pj s6 taj => ⟨by show 1 ≤ sizeLine; decide, fun L2' nL2 => ?_⟩⟩
      have eD6 := s6 _ _ eD
      have elen : (er2 i o ts').length ≤ 8 := by
        unfold er2
        have a := List.length_eraseIdx_le ts' o
        have b := List.length_eraseIdx_le (ts'.eraseIdx o) i
        omega
      refine ⟨Dn, L2', _, _, rfl, rfl, by rw [upd_ne (ne_of_none eD6 nL2)]; exact eD6, upd_same, by rw [List.length_map]; show _ + 1 ≤ sizeLine; exact line100 (by omega), fun P2 nP2 => ?_⟩
      have s7 : Same h6 (upd (upd h6 L2' (.lst [.ref pj])) P2 (.lst ((er2 i o ts').map V.ref ++ [.ref pj]))) := (Same.new nL2).trans (Same.new nP2)
      have s8 : Same h (upd (upd h6 L2' (.lst [.ref pj])) P2 (.lst ((er2 i o ts').map V.ref ++ [.ref pj]))) := s34.trans (s6.trans s7)
      have sl := step_len h2
      refine ⟨P2, er2 i o ts' ++ [pj], stepJ l, _, _, _, rfl, by rw [upd_same, List.map_append]; rfl, ?_, by omega, by omega, by omega, step_un h2 un, Nat.le_trans (step_bnd h2) bl, (fin_step h2).trans fl, sh.trans s8, s8 _ _ eLch⟩
      rw [est]
      exact pr_snoc ((TasAt.same (pr_er2 hT4 i o) s6).same s7) (taj.same s7)
    · rw [decide_eq_false (show ¬ (1 : Int) < ((ts'.map V.ref).length : Int) by rw [List.length_map]; omega)]
      show (if false = true then _ else _)
      rw [if_neg Bool.false_ne_true]
      obtain ⟨pp, rfl⟩ : ∃ pp, l = [pp] := by
        cases l with
        | nil => exact absurd m1 (by decide)
        | cons pp r =>
          cases r with
          | nil => exact ⟨pp, rfl⟩
          | cons _ _ => exact absurd (show 2 ≤ _ from by rw [List.length_cons, List.length_cons]; omega) h2
      obtain ⟨t, ht, ta⟩ := pr_by hTl (i := 0) (b := pp) rfl
      obtain ⟨dxt, lt, rt, ast, h1', _, _, _⟩ := id ta.at_
      refine ⟨_, rfl, Pt, _, 0, .ref t, rfl, rfl, .of eP, (show atI (ts'.map V.ref) ((0 : Nat) : Int) = some (V.ref t) from atI_nat (by rw [List.getElem?_map, ht]; rfl)), t, dxt, _, rfl, h1', noof _ _, _, rfl, ?_⟩
      refine ⟨t, Lc, pp.1, allC tabs, pp.2, rfl, ta, eLch, hU, fun m hm => ?_, fun H' p s tn tp => ?_⟩
      · obtain ⟨p, hp, h⟩ := (un m).mp hm
        rw [List.mem_singleton.mp hp] at h
        exact h
      · have e : finJ [pp] = pp := rfl
        rw [e] at fl
        have e2 : joinedR tabs = ofR pp.1 (allC tabs) pp.2 := by
          unfold joinedR
          rw [← fl]
        exact q H' p (sh.trans s) (by rw [e2]; exact tn.back sh) (by rw [e2]; exact tp)
end
end T07

set_option maxHeartbeats 2000000
namespace T07
open PySem L2 PyProof.Rows TX TY TW TD TB TG TUD TE TK TSD TMI TL2
/-! what is joined: a row, told by what stands at each name -/
/-- columns unlike, rows of as many values -/
def Wf (p : Tab) : Prop := p.1.Nodup ∧ ∀ r ∈ p.2, r.length = p.1.length
def Sat (l : Tabs) (f : Str → Int) : Prop := ∀ p ∈ l, p.1.map f ∈ p.2
theorem pck_map {cs ms : List Str} (f : Str → Int) (h : ∀ m ∈ ms, m ∈ cs) : pck (plc cs ms) (cs.map f) = ms.map f := by
  unfold pck plc
  rw [List.map_map]
  refine List.map_congr_left fun m hm => ?_
  have hi : cs.idxOf m < cs.length := List.idxOf_lt_length_of_mem (h m hm)
  show (cs.map f).getD (cs.idxOf m) 0 = f m
  rw [List.getD_eq_getElem?_getD, List.getElem?_map, List.getElem?_eq_getElem hi, List.getElem_idxOf hi]
  rfl
theorem row_fun {cs : List Str} {r : List Int} (nd : cs.Nodup) (hl : r.length = cs.length) : ∃ f : Str → Int, r = cs.map f := by
  refine ⟨fun x => r.getD (cs.idxOf x) 0, List.ext_getElem (by rw [List.length_map, hl]) fun i h1 h2 => ?_⟩
  rw [List.getElem_map]
  have hi : i < cs.length := by omega
  have e : cs.idxOf cs[i] = i := List.Nodup.idxOf_getElem nd i hi
  rw [e, List.getD_eq_getElem?_getD, List.getElem?_eq_getElem h1]
  rfl
theorem map_eq_on {cs : List Str} {f g : Str → Int} (h : cs.map f = cs.map g) {x : Str} (hx : x ∈ cs) : f x = g x := List.map_inj_left.mp h x hx
/-- groups: each row stands in its key's -/
structure GOk (ks : List Nat) (rs : List (List Int)) (g : List (List Int × List (List Int))) : Prop where
  nd : (g.map (·.1)).Nodup
  mem : ∀ p ∈ g, ∀ r, r ∈ p.2 ↔ r ∈ rs ∧ pck ks r = p.1
  all : ∀ r ∈ rs, ∃ p ∈ g, p.1 = pck ks r
theorem GOk.step {ks : List Nat} {rs : List (List Int)} {g : List (List Int × List (List Int))} (h : GOk ks rs g) (r : List Int) : GOk ks (rs ++ [r]) (addG g (pck ks r) r) := by
  refine ⟨addG_keys h.nd, fun p hp x => ?_, fun x hx => ?_⟩
  · unfold addG at hp
    rw [List.mem_append, List.mem_singleton]
    by_cases e : g.any (fun p => decide (p.1 = pck ks r)) = true
    · rw [if_pos e] at hp
      obtain ⟨q, hq, rfl⟩ := List.mem_map.mp hp
      have m := h.mem q hq x
      by_cases z : q.1 = pck ks r
      · rw [if_pos z]
        show x ∈ q.2 ++ [r] ↔ _ ∧ pck ks x = q.1
        rw [List.mem_append, List.mem_singleton, m]
        constructor
        · rintro (⟨a, b⟩ | rfl)
          · exact ⟨.inl a, b⟩
          · exact ⟨.inr rfl, z.symm⟩
        · rintro ⟨a | a, b⟩
          · exact .inl ⟨a, b⟩
          · exact .inr a
      · rw [if_neg z, m]
        constructor
        · rintro ⟨a, b⟩
          exact ⟨.inl a, b⟩
        · rintro ⟨a | rfl, b⟩
          · exact ⟨a, b⟩
          · exact absurd b.symm z
    · rw [if_neg e] at hp
      have no : ∀ q ∈ g, q.1 ≠ pck ks r := fun q hq z => e (List.any_eq_true.mpr ⟨q, hq, decide_eq_true z⟩)
      rcases List.mem_append.mp hp with hq | hq
      · rw [h.mem p hq x]
        constructor
        · rintro ⟨a, b⟩
          exact ⟨.inl a, b⟩
        · rintro ⟨a | e2, b⟩
          · exact ⟨a, b⟩
          · exact absurd (b.symm.trans (by rw [e2])) (no p hq)
      · rw [List.mem_singleton.mp hq]
        show x ∈ [r] ↔ _ ∧ pck ks x = pck ks r
        rw [List.mem_singleton]
        constructor
        · rintro rfl
          exact ⟨.inr rfl, rfl⟩
        · rintro ⟨a | a, b⟩
          · obtain ⟨q, hq, z⟩ := h.all x a
            exact absurd (z.trans b) (no q hq)
          · exact a
  · unfold addG
    by_cases e : g.any (fun p => decide (p.1 = pck ks r)) = true
    · rw [if_pos e]
      have key : ∀ q ∈ g, ∃ p ∈ g.map (fun p => if p.1 = pck ks r then (p.1, p.2 ++ [r]) else p), p.1 = q.1 := fun q hq => ⟨_, List.mem_map.mpr ⟨q, hq, rfl⟩, by split <;> rfl⟩
      rcases List.mem_append.mp hx with hx | hx
      · obtain ⟨q, hq, z⟩ := h.all x hx
        obtain ⟨p, hp, y⟩ := key q hq
        exact ⟨p, hp, y.trans z⟩
      · obtain ⟨q, hq, z⟩ := List.any_eq_true.mp e
        obtain ⟨p, hp, y⟩ := key q hq
        rw [List.mem_singleton.mp hx]
        exact ⟨p, hp, y.trans (of_decide_eq_true z)⟩
    · rw [if_neg e]
      rcases List.mem_append.mp hx with hx | hx
      · obtain ⟨q, hq, z⟩ := h.all x hx
        exact ⟨q, List.mem_append_left _ hq, z⟩
      · rw [List.mem_singleton.mp hx]
        exact ⟨_, List.mem_append_right _ (List.mem_singleton.mpr rfl), rfl⟩
theorem groups_ok (ks : List Nat) (rs : List (List Int)) : GOk ks rs (groups ks rs) := by
  have key : ∀ (rs dn : List (List Int)) (g : List (List Int × List (List Int))), GOk ks dn g → GOk ks (dn ++ rs) (rs.foldl (fun g r => addG g (pck ks r) r) g) := by
    intro rs
    induction rs with
    | nil => intro dn g h; rw [List.append_nil]; exact h
    | cons r rs ih =>
      intro dn g h
      have := ih (dn ++ [r]) _ (h.step r)
      rw [List.append_assoc] at this
      exact this
  have := key rs [] [] ⟨List.nodup_nil, fun p hp => (nomatch hp), fun r hr => (nomatch hr)⟩
  rwa [List.nil_append] at this
theorem valG_of {g : List (List Int × List (List Int))} {p : List Int × List (List Int)} (n : (g.map (·.1)).Nodup) (h : p ∈ g) : valG g p.1 = some p.2 := by
  unfold valG
  induction g with
  | nil => cases h
  | cons q g ih =>
    rw [List.map_cons, List.nodup_cons] at n
    rw [List.find?_cons]
    rcases List.mem_cons.mp h with rfl | h
    · rw [decide_eq_true rfl]
      rfl
    · rw [decide_eq_false fun z => n.1 (List.mem_map.mpr ⟨p, h, z.symm⟩)]
      exact ih n.2 h
/-- two tables' rows together -/
theorem j2R_mem {cs ds : List Str} {rs qs : List (List Int)} {x : List Int} : x ∈ j2R cs ds rs qs ↔ ∃ r ∈ rs, ∃ q ∈ qs, pck (plc cs (comC cs ds)) r = pck (plc ds (comC cs ds)) q ∧ x = r ++ pck (plc ds (furC cs ds)) q := by
  have g1 := groups_ok (plc cs (comC cs ds)) rs
  have g2 := groups_ok (plc ds (comC cs ds)) qs
  unfold j2R rowsJ grp
  generalize groups (plc cs (comC cs ds)) rs = G1 at g1 ⊢
  generalize groups (plc ds (comC cs ds)) qs = G2 at g2 ⊢
  rw [List.mem_flatMap]
  constructor
  · rintro ⟨p, hp, hx⟩
    unfold rowsK at hx
    obtain ⟨r, hr, hx⟩ := List.mem_flatMap.mp hx
    obtain ⟨q, hq, rfl⟩ := List.mem_map.mp hx
    obtain ⟨a, b⟩ := (g1.mem p hp r).mp hr
    cases hv : valG G2 p.1 with
    | none =>
      rw [hv] at hq
      cases hq
    | some l =>
      rw [hv] at hq
      obtain ⟨c, d⟩ := (g2.mem _ (valG_mem hv) q).mp hq
      exact ⟨r, a, q, c, b.trans d.symm, rfl⟩
  · rintro ⟨r, hr, q, hq, e, rfl⟩
    obtain ⟨p, hp, ep⟩ := g1.all r hr
    obtain ⟨p2, hp2, ep2⟩ := g2.all q hq
    refine ⟨p, hp, List.mem_flatMap.mpr ⟨r, (g1.mem p hp r).mpr ⟨hr, ep.symm⟩, List.mem_map.mpr ⟨q, ?_, rfl⟩⟩⟩
    have : valG G2 p.1 = some p2.2 := by
      rw [ep, e, ← ep2]
      exact valG_of g2.nd hp2
    rw [this]
    exact (g2.mem p2 hp2 q).mpr ⟨hq, ep2.symm⟩
theorem j2_sat {p q : Tab} (wp : Wf p) (wq : Wf q) (f : Str → Int) : (j2C p.1 q.1).map f ∈ j2R p.1 q.1 p.2 q.2 ↔ p.1.map f ∈ p.2 ∧ q.1.map f ∈ q.2 := by
  rw [j2R_mem]
  have c1 : ∀ m ∈ comC p.1 q.1, m ∈ p.1 := fun m hm => (comC_sub hm).1
  have c2 : ∀ m ∈ comC p.1 q.1, m ∈ q.1 := fun m hm => (comC_sub hm).2
  have c3 : ∀ m ∈ furC p.1 q.1, m ∈ q.1 := fun m hm => (fur_mem.mp hm).1
  constructor
  · rintro ⟨r, hr, s, hs, e, ex⟩
    obtain ⟨g, rfl⟩ := row_fun wp.1 (wp.2 r hr)
    obtain ⟨k, rfl⟩ := row_fun wq.1 (wq.2 s hs)
    unfold j2C at ex
    rw [List.map_append, pck_map k c3] at ex
    obtain ⟨e1, e2⟩ := List.append_inj ex (by rw [List.length_map, List.length_map])
    rw [pck_map g c1, pck_map k c2] at e
    rw [e1]
    refine ⟨hr, ?_⟩
    have : q.1.map f = q.1.map k := List.map_congr_left fun x hx => by
      by_cases z : x ∈ p.1
      · have xc : x ∈ comC p.1 q.1 := List.mem_filter.mpr ⟨z, decide_eq_true hx⟩
        rw [map_eq_on e1 z]
        exact map_eq_on e xc
      · exact map_eq_on e2 (fur_mem.mpr ⟨hx, z⟩)
    rw [this]
    exact hs
  · rintro ⟨a, b⟩
    refine ⟨_, a, _, b, by rw [pck_map f c1, pck_map f c2], ?_⟩
    unfold j2C
    rw [List.map_append, pck_map f c3]
theorem j2T_wf {p q : Tab} (wp : Wf p) (wq : Wf q) : Wf (j2T p q) := by
  refine ⟨?_, fun r hr => ?_⟩
  · show (p.1 ++ furC p.1 q.1).Nodup
    exact List.nodup_append.mpr ⟨wp.1, wq.1.filter _, fun x hx y hy e => (fur_mem.mp (e ▸ hy)).2 hx⟩
  · exact j2R_wide wp.2 r (mem_norm.mp hr)
theorem step_wf {l : Tabs} (h : 2 ≤ l.length) (w : ∀ p ∈ l, Wf p) : ∀ p ∈ stepJ l, Wf p := by
  obtain ⟨i, o, p, q, _, _, _, _, _, e, pm⟩ := step_parts h
  intro z hz
  rw [e] at hz
  have wp := w p (pm.mem_iff.mp List.mem_cons_self)
  have wq := w q (pm.mem_iff.mp (List.mem_cons_of_mem _ List.mem_cons_self))
  rcases List.mem_append.mp hz with hz | hz
  · exact w z (pm.mem_iff.mp (List.mem_cons_of_mem _ (List.mem_cons_of_mem _ hz)))
  · rw [List.mem_singleton.mp hz]
    exact j2T_wf wp wq
theorem step_sat {l : Tabs} (h : 2 ≤ l.length) (w : ∀ p ∈ l, Wf p) (f : Str → Int) : Sat (stepJ l) f ↔ Sat l f := by
  obtain ⟨i, o, p, q, _, _, _, _, _, e, pm⟩ := step_parts h
  have wp := w p (pm.mem_iff.mp List.mem_cons_self)
  have wq := w q (pm.mem_iff.mp (List.mem_cons_of_mem _ List.mem_cons_self))
  have j : (j2T p q).1.map f ∈ (j2T p q).2 ↔ _ := mem_norm.trans (j2_sat wp wq f)
  rw [e]
  constructor
  · intro s z hz
    have hj := j.mp (s _ (List.mem_append_right _ (List.mem_singleton.mpr rfl)))
    rcases List.mem_cons.mp (pm.mem_iff.mpr hz) with rfl | hz
    · exact hj.1
    · rcases List.mem_cons.mp hz with rfl | hz
      · exact hj.2
      · exact s z (List.mem_append_left _ hz)
  · intro s z hz
    rcases List.mem_append.mp hz with hz | hz
    · exact s z (pm.mem_iff.mp (List.mem_cons_of_mem _ (List.mem_cons_of_mem _ hz)))
    · rw [List.mem_singleton.mp hz]
      exact j.mpr ⟨s p (pm.mem_iff.mp List.mem_cons_self), s q (pm.mem_iff.mp (List.mem_cons_of_mem _ List.mem_cons_self))⟩
theorem fin_all : ∀ (n : Nat) (l : Tabs), l.length = n + 1 → (∀ p ∈ l, Wf p) → ∀ U, Un U l → Wf (finJ l) ∧ Un U [finJ l] ∧ ∀ f, Sat [finJ l] f ↔ Sat l f
  | 0, l, hl, w, U, u => by
    obtain ⟨p, rfl⟩ : ∃ p, l = [p] := List.length_eq_one_iff.mp hl
    exact ⟨w p (List.mem_singleton.mpr rfl), u, fun _ => Iff.rfl⟩
  | n + 1, l, hl, w, U, u => by
    have h2 : 2 ≤ l.length := by omega
    have sl := step_len h2
    obtain ⟨a, b, c⟩ := fin_all n (stepJ l) (by omega) (step_wf h2 w) U (step_un h2 u)
    rw [fin_step h2] at a b c
    exact ⟨a, b, fun f => (c f).trans (step_sat h2 w f)⟩
/-- some columns, at all of those of a table -/
theorem ofR_sat {cs U : List Str} {rs : List (List Int)} (w : Wf (cs, rs)) (h1 : ∀ x ∈ cs, x ∈ U) (h2 : ∀ x ∈ U, x ∈ cs) (f : Str → Int) : U.map f ∈ ofR cs U rs ↔ cs.map f ∈ rs := by
  unfold ofR
  rw [mem_norm, List.mem_map]
  constructor
  · rintro ⟨r, hr, e⟩
    obtain ⟨g, rfl⟩ := row_fun w.1 (w.2 r hr)
    rw [pck_map g h2] at e
    have : cs.map f = cs.map g := List.map_congr_left fun x hx => (map_eq_on e (h1 x hx)).symm
    rw [this]
    exact hr
  · intro h
    exact ⟨_, h, pck_map f h2⟩
/-- THE PLAIN ANSWER -/
theorem joined_sat {tabs : Tabs} (w : ∀ p ∈ tabs, Wf p) (f : Str → Int) : (allC tabs).map f ∈ joinedR tabs ↔ Sat tabs f := by
  have w0 : ∀ p ∈ unitT :: tabs, Wf p := fun p hp => by
    rcases List.mem_cons.mp hp with rfl | hp
    · exact ⟨List.nodup_nil, by decide⟩
    · exact w p hp
  have u0 : Un (allC tabs) (unitT :: tabs) := fun x => by
    rw [allC_un tabs x]
    constructor
    · rintro ⟨p, hp, h⟩
      exact ⟨p, List.mem_cons_of_mem _ hp, h⟩
    · rintro ⟨p, hp, h⟩
      rcases List.mem_cons.mp hp with rfl | hp
      · cases h
      · exact ⟨p, hp, h⟩
  obtain ⟨a, b, c⟩ := fin_all tabs.length (unitT :: tabs) rfl w0 _ u0
  unfold joinedR
  refine (ofR_sat (cs := (finJ (unitT :: tabs)).1) (rs := (finJ (unitT :: tabs)).2) a (fun x hx => (b x).mpr ⟨_, List.mem_singleton.mpr rfl, hx⟩) (fun x hx => ?_) f).trans ?_
  rotate_left
  · have := c f
    constructor
    · intro h p hp
      exact this.mp (fun q hq => by rw [List.mem_singleton.mp hq]; exact h) p (List.mem_cons_of_mem _ hp)
    · intro h
      refine this.mpr (fun p hp => ?_) _ (List.mem_singleton.mpr rfl)
      rcases List.mem_cons.mp hp with rfl | hp
      · exact List.mem_singleton.mpr rfl
      · exact h p hp
  · obtain ⟨p, hp, h⟩ := (b x).mp hx
    rwa [List.mem_singleton.mp hp] at h
theorem joined_rise (tabs : Tabs) : Rise (joinedR tabs) := rise_norm _
theorem joined_wide {tabs : Tabs} {r : List Int} (h : r ∈ joinedR tabs) : r.length = (allC tabs).length := by
  unfold joinedR ofR at h
  obtain ⟨q, _, rfl⟩ := List.mem_map.mp (mem_norm.mp h)
  unfold pck plc
  rw [List.length_map, List.length_map]
end T07

set_option maxHeartbeats 4000000
/-! tuple * int, from 1 on. -/
namespace TR
open PySem PySem.Spec PyProof.Rows L2 TX
theorem tuple_mul1 (l : Addr) (items : Array Value) (n : Nat) (dd : Option Addr) (sl : Array (Option Value)) (u : Tok) :
    Meets (Builtin.«tuple.__mul__» ⟨[.ref l, .int 1 u], []⟩) (fun _ R s => s.heap.get? l = some { cls := .type "tuple", dict := dd, data := .seq items n, slots := sl } ∧
      R (.ok (.ret (Value.ref l))) s) :=
  .of_wp fun prog w A R s h => by
    obtain ⟨hp, g, d, tk, os⟩ := s
    obtain ⟨hl, h⟩ := h
    have f1 := AutoSeq1.idx_int
    have c0 : (decide ((1 : Int) < -(2 ^ 63)) || decide ((1 : Int) ≥ 2 ^ 63)) = false := by decide
    have c1 : (items.isEmpty || (1 : Int) == 1) = true := by simp
    wp_walk using wpAny_loadPart' hl
    repeat (first
      | (refine wpAny_ite_false (decide_eq_false (by rw [c0]; exact Bool.false_ne_true)) ?_; wp_walk using wpAny_loadPart' hl)
      | (refine wpAny_ite_true (decide_eq_true (by rw [c1])) ?_; wp_walk using wpAny_loadPart' hl))
    all_goals exact ⟨_, rfl, h⟩
/-- t * k -/
def rRepA (K : PySem.W.Frag) : R2 := fun x y H Q => ∃ l k xs, x = .ref l ∧ y = .int k ∧ H l = some (.tup xs) ∧ xs ≠ [] ∧ 1 ≤ k ∧ k ≤ 1000 ∧ xs.length ≤ 1000 ∧ ∀ p H', Same H H' → H' p = some (.tup (List.replicate k.toNat xs).flatten) → Q (.ref p) H'
section
variable {X : Cx}
theorem op_repA : OpR X (binaryOp .Mult) (rRepA X.K) := by
  intro pins s σ H x y v u Q I rx ry h
  obtain ⟨l, k, xs, rfl, rfl, hl, hne, h1, h2, hz, q⟩ := h
  by_cases hk : k = 1
  · subst hk
    cases rx
    obtain ⟨t, rfl⟩ := ry
    obtain ⟨its, r, ⟨⟨cls, dd, data, sl⟩, ho, hc, n, hd⟩, hs⟩ := I.tuple (.of hl)
    simp only at hc hd
    subst hc hd
    refine wpAny_binaryOp_repeat_ref (T := "tuple") (U := "int") (by decide) ⟨_, ho, rfl⟩ (fun s' => typeIs_int s' 1 t) noFill_tuple_mul F.fills_int_mul F.slot_int_rmul repeat_tuple F.slot_int_index.lookup
      (call_meets F.slot_int_rmul (typeIs_int s 1 t) F.entry_int_rmul (F.args_int_rmul_2 _ _) (int_rmul_tuple 1 t l its.toArray n dd sl)
        ⟨ho, rfl, ⟨_, ho, rfl⟩, call_meets F.slot_tuple_mul ⟨_, ho, rfl⟩ F.entry_tuple_mul (F.args_tuple_mul_2 _ _) (tuple_mul1 l its.toArray n dd sl t) ⟨ho, ?_⟩⟩)
    refine ⟨.ref l, H, I, rfl, q l H same_rfl ?_⟩
    rw [hl]
    simp
  · exact op_repT pins s σ H _ _ v u Q I rx ry ⟨l, k, xs, rfl, rfl, .of hl, hne, by omega, h2, hz, fun p np => q p _ (Same.new np) upd_same⟩
end
end TR

set_option maxHeartbeats 4000000
/-! tuple * int, from 0 on. -/
namespace TR
open PySem PySem.Spec PyProof.Rows L2 TX
theorem tuple_mul0 (l : Addr) (items : Array Value) (n : Nat) (dd : Option Addr) (sl : Array (Option Value)) (u : Tok) (c1 : (items.isEmpty || (0 : Int) == 1) = false) :
    Meets (Builtin.«tuple.__mul__» ⟨[.ref l, .int 0 u], []⟩) (fun _ R s => s.heap.get? l = some { cls := .type "tuple", dict := dd, data := .seq items n, slots := sl } ∧
      R (.ok (.ret (Value.ref s.heap.objs.size))) { s with heap := s.heap.push { cls := Value.type "tuple", data := Data.seq #[] }, toks := s.toks }) :=
  .of_wp fun prog w A R s h => by
    obtain ⟨hp, g, d, tk, os⟩ := s
    obtain ⟨hl, h⟩ := h
    have f1 := AutoSeq1.idx_int
    have c0 : (decide ((0 : Int) < -(2 ^ 63)) || decide ((0 : Int) ≥ 2 ^ 63)) = false := by decide
    have c2 : (decide ((0 : Int) ≤ 0) || items.isEmpty) = true := by simp
    have hsz : (#[] : Array Value).size ≤ sizeLine := by decide
    wp_walk using wpAny_loadPart' hl
    repeat (first
      | (refine wpAny_ite_false (decide_eq_false (by rw [c0]; exact Bool.false_ne_true)) ?_; wp_walk using wpAny_loadPart' hl)
      | (refine wpAny_ite_false (decide_eq_false (by rw [c1]; exact Bool.false_ne_true)) ?_; wp_walk using wpAny_loadPart' hl)
      | (refine wpAny_ite_true (decide_eq_true (by rw [c2])) ?_; wp_walk using wpAny_loadPart' hl)
      | (refine wpAny_ite_false (decide_eq_false (Nat.not_lt.mpr hsz)) ?_; wp_walk using wpAny_loadPart' hl))
    all_goals exact ⟨_, rfl, h⟩
/-- t * k, k from 0 on -/
def rRepB (K : PySem.W.Frag) : R2 := fun x y H Q => ∃ l k xs, x = .ref l ∧ y = .int k ∧ H l = some (.tup xs) ∧ xs ≠ [] ∧ 0 ≤ k ∧ k ≤ 1000 ∧ xs.length ≤ 1000 ∧ ∀ p H', Same H H' → H' p = some (.tup (List.replicate k.toNat xs).flatten) → Q (.ref p) H'
section
variable {X : Cx}
theorem op_repB : OpR X (binaryOp .Mult) (rRepB X.K) := by
  intro pins s σ H x y v u Q I rx ry h
  obtain ⟨l, k, xs, rfl, rfl, hl, hne, h1, h2, hz, q⟩ := h
  by_cases hk : k = 0
  · subst hk
    cases rx
    obtain ⟨t, rfl⟩ := ry
    obtain ⟨its, r, ⟨⟨cls, dd, data, sl⟩, ho, hc, n, hd⟩, hs⟩ := I.tuple (.of hl)
    simp only at hc hd
    subst hc hd
    have hle : its.length = xs.length := r.length.symm
    have hn : its ≠ [] := fun e => hne (by
      rw [e] at hle
      exact List.eq_nil_of_length_eq_zero hle.symm)
    have hi : its.toArray.isEmpty = false := by
      cases its with
      | nil => exact absurd rfl hn
      | cons a b => rfl
    have c1 : (its.toArray.isEmpty || (0 : Int) == 1) = false := by
      rw [hi]
      rfl
    refine wpAny_binaryOp_repeat_ref (T := "tuple") (U := "int") (by decide) ⟨_, ho, rfl⟩ (fun s' => typeIs_int s' 0 t) noFill_tuple_mul F.fills_int_mul F.slot_int_rmul repeat_tuple F.slot_int_index.lookup
      (call_meets F.slot_int_rmul (typeIs_int s 0 t) F.entry_int_rmul (F.args_int_rmul_2 _ _) (int_rmul_tuple 0 t l its.toArray n dd sl)
        ⟨ho, rfl, ⟨_, ho, rfl⟩, call_meets F.slot_tuple_mul ⟨_, ho, rfl⟩ F.entry_tuple_mul (F.args_tuple_mul_2 _ _) (tuple_mul0 l its.toArray n dd sl t c1) ⟨ho, ?_⟩⟩)
    refine ⟨.ref s.heap.objs.size, _, I.laid (t' := s.toks) (o := .tup []) (fun b ob q => Heap.get?_push_of_some _ q) (Nat.le_refl _) ?_, rfl, q _ _ (Same.new (I.hok.fresh (Nat.le_refl _))) (by rw [upd_same]; rfl)⟩
    exact ⟨by rw [sizeLine_eq]; decide, _, .nil, IsTup.new _ _⟩
  · exact op_repA pins s σ H _ _ v u Q I rx ry ⟨l, k, xs, rfl, rfl, hl, hne, by omega, h2, hz, q⟩
end
end TR

set_option maxHeartbeats 2000000
namespace TNN
open PySem L2 PyProof.Rows TX TY
section
variable {X : Cx}
/-- a list != [] -/
def rNeNil (K : PySem.W.Frag) : R2 := fun x y H Q => ∃ a b xs, x = .ref a ∧ y = .ref b ∧ SqL K H a xs ∧ SqL K H b [] ∧ Q (.bl (!xs.isEmpty)) H
theorem op_neNil (hu : X.A.units < cLine) : OpR X (compareOp .NotEq) (rNeNil X.K) := by
  intro pins s σ H x y v u Q I rx ry h
  obtain ⟨a, b, xs, rfl, rfl, ha, hb, q⟩ := h
  cases rx
  cases ry
  obtain ⟨its, r, hl, _⟩ := I.list ha
  obtain ⟨its2, r2, hl2, _⟩ := I.list hb
  have h2 : its2 = [] := by
    cases r2
    rfl
  subst h2
  cases xs with
  | nil =>
    cases r
    have z := SeqAt.RcNeAt.lists (e := fun _ => true) hl.isList hl2.isList rfl hu (fun j h1 h2 => absurd h1 (by simp))
    exact z X.prog X.w X.xe _ ⟨.bl false, H, I, rfl, q⟩
  | cons z zs =>
    have hsz : (its.toArray.size != ([] : List Value).toArray.size) = true := by
      have : its.length = (z :: zs).length := r.length.symm
      simp [this]
    have z := SeqAt.RcNeAt.lists_lengths hl.isList hl2.isList hsz hu
    exact z X.prog X.w X.xe _ ⟨.bl true, H, I, rfl, q⟩
end
end TNN

set_option maxHeartbeats 2000000
namespace T07
open PySem L2 PyProof.Rows TX TY TW TD TB TG TUD TE TK TSD TMI TL2 TNN
section
variable {P : Program} {w : World} {K : PySem.W.Frag} {mg : Str → Option Value} {base : Heap}
/-- a base: a number of few figures -/
abbrev N_base : List Str := ["_law_well_here", "_law_great"]
theorem sc_base : FnScope N_base ["_law_well_here"] (defScope s_base) := ⟨rfl, rfl, rfl, by decide +kernel, rfl, by decide +kernel, by decide +kernel⟩
def sp_base : Sp := fun vs H Q _ => ∃ (W : Addr) (n : Nat), vs = [.ref W] ∧ WellAt (n + 4) H W ∧ ∀ (H' : Hp) (b : Int), Sm W H H' → WellAt n H' W → b.natAbs < 10 ^ 39 → Q (.int b) H'
theorem ok_base {f fD : Addr} {fd fdD : FuncData} (F : Fn K mg "_law_base" s_base ["_law_well_here"] f fd) (D : Fn K mg "_law_draw" s_draw ["_law_well_here", "_law_top"] fD fdD) : FnOk P w K mg base CX0 2 f fd ["_law_well_here"] sp_base := by
  have GD : FnOk P w K mg base CX0 1 fD fdD ["_law_well_here", "_law_top"] sp_draw := ok_draw D
  refine F.F.ok sc_base (fun vs H Q E h => ?_) (fun cdv A outer s H vs Q E hr h => ?_)
  · obtain ⟨W, n, rfl, _⟩ := h
    rfl
  · obtain ⟨W, n, rfl, hW, q⟩ := h
    have nd := sc_base.nd
    refine ⟨_, pss_cons (ps_set (i := 1) nd rfl (Or.inl rfl) (pe_op op_add (pe_op op_add (pe_op op_mul (pe_call GD hr rfl D.g D.F.kp D.b .nil pass0 (pa_cons (pv 0) (pa_cons (pe_op op_pow pe_int pe_int) pa_nil))) (pe_op op_pow pe_int pe_int))
          (pe_op op_mul (pe_call GD hr rfl D.g D.F.kp D.b .nil pass0 (pa_cons (pv 0) (pa_cons (pe_op op_pow pe_int pe_int) pa_nil))) (pe_op op_pow pe_int pe_int)))
          (pe_call GD hr rfl D.g D.F.kp D.b .nil pass0 (pa_cons (pv 0) (pa_cons (pe_op op_pow pe_int pe_int) pa_nil)))))
      (pss_one (ps_ret (pe_ix ix_list (pe_lst (pa_cons pe_int (pa_cons (pe_un un_neg pe_int) (pa_cons (pv 1) (pa_cons (pe_op op_sub pe_int (pv 1)) pa_nil))))) (pe_call GD hr rfl D.g D.F.kp D.b .nil pass0 (pa_cons (pv 0) (pa_cons pe_int pa_nil))) (fun _ _ => rfl)))), ?_⟩
    refine ⟨_, rfl, _, _, rfl, rfl, ⟨by decide, by decide, by decide⟩, W, 100000000, n + 3, rfl, by decide, by decide, hW, fun H1 a ha s1 w1 => ?_⟩
    refine ⟨_, _, rfl, rfl, ⟨by decide, by decide, by decide⟩, ?_⟩
    refine ⟨_, _, rfl, rfl, .inl ⟨by omega, by omega⟩, ?_⟩
    refine ⟨_, rfl, _, _, rfl, rfl, ⟨by decide, by decide, by decide⟩, W, 100000000, n + 2, rfl, by decide, by decide, w1, fun H2 b hb s2 w2 => ?_⟩
    refine ⟨_, _, rfl, rfl, ⟨by decide, by decide, by decide⟩, ?_⟩
    refine ⟨_, _, rfl, rfl, .inl ⟨by omega, by omega⟩, ?_⟩
    refine ⟨_, _, rfl, rfl, ?_⟩
    refine ⟨_, rfl, _, _, rfl, rfl, ⟨by decide, by decide, by decide⟩, W, 100000000, n + 1, rfl, by decide, by decide, w2, fun H3 c hc s3 w3 => ?_⟩
    refine ⟨_, _, rfl, rfl, ?_⟩
    have gb : ((a : Int) * 10 ^ Int.toNat 30 + (b : Int) * 10 ^ Int.toNat 15 + (c : Int)).natAbs < 10 ^ 39 := by
      have e1 : (10 : Int) ^ Int.toNat 30 = 1000000000000000000000000000000 := by decide
      have e2 : (10 : Int) ^ Int.toNat 15 = 1000000000000000 := by decide
      rw [e1, e2]
      omega
    dsimp only
    generalize (a : Int) * 10 ^ Int.toNat 30 + (b : Int) * 10 ^ Int.toNat 15 + (c : Int) = g at gb ⊢
    refine ⟨1, rfl, _, rfl, _, rfl, _, _, rfl, rfl, (show 4 ≤ sizeLine by decide), fun p np => ?_⟩
    have m3 := (s1.trans s2).trans s3
    have wp := w3.new (o := .lst [.int 0, .int (-1), .int g, .int (0 - g)]) np
    have pW : p ≠ W := (w3.ne np).symm
    refine ⟨_, rfl, W, 4, n, rfl, by decide, by decide, wp, fun H4 k hk s4 w4 => ?_⟩
    have ep : H4 p = some (.lst [.int 0, .int (-1), .int g, .int (0 - g)]) := s4 _ _ pW upd_same
    have m4 := (m3.new (o := .lst [.int 0, .int (-1), .int g, .int (0 - g)]) np).trans s4
    obtain ⟨b', hb', hn⟩ : ∃ b' : Int, atI [V.int 0, V.int (-1), V.int g, V.int (0 - g)] (k : Int) = some (V.int b') ∧ b'.natAbs < 10 ^ 39 := by
      have : k = 0 ∨ k = 1 ∨ k = 2 ∨ k = 3 := by omega
      rcases this with e | e | e | e <;> subst e
      · exact ⟨0, rfl, by decide⟩
      · exact ⟨-1, rfl, by decide⟩
      · exact ⟨g, rfl, gb⟩
      · exact ⟨0 - g, rfl, by omega⟩
    exact ⟨p, _, _, _, rfl, rfl, .of ep, hb', q H4 b' m4 w4 hn⟩
abbrev teI (iw ib inr : Nat) : TE := tOp (rI0 fun i j => .int (i + j)) (tVar ib) (tCall sp_draw [] E0 (tCons (tVar iw) (tCons (tVar inr) tNil)))
/-- one row's values -/
theorem rd_line {H : Hp} {W : Addr} {b : Int} {wide m near iw id ib inr j : Nat} {s : L2.St} {Q : VK} (hl : wide ≤ 8) (n1 : 0 < near) (n2 : near < 1073741824) (hW : WellAt (m + wide) H W) (hj : j < s.length) (jw : j ≠ iw) (jb : j ≠ ib) (jn : j ≠ inr)
    (h0 : s[iw]? = some (some (.ref W))) (h1 : s[id]? = some (some (.int wide))) (h3 : s[ib]? = some (some (.int b))) (h4 : s[inr]? = some (some (.int near)))
    (q : ∀ H' D (r : List Int), Sm W H H' → WellAt m H' W → H D = none → H' D = some (.lst (r.map V.int)) → r.length = wide → Q (.ref D) H') : tLc (iRng1 (tCons (tVar id) tNil)) (gName j) tYes (teI iw ib inr) [j] s H Q := by
  refine ⟨_, h1, wide, rfl, by omega, by omega, fun Dn nDn => ?_⟩
  have DW : Dn ≠ W := (hW.ne nDn).symm
  refine lc_it (walk_range (lo := 0) (n := (wide : Int).toNat)) (fun i h => ∃ r : List Int, h Dn = some (.lst (r.map V.int)) ∧ r.length = i ∧ Sm W H h ∧ WellAt (m + (wide - i)) h W)
    ⟨[], upd_same, rfl, Sm.new .rfl' nDn, hW.new nDn⟩ (fun _ _ _ _ => trivial) ?_ ?_
  · rintro i x h h' hi ⟨r, e4, lr, s4, w4⟩ ⟨rfl, rfl⟩
    have hi' : i < wide := by simpa using hi
    refine ⟨?_, ?_⟩
    · show (((s.set j none).set j _).set j none) = s.set j none
      rw [List.set_set, List.set_set]
    have gj : ∀ (k : Nat) (v : V), j ≠ k → s[k]? = some (some v) → ((wipe s [j]).set j (some (V.int (0 + (i : Int)))))[k]? = some (some v) := fun k v hk e => by
      show ((s.set j none).set j _)[k]? = _
      rw [List.set_set, List.getElem?_set_ne hk]
      exact e
    refine ⟨_, gj ib _ jb h3, _, gj iw _ jw h0, _, gj inr _ jn h4, W, near, m + (wide - (i + 1)), rfl, n1, n2, w4.mono (by omega), fun h5 k hk s5 w5 => ?_⟩
    refine ⟨_, _, rfl, rfl, ?_⟩
    refine ⟨_, s5 _ _ DW e4, by rw [List.length_map]; exact line100' (by omega), r ++ [b + (k : Int)], ?_, ?_, (s4.trans s5).mut nDn, w5.upd DW.symm⟩
    · rw [upd_same, List.map_append]
      rfl
    · rw [List.length_append, List.length_singleton, lr]
  · rintro h ⟨r, e4, lr, s4, w4⟩
    have e : (wide : Int).toNat = wide := by omega
    rw [e] at lr w4
    exact q h Dn r s4 (w4.mono (by omega)) nDn e4 lr
/-- a row that is kept -/
def RowX (n : Nat) (D W : Addr) (h : Hp) (a : Addr) (r : List Int) : Prop := h a = some (.tup (r.map V.int)) ∧ a ≠ D ∧ a ≠ W ∧ r.length = n
theorem RowX.sm {n : Nat} {D W : Addr} {h h' : Hp} {a : Addr} {r : List Int} (x : RowX n D W h a r) (s : Sm W h h') : RowX n D W h' a r := ⟨s _ _ x.2.2.1 x.1, x.2⟩
theorem RowX.put {n : Nat} {D W : Addr} {h : Hp} {a : Addr} {r : List Int} {o : HO} (x : RowX n D W h a r) : RowX n D W (upd h D o) a r := ⟨by rw [upd_ne x.2.1]; exact x.1, x.2⟩
theorem rowX_len {n : Nat} {D W : Addr} {h : Hp} : ∀ {as rs}, Paired (RowX n D W h) as rs → ∀ r ∈ rs, r.length = n := by
  intro as rs hp
  induction hp with
  | nil => intro r hr; cases hr
  | cons x _ ih =>
    intro r hr
    rcases List.mem_cons.mp hr with e | hr
    · rw [e]
      exact x.2.2.2
    · exact ih r hr

/-! ### some of the names -/
theorem seq_at {n j : Nat} (h : j < n) : seqIndex? (j : Int) n = some j := by
  unfold seqIndex?
  split <;> first | omega | (split <;> first | omega | (congr 1; omega) | rfl) | skip
  all_goals first | (congr 1; omega) | rfl | simp_all
abbrev N_pick : List Str := ["_law_well_here", "_law_names_here", "_law_most", "_law_left", "_law_found", "_law_k"]
abbrev P_pick : List Str := ["_law_well_here", "_law_names_here", "_law_most"]
theorem sc_pick : FnScope N_pick P_pick (defScope s_lpicked) := ⟨rfl, rfl, rfl, by decide +kernel, rfl, by decide +kernel, by decide +kernel⟩
def sp_pick : Sp := fun vs H Q _ => ∃ (W L : Addr) (cs : List Str) (n most : Nat), vs = [.ref W, .ref L, .int most] ∧ H L = some (.lst (cs.map V.str)) ∧ L ≠ W ∧ cs.Nodup ∧ cs.length ≤ 26 ∧ WellAt (n + cs.length + 1) H W ∧
  ∀ (H' : Hp) (p : Addr) (ds : List Str), Sm W H H' → WellAt n H' W → p ≠ W → H p = none → H' p = some (.lst (ds.map V.str)) → ds.Nodup → (∀ x ∈ ds, x ∈ cs) → ds.length ≤ most → Q (.ref p) H'
theorem ok_pick {f fD : Addr} {fd dD : FuncData} (F : Fn K mg "_law_picked" s_lpicked P_pick f fd) (B : Bn mg) (hmin : mg "min" = none) (D : Fn K mg "_law_draw" s_draw ["_law_well_here", "_law_top"] fD dD) : FnOk P w K mg base CX0 2 f fd P_pick sp_pick := by
  have GD : FnOk P w K mg base CX0 1 fD dD ["_law_well_here", "_law_top"] sp_draw := ok_draw D
  refine F.F.ok sc_pick (fun vs H Q E h => ?_) (fun cdv A outer s H vs Q E hr h => ?_)
  · obtain ⟨W, L, cs, n, most, rfl, _⟩ := h
    rfl
  · obtain ⟨W, L, cs, n, most, rfl, hL, hLW, hnd, l26, hW, q⟩ := h
    have nd := sc_pick.nd
    refine ⟨_, pss_cons (ps_set (i := 3) nd rfl (Or.inl rfl) (pe_callTy call_list_of (by rfl) B.list boot_list (pa_cons (pv 1) pa_nil)))
      (pss_cons (ps_set (i := 4) nd rfl (Or.inl rfl) (pe_lst pa_nil))
      (pss_cons (ps_for PassesOwn.never rfl (pi_range1 rfl B.range (pa_cons (pe_call GD hr rfl D.g D.F.kp D.b .nil pass0 (pa_cons (pv 0) (pa_cons (pe_op op_add (pe_callB (call_min2 rfl) (by rfl) hmin boot_min (pa_cons (pe_callB call_len_seq (by rfl) B.len PySem.boot_len (pa_cons (pv 1) pa_nil)) (pa_cons (pv 2) pa_nil))) pe_int) pa_nil))) pa_nil)) (pg_name (i := 5) nd rfl (Or.inl rfl))
        (pss_one (ps_expr (pe_bm PySem.F.plainAttrs_list PySem.F.slot_list_append PySem.F.type_list_append mt_append (pv 4)
          (pa_cons (pe_bm PySem.F.plainAttrs_list PySem.F.slot_list_pop PySem.F.type_list_pop mt_popAt (pv 3) (pa_cons (pe_call GD hr rfl D.g D.F.kp D.b .nil pass0 (pa_cons (pv 0) (pa_cons (pe_callB call_len_seq (by rfl) B.len PySem.boot_len (pa_cons (pv 3) pa_nil)) pa_nil))) pa_nil)) pa_nil)))))
      (pss_one (ps_ret (pv 4))))), ?_⟩
    refine ⟨_, rfl, L, _, rfl, .inl (.of hL), fun l nl => ?_⟩
    refine ⟨by decide, fun p np => ?_⟩
    have npH : H p = none := (Same.new nl).free np
    have lW : l ≠ W := (hW.ne nl).symm
    have pW : p ≠ W := (hW.ne npH).symm
    have lp : l ≠ p := ne_of_none upd_same np
    have el : upd (upd H l (.lst (cs.map V.str))) p (.lst []) l = some (.lst (cs.map V.str)) := by rw [upd_ne lp, upd_same]
    have ep : upd (upd H l (.lst (cs.map V.str))) p (.lst []) p = some (.lst []) := upd_same
    have s0 : Same H (upd (upd H l (.lst (cs.map V.str))) p (.lst [])) := (Same.new nl).trans (Same.new np)
    generalize upd (upd H l (.lst (cs.map V.str))) p (.lst []) = H0 at el ep s0 ⊢
    obtain ⟨few, hfew, f1, f2⟩ : ∃ few : Nat, (if (most : Int) < ((cs.map V.str).length : Int) then (most : Int) else ((cs.map V.str).length : Int)) + 1 = (few : Int) + 1 ∧ few ≤ most ∧ few ≤ cs.length := by
      rw [List.length_map]
      by_cases h : (most : Int) < (cs.length : Int)
      · exact ⟨most, by rw [if_pos h], Nat.le_refl _, by omega⟩
      · exact ⟨cs.length, by rw [if_neg h], by omega, Nat.le_refl _⟩
    refine ⟨_, rfl, _, rfl, L, _, rfl, .inl (.of (s0 _ _ hL)), _, rfl, _, _, rfl, _, _, rfl, rfl, ?_⟩
    dsimp -proj only
    rw [hfew]
    refine ⟨W, few + 1, n + cs.length, by simp, by omega, by omega, hW.same s0, fun H1 k hk s1 w1 => ?_⟩
    refine ⟨(k : Int), rfl, by omega, by omega, ?_⟩
    rw [show ((k : Int)).toNat = k by omega]
    have m1 : Sm W H H1 := (Sm.of s0).trans s1
    refine for_range (lo := 0) (n := k) (fun i σ h => ∃ (ls ds : List Str) (v5 : Option V), σ = [some (.ref W), some (.ref L), some (.int most), some (.ref l), some (.ref p), v5] ∧ h l = some (.lst (ls.map V.str)) ∧ h p = some (.lst (ds.map V.str)) ∧ (ds ++ ls).Perm cs ∧ ds.length = i ∧ Sm W H h ∧ WellAt (n + (cs.length - i)) h W)
      ⟨cs, [], none, rfl, s1 _ _ lW el, s1 _ _ pW ep, List.Perm.refl _, rfl, m1, w1⟩ ?_ ?_
    · rintro i σ h hi ⟨ls, ds, v5, rfl, e1, e2, pm, hds, m2, w2⟩
      have hlen := pm.length_eq
      rw [List.length_append] at hlen
      refine ⟨_, rfl, .inl ⟨rfl, _, .inl (.inl e2)⟩, _, rfl, .inl ⟨rfl, _, .inl (.inl e1)⟩, _, rfl, _, rfl, l, _, rfl, .inl (.of e1), W, ls.length, n + (cs.length - (i + 1)), by rw [List.length_map]; rfl, by omega, by omega, w2.mono (by omega), fun H2 j hj s2 w3 => ?_⟩
      have e1' := s2 _ _ lW e1
      have e2' := s2 _ _ pW e2
      refine ⟨l, ls.map V.str, (j : Int), j, .str ls[j], rfl, rfl, e1', by omega, by omega, seq_at (by rw [List.length_map]; exact hj), by rw [List.getElem?_map, List.getElem?_eq_getElem hj]; rfl, ?_⟩
      have e3 : ∀ o, upd H2 l o p = some (.lst (ds.map V.str)) := fun o => by rw [upd_ne lp.symm]; exact e2'
      refine ⟨p, _, _, rfl, rfl, e3 _, ?_, ls.eraseIdx j, ds ++ [ls[j]], _, rfl, ?_, ?_, ?_, ?_, ?_, ?_⟩
      · rw [List.length_map]
        exact line100' (by omega)
      · rw [upd_ne lp, upd_same]
        congr 2
        rw [List.eraseIdx_eq_take_drop_succ, List.eraseIdx_eq_take_drop_succ, List.map_append, List.map_take, List.map_drop]
      · rw [upd_same, List.map_append]
        rfl
      · have p1 : (ls[j] :: ls.eraseIdx j).Perm ls := by
          rw [List.eraseIdx_eq_take_drop_succ]
          refine List.perm_middle.symm.trans ?_
          rw [← List.drop_eq_getElem_cons hj, List.take_append_drop]
        have p2 : (ds ++ [ls[j]] ++ ls.eraseIdx j).Perm (ds ++ ls) := by
          rw [List.append_assoc]
          exact List.Perm.append_left _ p1
        exact p2.trans pm
      · rw [List.length_append, List.length_singleton, hds]
      · exact ((m2.trans s2).mut nl).mut npH
      · exact ((w3.upd lW.symm).upd pW.symm)
    · rintro σ h ⟨ls, ds, v5, rfl, e1, e2, pm, hds, m2, w2⟩
      have hn2 : (ds ++ ls).Nodup := (List.Perm.nodup_iff pm).mpr hnd
      exact ⟨_, rfl, q h p ds m2 (w2.mono (by omega)) pW npH e2 (List.nodup_append.mp hn2).1 (fun x hx => pm.subset (List.mem_append_left _ hx)) (by omega)⟩
end
end T07

set_option maxHeartbeats 2000000
namespace T07
open PySem L2 PyProof.Rows TX TY TW TD TB TG TUD TE TK TSD TMI TL2
section
variable {P : Program} {w : World} {K : PySem.W.Frag} {mg : Str → Option Value} {base : Heap}
variable {fW fN fA fR fK fS : Addr} {dW dN dA dR dK dS : FuncData}
variable {fI fE fT fX : Addr} {dI' dE dT dX : FuncData}
variable {C hc hr : Addr} {gc gr : FuncData}
theorem sc_nin : FnScope ["thing", "names"] ["thing", "names"] (defScope s_is_name_in) := ⟨rfl, rfl, rfl, by decide +kernel, rfl, by decide +kernel, by decide +kernel⟩
def sp_nin : Sp := fun vs H Q _ => ∃ (x : Str) (d : Addr) (ns : List Str), vs = [.str x, .ref d] ∧ TM.NameOk x ∧ H d = some (.lst (ns.map V.str)) ∧ x ∈ ns ∧ ∀ H', Same H H' → Q (.bl true) H'
theorem ok_nin (F : Fn K mg "is_name_in" s_is_name_in ["thing", "names"] fE dE) (T : Kt K mg fW fN fA fR fK fS dW dN dA dR dK dS) : FnOk P w K mg base CX0 2 fE dE ["thing", "names"] sp_nin := by
  have GN : FnOk P w K mg base CX0 1 fN dN ["thing"] sp_is_name := ok_is_name T.isn T.B T.C
  refine F.F.ok sc_nin (fun vs H Q E h => ?_) (fun cdv A outer s H vs Q E hr h => ?_)
  · obtain ⟨x, d, ns, rfl, _⟩ := h
    rfl
  · obtain ⟨x, d, ns, rfl, hx, hd, hm, q⟩ := h
    refine ⟨_, pss_one (ps_ret (pe_and (pe_call GN hr rfl T.isn.g T.isn.F.kp T.isn.b .nil pass0 (pa_cons (pv 0) pa_nil)) (pe_one (pe_cmpR op_in_seq (pv 0) (pv 1) rfl)))), ?_⟩
    have l8 := hx.2.1
    refine ⟨_, rfl, d + 1, .str x, rfl, .str x (by omega), fun H1 s1 => ⟨true, ?_, ?_⟩⟩
    · show V.bl (nameB x) = V.bl true
      rw [(nameB_iff x).mpr hx]
    refine ⟨_, rfl, _, rfl, d, _, rfl, .inl (.of (s1 _ _ hd)), rfl, TX.flat_strs _, ?_⟩
    show Q (.bl (inV (.str x) (ns.map V.str))) H1
    rw [inV_str, decide_eq_true hm]
    exact q H1 s1
theorem sc_stretch : FnScope ["low", "high"] ["low", "high"] (defScope s_stretch) := ⟨rfl, rfl, rfl, by decide +kernel, rfl, by decide +kernel, by decide +kernel⟩
def sp_stretch : Sp := fun vs H Q _ => ∃ (i j : Int), vs = [.int i, .int j] ∧ i ≤ j ∧ Q (.bl true) H
theorem ok_stretch (F : Fn K mg "is_stretch" s_stretch ["low", "high"] fT dT) (T : Kt K mg fW fN fA fR fK fS dW dN dA dR dK dS) : FnOk P w K mg base CX0 2 fT dT ["low", "high"] sp_stretch := by
  have GW : FnOk P w K mg base CX0 1 fW dW ["thing"] sp_is_whole := ok_is_whole T
  refine F.F.ok sc_stretch (fun vs H Q E h => ?_) (fun cdv A outer s H vs Q E hr h => ?_)
  · obtain ⟨i, j, rfl, _⟩ := h
    rfl
  · obtain ⟨i, j, rfl, hij, q⟩ := h
    refine ⟨_, pss_one (ps_ret (pe_and (pe_call GW hr rfl T.whole.g T.whole.F.kp T.whole.b .nil pass0 (pa_cons (pv 0) pa_nil)) (pe_and (pe_call GW hr rfl T.whole.g T.whole.F.kp T.whole.b .nil pass0 (pa_cons (pv 1) pa_nil)) (pe_one (pe_cmpR op_le (pv 0) (pv 1) (nomark _)))))), ?_⟩
    refine ⟨_, rfl, 0, .int i, rfl, .int i, true, rfl, ?_⟩
    refine ⟨_, rfl, 0, .int j, rfl, .int j, true, rfl, ?_⟩
    refine ⟨_, rfl, _, rfl, _, _, rfl, rfl, ?_⟩
    show Q (V.bl (decide (i ≤ j))) H
    rw [decide_eq_true hij]
    exact q
def inS (k : Nat) (i j : Int) (r : List Int) : Bool := decide (i ≤ r.getD k 0) && decide (r.getD k 0 ≤ j)
abbrev N_kept : List Str := ["table", "column", "low", "high", "at", "row"]
theorem sc_kept : FnScope N_kept ["table", "column", "low", "high"] (defScope s_kept) := ⟨rfl, rfl, rfl, by decide +kernel, rfl, by decide +kernel, by decide +kernel⟩
def sp_keptV (C : Addr) : Sp := fun vs H Q _ => ∃ (t : Addr) (x : Str) (i j : Int) (k : Nat) (cs : List Str) (rs : List (List Int)), vs = [.ref t, .str x, .int i, .int j] ∧ Ta C H t cs rs ∧ cs[k]? = some x ∧ i ≤ j ∧
  ∀ H' p, Same H H' → TabN C H H' p cs (norm (rs.filter (inS k i j))) → Ta C H' p cs (norm (rs.filter (inS k i j))) → Q (.ref p) H'
theorem ok_keptV (F : Fn K mg "kept_rows" s_kept ["table", "column", "low", "high"] fX dX) (FE : Fn K mg "is_name_in" s_is_name_in ["thing", "names"] fE dE) (FT : Fn K mg "is_stretch" s_stretch ["low", "high"] fT dT) (T : Kt K mg fW fN fA fR fK fS dW dN dA dR dK dS) (I : Im K mg C fI dI') (D : Tm K mg C hc hr gc gr) : FnOk P w K mg base CX0 6 fX dX ["table", "column", "low", "high"] (sp_keptV C) := by
  have B := T.B
  have c := D.c
  have GC : FnOk P w K mg base CX0 1 hc gc ["self"] (sp_bcolumns C) := ok_bcolumns D.cols.F B c
  have GR : FnOk P w K mg base CX0 1 hr gr ["self"] (sp_brows C) := ok_brows D.rows.F B c
  have GI : FnOk P w K mg base CX0 4 fI dI' ["self", "columns", "rows"] (sp_binit C) := ok_binit I.iF T c
  have GK : FnOk P w K mg base CX0 2 fE dE ["thing", "names"] sp_nin := ok_nin FE T
  have GT : FnOk P w K mg base CX0 2 fT dT ["low", "high"] sp_stretch := ok_stretch FT T
  refine F.F.ok sc_kept (fun vs H Q E h => ?_) (fun cdv A outer s H vs Q E hr h => ?_)
  · obtain ⟨t, x, i, j, k, cs, rs, rfl, _⟩ := h
    rfl
  · obtain ⟨t, x, i, j, k, cs, rs, rfl, ta, hk, hij, q⟩ := h
    have hu := hu_of hr
    have r1 : Room 1 _ := hr.mono (by decide)
    have r2 : Room 2 _ := hr.mono (by decide)
    have nd := sc_kept.nd
    refine ⟨_, pss_cons (ps_if (pt_not (pt_val (pe_call GK r2 rfl FE.g FE.F.kp FE.b .nil pass0 (pa_cons (pv 1) (pa_cons (pe_meth0 (pv 0) c.cl D.cols.me GC r1 D.cols.b .nil pass0) pa_nil))))) (pss_one ps_never) pss_nil)
      (pss_cons (ps_if (pt_not (pt_val (pe_call GT r2 rfl FT.g FT.F.kp FT.b .nil pass0 (pa_cons (pv 2) (pa_cons (pv 3) pa_nil))))) (pss_one ps_never) pss_nil)
      (pss_cons (ps_set (i := 4) nd rfl (Or.inr rfl) (pe_bm PySem.F.plainAttrs_list PySem.F.slot_list_index PySem.F.type_list_index mt_index (pe_meth0 (pv 0) c.cl D.cols.me GC r1 D.cols.b .nil pass0) (pa_cons (pv 1) pa_nil)))
      (pss_one (ps_ret (pe_make I.iM GI hr rfl c.g I.iB .nil pass0 (pa_cons (pe_meth0 (pv 0) c.cl D.cols.me GC r1 D.cols.b .nil pass0) (pa_cons (pe_lc (own := [("row", 5)]) (g := gName 5) (tt := tTest (tChain (rI0 fun i j => V.bl (decide (i ≤ j))) (rI0 fun i j => V.bl (decide (i ≤ j))) (tVar 2) (tOp (rIxT K) (tVar 5) (tVar 4)) (tVar 3))) (te := tVar 5) rfl nd (pi_list (pe_meth0 (pv 0) c.cl D.rows.me GR r1 D.rows.b .nil pass0))
          (blkOk_by (N := N_kept) (sc := defScope s_kept) (by decide +kernel)) (fun _ _ _ _ _ => pg_name (i := 5) nd rfl (Or.inl rfl))
          (fun _ _ _ _ _ => pts_one (pt_chain op_le op_le (pv 2) (pe_ix ix_tup (pv 5) (pv 4) (fun _ _ => rfl)) (pv 3))) (fun _ _ _ _ _ => pv 5)) pa_nil))))))), ?_⟩
    have tb := ta.at_
    have hx := List.mem_of_getElem? hk
    obtain ⟨dx, l, r, as0, h1, h2, h3, h4⟩ := id tb
    refine ⟨_, rfl, _, rfl, t, dx, _, rfl, h1, nocols _ _, t, cs, rs, rfl, tb, fun H1 L1 s1 n1 e1 => ?_⟩
    refine ⟨x, L1, cs, rfl, ta.cok.ok x hx, e1, hx, fun H2 s2 => ⟨true, rfl, ?_⟩⟩
    have t2 := s1.trans s2
    refine ⟨_, rfl, _, rfl, i, j, rfl, hij, true, rfl, ?_⟩
    obtain ⟨hk1, hk2⟩ := List.getElem?_eq_some_iff.mp hk
    refine ⟨_, rfl, t, dx, _, rfl, t2 _ _ h1, nocols _ _, t, cs, rs, rfl, tb.same t2, fun H3 L3 s3 n3 e3 => ?_⟩
    have t3 := t2.trans s3
    refine ⟨.inl ⟨rfl, _, .inl (.inl e3)⟩, _, rfl, ?_⟩
    refine ⟨L3, cs.map V.str, .str x, k, .str x, rfl, rfl, .of e3, rfl, TX.flat_strs _, by rw [List.getElem?_map, hk]; rfl, by show (x == x) = true; simp, fun m z' hm hz => ?_, ?_⟩
    · rw [List.getElem?_map] at hz
      obtain ⟨y, hy, rfl⟩ := Option.map_eq_some_iff.mp hz
      show (y == x) = false
      obtain ⟨hm1, hm2⟩ := List.getElem?_eq_some_iff.mp hy
      have : y ≠ x := fun e => by
        have := (List.getElem_inj (h₀ := hm1) (h₁ := hk1) ta.cok.nd).mp (by rw [hm2, hk2, e])
        omega
      simpa using this
    refine ⟨_, rfl, t, dx, _, rfl, t3 _ _ h1, nocols _ _, t, cs, rs, rfl, tb.same t3, fun H4 L4 s4 n4 e4 => ?_⟩
    have t4 := t3.trans s4
    refine ⟨_, rfl, t, dx, _, rfl, t4 _ _ h1, norows _ _, t, cs, rs, rfl, tb.same t4, fun H5 L5 as s5 n5 e5 hr5 => ?_⟩
    have t5 := t4.trans s5
    refine ⟨L5, rfl, ⟨_, .of e5⟩, fun Dn nDn => ?_⟩
    have hal := hr5.len
    have few := ta.few
    refine lc_it (walk_list (xs := as.map V.ref)) (fun n h => ∃ bs : List Addr, h Dn = some (.lst (bs.map V.ref)) ∧ RowsAt h bs ((rs.take n).filter (inS k i j)) ∧ Same H5 h)
      ⟨[], upd_same, .nil, Same.new nDn⟩ (fun n h _ ⟨_, _, _, s⟩ => .of (s _ _ e5)) ?_ ?_
    · rintro n v h h' hn ⟨bs, e6, r6, s6⟩ ⟨rfl, hv⟩
      rw [List.length_map] at hn
      obtain ⟨a, ha, rfl⟩ : ∃ a, as[n]? = some a ∧ v = V.ref a := by
        rw [List.getElem?_map, List.getElem?_eq_getElem hn] at hv
        exact ⟨_, List.getElem?_eq_getElem hn, (Option.some.inj hv).symm⟩
      obtain ⟨row, hrow, hta⟩ := pr_at hr5 ha
      have hlen : row.length = cs.length := ta.len row (List.mem_of_getElem? hrow)
      have ta' := s6 _ _ hta
      have hkr : row[k]? = some (row.getD k 0) := by
        rw [List.getElem?_eq_getElem (by omega), List.getD_eq_getElem?_getD, List.getElem?_eq_getElem (by omega)]
        rfl
      have htk : (rs.take (n + 1)).filter (inS k i j) = (rs.take n).filter (inS k i j) ++ [row].filter (inS k i j) := by rw [List.take_add_one, hrow, List.filter_append]; rfl
      refine ⟨rfl, ?_⟩
      refine ⟨_, rfl, _, rfl, _, rfl, a, row.map V.int, (k : Int), .int (row.getD k 0), rfl, rfl, .of ta', atI_nat (by rw [List.getElem?_map, hkr]; rfl), ?_⟩
      refine ⟨_, _, rfl, rfl, _, rfl, ?_⟩
      by_cases g1 : i ≤ row.getD k 0
      · rw [if_pos (decide_eq_true g1)]
        refine ⟨_, rfl, _, _, rfl, rfl, ?_⟩
        by_cases g2 : row.getD k 0 ≤ j
        · have hin : inS k i j row = true := by unfold inS; rw [decide_eq_true g1, decide_eq_true g2]; rfl
          refine ⟨_, rfl, ?_⟩
          dsimp only
          rw [if_pos (decide_eq_true g2)]
          have hlb : bs.length ≤ n := by
            have e1 := r6.len
            have e2 := List.length_filter_le (inS k i j) (rs.take n)
            rw [List.length_take] at e2
            omega
          refine ⟨_, rfl, _, e6, by rw [List.length_map]; exact line100' (by omega), bs ++ [a], by rw [upd_same, List.map_append]; rfl, ?_, Same.mut s6 nDn⟩
          rw [htk, List.filter_cons_of_pos hin, List.filter_nil]
          exact RowsAt.put (pr_snoc r6 ta') e6
        · have hin : ¬ inS k i j row = true := by unfold inS; rw [decide_eq_false g2, Bool.and_false]; exact Bool.false_ne_true
          refine ⟨_, rfl, ?_⟩
          dsimp only
          rw [if_neg (by simpa using g2)]
          refine ⟨bs, e6, ?_, s6⟩
          rw [htk, List.filter_cons_of_neg hin, List.filter_nil, List.append_nil]
          exact r6
      · have hin : ¬ inS k i j row = true := by unfold inS; rw [decide_eq_false g1, Bool.false_and]; exact Bool.false_ne_true
        rw [if_neg (by simpa using g1)]
        refine ⟨_, rfl, ?_⟩
        dsimp only
        rw [if_neg Bool.false_ne_true]
        refine ⟨bs, e6, ?_, s6⟩
        rw [htk, List.filter_cons_of_neg hin, List.filter_nil, List.append_nil]
        exact r6
    · rintro h ⟨bs, e6, r6, s6⟩
      rw [List.length_map, hal, List.take_length] at r6
      have hf : (rs.filter (inS k i j)).length ≤ rs.length := List.length_filter_le _ _
      intro p dp np ndp hne
      have sp : Same h (upd (upd h dp (.own p)) p (.ins C dp [])) := fun b o e => by rw [upd_ne (ne_of_none e np), upd_ne (ne_of_none e ndp)]; exact e
      have wide : ∀ r ∈ rs.filter (inS k i j), r.length = cs.length := fun r hr => ta.len r ((List.mem_filter.mp hr).1)
      refine ⟨p, L4, dp, .ref Dn, cs, bs, _, rfl, upd_same, sp _ _ (s6 _ _ (s5 _ _ e4)), ta.cok, .inr ⟨Dn, rfl, sp _ _ e6, r6.same sp⟩, ⟨wide, by omega⟩, fun H' tb' keep => ⟨rfl, ?_⟩⟩
      have sf : Same h H' := fun b o e => keep b o (ne_of_none e np) (sp _ _ e)
      have nn := norm_len (rs.filter (inS k i j))
      exact q H' p ((t5.trans s6).trans sf) (tb'.back ((t5.trans s6).trans sp)) ⟨tb'.tab, ta.cok, fun r hr => wide r (mem_norm.mp hr), by omega⟩
end
end T07

set_option maxHeartbeats 4000000
namespace T07
open PySem L2 PyProof.Rows TX TY TW TD TB TG TUD TE TK TSD TMI TL2
theorem norm_few (rs : List (List Int)) : (norm rs).length ≤ rs.length := by
  induction rs with
  | nil => exact Nat.le_refl _
  | cons r rs ih =>
    show (ins r (norm rs)).length ≤ _
    have : ∀ (l : List (List Int)), (ins r l).length ≤ l.length + 1 := by
      intro l
      induction l with
      | nil => exact Nat.le_refl _
      | cons a l ih =>
        unfold ins
        split
        · omega
        · split
          · simp only [List.length_cons]; omega
          · simp only [List.length_cons]; omega
    have := this (norm rs)
    rw [List.length_cons]
    omega
theorem addNs_nd {acc cs : List Str} (h : acc.Nodup) : (addNs acc cs).Nodup := by
  unfold addNs
  induction cs generalizing acc with
  | nil => exact h
  | cons c cs ih =>
    rw [List.foldl_cons]
    refine ih ?_
    unfold addN
    by_cases z : c ∈ acc
    · rw [if_pos z]
      exact h
    · rw [if_neg z]
      refine List.nodup_append.mpr ⟨h, by simp, fun a ha b hb => ?_⟩
      rw [List.mem_singleton.mp hb]
      rintro rfl
      exact z ha
theorem allC_nd (tabs : Tabs) : (allC tabs).Nodup := by
  have key : ∀ (tabs : Tabs) (acc : List Str), acc.Nodup → (tabs.foldl (fun acc p => addNs acc p.1) acc).Nodup := by
    intro tabs
    induction tabs with
    | nil => intro acc h; exact h
    | cons p tabs ih => intro acc h; exact ih _ (addNs_nd h)
  exact key tabs [] List.nodup_nil
theorem sub_len : ∀ {l m : List Str}, l.Nodup → (∀ x ∈ l, x ∈ m) → l.length ≤ m.length := by
  intro l
  induction l with
  | nil => intro m _ _; exact Nat.zero_le _
  | cons a l ih =>
    intro m n s
    have ha := s a List.mem_cons_self
    rw [List.nodup_cons] at n
    have := ih (m := m.erase a) n.2 fun x hx => (List.mem_erase_of_ne (show x ≠ a from fun e => n.1 (by rw [← e]; exact hx))).mpr (s x (List.mem_cons_of_mem _ hx))
    rw [List.length_erase_of_mem ha] at this
    have : 0 < m.length := List.length_pos_of_mem ha
    rw [List.length_cons]
    omega
theorem allC_cs {U : List Str} {tabs : Tabs} (hU : Cs U) (h : ∀ p ∈ tabs, ∀ x ∈ p.1, x ∈ U) : Cs (allC tabs) := by
  have sub : ∀ x ∈ allC tabs, x ∈ U := fun x hx => by
    obtain ⟨p, hp, h1⟩ := (allC_un tabs x).mp hx
    exact h p hp x h1
  exact ⟨allC_nd _, Nat.le_trans (sub_len (allC_nd _) sub) hU.le, fun x hx => hU.ok x (sub x hx)⟩
theorem perm_of : ∀ {l m : List Str}, l.Nodup → m.Nodup → (∀ x, x ∈ l ↔ x ∈ m) → l.Perm m := by
  intro l
  induction l with
  | nil =>
    intro m _ _ h
    cases m with
    | nil => exact .nil
    | cons a m => exact absurd ((h a).mpr List.mem_cons_self) List.not_mem_nil
  | cons a l ih =>
    intro m nl nm h
    rw [List.nodup_cons] at nl
    have ha := (h a).mp List.mem_cons_self
    refine (List.Perm.cons a (ih nl.2 (nm.erase a) fun x => ?_)).trans (List.perm_cons_erase ha).symm
    rw [nm.mem_erase_iff]
    constructor
    · intro hx
      exact ⟨fun e => nl.1 (e ▸ hx), (h x).mp (List.mem_cons_of_mem _ hx)⟩
    · rintro ⟨n, hx⟩
      rcases List.mem_cons.mp ((h x).mpr hx) with e | hx
      · exact absurd e n
      · exact hx
theorem fin_bnd : ∀ (n : Nat) (l : Tabs), l.length = n + 1 → (finJ l).2.length ≤ bnd l
  | 0, l, hl => by
    obtain ⟨p, rfl⟩ : ∃ p, l = [p] := List.length_eq_one_iff.mp hl
    exact Nat.le_trans (Nat.le_max_right 1 _) (bnd_mem List.mem_cons_self)
  | n + 1, l, hl => by
    have h2 : 2 ≤ l.length := by omega
    have sl := step_len h2
    have := fin_bnd n (stepJ l) (by omega)
    rw [fin_step h2] at this
    exact Nat.le_trans this (step_bnd h2)
/-- there are no more rows than the product -/
theorem joined_few (tabs : Tabs) : (joinedR tabs).length ≤ bnd tabs := by
  have a := fin_bnd tabs.length (unitT :: tabs) rfl
  have b : bnd (unitT :: tabs) = 1 * bnd tabs := rfl
  have c := norm_few ((finJ (unitT :: tabs)).2.map (pck (plc (finJ (unitT :: tabs)).1 (allC tabs))))
  rw [List.length_map] at c
  have d : (joinedR tabs).length = (norm ((finJ (unitT :: tabs)).2.map (pck (plc (finJ (unitT :: tabs)).1 (allC tabs))))).length := rfl
  omega
theorem joined_wf (tabs : Tabs) : Wf (allC tabs, joinedR tabs) := ⟨allC_nd _, fun _ h => joined_wide h⟩
/-- a joining that is satisfied alike has the same columns, and the same rows at those columns -/
theorem joined_alike {l m : Tabs} (wl : ∀ p ∈ l, Wf p) (wm : ∀ p ∈ m, Wf p) (hc : ∀ x, x ∈ allC l ↔ x ∈ allC m) (hs : ∀ f, Sat l f ↔ Sat m f) : (allC l).Perm (allC m) ∧ ofR (allC l) (allC m) (joinedR l) = joinedR m := by
  refine ⟨perm_of (allC_nd _) (allC_nd _) hc, rise_unique (rise_norm _) (joined_rise _) fun x => ?_⟩
  have key : ∀ f : Str → Int, (allC m).map f ∈ ofR (allC l) (allC m) (joinedR l) ↔ (allC m).map f ∈ joinedR m := fun f =>
    (ofR_sat (joined_wf l) (fun x hx => (hc x).mp hx) (fun x hx => (hc x).mpr hx) f).trans ((joined_sat wl f).trans ((hs f).trans (joined_sat wm f).symm))
  constructor
  · intro h
    have hl : x.length = (allC m).length := by
      obtain ⟨q, _, rfl⟩ := List.mem_map.mp (mem_norm.mp h)
      unfold pck plc
      rw [List.length_map, List.length_map]
    obtain ⟨f, rfl⟩ := row_fun (allC_nd _) hl
    exact (key f).mp h
  · intro h
    obtain ⟨f, rfl⟩ := row_fun (allC_nd _) (joined_wide h)
    exact (key f).mpr h
theorem sat_app {l m : Tabs} {f : Str → Int} : Sat (l ++ m) f ↔ Sat l f ∧ Sat m f := by
  constructor
  · intro h
    exact ⟨fun p hp => h p (List.mem_append_left _ hp), fun p hp => h p (List.mem_append_right _ hp)⟩
  · rintro ⟨a, b⟩ p hp
    rcases List.mem_append.mp hp with hp | hp
    · exact a p hp
    · exact b p hp
theorem col_app {l m : Tabs} {x : Str} : x ∈ allC (l ++ m) ↔ x ∈ allC l ∨ x ∈ allC m := by
  rw [allC_un, allC_un, allC_un]
  constructor
  · rintro ⟨p, hp, h⟩
    rcases List.mem_append.mp hp with hp | hp
    · exact .inl ⟨p, hp, h⟩
    · exact .inr ⟨p, hp, h⟩
  · rintro (⟨p, hp, h⟩ | ⟨p, hp, h⟩)
    · exact ⟨p, List.mem_append_left _ hp, h⟩
    · exact ⟨p, List.mem_append_right _ hp, h⟩
theorem col_one {p : Tab} {x : Str} : x ∈ allC [p] ↔ x ∈ p.1 := by
  rw [allC_un]
  constructor
  · rintro ⟨q, hq, h⟩
    rwa [List.mem_singleton.mp hq] at h
  · intro h
    exact ⟨p, List.mem_cons_self, h⟩
theorem sat_one {p : Tab} {f : Str → Int} : Sat [p] f ↔ p.1.map f ∈ p.2 := by
  constructor
  · intro h
    exact h p List.mem_cons_self
  · intro h q hq
    rwa [List.mem_singleton.mp hq]
/-- a joined table stands for its parts -/
theorem sat_whole {l : Tabs} (wl : ∀ p ∈ l, Wf p) {f : Str → Int} : Sat [(allC l, joinedR l)] f ↔ Sat l f := sat_one.trans (joined_sat wl f)
theorem bnd_cat (l m : Tabs) : bnd (l ++ m) = bnd l * bnd m := by
  induction l with
  | nil => exact (Nat.one_mul _).symm
  | cons p l ih =>
    show max 1 p.2.length * bnd (l ++ m) = max 1 p.2.length * bnd l * bnd m
    rw [ih, Nat.mul_assoc]
theorem bnd_two (p q : Tab) : bnd [p, q] = max 1 p.2.length * max 1 q.2.length := by
  show max 1 p.2.length * (max 1 q.2.length * 1) = _
  rw [Nat.mul_one]
theorem max_few (l : Tabs) : max 1 (joinedR l).length ≤ bnd l := by
  have a := joined_few l
  have b := bnd_pos l
  omega
theorem pr_perm {α β : Type} {R : α → β → Prop} {as as' : List α} {bs : List β} (h : Paired R as bs) (p : as'.Perm as) : ∃ bs', bs'.Perm bs ∧ Paired R as' bs' := by
  induction p generalizing bs with
  | nil => cases h; exact ⟨[], .nil, .nil⟩
  | cons x _ ih =>
    cases h with
    | cons r t =>
      obtain ⟨bs', a, b⟩ := ih t
      exact ⟨_ :: bs', a.cons _, .cons r b⟩
  | swap x y l =>
    cases h with
    | cons r t =>
      cases t with
      | cons r2 t2 => exact ⟨_, List.Perm.swap _ _ _, .cons r2 (.cons r t2)⟩
  | trans _ _ i1 i2 =>
    obtain ⟨b2, p2, h2⟩ := i2 h
    obtain ⟨b1, p1, h1⟩ := i1 h2
    exact ⟨b1, p1.trans p2, h1⟩
theorem pr_take {α β : Type} {R : α → β → Prop} {as : List α} {bs : List β} (h : Paired R as bs) (n : Nat) : Paired R (as.take n) (bs.take n) := by
  induction h generalizing n with
  | nil => cases n <;> exact .nil
  | cons x _ ih =>
    cases n with
    | zero => exact .nil
    | succ n => exact .cons x (ih n)
theorem pr_drop {α β : Type} {R : α → β → Prop} {as : List α} {bs : List β} (h : Paired R as bs) (n : Nat) : Paired R (as.drop n) (bs.drop n) := by
  induction h generalizing n with
  | nil => cases n <;> exact .nil
  | cons x t ih =>
    cases n with
    | zero => exact .cons x t
    | succ n => exact ih n
/-! ### rows kept in the parts, and in the whole -/
def cutT (x : Str) (i j : Int) (p : Tab) : Tab := if x ∈ p.1 then (p.1, norm (p.2.filter (inS (p.1.idxOf x) i j))) else p
theorem cut_fst (x : Str) (i j : Int) (p : Tab) : (cutT x i j p).1 = p.1 := by
  unfold cutT
  split <;> rfl
theorem allC_cut (x : Str) (i j : Int) (l : Tabs) : allC (l.map (cutT x i j)) = allC l := by
  unfold allC
  rw [List.foldl_map]
  congr 1
  funext acc p
  rw [cut_fst]
theorem inS_map {cs : List Str} {x : Str} {i j : Int} {f : Str → Int} (h : x ∈ cs) : inS (cs.idxOf x) i j (cs.map f) = (decide (i ≤ f x) && decide (f x ≤ j)) := by
  have hk := List.idxOf_lt_length_of_mem h
  have e : (cs.map f).getD (cs.idxOf x) 0 = f x := by
    rw [List.getD_eq_getElem?_getD, List.getElem?_map, List.getElem?_eq_getElem hk, List.getElem_idxOf hk]
    rfl
  unfold inS
  rw [e]
theorem cut_wf {x : Str} {i j : Int} {p : Tab} (w : Wf p) : Wf (cutT x i j p) := by
  unfold cutT
  split
  · exact ⟨w.1, fun r hr => w.2 r (List.mem_filter.mp (mem_norm.mp hr)).1⟩
  · exact w
theorem cut_sat {x : Str} {i j : Int} {p : Tab} {f : Str → Int} : (cutT x i j p).1.map f ∈ (cutT x i j p).2 ↔ p.1.map f ∈ p.2 ∧ (x ∈ p.1 → i ≤ f x ∧ f x ≤ j) := by
  unfold cutT
  split
  · rename_i h
    show p.1.map f ∈ norm (p.2.filter (inS (p.1.idxOf x) i j)) ↔ _
    rw [mem_norm, List.mem_filter, inS_map h]
    constructor
    · rintro ⟨a, b⟩
      rw [Bool.and_eq_true, decide_eq_true_iff, decide_eq_true_iff] at b
      exact ⟨a, fun _ => b⟩
    · rintro ⟨a, b⟩
      have := b h
      exact ⟨a, by rw [Bool.and_eq_true, decide_eq_true_iff, decide_eq_true_iff]; exact this⟩
  · rename_i h
    exact ⟨fun a => ⟨a, fun z => absurd z h⟩, fun a => a.1⟩
theorem cut_whole {l : Tabs} {x : Str} {i j : Int} (wl : ∀ p ∈ l, Wf p) (hx : x ∈ allC l) : joinedR (l.map (cutT x i j)) = norm ((joinedR l).filter (inS ((allC l).idxOf x) i j)) := by
  have wc : ∀ p ∈ l.map (cutT x i j), Wf p := fun p hp => by
    obtain ⟨q, hq, rfl⟩ := List.mem_map.mp hp
    exact cut_wf (wl q hq)
  refine rise_unique (joined_rise _) (rise_norm _) fun y => ?_
  have key : ∀ f : Str → Int, (allC l).map f ∈ joinedR (l.map (cutT x i j)) ↔ (allC l).map f ∈ norm ((joinedR l).filter (inS ((allC l).idxOf x) i j)) := fun f => by
    have a := joined_sat wc f
    rw [allC_cut] at a
    rw [a, mem_norm, List.mem_filter, inS_map hx, joined_sat wl, Bool.and_eq_true, decide_eq_true_iff, decide_eq_true_iff]
    constructor
    · intro h
      obtain ⟨p, hp, hxp⟩ := (allC_un l x).mp hx
      refine ⟨fun q hq => (cut_sat.mp (h _ (List.mem_map.mpr ⟨q, hq, rfl⟩))).1, ?_⟩
      exact (cut_sat.mp (h _ (List.mem_map.mpr ⟨p, hp, rfl⟩))).2 hxp
    · rintro ⟨h, g⟩ q hq
      obtain ⟨p, hp, rfl⟩ := List.mem_map.mp hq
      exact cut_sat.mpr ⟨h p hp, fun _ => g⟩
  constructor
  · intro h
    have hl := joined_wide h
    rw [allC_cut] at hl
    obtain ⟨f, rfl⟩ := row_fun (allC_nd l) hl
    exact (key f).mp h
  · intro h
    obtain ⟨f, rfl⟩ := row_fun (allC_nd l) (joined_wide (List.mem_filter.mp (mem_norm.mp h)).1)
    exact (key f).mpr h
theorem cut_bnd {x : Str} {i j : Int} (l : Tabs) : bnd (l.map (cutT x i j)) ≤ bnd l := by
  induction l with
  | nil => exact Nat.le_refl _
  | cons p l ih =>
    show max 1 (cutT x i j p).2.length * bnd (l.map (cutT x i j)) ≤ max 1 p.2.length * bnd l
    refine Nat.mul_le_mul ?_ ih
    have : (cutT x i j p).2.length ≤ p.2.length := by
      unfold cutT
      split
      · exact Nat.le_trans (norm_few _) (List.length_filter_le _ _)
      · exact Nat.le_refl _
    omega
/-- a row of the whole, at a part's columns, is a row of the part -/
theorem of_part {l : Tabs} (wl : ∀ p ∈ l, Wf p) {p : Tab} (hp : p ∈ l) {r : List Int} (h : r ∈ ofR (allC l) p.1 (joinedR l)) : r ∈ p.2 := by
  obtain ⟨q, hq, rfl⟩ := List.mem_map.mp (mem_norm.mp h)
  obtain ⟨f, rfl⟩ := row_fun (allC_nd l) (joined_wide hq)
  rw [pck_map f fun x hx => (allC_un l x).mpr ⟨p, hp, hx⟩]
  exact (joined_sat wl f).mp hq p hp
/-- no columns: no row, or one without values -/
theorem no_cols {l : Tabs} (h : allC l = []) : joinedR l = [] ∨ joinedR l = [[]] := by
  have e : ∀ r ∈ joinedR l, r = [] := fun r hr => by
    have := joined_wide hr
    rw [h] at this
    exact List.length_eq_zero_iff.mp this
  have n := (joined_rise l).nodup
  cases hj : joinedR l with
  | nil => exact .inl rfl
  | cons a t =>
    rw [hj] at e n
    have ha := e a List.mem_cons_self
    cases t with
    | nil => exact .inr (by rw [ha])
    | cons c t =>
      have hc := e c (List.mem_cons_of_mem _ List.mem_cons_self)
      rw [ha, hc] at n
      exact absurd List.mem_cons_self (List.nodup_cons.mp n).1
end T07

set_option maxHeartbeats 4000000
namespace T07
open PySem L2 PyProof.Rows TX TY TW TD TB TG TUD TE TK TSD TMI TL2 TNN
/-- x in a tuple of data -/
def rInDT (K : PySem.W.Frag) : R2 := fun x y H Q => ∃ d ds, Dp K H x d ∧ Dp K H y (.tuple ds) ∧ SeqAt.shaped d = true ∧ SeqAt.shaped (.tuple ds) = true ∧ Q (.bl (ds.any fun z => PyData.eqv z d)) H
theorem op_inDT {X : Cx} (hu : X.A.units + 65 < cLine) : OpR X (compareOp .In) (rInDT X.K) := by
  intro pins s σ H x y v u Q I rx ry h
  obtain ⟨d, ds, hd, he, sd, se, q⟩ := h
  obtain ⟨as, r1⟩ := Dp.reads I d x v hd rx
  obtain ⟨bs, r2⟩ := Dp.reads I (.tuple ds) y u he ry
  exact SeqAt.in_tuple_reads r2 r1 (SeqAt.canLay_of_shaped se) (SeqAt.canLay_of_shaped sd) (room_in_shaped sd hu) ⟨.bl _, H, I, rfl, q⟩
section
variable {P : Program} {w : World} {K : PySem.W.Frag} {mg : Str → Option Value} {base : Heap}
theorem well_refs {H : Hp} {W l : Addr} {as : List Addr} (w : ∃ n, WellAt n H W) (h : H l = some (.lst (as.map V.ref))) : l ≠ W := by
  obtain ⟨n, x, y, z, e, _⟩ := w
  rintro rfl
  rw [h] at e
  have e := Option.some.inj e
  injection e with e
  cases as with
  | nil => cases e
  | cons a as => cases e
theorem _root_.TG.TabAt.sm {C W : Addr} {H H' : Hp} {p : Addr} {cs : List Str} {rs : List (List Int)} (t : TG.TabAt C H p cs rs) (s : Sm W H H') (w : ∃ n, WellAt n H W) : TG.TabAt C H' p cs rs := by
  obtain ⟨dx, l, r, as, h1, h2, h3, h4⟩ := t
  exact ⟨dx, l, r, as, s _ _ (well_no w h1 fun _ z => by cases z) h1, s _ _ (well_strs w h2) h2, s _ _ (well_refs w h3) h3, h4.sm s w⟩
theorem Ta.sm {C W : Addr} {H H' : Hp} {p : Addr} {cs : List Str} {rs : List (List Int)} (t : Ta C H p cs rs) (s : Sm W H H') (w : ∃ n, WellAt n H W) : Ta C H' p cs rs := ⟨t.at_.sm s w, t.cok, t.len, t.few⟩
variable {fW fN fA fR fK fS : Addr} {dW dN dA dR dK dS : FuncData}
variable {C fI hl : Addr} {dI gl : FuncData}
/-- a new table, made of a list of names and rows that stand there -/
theorem make_tab {H : Hp} {Nn Rl : Addr} {cs : List Str} {as : List Addr} {rs : List (List Int)} (eN : H Nn = some (.lst (cs.map V.str))) (hc : Cs cs) (eR : H Rl = some (.lst (as.map V.ref))) (hR : RowsAt H as rs) (hl : ∀ r ∈ rs, r.length = cs.length) (few : rs.length ≤ 1900) {Q : Addr → Hp → Prop}
    (q : ∀ H' x, Same H H' → H x = none → TabN C H H' x cs (norm rs) → Ta C H' x cs (norm rs) → Q x H') :
    ∀ x dx, H x = none → H dx = none → dx ≠ x → sp_binit C [.ref x, .ref Nn, .ref Rl] (upd (upd H dx (.own x)) x (.ins C dx [])) (fun v H' => v = .non ∧ Q x H') E0 := by
  intro x dx nx ndx hne
  have sx : Same H (upd (upd H dx (.own x)) x (.ins C dx [])) := fun c o e => by rw [upd_ne (ne_of_none e nx), upd_ne (ne_of_none e ndx)]; exact e
  exact ⟨x, Nn, dx, .ref Rl, cs, as, rs, rfl, upd_same, sx _ _ eN, hc, .inr ⟨Rl, rfl, sx _ _ eR, hR.same sx⟩, ⟨hl, few⟩, fun H5 tb keep => ⟨rfl, q H5 x (fun c o e => keep c o (ne_of_none e nx) (sx _ _ e)) nx (tb.back sx)
    ⟨tb.tab, hc, fun r hr => hl r (mem_norm.mp hr), Nat.le_trans (norm_few _) few⟩⟩⟩
abbrev N_turned : List Str := ["_law_well_here", "_law_some", "_law_left", "_law_found", "_law_k"]
theorem sc_turned : FnScope N_turned ["_law_well_here", "_law_some"] (defScope s_turned) := ⟨rfl, rfl, rfl, by decide +kernel, rfl, by decide +kernel, by decide +kernel⟩
def sp_turned : Sp := fun vs H Q _ => ∃ (W S : Addr) (ss : List Addr) (n : Nat), vs = [.ref W, .ref S] ∧ H S = some (.lst (ss.map V.ref)) ∧ S ≠ W ∧ ss.length ≤ 8 ∧ WellAt (n + 8) H W ∧
  ∀ (H' : Hp) (p : Addr) (ts : List Addr), Sm W H H' → WellAt n H' W → H p = none → p ≠ W → H' p = some (.lst (ts.map V.ref)) → ts.Perm ss → Q (.ref p) H'
theorem ok_turned {f fD : Addr} {fd fdD : FuncData} (F : Fn K mg "_law_turned" s_turned ["_law_well_here", "_law_some"] f fd) (B : Bn mg) (Dr : Fn K mg "_law_draw" s_draw ["_law_well_here", "_law_top"] fD fdD) : FnOk P w K mg base CX0 2 f fd ["_law_well_here", "_law_some"] sp_turned := by
  have GD : FnOk P w K mg base CX0 1 fD fdD ["_law_well_here", "_law_top"] sp_draw := ok_draw Dr
  refine F.F.ok sc_turned (fun vs H Q E h => ?_) (fun cdv A outer s H vs Q E hr h => ?_)
  · obtain ⟨W, S, ss, n, rfl, _⟩ := h
    rfl
  · obtain ⟨W, S, ss, n, rfl, hS, SW, hl, hW, q⟩ := h
    have nd := sc_turned.nd
    refine ⟨_, pss_cons (ps_set (i := 2) nd rfl (Or.inl rfl) (pe_callTy call_list_of (by rfl) B.list boot_list (pa_cons (pv 1) pa_nil)))
      (pss_cons (ps_set (i := 3) nd rfl (Or.inl rfl) (pe_lst pa_nil))
      (pss_cons (ps_for PassesOwn.never rfl (pi_range1 rfl B.range (pa_cons (pe_callB call_len_seq (by rfl) B.len PySem.boot_len (pa_cons (pv 1) pa_nil)) pa_nil)) (pg_name (i := 4) nd rfl (Or.inl rfl))
        (pss_one (ps_expr (pe_bm PySem.F.plainAttrs_list PySem.F.slot_list_append PySem.F.type_list_append mt_append (pv 3) (pa_cons (pe_bm PySem.F.plainAttrs_list PySem.F.slot_list_pop PySem.F.type_list_pop mt_popAt (pv 2)
          (pa_cons (pe_call GD hr rfl Dr.g Dr.F.kp Dr.b .nil pass0 (pa_cons (pv 0) (pa_cons (pe_callB call_len_seq (by rfl) B.len PySem.boot_len (pa_cons (pv 2) pa_nil)) pa_nil))) pa_nil)) pa_nil)))))
      (pss_one (ps_ret (pv 3))))), ?_⟩
    refine ⟨_, rfl, S, _, rfl, .inl (.of hS), fun Lf nLf => ⟨by show 0 ≤ sizeLine; decide, fun Fd nFd => ?_⟩⟩
    have LfW : Lf ≠ W := (hW.ne nLf).symm
    have FdW : Fd ≠ W := ((hW.new nLf).ne nFd).symm
    have FL : Fd ≠ Lf := fun z => by rw [z, upd_same] at nFd; cases nFd
    have nFdH : H Fd = none := by rw [upd_ne FL] at nFd; exact nFd
    refine ⟨_, rfl, S, _, rfl, .inl (.of (((Same.new nLf).trans (Same.new nFd)) _ _ hS)), ss.length, by rw [List.length_map], by omega, by omega, ?_⟩
    refine for_it (walk_range (lo := 0) (n := (ss.length : Int).toNat)) (fun i σ h => ∃ (v4 : Option V) (ls fs : List Addr), σ = [some (.ref W), some (.ref S), some (.ref Lf), some (.ref Fd), v4] ∧ h Lf = some (.lst (ls.map V.ref)) ∧ h Fd = some (.lst (fs.map V.ref)) ∧ (fs ++ ls).Perm ss ∧ fs.length = i ∧ Sm W H h ∧ WellAt (n + (8 - i)) h W)
      ⟨none, ss, [], rfl, by rw [upd_ne FL.symm, upd_same], upd_same, List.Perm.refl _, rfl, .of ((Same.new nLf).trans (Same.new nFd)), (hW.new nLf).new nFd⟩ (fun _ _ _ _ _ => trivial) ?_ ?_
    · rintro i x σ h h' hi ⟨v4, ls, fs, rfl, eL, eF, pm, lf, s1, w1⟩ ⟨rfl, rfl⟩
      have hi' : i < ss.length := by simpa using hi
      have pl := pm.length_eq
      rw [List.length_append] at pl
      refine ⟨_, rfl, .inl ⟨rfl, _, .inl (.inl eF)⟩, _, rfl, .inl ⟨rfl, _, .inl (.inl eL)⟩, _, rfl, _, rfl, Lf, _, rfl, .inl (.of eL), W, ls.length, n + (8 - (i + 1)), by rw [List.length_map]; rfl, by omega, by omega, w1.mono (by omega), fun h2 j hj s2 w2 => ?_⟩
      have eL2 := s2 _ _ LfW eL
      have eF2 := s2 _ _ FdW eF
      refine ⟨Lf, ls.map V.ref, (j : Int), j, .ref ls[j], rfl, rfl, eL2, by omega, by omega, seq_at (by rw [List.length_map]; exact hj), by rw [List.getElem?_map, List.getElem?_eq_getElem hj]; rfl, ?_⟩
      refine ⟨Fd, fs.map V.ref, .ref ls[j], rfl, rfl, by rw [upd_ne FL]; exact eF2, by rw [List.length_map]; exact line100' (by omega), ?_⟩
      refine ⟨_, ls.eraseIdx j, fs ++ [ls[j]], rfl, ?_, ?_, ?_, ?_, ?_, ?_⟩
      · rw [upd_ne FL.symm, upd_same, List.eraseIdx_eq_take_drop_succ, List.eraseIdx_eq_take_drop_succ, List.map_append, List.map_take, List.map_drop]
      · rw [upd_same, List.map_append]
        rfl
      · refine List.Perm.trans ?_ pm
        rw [List.append_assoc]
        refine List.Perm.append_left fs ?_
        rw [List.eraseIdx_eq_take_drop_succ]
        refine (List.perm_middle (a := ls[j]) (l₁ := ls.take j) (l₂ := ls.drop (j + 1))).symm.trans ?_
        rw [← List.drop_eq_getElem_cons hj, List.take_append_drop]
      · rw [List.length_append, List.length_singleton, lf]
      · exact ((s1.trans s2).mut nLf).mut nFdH
      · exact (w2.upd LfW.symm).upd FdW.symm
    · rintro σ h ⟨v4, ls, fs, rfl, eL, eF, pm, lf, s1, w1⟩
      have e : (ss.length : Int).toNat = ss.length := by omega
      rw [e] at lf w1
      have pl := pm.length_eq
      rw [List.length_append] at pl
      have : ls = [] := List.length_eq_zero_iff.mp (by omega)
      subst this
      rw [List.append_nil] at pm
      exact ⟨_, rfl, q h Fd fs s1 (w1.mono (by omega)) nFdH FdW eF pm⟩
/-! ### tables made -/
/-- a table whose own parts are not this list -/
def TaX (C F : Addr) (H : Hp) (t : Addr) (p : Tab) : Prop := (∃ dx l r as, H t = some (.ins C dx (bflds l r)) ∧ H l = some (.lst (p.1.map V.str)) ∧ H r = some (.lst (as.map V.ref)) ∧ RowsAt H as p.2 ∧ l ≠ F ∧ r ≠ F) ∧ Cs p.1 ∧ (∀ r ∈ p.2, r.length = p.1.length) ∧ p.2.length ≤ 1900
theorem TaX.ta {C F : Addr} {H : Hp} {t : Addr} {p : Tab} (h : TaX C F H t p) : Ta C H t p.1 p.2 := by
  obtain ⟨⟨dx, l, r, as, h1, h2, h3, h4, _⟩, c, k, f⟩ := h
  exact ⟨⟨dx, l, r, as, h1, h2, h3, h4⟩, c, k, f⟩
theorem TaX.sm {C F W : Addr} {H H' : Hp} {t : Addr} {p : Tab} (h : TaX C F H t p) (s : Sm W H H') (w : ∃ n, WellAt n H W) : TaX C F H' t p := by
  obtain ⟨⟨dx, l, r, as, h1, h2, h3, h4, h5⟩, k⟩ := h
  exact ⟨⟨dx, l, r, as, s _ _ (well_no w h1 fun _ z => by cases z) h1, s _ _ (well_strs w h2) h2, s _ _ (well_refs w h3) h3, h4.sm s w, h5⟩, k⟩
theorem TaX.put {C F : Addr} {H : Hp} {t : Addr} {p : Tab} {xs ys : List V} (h : TaX C F H t p) (e : H F = some (.lst xs)) : TaX C F (upd H F (.lst ys)) t p := by
  obtain ⟨⟨dx, l, r, as, h1, h2, h3, h4, h5, h6⟩, k⟩ := h
  exact ⟨⟨dx, l, r, as, by rw [upd_ne (ne_of h1 e (by intro z; cases z))]; exact h1, by rw [upd_ne h5]; exact h2, by rw [upd_ne h6]; exact h3, RowsAt.put h4 e, h5, h6⟩, k⟩
theorem TabN.tax {C F : Addr} {H0 H : Hp} {t : Addr} {cs : List Str} {rs : List (List Int)} {o : HO} (h : TabN C H0 H t cs rs) (a : Ta C H t cs rs) (e : H0 F = some o) : TaX C F H t (cs, rs) := by
  obtain ⟨dx, l, r, as, h1, h2, h3, h4, h5, h6⟩ := h
  exact ⟨⟨dx, l, r, as, h1, h2, h3, h4, (ne_of_none e h5).symm, (ne_of_none e h6).symm⟩, a.cok, a.len, a.few⟩
/-- a row's values, one for each of the names -/
theorem rd_lineS {H : Hp} {W S : Addr} {b : Int} {m near iw is ib inr j : Nat} {ss : List Str} {s : L2.St} {Q : VK} (hl : ss.length ≤ 8) (n1 : 0 < near) (n2 : near < 1073741824) (hW : WellAt (m + ss.length) H W) (hj : j < s.length) (jw : j ≠ iw) (jb : j ≠ ib) (jn : j ≠ inr)
    (h0 : s[iw]? = some (some (.ref W))) (h1 : s[is]? = some (some (.ref S))) (h3 : s[ib]? = some (some (.int b))) (h4 : s[inr]? = some (some (.int near))) (eS : H S = some (.lst (ss.map V.str))) (SW : S ≠ W)
    (q : ∀ H' D (r : List Int), Sm W H H' → WellAt m H' W → H D = none → H' D = some (.lst (r.map V.int)) → r.length = ss.length → Q (.ref D) H') : tLc (iList K (tVar is)) (gName j) tYes (teI iw ib inr) [j] s H Q := by
  refine ⟨_, h1, S, rfl, ⟨_, .of eS⟩, fun Dn nDn => ?_⟩
  have DW : Dn ≠ W := (hW.ne nDn).symm
  refine lc_it (walk_list (xs := ss.map V.str)) (fun i h => ∃ r : List Int, h Dn = some (.lst (r.map V.int)) ∧ r.length = i ∧ Sm W H h ∧ WellAt (m + (ss.length - i)) h W)
    ⟨[], upd_same, rfl, Sm.new .rfl' nDn, hW.new nDn⟩ (fun _ _ _ ⟨_, _, _, k, _⟩ => .of (k _ _ SW eS)) ?_ ?_
  · rintro i x h h' hi ⟨r, e4, lr, s4, w4⟩ ⟨rfl, hx⟩
    rw [List.length_map] at hi
    refine ⟨?_, ?_⟩
    · show (((s.set j none).set j _).set j none) = s.set j none
      rw [List.set_set, List.set_set]
    have gj : ∀ (k : Nat) (v : V), j ≠ k → s[k]? = some (some v) → ((wipe s [j]).set j (some x))[k]? = some (some v) := fun k v hk e => by
      show ((s.set j none).set j _)[k]? = _
      rw [List.set_set, List.getElem?_set_ne hk]
      exact e
    refine ⟨_, gj ib _ jb h3, _, gj iw _ jw h0, _, gj inr _ jn h4, W, near, m + (ss.length - (i + 1)), rfl, n1, n2, w4.mono (by omega), fun h5 k hk s5 w5 => ?_⟩
    refine ⟨_, _, rfl, rfl, ?_⟩
    refine ⟨_, s5 _ _ DW e4, by rw [List.length_map]; exact line100' (by omega), r ++ [b + (k : Int)], ?_, ?_, (s4.trans s5).mut nDn, w5.upd DW.symm⟩
    · rw [upd_same, List.map_append]
      rfl
    · rw [List.length_append, List.length_singleton, lr]
  · rintro h ⟨r, e4, lr, s4, w4⟩
    rw [List.length_map] at lr w4
    exact q h Dn r s4 (w4.mono (by omega)) nDn e4 lr
/-- some rows, one for each of so many -/
theorem rd_linesS {H : Hp} {W S : Addr} {b : Int} {m many near iw is ib inr jo ji : Nat} {ss : List Str} {s : L2.St} {Q : VK} (hm : 0 < many) (hm8 : many ≤ 8) (hl : ss.length ≤ 8) (n1 : 0 < near) (n2 : near < 1073741824) (hW : WellAt (m + 65) H W) (hjo : jo < s.length) (hji : ji < s.length)
    (ow : jo ≠ iw) (os : jo ≠ is) (ob : jo ≠ ib) (on : jo ≠ inr) (iw' : ji ≠ iw) (ib' : ji ≠ ib) (in' : ji ≠ inr) (h0 : s[iw]? = some (some (.ref W))) (h1 : s[is]? = some (some (.ref S))) (h3 : s[ib]? = some (some (.int b))) (h4 : s[inr]? = some (some (.int near))) (eS : H S = some (.lst (ss.map V.str))) (SW : S ≠ W)
    (q : ∀ H' D as (rs : List (List Int)), Sm W H H' → WellAt m H' W → H D = none → D ≠ W → H' D = some (.lst (as.map V.ref)) → RowsAt H' as rs → (∀ r ∈ rs, r.length = ss.length) → rs.length < many → Q (.ref D) H') :
    tLc (iRng1 (tCons (tCall sp_draw [] E0 (tCons (tVar iw) (tCons (tC (.int (many : Nat))) tNil))) tNil)) (gName jo) tYes (tCB (rTu K) (tCons (tLc (iList K (tVar is)) (gName ji) tYes (teI iw ib inr) [ji]) tNil)) [jo] s H Q := by
  refine ⟨_, h0, W, many, m + 64, rfl, hm, by omega, hW, fun H1 k hk s1 w1 => ?_⟩
  refine ⟨k, rfl, by omega, by omega, fun Dn nDn => ?_⟩
  have DW : Dn ≠ W := (w1.ne nDn).symm
  have eS1 := s1 _ _ SW eS
  refine lc_it (walk_range (lo := 0) (n := (k : Int).toNat)) (fun i h => ∃ as rs, h Dn = some (.lst (as.map V.ref)) ∧ Paired (RowX ss.length Dn W h) as rs ∧ as.length = i ∧ Sm W H1 h ∧ WellAt (m + 8 * (k - i)) h W)
    ⟨[], [], upd_same, .nil, rfl, Sm.new .rfl' nDn, (w1.new nDn).mono (by omega)⟩ (fun _ _ _ _ => trivial) ?_ ?_
  · rintro i x h h' hi ⟨as, rs, e4, t4, l4, s4, w4⟩ ⟨rfl, rfl⟩
    have hi' : i < k := by simpa using hi
    refine ⟨?_, ?_⟩
    · show (((s.set jo none).set jo _).set jo none) = s.set jo none
      rw [List.set_set, List.set_set]
    have gj : ∀ (c : Nat) (v : V), jo ≠ c → s[c]? = some (some v) → ((wipe s [jo]).set jo (some (V.int (0 + (i : Int)))))[c]? = some (some v) := fun c v hc e => by
      show ((s.set jo none).set jo _)[c]? = _
      rw [List.set_set, List.getElem?_set_ne hc]
      exact e
    dsimp only [tYes]
    rw [if_pos rfl]
    dsimp only [tCB, tCons]
    refine rd_lineS (m := m + 8 * (k - (i + 1))) hl n1 n2 (w4.mono (by omega)) (by show ji < ((s.set jo none).set jo _).length; rw [List.length_set, List.length_set]; exact hji) iw' ib' in' (gj iw _ ow h0) (gj is _ os h1) (gj ib _ ob h3) (gj inr _ on h4) (s4 _ _ SW eS1) SW fun h5 L r s5 w5 nL eL lr => ?_
    have e5 := s5 _ _ DW e4
    refine ⟨L, r.map V.int, rfl, .inl ⟨.of eL, fun T nT => ?_⟩⟩
    have e6 : upd h5 T (.tup (r.map V.int)) Dn = some (.lst (as.map V.ref)) := by rw [upd_ne (ne_of_none e5 nT)]; exact e5
    have TD : T ≠ Dn := (ne_of_none e5 nT).symm
    have TW : T ≠ W := (w5.ne nT).symm
    refine ⟨_, e6, ?_, as ++ [T], rs ++ [r], ?_, ?_, ?_, ?_, ?_⟩
    · rw [List.length_map]
      exact line100' (by omega)
    · rw [upd_same, List.map_append]
      rfl
    · exact pr_snoc (Paired.mapP t4 fun a x e => ((e.sm s5).sm (.of (Same.new nT))).put) (RowX.put ⟨upd_same, TD, TW, lr⟩)
    · rw [List.length_append, List.length_singleton, l4]
    · exact ((s4.trans s5).new nT).mut nDn
    · exact (w5.new nT).upd DW.symm
  · rintro h ⟨as, rs, e4, t4, l4, s4, w4⟩
    have e : (k : Int).toNat = k := by omega
    rw [e] at l4 w4
    exact q h Dn as rs (s1.trans s4) (w4.mono (by omega)) (s1.free hW nDn ⟨_, w1⟩) DW e4 (Paired.mapP t4 fun a r x => x.1) (rowX_len t4) (by have := Paired.length t4; omega)
end
end T07

set_option maxHeartbeats 4000000
namespace T07
open PySem L2 PyProof.Rows TX TY TW TD TB TG TUD TE TK TSD TMI TL2 TNN
section
variable {P : Program} {w : World} {K : PySem.W.Frag} {mg : Str → Option Value} {base : Heap}
variable {fW fN fA fR fK fS : Addr} {dW dN dA dR dK dS : FuncData}
variable {C fI hl : Addr} {dI gl : FuncData}
abbrev N_made : List Str := ["_law_well_here", "_law_names_here", "_law_base_here", "_law_near", "_law_found", "_law_many", "_law_k", "_law_some", "_law_lines", "_law_table", "_law_j", "_law_name"]
abbrev P_made : List Str := ["_law_well_here", "_law_names_here", "_law_base_here"]
theorem sc_made : FnScope N_made P_made (defScope s_made) := ⟨rfl, rfl, rfl, by decide +kernel, rfl, by decide +kernel, by decide +kernel⟩
abbrev scMade : Scope := { kind := .function, names := [((".0" : Str), NameKind.local), ("_law_j", .local), ("tuple", .globalImplicit), ("_law_base_here", .cell), ("_law_near", .cell), ("_law_some", .cell), ("_law_well_here", .cell)], isGenerator := false, isCoroutine := false }
def sp_made (C : Addr) : Sp := fun vs H Q _ => ∃ (W L : Addr) (cs : List Str) (b : Int) (n : Nat), vs = [.ref W, .ref L, .int b] ∧ H L = some (.lst (cs.map V.str)) ∧ L ≠ W ∧ Cs cs ∧ WellAt (n + 600) H W ∧
  ∀ (H' : Hp) (F : Addr) (ts : List Addr) (tabs : Tabs), Sm W H H' → WellAt n H' W → F ≠ W → H F = none → H' F = some (.lst (ts.map V.ref)) → TasAt C H' ts tabs → (∀ p ∈ tabs, ∀ x ∈ p.1, x ∈ cs) → tabs.length ≤ 5 → bnd tabs ≤ 40 → Q (.ref F) H'
theorem ok_made {f fD fP : Addr} {fd dD dP : FuncData} (F : Fn K mg "_law_made" s_made P_made f fd) (hmin : mg "min" = none) (hmax : mg "max" = none) (FP : Fn K mg "_law_picked" s_lpicked P_pick fP dP) (D : Fn K mg "_law_draw" s_draw ["_law_well_here", "_law_top"] fD dD)
    (T : Kt K mg fW fN fA fR fK fS dW dN dA dR dK dS) (c : Bc K mg C) (I : Im K mg C fI dI) (Le : Mt K C "__len__" "Table.__len__" s_blen ["self"] hl gl) : FnOk P w K mg base CX0 6 f fd P_made (sp_made C) := by
  have B := T.B
  have GD : FnOk P w K mg base CX0 1 fD dD ["_law_well_here", "_law_top"] sp_draw := ok_draw D
  have GP : FnOk P w K mg base CX0 2 fP dP P_pick sp_pick := ok_pick FP B hmin D
  have GI : FnOk P w K mg base CX0 4 fI dI ["self", "columns", "rows"] (sp_binit C) := ok_binit I.iF T c
  have GL : FnOk P w K mg base CX0 1 hl gl ["self"] (sp_blen C) := ok_blen Le.F B c
  refine F.F.ok sc_made (fun vs H Q E h => ?_) (fun cdv A outer s H vs Q E hr h => ?_)
  · obtain ⟨W, L, cs, b, n, rfl, _⟩ := h
    rfl
  · obtain ⟨W, L, cs, b, n, rfl, hL, LW, hcs, hW, q⟩ := h
    have nd := sc_made.nd
    have r1 : Room 1 _ := hr.mono (by decide)
    have r2 : Room 2 _ := hr.mono (by decide)
    have r5 : Room 5 _ := hr.mono (by decide)
    refine ⟨_, pss_cons (ps_set (i := 3) nd rfl (Or.inr rfl) (pe_op op_add pe_int (pe_call GD r1 rfl D.g D.F.kp D.b .nil pass0 (pa_cons (pv 0) (pa_cons pe_int pa_nil)))))
      (pss_cons (ps_set (i := 4) nd rfl (Or.inl rfl) (pe_lst pa_nil))
      (pss_cons (ps_set (i := 5) nd rfl (Or.inl rfl) pe_int)
      (pss_cons (ps_for PassesOwn.never rfl (pi_range1 rfl B.range (pa_cons (pe_op op_add pe_int (pe_call GD r1 rfl D.g D.F.kp D.b .nil pass0 (pa_cons (pv 0) (pa_cons pe_int pa_nil)))) pa_nil)) (pg_name (i := 6) nd rfl (Or.inl rfl))
        (pss_cons (ps_set (i := 7) nd rfl (Or.inr rfl) (pe_call GP r2 rfl FP.g FP.F.kp FP.b .nil pass0 (pa_cons (pv 0) (pa_cons (pv 1) (pa_cons pe_int pa_nil)))))
        (pss_cons (ps_setLc (i := 8) (own := [("_law_j", 10)]) (g := gName 10) (tt := tYes) (te := tCB (rTu K) (tCons (tLc (iList K (tVar 7)) (gName 11) tYes (teI 0 2 3) [11]) tNil)) (by rfl) nd rfl rfl (sw_true rfl rfl rfl (by decide +kernel)) (pi_range1 rfl B.range (pa_cons (pe_call GD r1 rfl D.g D.F.kp D.b .nil pass0 (pa_cons (pv 0) (pa_cons pe_int pa_nil))) pa_nil))
            (blkOk_by (N := N_made) (sc := defScope s_made) (by decide +kernel)) (fun _ _ _ _ _ => pg_name (i := 10) nd rfl (Or.inl rfl)) (fun _ _ _ _ _ => pts_nil)
            (fun _ _ _ _ _ => (pe_callTy call_tu (by rfl) B.tuple boot_tuple (pa_cons (pe_lc (own := [("_law_name", 11)]) (g := gName 11) (tt := tYes) (te := teI 0 2 3) rfl nd (pi_list (pv 7)) (blkOk_by (N := N_made) (sc := scMade) (by decide +kernel)) (fun _ _ _ _ _ => pg_name (i := 11) nd rfl (Or.inl rfl)) (fun _ _ _ _ _ => pts_nil)
              (fun _ _ _ _ _ => pe_op op_add (pv 2) (pe_call GD r1 rfl D.g D.F.kp D.b .nil pass0 (pa_cons (pv 0) (pa_cons (pv 3) pa_nil))))) pa_nil))))
        (pss_cons (ps_set (i := 9) nd rfl (Or.inl rfl) (pe_make I.iM GI r5 rfl c.g I.iB .nil pass0 (pa_cons (pv 7) (pa_cons (pv 8) pa_nil))))
        (pss_one (ps_if (pt_cmpR op_le (pe_op op_mul (pv 5) (pe_callB (call_lenO GL Le.me.at_ Le.me.fn Le.b pass0 r2) (by rfl) B.len PySem.boot_len (pa_cons (pv 9) pa_nil))) pe_int (nomark _))
          (pss_cons (ps_expr (pe_bm PySem.F.plainAttrs_list PySem.F.slot_list_append PySem.F.type_list_append mt_append (pv 4) (pa_cons (pv 9) pa_nil)))
          (pss_one (ps_set (i := 5) nd rfl (Or.inl rfl) (pe_op op_mul (pv 5) (pe_callB (call_max2 rfl) (by rfl) hmax boot_max (pa_cons pe_int (pa_cons (pe_callB (call_lenO GL Le.me.at_ Le.me.fn Le.b pass0 r2) (by rfl) B.len PySem.boot_len (pa_cons (pv 9) pa_nil)) pa_nil))))))) pss_nil))))))
      (pss_one (ps_ret (pv 4)))))), ?_⟩
    -- near, a list
    refine ⟨_, rfl, W, 2, n + 599, rfl, by decide, by decide, hW, fun H1 k2 hk2 s1 w1 => ?_⟩
    refine ⟨_, _, rfl, rfl, ?_⟩
    have ck : (2 : Int) + (k2 : Int) = ((2 + k2 : Nat) : Int) := by omega
    dsimp -proj only
    rw [ck]
    have near1 : 0 < 2 + k2 := by omega
    have near2 : 2 + k2 < 1073741824 := by omega
    generalize 2 + k2 = near at near1 near2 ⊢
    refine ⟨by show 0 ≤ sizeLine; decide, fun Fd nFd => ?_⟩
    have FW : Fd ≠ W := (w1.ne nFd).symm
    have nFH : H Fd = none := s1.free hW nFd ⟨_, w1⟩
    have eF0 : upd H1 Fd (.lst []) Fd = some (.lst []) := upd_same
    have w1' := w1.new (o := .lst []) nFd
    have m1 : Sm W H (upd H1 Fd (.lst [])) := s1.trans (.of (Same.new nFd))
    generalize upd H1 Fd (.lst []) = H2 at eF0 w1' m1 ⊢
    refine ⟨_, rfl, W, 5, n + 598, rfl, by decide, by decide, w1'.mono (by omega), fun H3 k hk s3 w3 => ?_⟩
    refine ⟨_, _, rfl, rfl, ?_⟩
    have eF3 := s3 _ _ FW eF0
    have m3 := m1.trans s3
    have ck1 : (1 : Int) + (k : Int) = ((1 + k : Nat) : Int) := by omega
    dsimp -proj only
    rw [ck1]
    refine ⟨((1 + k : Nat) : Int), rfl, by omega, by omega, ?_⟩
    have en : (((1 + k : Nat) : Int)).toNat = 1 + k := by omega
    have c8 := hcs.le
    refine for_range (lo := 0) (n := (((1 + k : Nat) : Int)).toNat) (fun i σ h => ∃ (ts : List Addr) (tabs : Tabs) (mn : Int) (v6 v7 v8 v9 : Option V), mn = (bnd tabs : Nat) ∧ σ = [some (.ref W), some (.ref L), some (.int b), some (.int near), some (.ref Fd), some (.int mn), v6, v7, v8, v9, none, none] ∧ h Fd = some (.lst (ts.map V.ref)) ∧ Paired (TaX C Fd h) ts tabs ∧ (∀ p ∈ tabs, ∀ x ∈ p.1, x ∈ cs) ∧ tabs.length ≤ i ∧ bnd tabs ≤ 40 ∧ Sm W H h ∧ WellAt (n + 99 * (5 - i)) h W)
      ⟨[], [], 1, none, none, none, none, rfl, rfl, eF3, .nil, (fun _ h => nomatch h), Nat.le_refl _, by decide, m3, w3.mono (by omega)⟩ ?_ ?_
    · rintro i σ G0 hi ⟨ts, tabs, mn, v6, v7, v8, v9, hc, rfl, eF, hT, sub, lt, bt, m0, w0⟩
      rw [en] at hi
      refine ⟨_, rfl, _, rfl, W, L, cs, n + 99 * (5 - (i + 1)) + 90, 4, rfl, m0 _ _ LW hL, LW, hcs.nd, by omega, w0.mono (by omega), fun h2 S ss s2 w2 SW nS eS ssn sss ss4 => ?_⟩
      have ew0 : ∃ n, WellAt n G0 W := ⟨_, w0⟩
      have eF2 := s2 _ _ FW eF
      have hT2 : Paired (TaX C Fd h2) ts tabs := Paired.mapP hT fun _ _ x => x.sm s2 ew0
      have m2 := m0.trans s2
      clear m0 s2 w0 eF hT ew0 nS
      dsimp only [gName]
      refine sq_asg ?_
      refine rd_linesS (K := K) (m := n + 99 * (5 - (i + 1)) + 20) (many := 7) (near := near) (ss := ss) (by decide) (by decide) (by omega) near1 near2 (w2.mono (by omega)) (Nat.lt_of_sub_pos (by exact (by decide : 0 < 12 - 10))) (Nat.lt_of_sub_pos (by exact (by decide : 0 < 12 - 11))) (by decide) (by decide) (by decide) (by decide) (by decide) (by decide) (by decide) rfl rfl rfl rfl eS SW fun h3 Ll as rs s3 w3 nLl LlW eLl hR rok rfew => ?_
      have ew2 : ∃ n, WellAt n h2 W := ⟨_, w2⟩
      have eF3 := s3 _ _ FW eF2
      have hT3 : Paired (TaX C Fd h3) ts tabs := Paired.mapP hT2 fun _ _ x => x.sm s3 ew2
      have eS3 := s3 _ _ SW eS
      have m3 := m2.trans s3
      clear m2 s3 w2 eF2 hT2 ew2 eS nLl
      have csS : Cs ss := ⟨ssn, by omega, fun x hx => hcs.ok x (sss x hx)⟩
      refine ⟨_, rfl, _, rfl, ?_⟩
      refine make_tab (rs := rs) eS3 csS eLl hR rok (by omega) fun h4 t s4 nt tn ta => ?_
      have tx := tn.tax ta eF3
      have eF4 := s4 _ _ eF3
      have hT4 : Paired (TaX C Fd h4) ts tabs := Paired.mapP hT3 fun _ _ x => x.sm (.of s4) ⟨_, w3⟩
      have w4 := w3.same s4
      have m4 := m3.trans (.of s4)
      clear m3 s4 w3 eF3 hT3 tn nt eS3 eLl hR
      have nf := norm_few rs
      have lts := Paired.length hT4
      obtain ⟨dx, l, r, as', g1, g2, g3, g4⟩ := id ta.at_
      refine ⟨_, rfl, _, rfl, t, dx, _, rfl, g1, t, _, _, rfl, ta.at_, (norm rs).length, rfl, by omega, ?_⟩
      subst hc
      have hn : (norm rs).length ≤ 6 := by omega
      have csn := bnd_app tabs (ss, norm rs)
      generalize hl : (norm rs).length = ln at hn csn ⊢
      refine ⟨_, _, rfl, rfl, .inl ⟨by omega, by omega⟩, ?_⟩
      refine ⟨_, _, rfl, rfl, _, rfl, ?_⟩
      have cm : (bnd tabs : Int) * (ln : Int) = ((bnd tabs * ln : Nat) : Int) := by rw [Int.natCast_mul]
      rw [cm]
      refine ite2 (fun hc => ?_) (fun hc => ?_)
      · have hc := of_decide_eq_true hc
        have hm40 : bnd tabs * ln ≤ 40 := by omega
        refine ⟨_, rfl, .inl ⟨rfl, _, .inl (.inl eF4)⟩, _, rfl, Fd, _, _, rfl, rfl, eF4, by rw [List.length_map]; exact line100' (by omega), ?_⟩
        have tx5 := tx.put (ys := ts.map V.ref ++ [V.ref t]) eF4
        have hT5 : Paired (TaX C Fd (upd h4 Fd (.lst (ts.map V.ref ++ [V.ref t])))) ts tabs := Paired.mapP hT4 fun _ _ x => x.put eF4
        have eF5 : upd h4 Fd (.lst (ts.map V.ref ++ [V.ref t])) Fd = some (.lst ((ts ++ [t]).map V.ref)) := by rw [upd_same, List.map_append]; rfl
        have w5 : WellAt (n + 99 * (5 - (i + 1)) + 20) (upd h4 Fd (.lst (ts.map V.ref ++ [V.ref t]))) W := w4.upd FW.symm
        have m5 : Sm W H (upd h4 Fd (.lst (ts.map V.ref ++ [V.ref t]))) := Sm.mut m4 nFH
        generalize upd h4 Fd (.lst (ts.map V.ref ++ [V.ref t])) = h5 at tx5 hT5 eF5 w5 m5 ⊢
        obtain ⟨dx5, l5, r5', as5, k1, k2', k3, k4⟩ := id tx5.ta.at_
        refine ⟨_, rfl, _, rfl, t, dx5, _, rfl, k1, t, _, _, rfl, tx5.ta.at_, (norm rs).length, rfl, by omega, ?_⟩
        refine ⟨_, _, rfl, ?_⟩
        rw [hl]
        have mx : (if (ln : Int) > 1 then (ln : Int) else 1) = ((max 1 ln : Nat) : Int) := by
          by_cases z : (ln : Int) > 1
          · rw [if_pos z]; omega
          · rw [if_neg z]; omega
        rw [mx]
        refine ⟨_, _, rfl, rfl, .inl ⟨by omega, by omega⟩, ?_⟩
        have cm2 : (bnd tabs : Int) * ((max 1 ln : Nat) : Int) = ((bnd tabs * max 1 ln : Nat) : Int) := by rw [Int.natCast_mul]
        dsimp -proj only
        rw [cm2]
        have hb : bnd (tabs ++ [(ss, norm rs)]) = bnd tabs * max 1 ln := by rw [csn]
        have hb40 : bnd tabs * max 1 ln ≤ 40 := by
          by_cases z : ln = 0
          · rw [z]
            show bnd tabs * 1 ≤ 40
            omega
          · rw [show max 1 ln = ln by omega]
            exact hm40
        refine ⟨ts ++ [t], tabs ++ [(ss, norm rs)], _, _, _, _, _, by rw [hb], rfl, eF5, pr_snoc hT5 tx5, fun p hp => ?_, by rw [List.length_append, List.length_singleton]; omega, by rw [hb]; exact hb40, m5, w5.mono (by omega)⟩
        rcases List.mem_append.mp hp with hp | hp
        · exact sub p hp
        · rw [List.mem_singleton.mp hp]
          exact sss
      · exact ⟨ts, tabs, _, _, _, _, _, rfl, rfl, eF4, hT4, sub, Nat.le_succ_of_le lt, bt, m4, w4.mono (by omega)⟩
    · rintro σ G0 ⟨ts, tabs, mn, v6, v7, v8, v9, hc, rfl, eF, hT, sub, lt, bt, m0, w0⟩
      rw [en] at lt w0
      exact ⟨_, rfl, q G0 Fd ts tabs m0 (w0.mono (by omega)) FW nFH eF (Paired.mapP hT fun _ _ x => x.ta) sub (by omega) bt⟩
end
end T07

set_option maxHeartbeats 8000000
namespace T07
open PySem L2 PyProof.Rows TX TY TW TD TB TG TUD TE TK TSD TMI TL2 TNN
theorem cut_low {n k : Nat} {xs : List V} (hl : xs.length = n) (h : k ≤ n) : cutV xs none (some (k : Int)) = xs.take k := by
  unfold cutV
  rw [HT.sIx_none, HT.sIx_nat, hl, List.drop_zero]
  congr 1
  omega
theorem cut_up {n k : Nat} {xs : List V} (hl : xs.length = n) (h : k ≤ n) : cutV xs (some (k : Int)) none = xs.drop k := by
  unfold cutV
  rw [HT.sIx_none, HT.sIx_nat, hl, List.take_of_length_le]
  · congr 1
    omega
  · rw [List.length_drop]
    omega
theorem cut_one (xs : List V) : cutV xs none (some 1) = xs.take 1 := by
  cases xs with
  | nil => rfl
  | cons x l => exact cut_low (k := 1) rfl (by rw [List.length_cons]; omega)
theorem TaX.same {C F : Addr} {H H' : Hp} {t : Addr} {p : Tab} (h : TaX C F H t p) (s : Same H H') : TaX C F H' t p := by
  obtain ⟨⟨dx, l, r, as, h1, h2, h3, h4, h5⟩, k⟩ := h
  exact ⟨⟨dx, l, r, as, s _ _ h1, s _ _ h2, s _ _ h3, h4.same s, h5⟩, k⟩
theorem Ta.tax {C F : Addr} {H : Hp} {t : Addr} {p : Tab} (h : Ta C H t p.1 p.2) (n : H F = none) : TaX C F H t p := by
  obtain ⟨⟨dx, l, r, as, h1, h2, h3, h4⟩, c, k, f⟩ := h
  exact ⟨⟨dx, l, r, as, h1, h2, h3, h4, ne_of_none h2 n, ne_of_none h3 n⟩, c, k, f⟩
/-- a joining that is satisfied alike -/
structure Alike (tabs l : Tabs) : Prop where
  wf : ∀ p ∈ l, Wf p
  col : ∀ x, x ∈ allC l ↔ x ∈ allC tabs
  sat : ∀ f, Sat l f ↔ Sat tabs f
theorem alike_perm {tabs l : Tabs} (wf : ∀ p ∈ tabs, Wf p) (pm : l.Perm tabs) : Alike tabs l :=
  ⟨fun p hp => wf p (pm.mem_iff.mp hp), fun x => by
    rw [allC_un l, allC_un tabs]
    exact ⟨fun ⟨p, hp, h⟩ => ⟨p, pm.mem_iff.mp hp, h⟩, fun ⟨p, hp, h⟩ => ⟨p, pm.mem_iff.mpr hp, h⟩⟩, fun f => ⟨fun h p hp => h p (pm.mem_iff.mpr hp), fun h p hp => h p (pm.mem_iff.mp hp)⟩⟩
theorem alike_parts {l m : Tabs} (wf : ∀ p ∈ l ++ m, Wf p) : Alike (l ++ m) [(allC l, joinedR l), (allC m, joinedR m)] :=
  ⟨fun p hp => by
    rcases List.mem_cons.mp hp with rfl | hp
    · exact joined_wf l
    · rw [List.mem_singleton.mp hp]
      exact joined_wf m, fun x => by
    show x ∈ allC ([(allC l, joinedR l)] ++ [(allC m, joinedR m)]) ↔ _
    rw [col_app, col_app, col_one, col_one], fun f => by
    show Sat ([(allC l, joinedR l)] ++ [(allC m, joinedR m)]) f ↔ _
    rw [sat_app, sat_app, sat_whole fun p hp => wf p (List.mem_append_left _ hp), sat_whole fun p hp => wf p (List.mem_append_right _ hp)]⟩
theorem alike_twice {l : Tabs} (wf : ∀ p ∈ l, Wf p) : Alike l [(allC l, joinedR l), (allC l, joinedR l)] :=
  ⟨fun p hp => by
    rcases List.mem_cons.mp hp with rfl | hp
    · exact joined_wf l
    · rw [List.mem_singleton.mp hp]
      exact joined_wf l, fun x => by
    show x ∈ allC ([(allC l, joinedR l)] ++ [(allC l, joinedR l)]) ↔ _
    rw [col_app, col_one, or_self], fun f => by
    show Sat ([(allC l, joinedR l)] ++ [(allC l, joinedR l)]) f ↔ _
    rw [sat_app, sat_whole wf, and_self]⟩
theorem alike_more {l m : Tabs} (wf : ∀ p ∈ l, Wf p) (sub : ∀ p ∈ m, p ∈ l) : Alike l (l ++ m) :=
  ⟨fun p hp => by
    rcases List.mem_append.mp hp with hp | hp
    · exact wf p hp
    · exact wf p (sub p hp), fun x => by
    rw [col_app]
    refine ⟨fun h => h.elim id fun h => ?_, .inl⟩
    obtain ⟨p, hp, h⟩ := (allC_un m x).mp h
    exact (allC_un l x).mpr ⟨p, sub p hp, h⟩, fun f => by
    rw [sat_app]
    exact ⟨fun h => h.1, fun h => ⟨h, fun p hp => h p (sub p hp)⟩⟩⟩
theorem Alike.sub {tabs l : Tabs} {ns : List Str} (a : Alike tabs l) (h : ∀ p ∈ tabs, ∀ x ∈ p.1, x ∈ ns) : ∀ p ∈ l, ∀ x ∈ p.1, x ∈ ns := fun p hp x hx => by
  obtain ⟨q, hq, h2⟩ := (allC_un tabs x).mp ((a.col x).mp ((allC_un l x).mpr ⟨p, hp, hx⟩))
  exact h q hq x h2
section
variable {P : Program} {w : World} {K : PySem.W.Frag} {mg : Str → Option Value} {base : Heap}
variable {fW fN fA fR fK fS : Addr} {dW dN dA dR dK dS : FuncData}
variable {fP fQ fM fV fC fJ fI fL fO fF fX fE fT fU : Addr} {dP dQ dM dV dC dJ dI' dL dO dF dX dE dT dU : FuncData}
variable {C hc hr hl he : Addr} {gc gr gl ge : FuncData}
/-- joined and what it calls; rows kept; a table's length and == -/
structure Xd (K : PySem.W.Frag) (mg : Str → Option Value) (C fJ fL fO fF fX fE fT fU hl he : Addr) (dJ dL dO dF dX dE dT dU gl ge : FuncData) : Prop where
  join : Fn K mg "joined" s_joined ["tables"] fX dX
  all : Fn K mg "_all_columns" s_allcols ["tables"] fL dL
  few : Fn K mg "_fewest_together" s_fewest ["parts"] fF dF
  two : Fn K mg "_joined_two" s_joinedtwo ["one", "other"] fJ dJ
  kept : Fn K mg "kept_rows" s_kept ["table", "column", "low", "high"] fU dU
  nin : Fn K mg "is_name_in" s_is_name_in ["thing", "names"] fE dE
  str : Fn K mg "is_stretch" s_stretch ["low", "high"] fT dT
  of : Mt K C "of" "Table.of" s_bof ["self", "columns"] fO dO
  len : Mt K C "__len__" "Table.__len__" s_blen ["self"] hl gl
  eq : Mt K C "__eq__" "Table.__eq__" s_beq ["self", "other"] he ge
  ne : PySem.W.findIn K (.ref C) "__ne__" = some (some (.builtin "object.__ne__"))
  ns : PySem.W.notFirst K C (.ref C) = true
/-- the defs of the statement -/
structure Ld (K : PySem.W.Frag) (mg : Str → Option Value) (gD gN gB gP gM gT : Addr) (eD eN eB eP eM eT : FuncData) : Prop where
  max : mg "max" = none
  draw : Fn K mg "_law_draw" s_draw ["_law_well_here", "_law_top"] gD eD
  nms : Fn K mg "_law_names" s_names ["_law_well_here", "_law_count"] gN eN
  bas : Fn K mg "_law_base" s_base ["_law_well_here"] gB eB
  pick : Fn K mg "_law_picked" s_lpicked P_pick gP eP
  made : Fn K mg "_law_made" s_made P_made gM eM
  trn : Fn K mg "_law_turned" s_turned ["_law_well_here", "_law_some"] gT eT
variable {gD gN gB gP gM gT : Addr} {eD eN eB eP eM eT : FuncData}
theorem own_eqB {H : Hp} {a b : Addr} {cs cs' : List Str} {rs rs' : List (List Int)} {neg : Bool} {Q : VK} (c : Bc K mg C) (ns : PySem.W.notFirst K C (.ref C) = true) (h : TG.TabAt C H a cs rs) (k : TG.TabAt C H b cs' rs') (ok : ∀ x ∈ cs, TM.NameOk x) (ok' : ∀ x ∈ cs', TM.NameOk x)
    (q : ∀ H', Same H H' → Q (.bl (if neg = true then !(decide (cs = cs') && decide (rs = rs')) else (decide (cs = cs') && decide (rs = rs')))) H') : rOwnEq K C (sp_beq C) E0 neg (.ref a) (.ref b) H Q := by
  obtain ⟨dx, l, r, as, h1, h2, h3, h4⟩ := id h
  obtain ⟨dx', l', r', as', h1', h2', h3', h4'⟩ := id k
  exact ⟨a, dx, _, .ref C, rfl, h1, .base (.ins h1' c.cl c.ins.ha c.ins.hn c.ins.htk c.ins.hm), ns, a, b, cs, cs', rs, rs', rfl, h, k, ok, ok', fun H' s => ⟨_, rfl, q H' s⟩⟩
abbrev N_right : List Str := ["_law_well_here", "_law_names_here", "_law_base_here", "_law_some", "_law_whole", "_law_heads", "_law_at", "_law_others", "_law_other", "_law_table", "_law_lines", "_law_name", "_law_low", "_law_cut", "_law_line"]
theorem sc_right : FnScope N_right ["_law_well_here"] (defScope s_right) := ⟨rfl, rfl, rfl, by decide +kernel, rfl, by decide +kernel, by decide +kernel⟩
def sp_right : Sp := fun vs H Q _ => ∃ W : Addr, vs = [.ref W] ∧ WellAt 5000 H W ∧ ∀ H', Sm W H H' → Q (.bl true) H'
theorem ok_right {f : Addr} {fd : FuncData} (F : Fn K mg "_law_right" s_right ["_law_well_here"] f fd) (Tk : Kt K mg fW fN fA fR fK fS dW dN dA dR dK dS) (I : Im K mg C fI dI') (J : Jd K mg C hc hr fP fQ fM fV fC gc gr dP dQ dM dV dC) (Xk : Xd K mg C fJ fL fO fF fX fE fT fU hl he dJ dL dO dF dX dE dT dU gl ge)
    (L : Ld K mg gD gN gB gP gM gT eD eN eB eP eM eT) : FnOk P w K mg base CX0 8 f fd ["_law_well_here"] sp_right := by
  have B := Tk.B
  have D := J.t
  have cc := D.c
  have GD : FnOk P w K mg base CX0 1 gD eD ["_law_well_here", "_law_top"] sp_draw := ok_draw L.draw
  have GN : FnOk P w K mg base CX0 2 gN eN ["_law_well_here", "_law_count"] sp_names := ok_names L.nms B L.draw
  have GB : FnOk P w K mg base CX0 2 gB eB ["_law_well_here"] sp_base := ok_base L.bas L.draw
  have GM : FnOk P w K mg base CX0 6 gM eM P_made (sp_made C) := ok_made L.made J.min L.max L.pick L.draw Tk cc I Xk.len
  have GT : FnOk P w K mg base CX0 2 gT eT ["_law_well_here", "_law_some"] sp_turned := ok_turned L.trn B L.draw
  have GX : FnOk P w K mg base CX0 7 fX dX ["tables"] (sp_joined C) := ok_joined Xk.join Xk.all Xk.few Xk.two Xk.of Tk I J
  have GO : FnOk P w K mg base CX0 6 fO dO ["self", "columns"] (sp_ofV C) := ok_ofV Xk.of.F Tk I J
  have GK : FnOk P w K mg base CX0 6 fU dU ["table", "column", "low", "high"] (sp_keptV C) := ok_keptV Xk.kept Xk.nin Xk.str Tk I D
  have GC : FnOk P w K mg base CX0 1 hc gc ["self"] (sp_bcolumns C) := ok_bcolumns D.cols.F B cc
  have GR : FnOk P w K mg base CX0 1 hr gr ["self"] (sp_brows C) := ok_brows D.rows.F B cc
  have GE : FnOk P w K mg base CX0 1 he ge ["self", "other"] (sp_beq C) := ok_beq Xk.eq.F B cc
  refine F.F.ok sc_right (fun vs H Q E h => ?_) (fun cdv A outer s H vs Q E hr h => ?_)
  · obtain ⟨W, rfl, _⟩ := h
    rfl
  · obtain ⟨W, rfl, hW, q⟩ := h
    have nd := sc_right.nd
    have hu64 := hr.units
    have hu65 := u65 hr
    have hu0 := hr.units0
    have r1 : Room 1 _ := hr.mono (by decide)
    have r2 : Room 2 _ := hr.mono (by decide)
    have r6 : Room 6 _ := hr.mono (by decide)
    refine ⟨_, pss_cons (ps_set (i := 1) nd rfl (Or.inl rfl) (pe_call GN r2 rfl L.nms.g L.nms.F.kp L.nms.b .nil pass0 (pa_cons (pv 0) (pa_cons (pe_op op_add pe_int (pe_call GD r1 rfl L.draw.g L.draw.F.kp L.draw.b .nil pass0 (pa_cons (pv 0) (pa_cons pe_int pa_nil)))) pa_nil))))
      (pss_cons (ps_set (i := 2) nd rfl (Or.inl rfl) (pe_call GB r2 rfl L.bas.g L.bas.F.kp L.bas.b .nil pass0 (pa_cons (pv 0) pa_nil)))
      (pss_cons (ps_set (i := 3) nd rfl (Or.inl rfl) (pe_call GM r6 rfl L.made.g L.made.F.kp L.made.b .nil pass0 (pa_cons (pv 0) (pa_cons (pv 1) (pa_cons (pv 2) pa_nil)))))
      (pss_cons (ps_set (i := 4) nd rfl (Or.inl rfl) (pe_call GX hr rfl Xk.join.g Xk.join.F.kp Xk.join.b .nil pass0 (pa_cons (pv 3) pa_nil)))
      (pss_cons (ps_set (i := 5) nd rfl (Or.inl rfl) (pe_meth0 (pv 4) cc.cl D.cols.me GC r1 D.cols.b .nil pass0))
      (pss_cons (ps_set (i := 6) nd rfl (Or.inl rfl) (pe_call GD r1 rfl L.draw.g L.draw.F.kp L.draw.b .nil pass0 (pa_cons (pv 0) (pa_cons (pe_op op_add (pe_callB call_len_seq (by rfl) B.len PySem.boot_len (pa_cons (pv 3) pa_nil)) pe_int) pa_nil))))
      (pss_cons (ps_set (i := 7) nd rfl (Or.inl rfl) (pe_lst (pa_cons (pe_call GX hr rfl Xk.join.g Xk.join.F.kp Xk.join.b .nil pass0 (pa_cons (pe_call GT r2 rfl L.trn.g L.trn.F.kp L.trn.b .nil pass0 (pa_cons (pv 0) (pa_cons (pv 3) pa_nil))) pa_nil))
        (pa_cons (pe_call GX hr rfl Xk.join.g Xk.join.F.kp Xk.join.b .nil pass0 (pa_cons (pe_lst (pa_cons (pe_call GX hr rfl Xk.join.g Xk.join.F.kp Xk.join.b .nil pass0 (pa_cons (pe_slice sl_list (pv 3) po_none (po_some (pv 6))) pa_nil)) (pa_cons (pe_call GX hr rfl Xk.join.g Xk.join.F.kp Xk.join.b .nil pass0 (pa_cons (pe_slice sl_list (pv 3) (po_some (pv 6)) po_none) pa_nil)) pa_nil))) pa_nil))
        (pa_cons (pe_call GX hr rfl Xk.join.g Xk.join.F.kp Xk.join.b .nil pass0 (pa_cons (pe_lst (pa_cons (pv 4) (pa_cons (pv 4) pa_nil))) pa_nil)) pa_nil)))))
      (pss_cons (ps_expr (pe_bm PySem.F.plainAttrs_list PySem.F.slot_list_append PySem.F.type_list_append mt_append (pv 7) (pa_cons (pe_call GX hr rfl Xk.join.g Xk.join.F.kp Xk.join.b .nil pass0 (pa_cons (pe_op op_cat (pv 3) (pe_slice sl_list (pv 3) po_none (po_some pe_int))) pa_nil)) pa_nil)))
      (pss_cons (ps_for PassesOwn.never rfl (pi_list (pv 7)) (pg_name (i := 8) nd rfl (Or.inl rfl))
        (pss_one (ps_if (PW.pt (pw_or (pt_cmpR (op_neD hu64) (pe_callB L2.cr_sortedS (by rfl) B.sorted boot_sorted (pa_cons (pe_meth0 (pv 8) cc.cl D.cols.me GC r1 D.cols.b .nil pass0) pa_nil)) (pe_callB L2.cr_sortedS (by rfl) B.sorted boot_sorted (pa_cons (pv 5) pa_nil)) (nomark _))
          (pw_or1 (pt_cmpR (op_neOwn GE cc.ins.hm Xk.ne Xk.eq.me.at_ Xk.eq.me.fn Xk.eq.b pass0 r2) (pe_meth (pv 8) cc.cl Xk.of.me GO r6 Xk.of.b .nil pass0 (pa_cons (pv 5) pa_nil)) (pv 4) (nomark _))))) (pss_one (ps_ret pe_bl)) pss_nil)))
      (pss_cons (ps_for PassesOwn.never rfl (pi_list (pv 3)) (pg_name (i := 9) nd rfl (Or.inl rfl))
        (pss_cons (ps_set (i := 10) nd rfl (Or.inr rfl) (pe_meth0 (pv 9) cc.cl D.rows.me GR r1 D.rows.b .nil pass0))
        (pss_one (ps_if (pt_not (pt_val (pe_callB (cr_all rfl) (by rfl) B.all boot_all (pa_cons (pe_lc (own := [("_law_line", 14)]) (g := gName 14) (tt := tYes) (te := tOp (rInD K) (tVar 14) (tVar 10)) rfl nd (pi_list (pe_meth0 (pe_meth (pv 4) cc.cl Xk.of.me GO r6 Xk.of.b .nil pass0 (pa_cons (pe_meth0 (pv 9) cc.cl D.cols.me GC r1 D.cols.b .nil pass0) pa_nil)) cc.cl D.rows.me GR r1 D.rows.b .nil pass0))
          (blkOk_by (N := N_right) (sc := defScope s_right) (by decide +kernel)) (fun _ _ _ _ _ => pg_name (i := 14) nd rfl (Or.inl rfl)) (fun _ _ _ _ _ => pts_nil) (fun _ _ _ _ _ => pe_cmpR (op_inD hu65) (pv 14) (pv 10) rfl)) pa_nil)))) (pss_one (ps_ret pe_bl)) pss_nil))))
      (pss_cons (ps_if (pt_cmpR (op_eqNil hu0) (pv 5) (pe_lst pa_nil) (nomark _)) (pss_one (ps_ret (pe_cmpR (op_inDT hu65) (pe_meth0 (pv 4) cc.cl D.rows.me GR r1 D.rows.b .nil pass0) (pe_tup (pa_cons (pe_lst pa_nil) (pa_cons (pe_lst (pa_cons (pe_tup pa_nil) pa_nil)) pa_nil))) rfl))) pss_nil)
      (pss_cons (ps_set (i := 11) nd rfl (Or.inr rfl) (pe_ix ix_list (pv 5) (pe_call GD r1 rfl L.draw.g L.draw.F.kp L.draw.b .nil pass0 (pa_cons (pv 0) (pa_cons (pe_callB call_len_seq (by rfl) B.len PySem.boot_len (pa_cons (pv 5) pa_nil)) pa_nil))) (fun _ _ => rfl)))
      (pss_cons (ps_set (i := 12) nd rfl (Or.inr rfl) (pe_op op_add (pv 2) (pe_call GD r1 rfl L.draw.g L.draw.F.kp L.draw.b .nil pass0 (pa_cons (pv 0) (pa_cons pe_int pa_nil)))))
      (pss_cons (ps_setLc (i := 13) (own := [("_law_table", 9)]) (g := gName 9) (tt := tYes) (te := tIf (tTest (tOp (rIn K false) (tVar 11) (tMeth C "columns" (sp_bcolumns C) [] E0 (tVar 9) tNil))) (tCall (sp_keptV C) [] E0 (tCons (tVar 9) (tCons (tVar 11) (tCons (tVar 12) (tCons (tOp (rI0 fun i j => .int (i + j)) (tVar 12) (tC (.int 1))) tNil))))) (tVar 9)) (by rfl) nd rfl rfl (sw_true rfl rfl rfl (by decide +kernel)) (pi_list (pv 3)) (blkOk_by (N := N_right) (sc := defScope s_right) (by decide +kernel))
          (fun _ _ _ _ _ => pg_name (i := 9) nd rfl (Or.inl rfl)) (fun _ _ _ _ _ => pts_nil)
          (fun _ _ _ _ _ => pe_ifExp (pt_cmpR op_in_seq (pv 11) (pe_meth0 (pv 9) cc.cl D.cols.me GC r1 D.cols.b .nil pass0) rfl) (pe_call GK r6 rfl Xk.kept.g Xk.kept.F.kp Xk.kept.b .nil pass0 (pa_cons (pv 9) (pa_cons (pv 11) (pa_cons (pv 12) (pa_cons (pe_op op_add (pv 12) pe_int) pa_nil))))) (pv 9)))
      (pss_one (ps_ret (pe_cmpR (op_eqOwn GE Xk.eq.me.at_ Xk.eq.me.fn Xk.eq.b pass0 r1) (pe_call GX hr rfl Xk.join.g Xk.join.F.kp Xk.join.b .nil pass0 (pa_cons (pv 13) pa_nil)) (pe_call GK r6 rfl Xk.kept.g Xk.kept.F.kp Xk.kept.b .nil pass0 (pa_cons (pv 4) (pa_cons (pv 11) (pa_cons (pv 12) (pa_cons (pe_op op_add (pv 12) pe_int) pa_nil))))) (nomark _))))))))))))))))), ?_⟩
    -- names, a base, tables
    refine ⟨_, rfl, _, rfl, W, 7, 4999, rfl, by decide, by decide, hW, fun H1 k7 hk7 s1 w1 => ?_⟩
    refine ⟨_, _, rfl, rfl, ?_⟩
    have ck : (2 : Int) + (k7 : Int) = ((2 + k7 : Nat) : Int) := by omega
    dsimp -proj only
    rw [ck]
    refine ⟨W, 2 + k7, 4980, rfl, by omega, w1.mono (by omega), fun H2 Nn ns s2 w2 nNn NnW eNn lns nns okn => ?_⟩
    have m2 := s1.trans s2
    clear s1 s2 w1 nNn
    refine ⟨_, rfl, W, 4970, rfl, w2.mono (by omega), fun H3 b s3 w3 hb => ?_⟩
    have eN3 := s3 _ _ NnW eNn
    have m3 := m2.trans s3
    clear s3 m2 eNn w2
    have cs : Cs ns := ⟨nns, by omega, okn⟩
    refine ⟨_, rfl, _, rfl, _, rfl, W, Nn, ns, b, 4000, rfl, eN3, NnW, cs, w3.mono (by omega), fun H4 S ts tabs s4 w4 SW nS eS hT sub l5 bt => ?_⟩
    have m4 := m3.trans s4
    clear s4 m3 eN3 w3 nS
    have csU : Cs (allC tabs) := allC_cs cs sub
    have wf : ∀ p ∈ tabs, Wf p := fun p hp => by
      obtain ⟨i, hi⟩ := List.mem_iff_getElem?.mp hp
      obtain ⟨t, _, ta⟩ := pr_by hT hi
      exact ⟨ta.cok.nd, ta.len⟩
    have lts := Paired.length hT
    -- the whole
    refine ⟨_, rfl, S, ts, tabs, rfl, eS, hT, by omega, csU, by omega, fun H5 u s5 _ tu => ?_⟩
    have eS5 := s5 _ _ eS
    have hT5 := TasAt.same hT s5
    have w5 := w4.same s5
    have m5 := m4.trans (.of s5)
    clear s5 eS hT w4 m4
    obtain ⟨dx, lu, ru, au, g1, g2, g3, g4⟩ := id tu.at_
    refine ⟨_, rfl, u, dx, _, rfl, g1, nocols _ _, _, _, _, rfl, tu.at_, fun H6 Hd s6 nHd eHd => ?_⟩
    have eS6 := s6 _ _ eS5
    have hT6 := TasAt.same hT5 s6
    have w6 := w5.same s6
    have m6 := m5.trans (.of s6)
    have tu6 := tu.same s6
    clear s6 eS5 hT5 w5 m5 tu g1 g2 g3 g4 nHd
    -- where they are parted
    refine ⟨_, rfl, _, rfl, S, _, rfl, .inl (.of eS6), ?_⟩
    refine ⟨_, _, rfl, rfl, W, ts.length + 1, 3999, ?_, by omega, by omega, w6, fun H7 at' hat s7 w7 => ?_⟩
    · rw [List.length_map]
      rfl
    have ew6 : ∃ n, WellAt n H6 W := ⟨_, w6⟩
    have eS7 := s7 _ _ SW eS6
    have hT7 : TasAt C H7 ts tabs := Paired.mapP hT6 fun _ _ x => x.sm s7 ew6
    have tu7 := tu6.sm s7 ew6
    have eHd7 := s7 _ _ (well_strs ew6 eHd) eHd
    have m7 := m6.trans s7
    clear s7 ew6 eS6 hT6 tu6 eHd w6 m6
    -- turned
    refine ⟨_, rfl, _, rfl, W, S, ts, 3900, rfl, eS7, SW, by omega, w7.mono (by omega), fun H8 S1 us s8 w8 nS1 S1W eS1 pm => ?_⟩
    have ew7 : ∃ n, WellAt n H7 W := ⟨_, w7⟩
    have eS8 := s8 _ _ SW eS7
    have hT8 : TasAt C H8 ts tabs := Paired.mapP hT7 fun _ _ x => x.sm s8 ew7
    have tu8 := tu7.sm s8 ew7
    have eHd8 := s8 _ _ (well_strs ew7 eHd7) eHd7
    have m8 := m7.trans s8
    clear s8 ew7 eS7 hT7 tu7 eHd7 w7 m7 nS1
    obtain ⟨tabs1, pm1, hT1⟩ := pr_perm hT8 pm
    have a1 := alike_perm wf pm1
    have lt1 := pm1.length_eq
    refine ⟨S1, us, tabs1, rfl, eS1, hT1, by omega, allC_cs cs (a1.sub sub), by rw [bnd_perm pm1]; omega, fun H9 o1 s9 _ t1 => ?_⟩
    have eS9 := s9 _ _ eS8
    have hT9 := TasAt.same hT8 s9
    have tu9 := tu8.same s9
    have eHd9 := s9 _ _ eHd8
    have w9 := w8.same s9
    have m9 := m8.trans (.of s9)
    clear s9 eS8 hT8 tu8 eHd8 w8 m8 eS1 hT1
    -- parted
    have lS : (ts.map V.ref).length = ts.length := List.length_map _
    have al : at' ≤ ts.length := by omega
    refine ⟨_, rfl, _, rfl, _, rfl, S, _, rfl, .of eS9, fun A nA => ?_⟩
    rw [cut_low lS al, ← List.map_take]
    have sA : Same H9 (upd H9 A (.lst ((ts.take at').map V.ref))) := Same.new (by exact nA)
    have eA : upd H9 A (.lst ((ts.take at').map V.ref)) A = some (.lst ((ts.take at').map V.ref)) := upd_same
    generalize upd H9 A (.lst ((ts.take at').map V.ref)) = H10 at sA eA ⊢
    have spl : tabs.take at' ++ tabs.drop at' = tabs := List.take_append_drop _ _
    have b2 : bnd (tabs.take at') * bnd (tabs.drop at') = bnd tabs := by rw [← bnd_cat, spl]
    have bp1 := bnd_pos (tabs.take at')
    have bp2 := bnd_pos (tabs.drop at')
    have bA : bnd (tabs.take at') ≤ 40 := Nat.le_trans (Nat.le_trans (Nat.le_of_eq (Nat.mul_one _).symm) (Nat.mul_le_mul_left _ bp2)) (by omega)
    have bB : bnd (tabs.drop at') ≤ 40 := Nat.le_trans (Nat.le_trans (Nat.le_of_eq (Nat.one_mul _).symm) (Nat.mul_le_mul_right _ bp1)) (by omega)
    refine ⟨A, ts.take at', tabs.take at', rfl, eA, pr_take (TasAt.same hT9 sA) _, by rw [List.length_take]; omega, allC_cs cs fun p hp => sub p (List.mem_of_mem_take hp), by omega, fun H11 oa s11 _ ta => ?_⟩
    have sA11 := sA.trans s11
    refine ⟨_, rfl, _, rfl, _, rfl, S, _, rfl, .of (sA11 _ _ eS9), fun A2 nA2 => ?_⟩
    rw [cut_up lS al, ← List.map_drop]
    have sA2 : Same H11 (upd H11 A2 (.lst ((ts.drop at').map V.ref))) := Same.new (by exact nA2)
    have eA2 : upd H11 A2 (.lst ((ts.drop at').map V.ref)) A2 = some (.lst ((ts.drop at').map V.ref)) := upd_same
    generalize upd H11 A2 (.lst ((ts.drop at').map V.ref)) = H12 at sA2 eA2 ⊢
    have sA12 := sA11.trans sA2
    refine ⟨A2, ts.drop at', tabs.drop at', rfl, eA2, pr_drop (TasAt.same hT9 sA12) _, by rw [List.length_drop]; omega, allC_cs cs fun p hp => sub p (List.mem_of_mem_drop hp), by omega, fun H13 ob s13 _ tb => ?_⟩
    have sA13 := sA12.trans s13
    refine ⟨by show 2 ≤ sizeLine; decide, fun A3 nA3 => ?_⟩
    have s14 : Same H13 (upd H13 A3 (.lst [.ref oa, .ref ob])) := Same.new nA3
    have eA3 : upd H13 A3 (.lst [.ref oa, .ref ob]) A3 = some (.lst ([oa, ob].map V.ref)) := upd_same
    have ta14 := (ta.same (sA2.trans s13)).same s14
    have tb14 := tb.same s14
    have sA14 := sA13.trans s14
    generalize upd H13 A3 (.lst [.ref oa, .ref ob]) = H14 at eA3 ta14 tb14 sA14 ⊢
    have a2 : Alike tabs [(allC (tabs.take at'), joinedR (tabs.take at')), (allC (tabs.drop at'), joinedR (tabs.drop at'))] := by
      have := alike_parts (l := tabs.take at') (m := tabs.drop at') (by rw [spl]; exact wf)
      rwa [spl] at this
    refine ⟨A3, [oa, ob], _, rfl, eA3, .cons ta14 (.cons tb14 .nil), by show 2 ≤ 7; decide, allC_cs cs (a2.sub sub), ?_, fun H15 o2 s15 _ t2 => ?_⟩
    · rw [bnd_two]
      have x := Nat.mul_le_mul (max_few (tabs.take at')) (max_few (tabs.drop at'))
      exact Nat.le_trans x (by omega)
    have s915 := sA14.trans s15
    have eS15 := s915 _ _ eS9
    have hT15 := TasAt.same hT9 s915
    have tu15 := tu9.same s915
    have eHd15 := s915 _ _ eHd9
    have w15 := w9.same s915
    have m15 := m9.trans (.of s915)
    have t1_15 := t1.same s915
    clear s915 sA14 s15 sA13 sA12 sA11 sA sA2 s11 s13 s14 eA eA2 eA3 ta tb ta14 tb14 nA nA2 nA3 eS9 hT9 tu9 eHd9 w9 m9 t1
    -- twice
    refine ⟨_, rfl, _, rfl, by show 2 ≤ sizeLine; decide, fun A nA => ?_⟩
    have sA : Same H15 (upd H15 A (.lst [.ref u, .ref u])) := Same.new nA
    have eA : upd H15 A (.lst [.ref u, .ref u]) A = some (.lst ([u, u].map V.ref)) := upd_same
    generalize upd H15 A (.lst [.ref u, .ref u]) = H16 at sA eA ⊢
    have a3 := alike_twice wf
    have tu16 := tu15.same sA
    refine ⟨A, [u, u], _, rfl, eA, .cons tu16 (.cons tu16 .nil), by show 2 ≤ 7; decide, allC_cs cs (a3.sub sub), ?_, fun H17 o3 s17 _ t3 => ?_⟩
    · rw [bnd_two]
      have x := Nat.mul_le_mul (max_few tabs) (max_few tabs)
      have y : bnd tabs * bnd tabs ≤ 40 * 40 := Nat.mul_le_mul bt bt
      exact Nat.le_trans x (by omega)
    refine ⟨by show 3 ≤ sizeLine; decide, fun O nO => ?_⟩
    have s1517 := sA.trans s17
    have eS17 := s1517 _ _ eS15
    have hT17 := TasAt.same hT15 s1517
    have tu17 := tu15.same s1517
    have eHd17 := s1517 _ _ eHd15
    have w17 := w15.same s1517
    have m17 := m15.trans (.of s1517)
    have t1_17 := t1_15.same s1517
    have t2_17 := t2.same s1517
    clear s1517 sA s17 eA tu16 nA eS15 hT15 tu15 eHd15 w15 m15 t1_15 t2
    have sO : Same H17 (upd H17 O (.lst [.ref o1, .ref o2, .ref o3])) := Same.new nO
    have eO : upd H17 O (.lst [.ref o1, .ref o2, .ref o3]) O = some (.lst [.ref o1, .ref o2, .ref o3]) := upd_same
    generalize upd H17 O (.lst [.ref o1, .ref o2, .ref o3]) = H18 at sO eO ⊢
    -- one more
    refine ⟨_, rfl, .inl ⟨rfl, _, .inl (.inl eO)⟩, _, rfl, _, rfl, _, rfl, S, _, rfl, .of (sO _ _ eS17), fun A nA => ?_⟩
    rw [cut_one, ← List.map_take]
    have sA : Same H18 (upd H18 A (.lst ((ts.take 1).map V.ref))) := Same.new (by exact nA)
    have eA : upd H18 A (.lst ((ts.take 1).map V.ref)) A = some (.lst ((ts.take 1).map V.ref)) := upd_same
    have sOA := sO.trans sA
    have eO2 := sA _ _ eO
    generalize upd H18 A (.lst ((ts.take 1).map V.ref)) = H19 at sA eA sOA eO2 ⊢
    refine ⟨S, A, _, _, rfl, rfl, sOA _ _ eS17, eA, by rw [List.length_map, List.length_map, List.length_take]; exact line100 (by omega), fun Z nZ => ?_⟩
    have sZ : Same H19 (upd H19 Z (.lst (ts.map V.ref ++ (ts.take 1).map V.ref))) := Same.new nZ
    have eZ : upd H19 Z (.lst (ts.map V.ref ++ (ts.take 1).map V.ref)) Z = some (.lst ((ts ++ ts.take 1).map V.ref)) := by rw [upd_same, List.map_append]
    have sOZ := sOA.trans sZ
    have eO3 := sZ _ _ eO2
    generalize upd H19 Z (.lst (ts.map V.ref ++ (ts.take 1).map V.ref)) = H20 at sZ eZ sOZ eO3 ⊢
    have a4 := alike_more wf (m := tabs.take 1) fun p hp => List.mem_of_mem_take hp
    have hT20 := TasAt.same hT17 sOZ
    refine ⟨Z, ts ++ ts.take 1, tabs ++ tabs.take 1, rfl, eZ, pr_app hT20 (pr_take hT20 1), ?_, allC_cs cs (a4.sub sub), ?_, fun H21 o4 s21 n4 _ => ?_⟩
    · rw [List.length_append, List.length_take]
      omega
    · rw [bnd_cat]
      have y : bnd (tabs.take 1) ≤ 40 := by
        have e : bnd (tabs.take 1) * bnd (tabs.drop 1) = bnd tabs := by rw [← bnd_cat, List.take_append_drop]
        exact Nat.le_trans (Nat.le_trans (Nat.le_of_eq (Nat.mul_one _).symm) (Nat.mul_le_mul_left _ (bnd_pos (tabs.drop 1)))) (by omega)
      have x : bnd tabs * bnd (tabs.take 1) ≤ 40 * 40 := Nat.mul_le_mul bt y
      omega
    have eO4 := s21 _ _ eO3
    refine ⟨O, _, _, rfl, rfl, eO4, by show 3 < sizeLine; exact line100' (by omega), ?_⟩
    have s1721 := Same.mut (o := .lst ([.ref o1, .ref o2, .ref o3] ++ [.ref o4])) (sOZ.trans s21) nO
    have n4' := n4.put (ys := [.ref o1, .ref o2, .ref o3] ++ [.ref o4]) eO3 eO4
    have eO5 : upd H21 O (.lst ([.ref o1, .ref o2, .ref o3] ++ [.ref o4])) O = some (.lst ([o1, o2, o3, o4].map V.ref)) := upd_same
    generalize upd H21 O (.lst ([.ref o1, .ref o2, .ref o3] ++ [.ref o4])) = G at s1721 n4' eO5 ⊢
    clear sOZ s21 n4 eO4 eO3 eO2 eO sOA sA sO sZ eZ eA hT20 nZ nA
    have eSG := s1721 _ _ eS17
    have hTG := TasAt.same hT17 s1721
    have tuG := tu17.same s1721
    have eHG := s1721 _ _ eHd17
    have wG := w17.same s1721
    have mG := m17.trans (.of s1721)
    have t1G := t1_17.same s1721
    have t2G := t2_17.same s1721
    have t3G := t3.same s1721
    have t4G : Ta C G o4 (allC (tabs ++ tabs.take 1)) (joinedR (tabs ++ tabs.take 1)) := ⟨n4'.tab, allC_cs cs (a4.sub sub), fun r hr => joined_wide hr, by
      have x := joined_few (tabs ++ tabs.take 1)
      rw [bnd_cat] at x
      have y : bnd (tabs.take 1) ≤ 40 := by
        have e : bnd (tabs.take 1) * bnd (tabs.drop 1) = bnd tabs := by rw [← bnd_cat, List.take_append_drop]
        exact Nat.le_trans (Nat.le_trans (Nat.le_of_eq (Nat.mul_one _).symm) (Nat.mul_le_mul_left _ (bnd_pos (tabs.drop 1)))) (by omega)
      have z : bnd tabs * bnd (tabs.take 1) ≤ 40 * 40 := Nat.mul_le_mul bt y
      omega⟩
    have all4 : ∀ o ∈ [o1, o2, o3, o4], ∃ l, Alike tabs l ∧ Ta C G o (allC l) (joinedR l) := fun o ho => by
      rcases List.mem_cons.mp ho with rfl | ho
      · exact ⟨_, a1, t1G⟩
      · rcases List.mem_cons.mp ho with rfl | ho
        · exact ⟨_, a2, t2G⟩
        · rcases List.mem_cons.mp ho with rfl | ho
          · exact ⟨_, a3, t3G⟩
          · rw [List.mem_singleton.mp ho]
            exact ⟨_, a4, t4G⟩
    clear t1G t2G t3G t4G n4' a1 a2 a3 a4 s1721 t1_17 t2_17 t3 m17 w17 eHd17 tu17 hT17 eS17 nO
    generalize hos : [o1, o2, o3, o4] = os at all4 eO5
    clear hos
    -- each of the others
    refine ⟨_, rfl, O, rfl, ⟨_, .of eO5⟩, ?_⟩
    refine for_it (walk_list (xs := os.map V.ref)) (fun i σ h => ∃ v8 : Option V, σ = [some (.ref W), some (.ref Nn), some (.int b), some (.ref S), some (.ref u), some (.ref Hd), some (.int (at' : Nat)), some (.ref O), v8, none, none, none, none, none, none] ∧ Same G h)
      ⟨none, rfl, same_rfl⟩ (fun i σ h _ ⟨_, _, s⟩ => .of (s _ _ eO5)) ?_ ?_
    · rintro i x σ h h' hi ⟨v8, rfl, sg⟩ ⟨rfl, hx⟩
      rw [List.length_map] at hi
      obtain ⟨o, ho, rfl⟩ : ∃ a, os[i]? = some a ∧ x = V.ref a := by
        rw [List.getElem?_map, List.getElem?_eq_getElem hi] at hx
        exact ⟨_, List.getElem?_eq_getElem hi, (Option.some.inj hx).symm⟩
      obtain ⟨l, al', to⟩ := all4 o (List.mem_of_getElem? ho)
      obtain ⟨pmC, eqR⟩ := joined_alike al'.wf wf al'.col al'.sat
      have to' := to.same sg
      obtain ⟨dx, lo, ro, ao, g1, g2, g3, g4⟩ := id to'.at_
      refine ⟨_, rfl, o, dx, _, rfl, g1, nocols _ _, _, _, _, rfl, to'.at_, fun h2 Lc s2 _ eLc => ?_⟩
      refine ⟨Lc, allC l, rfl, .of eLc, by have := to'.cok.le; omega, fun ys p1 pm1 so1 np1 => ?_⟩
      have s3 : Same h2 (upd h2 p1 (.lst (ys.map V.str))) := Same.new np1
      have e1 : upd h2 p1 (.lst (ys.map V.str)) p1 = some (.lst (ys.map V.str)) := upd_same
      have sg3 := (sg.trans s2).trans s3
      generalize upd h2 p1 (.lst (ys.map V.str)) = h3 at s3 e1 sg3 ⊢
      refine ⟨_, rfl, Hd, allC tabs, rfl, .of (sg3 _ _ eHG), by have := csU.le; omega, fun zs p2 pm2 so2 np2 => ?_⟩
      have s4 : Same h3 (upd h3 p2 (.lst (zs.map V.str))) := Same.new np2
      have e2 : upd h3 p2 (.lst (zs.map V.str)) p2 = some (.lst (zs.map V.str)) := upd_same
      have sg4 := sg3.trans s4
      have e1' := s4 _ _ e1
      generalize upd h3 p2 (.lst (zs.map V.str)) = h4 at s4 e2 sg4 e1' ⊢
      have yz : ys = zs := TX.sorted_same ((pm1.trans pmC).trans pm2.symm) so1 so2
      have okz : ∀ x ∈ zs, TM.NameOk x := fun x hx => csU.ok x (pm2.mem_iff.mp hx)
      rw [yz] at e1'
      refine ⟨_, _, DpS e1', DpS e2, shS okz, shS okz, _, rfl, ?_⟩
      rw [eqv_dS, decide_eq_true rfl]
      have s24 := (s2.trans s3).trans s4
      have to4 := to.same sg4
      refine ⟨_, rfl, o, dx, _, rfl, s24 _ _ g1, noof _ _, _, rfl, o, Hd, _, _, _, rfl, to4, sg4 _ _ eHG, csU, fun m hm => (al'.col m).mpr hm, fun h5 v s5 _ tv => ?_⟩
      rw [eqR] at tv
      refine ⟨_, rfl, ?_⟩
      refine own_eqB cc Xk.ns tv.at_ ((tuG.same sg4).same s5).at_ csU.ok csU.ok fun h6 s6 => ?_
      rw [if_pos rfl, decide_eq_true rfl, decide_eq_true rfl]
      refine ⟨_, rfl, ?_⟩
      exact ⟨_, rfl, (sg4.trans s5).trans s6⟩
    rintro σ G2 ⟨v8, rfl, sg⟩
    have eS2 := sg _ _ eSG
    have hT2 := TasAt.same hTG sg
    have tu2 := tuG.same sg
    have eH2 := sg _ _ eHG
    have w2 := wG.same sg
    have m2 := mG.trans (.of sg)
    clear sg eSG hTG tuG eHG wG mG all4 eO5
    -- each of the tables
    refine ⟨_, rfl, S, rfl, ⟨_, .of eS2⟩, ?_⟩
    refine for_it (walk_list (xs := ts.map V.ref)) (fun i σ h => ∃ v8 v9 v10 : Option V, σ = [some (.ref W), some (.ref Nn), some (.int b), some (.ref S), some (.ref u), some (.ref Hd), some (.int (at' : Nat)), some (.ref O), v8, v9, v10, none, none, none, none] ∧ Same G2 h)
      ⟨v8, none, none, rfl, same_rfl⟩ (fun i σ h _ ⟨_, _, _, _, s⟩ => .of (s _ _ eS2)) ?_ ?_
    · rintro i x σ h h' hi ⟨v8, v9, v10, rfl, sg⟩ ⟨rfl, hx⟩
      rw [List.length_map] at hi
      obtain ⟨t, ht, rfl⟩ : ∃ a, ts[i]? = some a ∧ x = V.ref a := by
        rw [List.getElem?_map, List.getElem?_eq_getElem hi] at hx
        exact ⟨_, List.getElem?_eq_getElem hi, (Option.some.inj hx).symm⟩
      obtain ⟨p, hp, ta0⟩ := pr_at hT2 ht
      have hpm := List.mem_of_getElem? hp
      have ta := ta0.same sg
      have tu' := tu2.same sg
      obtain ⟨dx, lo, ro, ao, g1, g2, g3, g4⟩ := id ta.at_
      obtain ⟨dxu, lu, ru, au, f1, f2, f3, f4⟩ := id tu'.at_
      refine ⟨_, rfl, t, dx, _, rfl, g1, norows _ _, _, _, _, rfl, ta.at_, fun h2 Lr as2 s2 _ eLr hLr => ?_⟩
      refine ⟨_, rfl, u, dxu, _, rfl, s2 _ _ f1, noof _ _, ?_⟩
      refine ⟨_, rfl, t, dx, _, rfl, s2 _ _ g1, nocols _ _, _, _, _, rfl, ta.at_.same s2, fun h3 Lc s3 _ eLc => ?_⟩
      have s23 := s2.trans s3
      refine ⟨u, Lc, _, _, _, rfl, tu'.same s23, eLc, ta.cok, fun m hm => (allC_un tabs m).mpr ⟨p, hpm, hm⟩, fun h4 v s4 _ tv => ?_⟩
      have s24 := s23.trans s4
      obtain ⟨dxv, lv, rv, av, k1, k2, k3, k4⟩ := id tv.at_
      refine ⟨v, dxv, _, rfl, k1, norows _ _, _, _, _, rfl, tv.at_, fun h5 Lx as5 s5 _ eLx hLx => ?_⟩
      have s25 := s24.trans s5
      have s35 := (s3.trans s4).trans s5
      refine ⟨Lx, rfl, ⟨_, .of eLx⟩, fun Dn nDn => ?_⟩
      have hal := hLx.len
      have fewv := tv.few
      refine lc_it (walk_list (xs := as5.map V.ref)) (fun n h => h Dn = some (.lst ((List.replicate n true).map V.bl)) ∧ Same h5 h) ⟨upd_same, Same.new nDn⟩ (fun n h _ ⟨_, s⟩ => .of (s _ _ eLx)) ?_ ?_
      · rintro n y h6 h6' hn ⟨e6, s6⟩ ⟨rfl, hy⟩
        rw [List.length_map] at hn
        obtain ⟨a, ha, rfl⟩ : ∃ a, as5[n]? = some a ∧ y = V.ref a := by
          rw [List.getElem?_map, List.getElem?_eq_getElem hn] at hy
          exact ⟨_, List.getElem?_eq_getElem hn, (Option.some.inj hy).symm⟩
        obtain ⟨r, hr', hra⟩ := pr_at hLx ha
        have hin : r ∈ p.2 := of_part wf hpm (List.mem_of_getElem? hr')
        refine ⟨rfl, ?_⟩
        refine ⟨_, rfl, _, rfl, _, _, DpRow (s6 _ _ hra), DpRows ((s35.trans s6) _ _ eLr) (hLr.same (s35.trans s6)), sh_row _, shRows _, ?_⟩
        have en : ((p.2.map fun q => PyData.tuple ((q.map V.int).map TD.dV)).any fun z => PyData.eqv z (.tuple ((r.map V.int).map TD.dV))) = true := by rw [any_row]; exact decide_eq_true hin
        rw [en]
        refine ⟨_, e6, ?_, ?_, Same.mut s6 nDn⟩
        · rw [List.length_map, List.length_replicate]
          exact line100' (by omega)
        · rw [upd_same, List.replicate_succ', List.map_append]
          rfl
      · rintro h6 ⟨e6, s6⟩
        refine ⟨Dn, _, rfl, .of e6, ?_⟩
        have ea : (List.replicate (as5.map V.ref).length true).all id = true := List.all_eq_true.mpr fun x hx => List.eq_of_mem_replicate hx
        rw [ea]
        refine ⟨true, rfl, ?_⟩
        exact ⟨_, _, _, rfl, (sg.trans s25).trans s6⟩
    rintro σ G3 ⟨v8, v9, v10, rfl, sg⟩
    have eS3 := sg _ _ eS2
    have hT3 := TasAt.same hT2 sg
    have tu3 := tu2.same sg
    have eH3 := sg _ _ eH2
    have w3 := w2.same sg
    have m3 := m2.trans (.of sg)
    clear sg eS2 hT2 tu2 eH2 w2 m2
    obtain ⟨dxu, lu, ru, au, f1, f2, f3, f4⟩ := id tu3.at_
    -- no columns
    refine ⟨_, rfl, by show 0 ≤ sizeLine; decide, fun N0 nN0 => ?_⟩
    have sN : Same G3 (upd G3 N0 (.lst [])) := Same.new nN0
    refine ⟨Hd, N0, _, rfl, rfl, .of (sN _ _ eH3), .of upd_same, _, rfl, ?_⟩
    have eS4 := sN _ _ eS3
    have hT4 := TasAt.same hT3 sN
    have tu4 := tu3.same sN
    have eH4 := sN _ _ eH3
    have f1' := sN _ _ f1
    have w4 := w3.same sN
    have m4 := m3.trans (.of sN)
    generalize upd G3 N0 (.lst []) = G4 at eS4 hT4 tu4 eH4 f1' w4 m4 ⊢
    clear sN nN0 eS3 hT3 tu3 eH3 f1 f2 f3 f4 w3 m3
    refine ite2 (fun hc => ?_) (fun hc => ?_)
    · have hU : allC tabs = [] := by
        cases hz : allC tabs with
        | nil => rfl
        | cons a l => rw [hz] at hc; cases hc
      refine ⟨_, rfl, u, dxu, _, rfl, f1', norows _ _, _, _, _, rfl, tu4.at_, fun h2 Lr as2 s2 _ eLr hLr => ?_⟩
      refine ⟨by show 0 ≤ sizeLine; decide, fun A nA => ?_⟩
      have s3 : Same h2 (upd h2 A (.lst [])) := Same.new nA
      have eA : upd h2 A (.lst []) A = some (.lst (([] : List Addr).map V.ref)) := upd_same
      generalize upd h2 A (.lst []) = h3 at s3 eA ⊢
      refine ⟨by show 0 ≤ sizeLine; decide, fun T nT => ?_⟩
      have s4 : Same h3 (upd h3 T (.tup [])) := Same.new nT
      have eT : upd h3 T (.tup []) T = some (.tup (([] : List Int).map V.int)) := upd_same
      generalize upd h3 T (.tup []) = h4 at s4 eT ⊢
      refine ⟨by show 1 ≤ sizeLine; decide, fun B1 nB1 => ?_⟩
      have s5 : Same h4 (upd h4 B1 (.lst [.ref T])) := Same.new nB1
      have eB : upd h4 B1 (.lst [.ref T]) B1 = some (.lst ([T].map V.ref)) := upd_same
      generalize upd h4 B1 (.lst [.ref T]) = h5 at s5 eB ⊢
      refine ⟨two_le, fun T2 nT2 => ?_⟩
      have s6 : Same h5 (upd h5 T2 (.tup [.ref A, .ref B1])) := Same.new nT2
      have eT2 : upd h5 T2 (.tup [.ref A, .ref B1]) T2 = some (.tup [.ref A, .ref B1]) := upd_same
      generalize upd h5 T2 (.tup [.ref A, .ref B1]) = h6 at s6 eT2 ⊢
      have s36 := ((s3.trans s4).trans s5).trans s6
      refine ⟨_, [TG.dR [], TG.dR [[]]], DpRows (s36 _ _ eLr) (hLr.same s36), .tup (.of eT2) (.cons (DpRows (((s4.trans s5).trans s6) _ _ eA) .nil) (.cons (DpRows (s6 _ _ eB) (.cons (((s5.trans s6)) _ _ eT) .nil)) .nil)), shRows _, by decide +kernel, ?_⟩
      have ea : ([TG.dR [], TG.dR [[]]].any fun z => PyData.eqv z (TG.dR (joinedR tabs))) = true := by
        rcases no_cols hU with e | e
        · rw [e]
          decide +kernel
        · rw [e]
          decide +kernel
      rw [ea]
      exact q _ (m4.trans (.of (s2.trans s36)))
    have hU : (allC tabs).length ≠ 0 := fun z => hc (by
      have : allC tabs = [] := List.length_eq_zero_iff.mp z
      rw [this]
      rfl)
    -- a name
    refine ⟨_, rfl, _, rfl, _, rfl, Hd, _, rfl, .inl (.of eH4), W, (allC tabs).length, 3800, ?_, by omega, by have := csU.le; omega, w4.mono (by omega), fun G5 j hj s5 w5 => ?_⟩
    · rw [List.length_map]
      rfl
    have ew4 : ∃ n, WellAt n G4 W := ⟨_, w4⟩
    have eS5 := s5 _ _ SW eS4
    have hT5 : TasAt C G5 ts tabs := Paired.mapP hT4 fun _ _ x => x.sm s5 ew4
    have tu5 := tu4.sm s5 ew4
    have eH5 := s5 _ _ (well_strs ew4 eH4) eH4
    have m5 := m4.trans s5
    clear s5 ew4 eS4 hT4 tu4 eH4 f1' w4 m4
    obtain ⟨x, hx⟩ : ∃ x, (allC tabs)[j]? = some x := ⟨_, List.getElem?_eq_getElem hj⟩
    have hxm := List.mem_of_getElem? hx
    refine ⟨Hd, _, (j : Int), .str x, rfl, rfl, .of eH5, atI_nat (by rw [List.getElem?_map, hx]; rfl), ?_⟩
    -- from where
    refine ⟨_, rfl, _, rfl, W, 3, 3700, rfl, by decide, by decide, w5.mono (by omega), fun G6 k3 hk3 s6 w6 => ?_⟩
    have ew5 : ∃ n, WellAt n G5 W := ⟨_, w5⟩
    have eS6 := s6 _ _ SW eS5
    have hT6 : TasAt C G6 ts tabs := Paired.mapP hT5 fun _ _ x => x.sm s6 ew5
    have tu6 := tu5.sm s6 ew5
    have m6 := m5.trans s6
    clear s6 ew5 eS5 hT5 tu5 eH5 m5 w5
    refine ⟨_, _, rfl, rfl, ?_⟩
    dsimp -proj only
    generalize b + (k3 : Int) = low
    -- cut
    dsimp only [gName]
    refine sq_asg ?_
    refine ⟨_, rfl, S, rfl, ⟨_, .of eS6⟩, fun Dn nDn => ?_⟩
    refine lc_it (walk_list (xs := ts.map V.ref)) (fun i h => ∃ bs, h Dn = some (.lst (bs.map V.ref)) ∧ Paired (TaX C Dn h) bs ((tabs.take i).map (cutT x low (low + 1))) ∧ Same G6 h) ⟨[], upd_same, .nil, Same.new nDn⟩ (fun i h _ ⟨_, _, _, s⟩ => .of (s _ _ eS6)) ?_ ?_
    · rintro i y h h' hi ⟨bs, e4, t4, s4⟩ ⟨rfl, hy⟩
      rw [List.length_map] at hi
      obtain ⟨t, ht, rfl⟩ : ∃ a, ts[i]? = some a ∧ y = V.ref a := by
        rw [List.getElem?_map, List.getElem?_eq_getElem hi] at hy
        exact ⟨_, List.getElem?_eq_getElem hi, (Option.some.inj hy).symm⟩
      obtain ⟨p, hp, ta0⟩ := pr_at hT6 ht
      have tx0 := (Ta.tax ta0 nDn).same s4
      have ta := ta0.same s4
      obtain ⟨dx, lo, ro, ao, g1, g2, g3, g4⟩ := id ta.at_
      have lb : bs.length ≤ 5 := by
        have := Paired.length t4
        rw [List.length_map, List.length_take] at this
        omega
      have nx : (tabs.take (i + 1)).map (cutT x low (low + 1)) = (tabs.take i).map (cutT x low (low + 1)) ++ [cutT x low (low + 1) p] := by
        rw [List.take_add_one, hp, List.map_append]
        rfl
      refine ⟨rfl, ?_⟩
      dsimp only [tYes]
      rw [if_pos rfl]
      refine ⟨_, rfl, _, rfl, t, dx, _, rfl, g1, nocols _ _, _, _, _, rfl, ta.at_, fun h2 Lc s2 _ eLc => ?_⟩
      refine ⟨Lc, _, rfl, .inl (.of eLc), rfl, TX.flat_strs _, _, rfl, ?_⟩
      have ei : inV (V.str x) (p.1.map V.str) = decide (x ∈ p.1) := inV_str x _
      show (if (if false = true then !inV (V.str x) (p.1.map V.str) else inV (V.str x) (p.1.map V.str)) = true then _ else _)
      rw [if_neg Bool.false_ne_true, ei]
      have e4' := s2 _ _ e4
      by_cases z : x ∈ p.1
      · rw [if_pos (decide_eq_true z)]
        have ec : cutT x low (low + 1) p = (p.1, norm (p.2.filter (inS (p.1.idxOf x) low (low + 1)))) := if_pos z
        have hk := List.idxOf_lt_length_of_mem z
        refine ⟨_, rfl, _, rfl, _, rfl, _, rfl, _, _, rfl, rfl, t, x, low, low + 1, p.1.idxOf x, p.1, p.2, rfl, ta.same s2, by rw [List.getElem?_eq_getElem hk, List.getElem_idxOf hk], by omega, fun h5 v s5 tn tv => ?_⟩
        have e5 := s5 _ _ e4'
        refine ⟨_, e5, by rw [List.length_map]; exact line100' (by omega), bs ++ [v], by rw [upd_same, List.map_append]; rfl, ?_, Same.mut ((s4.trans s2).trans s5) nDn⟩
        rw [nx, ec]
        exact pr_snoc (Paired.mapP t4 fun _ _ e => ((e.same s2).same s5).put e5) ((tn.tax tv e4').put e5)
      · rw [if_neg (by rw [decide_eq_false z]; exact Bool.false_ne_true)]
        have ec : cutT x low (low + 1) p = p := if_neg z
        refine ⟨_, rfl, _, e4', by rw [List.length_map]; exact line100' (by omega), bs ++ [t], by rw [upd_same, List.map_append]; rfl, ?_, Same.mut (s4.trans s2) nDn⟩
        rw [nx, ec]
        exact pr_snoc (Paired.mapP t4 fun _ _ e => (e.same s2).put e4') ((tx0.same s2).put e4')
    rintro G7 ⟨bs, eD, hB, s7⟩
    rw [List.length_map, lts, List.take_length] at hB
    have tu7 := tu6.same s7
    have m7 := m6.trans (.of s7)
    -- the whole, cut
    have aC := allC_cut x low (low + 1) tabs
    refine ⟨_, rfl, Dn, bs, _, rfl, eD, Paired.mapP hB fun _ _ e => e.ta, by rw [List.length_map]; omega, by rw [aC]; exact csU, Nat.le_trans (cut_bnd tabs) (by omega), fun H8 o s8 _ to => ?_⟩
    rw [aC, cut_whole wf hxm] at to
    have hk := List.idxOf_lt_length_of_mem hxm
    refine ⟨_, rfl, _, rfl, _, rfl, _, rfl, _, _, rfl, rfl, u, x, low, low + 1, (allC tabs).idxOf x, _, _, rfl, tu7.same s8, by rw [List.getElem?_eq_getElem hk, List.getElem_idxOf hk], by omega, fun H9 v s9 _ tv => ?_⟩
    refine own_eqB cc Xk.ns (to.same s9).at_ tv.at_ csU.ok csU.ok fun H10 s10 => ?_
    rw [if_neg Bool.false_ne_true, decide_eq_true rfl, decide_eq_true rfl]
    exact q _ (m7.trans (.of ((s8.trans s9).trans s10)))
end
end T07

set_option maxHeartbeats 4000000
namespace T07
open PySem L2 PyProof.Rows TX TY TW TD TB TG TUD TE TK TSD TMI TL2 TNN
section
variable {P : Program} {w : World} {K : PySem.W.Frag} {mg : Str → Option Value} {base : Heap}
variable {fW fN fA fR fK fS : Addr} {dW dN dA dR dK dS : FuncData}
variable {fP fQ fM fV fC fJ fI fL fO fF fX fE fT fU : Addr} {dP dQ dM dV dC dJ dI' dL dO dF dX dE dT dU : FuncData}
variable {C hc hr hl he : Addr} {gc gr gl ge : FuncData}
variable {gD gN gB gP gM gT gW gR : Addr} {eD eN eB eP eM eT eW eR : FuncData}
theorem sc_law : FnScope ["_law_script", "_law_k", "_law_cell"] ["_law_script"] (defScope s_law) := ⟨rfl, rfl, rfl, by decide +kernel, rfl, by decide +kernel, by decide +kernel⟩
def sp_law (K : PySem.W.Frag) : Sp := fun vs H Q _ => ∃ (a : Addr) (ns : List Int), vs = [.ref a] ∧ SqL K H a (ns.map V.int) ∧ ns.length ≤ 63 ∧ ∀ H', Q (.bl true) H'
theorem ok_law {f : Addr} {fd : FuncData} (F : Fn K mg "law" s_law ["_law_script"] f fd) (FW : Fn K mg "_law_well" s_well ["_law_cell", "_law_k"] gW eW) (FR : Fn K mg "_law_right" s_right ["_law_well_here"] gR eR) (Tk : Kt K mg fW fN fA fR fK fS dW dN dA dR dK dS) (I : Im K mg C fI dI') (J : Jd K mg C hc hr fP fQ fM fV fC gc gr dP dQ dM dV dC) (Xk : Xd K mg C fJ fL fO fF fX fE fT fU hl he dJ dL dO dF dX dE dT dU gl ge)
    (L : Ld K mg gD gN gB gP gM gT eD eN eB eP eM eT) : FnOk P w K mg base CX0 9 f fd ["_law_script"] (sp_law K) := by
  have B := Tk.B
  have GW : FnOk P w K mg base CX0 1 gW eW ["_law_cell", "_law_k"] sp_well := ok_well FW B
  have GT : FnOk P w K mg base CX0 8 gR eR ["_law_well_here"] sp_right := ok_right FR Tk I J Xk L
  refine F.F.ok sc_law (fun vs H Q E h => ?_) (fun cdv A outer s H vs Q E hr h => ?_)
  · obtain ⟨a, ns, rfl, _⟩ := h
    rfl
  · obtain ⟨a, ns, rfl, hS, hl, q⟩ := h
    have nd := sc_law.nd
    have r1 : Room 1 _ := hr.mono (by decide)
    refine ⟨_, pss_cons (ps_for PassesOwn.never rfl (pi_enum rfl B.enum (pa_cons (pe_op op_cat (pe_lst (pa_cons pe_int pa_nil)) (pe_slice sl_list (pv 0) po_none (po_some pe_int))) pa_nil))
        (pg_tup rfl (pgs_cons (pg_name (i := 1) nd rfl (Or.inl rfl)) (pgs_cons (pg_name (i := 2) nd rfl (Or.inl rfl)) pgs_nil)))
        (pss_one (ps_if (pt_not (pt_val (pe_call GT hr rfl FR.g FR.F.kp FR.b .nil pass0 (pa_cons (pe_call GW r1 rfl FW.g FW.F.kp FW.b .nil pass0 (pa_cons (pv 2) (pa_cons (pv 1) pa_nil))) pa_nil)))) (pss_one (ps_ret pe_bl)) pss_nil)))
      (pss_one (ps_ret pe_bl)), ?_⟩
    refine ⟨by decide, fun p1 n1 => ?_⟩
    have hS1 : SqL K (upd H p1 (.lst [.int 0])) a (ns.map V.int) := (Same.new n1).seq hS
    refine ⟨_, rfl, _, rfl, a, _, rfl, hS1, fun p2 n2 => ?_⟩
    obtain ⟨ms, ems, lms⟩ : ∃ ms : List Int, cutV (ns.map V.int) none (some 5) = ms.map V.int ∧ ms.length ≤ 5 := by
      refine ⟨(ns.drop (HT.sIx ns.length 0 none)).take (HT.sIx ns.length ns.length (some 5) - HT.sIx ns.length 0 none), ?_, ?_⟩
      · unfold cutV
        rw [List.length_map, List.map_take, List.map_drop]
      · rw [List.length_take, HT.sIx_none, show (some (5 : Int)) = some ((5 : Nat) : Int) from rfl, HT.sIx_nat]
        omega
    have e1 : upd (upd H p1 (.lst [.int 0])) p2 (.lst (cutV (ns.map V.int) none (some 5))) p1 = some (.lst [.int 0]) := by rw [upd_ne (ne_of_none upd_same n2)]; exact upd_same
    refine ⟨p1, p2, _, _, rfl, rfl, e1, upd_same, ?_, fun p3 n3 => ?_⟩
    · rw [ems, List.length_map]
      show 1 + _ ≤ sizeLine
      exact line100 (by omega)
    rw [ems]
    have e3 : ∀ h, upd h p3 (.lst ([V.int 0] ++ ms.map V.int)) p3 = some (.lst ((0 :: ms).map V.int)) := fun h => upd_same
    refine ⟨p3, (0 :: ms).map V.int, rfl, .of (e3 _), ?_⟩
    refine for_it (walk_enum (xs := (0 :: ms).map V.int)) (fun i σ H' => ∃ v1 v2 : Option V, σ = [some (.ref a), v1, v2] ∧ H' p3 = some (.lst ((0 :: ms).map V.int)))
      ⟨none, none, rfl, e3 _⟩ (fun i σ H1 _ ⟨_, _, _, e⟩ => .of e) ?_ ?_
    · rintro i x σ H1 H1' hi ⟨v1, v2, rfl, e4⟩ ⟨T', x1, x2, rfl, nT, rfl, hx1, hx2⟩
      rw [List.length_map] at hi
      obtain rfl : V.int (i : Int) = x1 := Option.some.inj hx1
      obtain ⟨cell, rfl⟩ : ∃ c : Int, x2 = V.int c := by
        have h2 : ((0 :: ms).map V.int)[i]? = some x2 := hx2
        rw [List.getElem?_map, List.getElem?_eq_getElem hi] at h2
        exact ⟨_, (Option.some.inj h2).symm⟩
      have hi11 : i < 6 := by
        rw [List.length_cons] at hi
        omega
      have e5 : upd H1 T' (.tup [.int (i : Int), .int cell]) p3 = some (.lst ((0 :: ms).map V.int)) := by rw [upd_ne (ne_of_none e4 nT)]; exact e4
      refine ⟨T', _, rfl, .of upd_same, rfl, _, _, rfl, _, _, rfl, rfl, ?_⟩
      refine ⟨_, rfl, _, rfl, cell, (i : Int), rfl, by omega, by omega, fun H2 W s2 nW wW => ?_⟩
      have hne : p3 ≠ W := ne_of_none e5 nW
      refine ⟨W, rfl, wW.mono (by decide), fun H3 s3 => ⟨true, rfl, ?_⟩⟩
      exact ⟨_, _, rfl, s3 _ _ hne (s2 _ _ e5)⟩
    · rintro σ H1 ⟨v1, v2, rfl, e4⟩
      exact q _
end
end T07

set_option maxHeartbeats 4000000
namespace T07
open PySem L2 PyProof.Rows TX TY TW TD TB TG TUD TE TK
theorem all_mk {l : PySem.W.OpenLaw} {w : World} {K : PySem.W.Frag} {h : Heap} {mg : Str → Option Value} {fa f_is_whole f_is_name f_is_name_in f_are_columns f_is_row f_is_stretch f_joined f_kept_rows f__check_columns f__sorted_rows f__all_columns f__places f__picked f__common f__by_values f__many_together f__fewest_together f__joined_two f__law_well f__law_draw f__law_names f__law_base f__law_picked f__law_made f__law_turned f__law_right f_law c_Table f_Table_columns f_Table_rows f_Table___len__ f_Table___eq__ f_Table_of f_Table___init__ d_Table___init__ : Addr} (X : K.In h) (G : h.Ns mainGlobals mg) (hfa : mg "law" = some (.ref fa))
    {od1 an1 : Option Addr} {sl1 : Array (Option Value)} {oc1 kV1 dc1 pm1 cd1 ct1 : Value}
    {od2 an2 : Option Addr} {sl2 : Array (Option Value)} {oc2 kV2 dc2 pm2 cd2 ct2 : Value}
    {od3 an3 : Option Addr} {sl3 : Array (Option Value)} {oc3 kV3 dc3 pm3 cd3 ct3 : Value}
    {od4 an4 : Option Addr} {sl4 : Array (Option Value)} {oc4 kV4 dc4 pm4 cd4 ct4 : Value}
    {od5 an5 : Option Addr} {sl5 : Array (Option Value)} {oc5 kV5 dc5 pm5 cd5 ct5 : Value}
    {od6 an6 : Option Addr} {sl6 : Array (Option Value)} {oc6 kV6 dc6 pm6 cd6 ct6 : Value}
    {od7 an7 : Option Addr} {sl7 : Array (Option Value)} {oc7 kV7 dc7 pm7 cd7 ct7 : Value}
    {od8 an8 : Option Addr} {sl8 : Array (Option Value)} {oc8 kV8 dc8 pm8 cd8 ct8 : Value}
    {od9 an9 : Option Addr} {sl9 : Array (Option Value)} {oc9 kV9 dc9 pm9 cd9 ct9 : Value}
    {od10 an10 : Option Addr} {sl10 : Array (Option Value)} {oc10 kV10 dc10 pm10 cd10 ct10 : Value}
    {od11 an11 : Option Addr} {sl11 : Array (Option Value)} {oc11 kV11 dc11 pm11 cd11 ct11 : Value}
    {od12 an12 : Option Addr} {sl12 : Array (Option Value)} {oc12 kV12 dc12 pm12 cd12 ct12 : Value}
    {od13 an13 : Option Addr} {sl13 : Array (Option Value)} {oc13 kV13 dc13 pm13 cd13 ct13 : Value}
    {od14 an14 : Option Addr} {sl14 : Array (Option Value)} {oc14 kV14 dc14 pm14 cd14 ct14 : Value}
    {od15 an15 : Option Addr} {sl15 : Array (Option Value)} {oc15 kV15 dc15 pm15 cd15 ct15 : Value}
    {od16 an16 : Option Addr} {sl16 : Array (Option Value)} {oc16 kV16 dc16 pm16 cd16 ct16 : Value}
    {od17 an17 : Option Addr} {sl17 : Array (Option Value)} {oc17 kV17 dc17 pm17 cd17 ct17 : Value}
    {od18 an18 : Option Addr} {sl18 : Array (Option Value)} {oc18 kV18 dc18 pm18 cd18 ct18 : Value}
    {od19 an19 : Option Addr} {sl19 : Array (Option Value)} {oc19 kV19 dc19 pm19 cd19 ct19 : Value}
    {od20 an20 : Option Addr} {sl20 : Array (Option Value)} {oc20 kV20 dc20 pm20 cd20 ct20 : Value}
    {od21 an21 : Option Addr} {sl21 : Array (Option Value)} {oc21 kV21 dc21 pm21 cd21 ct21 : Value}
    {od22 an22 : Option Addr} {sl22 : Array (Option Value)} {oc22 kV22 dc22 pm22 cd22 ct22 : Value}
    {od23 an23 : Option Addr} {sl23 : Array (Option Value)} {oc23 kV23 dc23 pm23 cd23 ct23 : Value}
    {od24 an24 : Option Addr} {sl24 : Array (Option Value)} {oc24 kV24 dc24 pm24 cd24 ct24 : Value}
    {od25 an25 : Option Addr} {sl25 : Array (Option Value)} {oc25 kV25 dc25 pm25 cd25 ct25 : Value}
    {od26 an26 : Option Addr} {sl26 : Array (Option Value)} {oc26 kV26 dc26 pm26 cd26 ct26 : Value}
    {od27 an27 : Option Addr} {sl27 : Array (Option Value)} {oc27 kV27 dc27 pm27 cd27 ct27 : Value}
    {od28 an28 : Option Addr} {sl28 : Array (Option Value)} {oc28 kV28 dc28 pm28 cd28 ct28 : Value}
    {od29 an29 : Option Addr} {sl29 : Array (Option Value)} {oc29 kV29 dc29 pm29 cd29 ct29 : Value}
    {od30 an30 : Option Addr} {sl30 : Array (Option Value)} {oc30 kV30 dc30 pm30 cd30 ct30 : Value}
    {od31 an31 : Option Addr} {sl31 : Array (Option Value)} {oc31 kV31 dc31 pm31 cd31 ct31 : Value}
    {od32 an32 : Option Addr} {sl32 : Array (Option Value)} {oc32 kV32 dc32 pm32 cd32 ct32 : Value}
    {od33 an33 dd33 : Option Addr} {sl33 ds33 : Array (Option Value)} {oc33 kV33 dc33 pm33 cd33 ct33 do33 : Value} {dn33 : Nat}
    {t_longest : Tok}
    {t_most : Tok}
    (a_is_whole : PySem.W.nsIn K mainGlobals "is_whole" = some (some (.ref f_is_whole)))
    (l_is_whole : K.lookup f_is_whole = some ⟨oc1, od1, .func (PySem.W.fnOf "is_whole" "is_whole" (defArgs s_is_whole) (defBody s_is_whole) (defScope s_is_whole) .none kV1 dc1 pm1 an1 cd1 ct1), sl1⟩)
    (o_is_whole : PySem.W.codeIn K cd1 "is_whole" = true)
    (k_is_whole : PySem.W.keepIn K (.ref f_is_whole) = true)
    (a_is_name : PySem.W.nsIn K mainGlobals "is_name" = some (some (.ref f_is_name)))
    (l_is_name : K.lookup f_is_name = some ⟨oc2, od2, .func (PySem.W.fnOf "is_name" "is_name" (defArgs s_is_name) (defBody s_is_name) (defScope s_is_name) .none kV2 dc2 pm2 an2 cd2 ct2), sl2⟩)
    (o_is_name : PySem.W.codeIn K cd2 "is_name" = true)
    (k_is_name : PySem.W.keepIn K (.ref f_is_name) = true)
    (a_is_name_in : PySem.W.nsIn K mainGlobals "is_name_in" = some (some (.ref f_is_name_in)))
    (l_is_name_in : K.lookup f_is_name_in = some ⟨oc3, od3, .func (PySem.W.fnOf "is_name_in" "is_name_in" (defArgs s_is_name_in) (defBody s_is_name_in) (defScope s_is_name_in) .none kV3 dc3 pm3 an3 cd3 ct3), sl3⟩)
    (o_is_name_in : PySem.W.codeIn K cd3 "is_name_in" = true)
    (k_is_name_in : PySem.W.keepIn K (.ref f_is_name_in) = true)
    (a_are_columns : PySem.W.nsIn K mainGlobals "are_columns" = some (some (.ref f_are_columns)))
    (l_are_columns : K.lookup f_are_columns = some ⟨oc4, od4, .func (PySem.W.fnOf "are_columns" "are_columns" (defArgs s_are) (defBody s_are) (defScope s_are) .none kV4 dc4 pm4 an4 cd4 ct4), sl4⟩)
    (o_are_columns : PySem.W.codeIn K cd4 "are_columns" = true)
    (k_are_columns : PySem.W.keepIn K (.ref f_are_columns) = true)
    (a_is_row : PySem.W.nsIn K mainGlobals "is_row" = some (some (.ref f_is_row)))
    (l_is_row : K.lookup f_is_row = some ⟨oc5, od5, .func (PySem.W.fnOf "is_row" "is_row" (defArgs s_is_row) (defBody s_is_row) (defScope s_is_row) .none kV5 dc5 pm5 an5 cd5 ct5), sl5⟩)
    (o_is_row : PySem.W.codeIn K cd5 "is_row" = true)
    (k_is_row : PySem.W.keepIn K (.ref f_is_row) = true)
    (a_is_stretch : PySem.W.nsIn K mainGlobals "is_stretch" = some (some (.ref f_is_stretch)))
    (l_is_stretch : K.lookup f_is_stretch = some ⟨oc6, od6, .func (PySem.W.fnOf "is_stretch" "is_stretch" (defArgs s_stretch) (defBody s_stretch) (defScope s_stretch) .none kV6 dc6 pm6 an6 cd6 ct6), sl6⟩)
    (o_is_stretch : PySem.W.codeIn K cd6 "is_stretch" = true)
    (k_is_stretch : PySem.W.keepIn K (.ref f_is_stretch) = true)
    (a_joined : PySem.W.nsIn K mainGlobals "joined" = some (some (.ref f_joined)))
    (l_joined : K.lookup f_joined = some ⟨oc7, od7, .func (PySem.W.fnOf "joined" "joined" (defArgs s_joined) (defBody s_joined) (defScope s_joined) .none kV7 dc7 pm7 an7 cd7 ct7), sl7⟩)
    (o_joined : PySem.W.codeIn K cd7 "joined" = true)
    (k_joined : PySem.W.keepIn K (.ref f_joined) = true)
    (a_kept_rows : PySem.W.nsIn K mainGlobals "kept_rows" = some (some (.ref f_kept_rows)))
    (l_kept_rows : K.lookup f_kept_rows = some ⟨oc8, od8, .func (PySem.W.fnOf "kept_rows" "kept_rows" (defArgs s_kept) (defBody s_kept) (defScope s_kept) .none kV8 dc8 pm8 an8 cd8 ct8), sl8⟩)
    (o_kept_rows : PySem.W.codeIn K cd8 "kept_rows" = true)
    (k_kept_rows : PySem.W.keepIn K (.ref f_kept_rows) = true)
    (a__check_columns : PySem.W.nsIn K mainGlobals "_check_columns" = some (some (.ref f__check_columns)))
    (l__check_columns : K.lookup f__check_columns = some ⟨oc9, od9, .func (PySem.W.fnOf "_check_columns" "_check_columns" (defArgs s_cc) (defBody s_cc) (defScope s_cc) .none kV9 dc9 pm9 an9 cd9 ct9), sl9⟩)
    (o__check_columns : PySem.W.codeIn K cd9 "_check_columns" = true)
    (k__check_columns : PySem.W.keepIn K (.ref f__check_columns) = true)
    (a__sorted_rows : PySem.W.nsIn K mainGlobals "_sorted_rows" = some (some (.ref f__sorted_rows)))
    (l__sorted_rows : K.lookup f__sorted_rows = some ⟨oc10, od10, .func (PySem.W.fnOf "_sorted_rows" "_sorted_rows" (defArgs s_sorted) (defBody s_sorted) (defScope s_sorted) .none kV10 dc10 pm10 an10 cd10 ct10), sl10⟩)
    (o__sorted_rows : PySem.W.codeIn K cd10 "_sorted_rows" = true)
    (k__sorted_rows : PySem.W.keepIn K (.ref f__sorted_rows) = true)
    (a__all_columns : PySem.W.nsIn K mainGlobals "_all_columns" = some (some (.ref f__all_columns)))
    (l__all_columns : K.lookup f__all_columns = some ⟨oc11, od11, .func (PySem.W.fnOf "_all_columns" "_all_columns" (defArgs s_allcols) (defBody s_allcols) (defScope s_allcols) .none kV11 dc11 pm11 an11 cd11 ct11), sl11⟩)
    (o__all_columns : PySem.W.codeIn K cd11 "_all_columns" = true)
    (k__all_columns : PySem.W.keepIn K (.ref f__all_columns) = true)
    (a__places : PySem.W.nsIn K mainGlobals "_places" = some (some (.ref f__places)))
    (l__places : K.lookup f__places = some ⟨oc12, od12, .func (PySem.W.fnOf "_places" "_places" (defArgs s_places) (defBody s_places) (defScope s_places) .none kV12 dc12 pm12 an12 cd12 ct12), sl12⟩)
    (o__places : PySem.W.codeIn K cd12 "_places" = true)
    (k__places : PySem.W.keepIn K (.ref f__places) = true)
    (a__picked : PySem.W.nsIn K mainGlobals "_picked" = some (some (.ref f__picked)))
    (l__picked : K.lookup f__picked = some ⟨oc13, od13, .func (PySem.W.fnOf "_picked" "_picked" (defArgs s_picked) (defBody s_picked) (defScope s_picked) .none kV13 dc13 pm13 an13 cd13 ct13), sl13⟩)
    (o__picked : PySem.W.codeIn K cd13 "_picked" = true)
    (k__picked : PySem.W.keepIn K (.ref f__picked) = true)
    (a__common : PySem.W.nsIn K mainGlobals "_common" = some (some (.ref f__common)))
    (l__common : K.lookup f__common = some ⟨oc14, od14, .func (PySem.W.fnOf "_common" "_common" (defArgs s_common) (defBody s_common) (defScope s_common) .none kV14 dc14 pm14 an14 cd14 ct14), sl14⟩)
    (o__common : PySem.W.codeIn K cd14 "_common" = true)
    (k__common : PySem.W.keepIn K (.ref f__common) = true)
    (a__by_values : PySem.W.nsIn K mainGlobals "_by_values" = some (some (.ref f__by_values)))
    (l__by_values : K.lookup f__by_values = some ⟨oc15, od15, .func (PySem.W.fnOf "_by_values" "_by_values" (defArgs s_byvalues) (defBody s_byvalues) (defScope s_byvalues) .none kV15 dc15 pm15 an15 cd15 ct15), sl15⟩)
    (o__by_values : PySem.W.codeIn K cd15 "_by_values" = true)
    (k__by_values : PySem.W.keepIn K (.ref f__by_values) = true)
    (a__many_together : PySem.W.nsIn K mainGlobals "_many_together" = some (some (.ref f__many_together)))
    (l__many_together : K.lookup f__many_together = some ⟨oc16, od16, .func (PySem.W.fnOf "_many_together" "_many_together" (defArgs s_manytog) (defBody s_manytog) (defScope s_manytog) .none kV16 dc16 pm16 an16 cd16 ct16), sl16⟩)
    (o__many_together : PySem.W.codeIn K cd16 "_many_together" = true)
    (k__many_together : PySem.W.keepIn K (.ref f__many_together) = true)
    (a__fewest_together : PySem.W.nsIn K mainGlobals "_fewest_together" = some (some (.ref f__fewest_together)))
    (l__fewest_together : K.lookup f__fewest_together = some ⟨oc17, od17, .func (PySem.W.fnOf "_fewest_together" "_fewest_together" (defArgs s_fewest) (defBody s_fewest) (defScope s_fewest) .none kV17 dc17 pm17 an17 cd17 ct17), sl17⟩)
    (o__fewest_together : PySem.W.codeIn K cd17 "_fewest_together" = true)
    (k__fewest_together : PySem.W.keepIn K (.ref f__fewest_together) = true)
    (a__joined_two : PySem.W.nsIn K mainGlobals "_joined_two" = some (some (.ref f__joined_two)))
    (l__joined_two : K.lookup f__joined_two = some ⟨oc18, od18, .func (PySem.W.fnOf "_joined_two" "_joined_two" (defArgs s_joinedtwo) (defBody s_joinedtwo) (defScope s_joinedtwo) .none kV18 dc18 pm18 an18 cd18 ct18), sl18⟩)
    (o__joined_two : PySem.W.codeIn K cd18 "_joined_two" = true)
    (k__joined_two : PySem.W.keepIn K (.ref f__joined_two) = true)
    (a__law_well : PySem.W.nsIn K mainGlobals "_law_well" = some (some (.ref f__law_well)))
    (l__law_well : K.lookup f__law_well = some ⟨oc19, od19, .func (PySem.W.fnOf "_law_well" "_law_well" (defArgs s_well) (defBody s_well) (defScope s_well) .none kV19 dc19 pm19 an19 cd19 ct19), sl19⟩)
    (o__law_well : PySem.W.codeIn K cd19 "_law_well" = true)
    (k__law_well : PySem.W.keepIn K (.ref f__law_well) = true)
    (a__law_draw : PySem.W.nsIn K mainGlobals "_law_draw" = some (some (.ref f__law_draw)))
    (l__law_draw : K.lookup f__law_draw = some ⟨oc20, od20, .func (PySem.W.fnOf "_law_draw" "_law_draw" (defArgs s_draw) (defBody s_draw) (defScope s_draw) .none kV20 dc20 pm20 an20 cd20 ct20), sl20⟩)
    (o__law_draw : PySem.W.codeIn K cd20 "_law_draw" = true)
    (k__law_draw : PySem.W.keepIn K (.ref f__law_draw) = true)
    (a__law_names : PySem.W.nsIn K mainGlobals "_law_names" = some (some (.ref f__law_names)))
    (l__law_names : K.lookup f__law_names = some ⟨oc21, od21, .func (PySem.W.fnOf "_law_names" "_law_names" (defArgs s_names) (defBody s_names) (defScope s_names) .none kV21 dc21 pm21 an21 cd21 ct21), sl21⟩)
    (o__law_names : PySem.W.codeIn K cd21 "_law_names" = true)
    (k__law_names : PySem.W.keepIn K (.ref f__law_names) = true)
    (a__law_base : PySem.W.nsIn K mainGlobals "_law_base" = some (some (.ref f__law_base)))
    (l__law_base : K.lookup f__law_base = some ⟨oc22, od22, .func (PySem.W.fnOf "_law_base" "_law_base" (defArgs s_base) (defBody s_base) (defScope s_base) .none kV22 dc22 pm22 an22 cd22 ct22), sl22⟩)
    (o__law_base : PySem.W.codeIn K cd22 "_law_base" = true)
    (k__law_base : PySem.W.keepIn K (.ref f__law_base) = true)
    (a__law_picked : PySem.W.nsIn K mainGlobals "_law_picked" = some (some (.ref f__law_picked)))
    (l__law_picked : K.lookup f__law_picked = some ⟨oc23, od23, .func (PySem.W.fnOf "_law_picked" "_law_picked" (defArgs s_lpicked) (defBody s_lpicked) (defScope s_lpicked) .none kV23 dc23 pm23 an23 cd23 ct23), sl23⟩)
    (o__law_picked : PySem.W.codeIn K cd23 "_law_picked" = true)
    (k__law_picked : PySem.W.keepIn K (.ref f__law_picked) = true)
    (a__law_made : PySem.W.nsIn K mainGlobals "_law_made" = some (some (.ref f__law_made)))
    (l__law_made : K.lookup f__law_made = some ⟨oc24, od24, .func (PySem.W.fnOf "_law_made" "_law_made" (defArgs s_made) (defBody s_made) (defScope s_made) .none kV24 dc24 pm24 an24 cd24 ct24), sl24⟩)
    (o__law_made : PySem.W.codeIn K cd24 "_law_made" = true)
    (k__law_made : PySem.W.keepIn K (.ref f__law_made) = true)
    (a__law_turned : PySem.W.nsIn K mainGlobals "_law_turned" = some (some (.ref f__law_turned)))
    (l__law_turned : K.lookup f__law_turned = some ⟨oc25, od25, .func (PySem.W.fnOf "_law_turned" "_law_turned" (defArgs s_turned) (defBody s_turned) (defScope s_turned) .none kV25 dc25 pm25 an25 cd25 ct25), sl25⟩)
    (o__law_turned : PySem.W.codeIn K cd25 "_law_turned" = true)
    (k__law_turned : PySem.W.keepIn K (.ref f__law_turned) = true)
    (a__law_right : PySem.W.nsIn K mainGlobals "_law_right" = some (some (.ref f__law_right)))
    (l__law_right : K.lookup f__law_right = some ⟨oc26, od26, .func (PySem.W.fnOf "_law_right" "_law_right" (defArgs s_right) (defBody s_right) (defScope s_right) .none kV26 dc26 pm26 an26 cd26 ct26), sl26⟩)
    (o__law_right : PySem.W.codeIn K cd26 "_law_right" = true)
    (k__law_right : PySem.W.keepIn K (.ref f__law_right) = true)
    (a_law : PySem.W.nsIn K mainGlobals "law" = some (some (.ref f_law)))
    (l_law : K.lookup f_law = some ⟨oc27, od27, .func (PySem.W.fnOf "law" "law" (defArgs s_law) (defBody s_law) (defScope s_law) .none kV27 dc27 pm27 an27 cd27 ct27), sl27⟩)
    (o_law : PySem.W.codeIn K cd27 "law" = true)
    (k_law : PySem.W.keepIn K (.ref f_law) = true)
    (a_Table : PySem.W.nsIn K mainGlobals "Table" = some (some (.ref c_Table)))
    (a_Table_columns : PySem.W.findIn K (.ref c_Table) "columns" = some (some (.ref f_Table_columns)))
    (i_Table_columns : PySem.W.isFn K (.ref f_Table_columns) = true)
    (l_Table_columns : K.lookup f_Table_columns = some ⟨oc28, od28, .func (PySem.W.fnOf "columns" "Table.columns" (defArgs s_bcolumns) (defBody s_bcolumns) (defScope s_bcolumns) .none kV28 dc28 pm28 an28 cd28 ct28), sl28⟩)
    (o_Table_columns : PySem.W.codeIn K cd28 "Table.columns" = true)
    (k_Table_columns : PySem.W.keepIn K (.ref f_Table_columns) = true)
    (a_Table_rows : PySem.W.findIn K (.ref c_Table) "rows" = some (some (.ref f_Table_rows)))
    (i_Table_rows : PySem.W.isFn K (.ref f_Table_rows) = true)
    (l_Table_rows : K.lookup f_Table_rows = some ⟨oc29, od29, .func (PySem.W.fnOf "rows" "Table.rows" (defArgs s_brows) (defBody s_brows) (defScope s_brows) .none kV29 dc29 pm29 an29 cd29 ct29), sl29⟩)
    (o_Table_rows : PySem.W.codeIn K cd29 "Table.rows" = true)
    (k_Table_rows : PySem.W.keepIn K (.ref f_Table_rows) = true)
    (a_Table___len__ : PySem.W.findIn K (.ref c_Table) "__len__" = some (some (.ref f_Table___len__)))
    (i_Table___len__ : PySem.W.isFn K (.ref f_Table___len__) = true)
    (l_Table___len__ : K.lookup f_Table___len__ = some ⟨oc30, od30, .func (PySem.W.fnOf "__len__" "Table.__len__" (defArgs s_blen) (defBody s_blen) (defScope s_blen) .none kV30 dc30 pm30 an30 cd30 ct30), sl30⟩)
    (o_Table___len__ : PySem.W.codeIn K cd30 "Table.__len__" = true)
    (k_Table___len__ : PySem.W.keepIn K (.ref f_Table___len__) = true)
    (a_Table___eq__ : PySem.W.findIn K (.ref c_Table) "__eq__" = some (some (.ref f_Table___eq__)))
    (i_Table___eq__ : PySem.W.isFn K (.ref f_Table___eq__) = true)
    (l_Table___eq__ : K.lookup f_Table___eq__ = some ⟨oc31, od31, .func (PySem.W.fnOf "__eq__" "Table.__eq__" (defArgs s_beq) (defBody s_beq) (defScope s_beq) .none kV31 dc31 pm31 an31 cd31 ct31), sl31⟩)
    (o_Table___eq__ : PySem.W.codeIn K cd31 "Table.__eq__" = true)
    (k_Table___eq__ : PySem.W.keepIn K (.ref f_Table___eq__) = true)
    (a_Table_of : PySem.W.findIn K (.ref c_Table) "of" = some (some (.ref f_Table_of)))
    (i_Table_of : PySem.W.isFn K (.ref f_Table_of) = true)
    (l_Table_of : K.lookup f_Table_of = some ⟨oc32, od32, .func (PySem.W.fnOf "of" "Table.of" (defArgs s_bof) (defBody s_bof) (defScope s_bof) .none kV32 dc32 pm32 an32 cd32 ct32), sl32⟩)
    (o_Table_of : PySem.W.codeIn K cd32 "Table.of" = true)
    (k_Table_of : PySem.W.keepIn K (.ref f_Table_of) = true)
    (pg_Table : PySem.W.plainGet K c_Table Str.empty = true)
    (hd_Table : PySem.W.hasDictIn K c_Table = true)
    (po_Table : PySem.W.plainOver K c_Table = true)
    (sa_Table : PySem.W.findIn K (.ref c_Table) "__setattr__" = some (some (.builtin "object.__setattr__")))
    (mk_Table : PySem.W.makesIn K c_Table = true)
    (kc_Table : PySem.W.keepIn K (.ref c_Table) = true)
    (ha_Table : PySem.W.findIn K (.ref c_Table) "__class__" = some (some (.builtin "object.__class__")))
    (hm_Table : PySem.W.mroIn K c_Table (.type "object") = some true)
    (me_Table : PySem.W.kitOne K (.ref c_Table) (.ref c_Table) = some true)
    (n_Table_columns : PySem.W.findIn K (.ref c_Table) "_columns" = some none)
    (n_Table_rows : PySem.W.findIn K (.ref c_Table) "_rows" = some none)
    (a_Table___init__ : PySem.W.findIn K (.ref c_Table) "__init__" = some (some (.ref f_Table___init__)))
    (i_Table___init__ : PySem.W.isFn K (.ref f_Table___init__) = true)
    (l_Table___init__ : K.lookup f_Table___init__ = some ⟨oc33, od33, .func (PySem.W.fnOf "__init__" "Table.__init__" (defArgs s_binit) (defBody s_binit) (defScope s_binit) (.ref d_Table___init__) kV33 dc33 pm33 an33 cd33 ct33), sl33⟩)
    (d1_Table___init__ : K.lookup d_Table___init__ = some ⟨do33, dd33, .seq #[.none] dn33, ds33⟩)
    (o_Table___init__ : PySem.W.codeIn K cd33 "Table.__init__" = true)
    (k_Table___init__ : PySem.W.keepIn K (.ref f_Table___init__) = true)
    (hn : PySem.W.specialIn K (.builtin "object.__class__") "__get__" = some (some (.builtin "getset_descriptor.__get__")))
    (ht : PySem.W.takesIn K (.builtin "object.__class__") = some true)
    (g_longest : PySem.W.nsIn K mainGlobals "LONGEST_NAME" = some (some (.int 8 t_longest)))
    (g_most : PySem.W.nsIn K mainGlobals "MOST_COLUMNS" = some (some (.int 8 t_most)))
    (z_len : PySem.W.nsIn K mainGlobals "len" = some none)
    (z_isi : PySem.W.nsIn K mainGlobals "isinstance" = some none)
    (z_str : PySem.W.nsIn K mainGlobals "str" = some none)
    (z_list : PySem.W.nsIn K mainGlobals "list" = some none)
    (z_tuple : PySem.W.nsIn K mainGlobals "tuple" = some none)
    (z_dict : PySem.W.nsIn K mainGlobals "dict" = some none)
    (z_int : PySem.W.nsIn K mainGlobals "int" = some none)
    (z_range : PySem.W.nsIn K mainGlobals "range" = some none)
    (z_enum : PySem.W.nsIn K mainGlobals "enumerate" = some none)
    (z_all : PySem.W.nsIn K mainGlobals "all" = some none)
    (z_any : PySem.W.nsIn K mainGlobals "any" = some none)
    (z_max : PySem.W.nsIn K mainGlobals "max" = some none)
    (z_sorted : PySem.W.nsIn K mainGlobals "sorted" = some none)
    (zbool : PySem.W.nsIn K mainGlobals "bool" = some none)
    (zset : PySem.W.nsIn K mainGlobals "set" = some none)
    (zsum : PySem.W.nsIn K mainGlobals "sum" = some none)
    (zmin : PySem.W.nsIn K mainGlobals "min" = some none)
    (ne : PySem.W.findIn K (.ref c_Table) "__ne__" = some (some (.builtin "object.__ne__")))
    : ∃ fd : FuncData, (∀ (s : Shared) (v : Value), BindsTo s fd ⟨[v], []⟩ [("_law_script", v)]) ∧ ∀ base : Heap, K.In base → base.Ns mainGlobals mg → FnOk l.prog w K mg base CX0 9 fa fd ["_law_script"] (sp_law K) := by
  have e := hfa.symm.trans (PySem.W.mg_of X G a_law)
  cases e
  have F_is_whole := fun_mk (st := s_is_whole) l_is_whole o_is_whole k_is_whole
  have b_is_whole := F_is_whole.binds (ps := ["thing"]) fun _ _ _ _ _ _ us hl => match us, hl with | [_], _ => rfl
  have N_is_whole : Fn K mg "is_whole" s_is_whole ["thing"] f_is_whole _ := ⟨F_is_whole, PySem.W.mg_of X G a_is_whole, b_is_whole⟩
  have F_is_name := fun_mk (st := s_is_name) l_is_name o_is_name k_is_name
  have b_is_name := F_is_name.binds (ps := ["thing"]) fun _ _ _ _ _ _ us hl => match us, hl with | [_], _ => rfl
  have N_is_name : Fn K mg "is_name" s_is_name ["thing"] f_is_name _ := ⟨F_is_name, PySem.W.mg_of X G a_is_name, b_is_name⟩
  have F_is_name_in := fun_mk (st := s_is_name_in) l_is_name_in o_is_name_in k_is_name_in
  have b_is_name_in := F_is_name_in.binds (ps := ["thing", "names"]) fun _ _ _ _ _ _ us hl => match us, hl with | [_, _], _ => rfl
  have N_is_name_in : Fn K mg "is_name_in" s_is_name_in ["thing", "names"] f_is_name_in _ := ⟨F_is_name_in, PySem.W.mg_of X G a_is_name_in, b_is_name_in⟩
  have F_are_columns := fun_mk (st := s_are) l_are_columns o_are_columns k_are_columns
  have b_are_columns := F_are_columns.binds (ps := ["thing"]) fun _ _ _ _ _ _ us hl => match us, hl with | [_], _ => rfl
  have N_are_columns : Fn K mg "are_columns" s_are ["thing"] f_are_columns _ := ⟨F_are_columns, PySem.W.mg_of X G a_are_columns, b_are_columns⟩
  have F_is_row := fun_mk (st := s_is_row) l_is_row o_is_row k_is_row
  have b_is_row := F_is_row.binds (ps := ["thing", "many"]) fun _ _ _ _ _ _ us hl => match us, hl with | [_, _], _ => rfl
  have N_is_row : Fn K mg "is_row" s_is_row ["thing", "many"] f_is_row _ := ⟨F_is_row, PySem.W.mg_of X G a_is_row, b_is_row⟩
  have F_is_stretch := fun_mk (st := s_stretch) l_is_stretch o_is_stretch k_is_stretch
  have b_is_stretch := F_is_stretch.binds (ps := ["low", "high"]) fun _ _ _ _ _ _ us hl => match us, hl with | [_, _], _ => rfl
  have N_is_stretch : Fn K mg "is_stretch" s_stretch ["low", "high"] f_is_stretch _ := ⟨F_is_stretch, PySem.W.mg_of X G a_is_stretch, b_is_stretch⟩
  have F_joined := fun_mk (st := s_joined) l_joined o_joined k_joined
  have b_joined := F_joined.binds (ps := ["tables"]) fun _ _ _ _ _ _ us hl => match us, hl with | [_], _ => rfl
  have N_joined : Fn K mg "joined" s_joined ["tables"] f_joined _ := ⟨F_joined, PySem.W.mg_of X G a_joined, b_joined⟩
  have F_kept_rows := fun_mk (st := s_kept) l_kept_rows o_kept_rows k_kept_rows
  have b_kept_rows := F_kept_rows.binds (ps := ["table", "column", "low", "high"]) fun _ _ _ _ _ _ us hl => match us, hl with | [_, _, _, _], _ => rfl
  have N_kept_rows : Fn K mg "kept_rows" s_kept ["table", "column", "low", "high"] f_kept_rows _ := ⟨F_kept_rows, PySem.W.mg_of X G a_kept_rows, b_kept_rows⟩
  have F__check_columns := fun_mk (st := s_cc) l__check_columns o__check_columns k__check_columns
  have b__check_columns := F__check_columns.binds (ps := ["columns"]) fun _ _ _ _ _ _ us hl => match us, hl with | [_], _ => rfl
  have N__check_columns : Fn K mg "_check_columns" s_cc ["columns"] f__check_columns _ := ⟨F__check_columns, PySem.W.mg_of X G a__check_columns, b__check_columns⟩
  have F__sorted_rows := fun_mk (st := s_sorted) l__sorted_rows o__sorted_rows k__sorted_rows
  have b__sorted_rows := F__sorted_rows.binds (ps := ["rows", "many"]) fun _ _ _ _ _ _ us hl => match us, hl with | [_, _], _ => rfl
  have N__sorted_rows : Fn K mg "_sorted_rows" s_sorted ["rows", "many"] f__sorted_rows _ := ⟨F__sorted_rows, PySem.W.mg_of X G a__sorted_rows, b__sorted_rows⟩
  have F__all_columns := fun_mk (st := s_allcols) l__all_columns o__all_columns k__all_columns
  have b__all_columns := F__all_columns.binds (ps := ["tables"]) fun _ _ _ _ _ _ us hl => match us, hl with | [_], _ => rfl
  have N__all_columns : Fn K mg "_all_columns" s_allcols ["tables"] f__all_columns _ := ⟨F__all_columns, PySem.W.mg_of X G a__all_columns, b__all_columns⟩
  have F__places := fun_mk (st := s_places) l__places o__places k__places
  have b__places := F__places.binds (ps := ["table", "columns"]) fun _ _ _ _ _ _ us hl => match us, hl with | [_, _], _ => rfl
  have N__places : Fn K mg "_places" s_places ["table", "columns"] f__places _ := ⟨F__places, PySem.W.mg_of X G a__places, b__places⟩
  have F__picked := fun_mk (st := s_picked) l__picked o__picked k__picked
  have b__picked := F__picked.binds (ps := ["row", "places"]) fun _ _ _ _ _ _ us hl => match us, hl with | [_, _], _ => rfl
  have N__picked : Fn K mg "_picked" s_picked ["row", "places"] f__picked _ := ⟨F__picked, PySem.W.mg_of X G a__picked, b__picked⟩
  have F__common := fun_mk (st := s_common) l__common o__common k__common
  have b__common := F__common.binds (ps := ["one", "other"]) fun _ _ _ _ _ _ us hl => match us, hl with | [_, _], _ => rfl
  have N__common : Fn K mg "_common" s_common ["one", "other"] f__common _ := ⟨F__common, PySem.W.mg_of X G a__common, b__common⟩
  have F__by_values := fun_mk (st := s_byvalues) l__by_values o__by_values k__by_values
  have b__by_values := F__by_values.binds (ps := ["table", "columns"]) fun _ _ _ _ _ _ us hl => match us, hl with | [_, _], _ => rfl
  have N__by_values : Fn K mg "_by_values" s_byvalues ["table", "columns"] f__by_values _ := ⟨F__by_values, PySem.W.mg_of X G a__by_values, b__by_values⟩
  have F__many_together := fun_mk (st := s_manytog) l__many_together o__many_together k__many_together
  have b__many_together := F__many_together.binds (ps := ["one", "other"]) fun _ _ _ _ _ _ us hl => match us, hl with | [_, _], _ => rfl
  have N__many_together : Fn K mg "_many_together" s_manytog ["one", "other"] f__many_together _ := ⟨F__many_together, PySem.W.mg_of X G a__many_together, b__many_together⟩
  have F__fewest_together := fun_mk (st := s_fewest) l__fewest_together o__fewest_together k__fewest_together
  have b__fewest_together := F__fewest_together.binds (ps := ["parts"]) fun _ _ _ _ _ _ us hl => match us, hl with | [_], _ => rfl
  have N__fewest_together : Fn K mg "_fewest_together" s_fewest ["parts"] f__fewest_together _ := ⟨F__fewest_together, PySem.W.mg_of X G a__fewest_together, b__fewest_together⟩
  have F__joined_two := fun_mk (st := s_joinedtwo) l__joined_two o__joined_two k__joined_two
  have b__joined_two := F__joined_two.binds (ps := ["one", "other"]) fun _ _ _ _ _ _ us hl => match us, hl with | [_, _], _ => rfl
  have N__joined_two : Fn K mg "_joined_two" s_joinedtwo ["one", "other"] f__joined_two _ := ⟨F__joined_two, PySem.W.mg_of X G a__joined_two, b__joined_two⟩
  have F__law_well := fun_mk (st := s_well) l__law_well o__law_well k__law_well
  have b__law_well := F__law_well.binds (ps := ["_law_cell", "_law_k"]) fun _ _ _ _ _ _ us hl => match us, hl with | [_, _], _ => rfl
  have N__law_well : Fn K mg "_law_well" s_well ["_law_cell", "_law_k"] f__law_well _ := ⟨F__law_well, PySem.W.mg_of X G a__law_well, b__law_well⟩
  have F__law_draw := fun_mk (st := s_draw) l__law_draw o__law_draw k__law_draw
  have b__law_draw := F__law_draw.binds (ps := ["_law_well_here", "_law_top"]) fun _ _ _ _ _ _ us hl => match us, hl with | [_, _], _ => rfl
  have N__law_draw : Fn K mg "_law_draw" s_draw ["_law_well_here", "_law_top"] f__law_draw _ := ⟨F__law_draw, PySem.W.mg_of X G a__law_draw, b__law_draw⟩
  have F__law_names := fun_mk (st := s_names) l__law_names o__law_names k__law_names
  have b__law_names := F__law_names.binds (ps := ["_law_well_here", "_law_count"]) fun _ _ _ _ _ _ us hl => match us, hl with | [_, _], _ => rfl
  have N__law_names : Fn K mg "_law_names" s_names ["_law_well_here", "_law_count"] f__law_names _ := ⟨F__law_names, PySem.W.mg_of X G a__law_names, b__law_names⟩
  have F__law_base := fun_mk (st := s_base) l__law_base o__law_base k__law_base
  have b__law_base := F__law_base.binds (ps := ["_law_well_here"]) fun _ _ _ _ _ _ us hl => match us, hl with | [_], _ => rfl
  have N__law_base : Fn K mg "_law_base" s_base ["_law_well_here"] f__law_base _ := ⟨F__law_base, PySem.W.mg_of X G a__law_base, b__law_base⟩
  have F__law_picked := fun_mk (st := s_lpicked) l__law_picked o__law_picked k__law_picked
  have b__law_picked := F__law_picked.binds (ps := ["_law_well_here", "_law_names_here", "_law_most"]) fun _ _ _ _ _ _ us hl => match us, hl with | [_, _, _], _ => rfl
  have N__law_picked : Fn K mg "_law_picked" s_lpicked ["_law_well_here", "_law_names_here", "_law_most"] f__law_picked _ := ⟨F__law_picked, PySem.W.mg_of X G a__law_picked, b__law_picked⟩
  have F__law_made := fun_mk (st := s_made) l__law_made o__law_made k__law_made
  have b__law_made := F__law_made.binds (ps := ["_law_well_here", "_law_names_here", "_law_base_here"]) fun _ _ _ _ _ _ us hl => match us, hl with | [_, _, _], _ => rfl
  have N__law_made : Fn K mg "_law_made" s_made ["_law_well_here", "_law_names_here", "_law_base_here"] f__law_made _ := ⟨F__law_made, PySem.W.mg_of X G a__law_made, b__law_made⟩
  have F__law_turned := fun_mk (st := s_turned) l__law_turned o__law_turned k__law_turned
  have b__law_turned := F__law_turned.binds (ps := ["_law_well_here", "_law_some"]) fun _ _ _ _ _ _ us hl => match us, hl with | [_, _], _ => rfl
  have N__law_turned : Fn K mg "_law_turned" s_turned ["_law_well_here", "_law_some"] f__law_turned _ := ⟨F__law_turned, PySem.W.mg_of X G a__law_turned, b__law_turned⟩
  have F__law_right := fun_mk (st := s_right) l__law_right o__law_right k__law_right
  have b__law_right := F__law_right.binds (ps := ["_law_well_here"]) fun _ _ _ _ _ _ us hl => match us, hl with | [_], _ => rfl
  have N__law_right : Fn K mg "_law_right" s_right ["_law_well_here"] f__law_right _ := ⟨F__law_right, PySem.W.mg_of X G a__law_right, b__law_right⟩
  have F_law := fun_mk (st := s_law) l_law o_law k_law
  have b_law := F_law.binds (ps := ["_law_script"]) fun _ _ _ _ _ _ us hl => match us, hl with | [_], _ => rfl
  have N_law : Fn K mg "law" s_law ["_law_script"] fa _ := ⟨F_law, PySem.W.mg_of X G a_law, b_law⟩
  have F_Table_columns := fun_mk (st := s_bcolumns) l_Table_columns o_Table_columns k_Table_columns
  have b_Table_columns := F_Table_columns.binds (ps := ["self"]) fun _ _ _ _ _ _ us hl => match us, hl with | [_], _ => rfl
  have M_Table_columns : Mt K c_Table "columns" "Table.columns" s_bcolumns ["self"] f_Table_columns _ := ⟨F_Table_columns, ⟨a_Table_columns, i_Table_columns, k_Table_columns⟩, b_Table_columns⟩
  have F_Table_rows := fun_mk (st := s_brows) l_Table_rows o_Table_rows k_Table_rows
  have b_Table_rows := F_Table_rows.binds (ps := ["self"]) fun _ _ _ _ _ _ us hl => match us, hl with | [_], _ => rfl
  have M_Table_rows : Mt K c_Table "rows" "Table.rows" s_brows ["self"] f_Table_rows _ := ⟨F_Table_rows, ⟨a_Table_rows, i_Table_rows, k_Table_rows⟩, b_Table_rows⟩
  have F_Table___len__ := fun_mk (st := s_blen) l_Table___len__ o_Table___len__ k_Table___len__
  have b_Table___len__ := F_Table___len__.binds (ps := ["self"]) fun _ _ _ _ _ _ us hl => match us, hl with | [_], _ => rfl
  have M_Table___len__ : Mt K c_Table "__len__" "Table.__len__" s_blen ["self"] f_Table___len__ _ := ⟨F_Table___len__, ⟨a_Table___len__, i_Table___len__, k_Table___len__⟩, b_Table___len__⟩
  have F_Table___eq__ := fun_mk (st := s_beq) l_Table___eq__ o_Table___eq__ k_Table___eq__
  have b_Table___eq__ := F_Table___eq__.binds (ps := ["self", "other"]) fun _ _ _ _ _ _ us hl => match us, hl with | [_, _], _ => rfl
  have M_Table___eq__ : Mt K c_Table "__eq__" "Table.__eq__" s_beq ["self", "other"] f_Table___eq__ _ := ⟨F_Table___eq__, ⟨a_Table___eq__, i_Table___eq__, k_Table___eq__⟩, b_Table___eq__⟩
  have F_Table_of := fun_mk (st := s_bof) l_Table_of o_Table_of k_Table_of
  have b_Table_of := F_Table_of.binds (ps := ["self", "columns"]) fun _ _ _ _ _ _ us hl => match us, hl with | [_, _], _ => rfl
  have M_Table_of : Mt K c_Table "of" "Table.of" s_bof ["self", "columns"] f_Table_of _ := ⟨F_Table_of, ⟨a_Table_of, i_Table_of, k_Table_of⟩, b_Table_of⟩
  have F_Table___init__ : FunD K "__init__" "Table.__init__" (defArgs s_binit) (defBody s_binit) (defScope s_binit) [.non] [] f_Table___init__ _ := ⟨⟨_, _, _, _, _, _, _, _, _, _, rfl, l_Table___init__, o_Table___init__, .inr ⟨(fun z => nomatch z), d_Table___init__, _, [.none], _, rfl, d1_Table___init__, rfl, .cons rfl .nil⟩, .inl rfl⟩, k_Table___init__⟩
  have B : Bn mg := ⟨PySem.W.mg_none_of X G z_len, PySem.W.mg_none_of X G z_isi, PySem.W.mg_none_of X G z_str, PySem.W.mg_none_of X G z_list, PySem.W.mg_none_of X G z_tuple, PySem.W.mg_none_of X G z_dict, PySem.W.mg_none_of X G z_int, PySem.W.mg_none_of X G z_range, PySem.W.mg_none_of X G z_enum, PySem.W.mg_none_of X G z_all, PySem.W.mg_none_of X G z_any, PySem.W.mg_none_of X G z_max, PySem.W.mg_none_of X G z_sorted⟩
  have Tk : Kt K mg f_is_whole f_is_name f_are_columns f_is_row f__check_columns f__sorted_rows _ _ _ _ _ _ := ⟨B, ⟨⟨_, PySem.W.mg_of X G g_longest⟩, ⟨_, PySem.W.mg_of X G g_most⟩⟩, PySem.W.mg_none_of X G zset, PySem.W.mg_none_of X G zbool, N_is_whole, N_is_name, N_are_columns, N_is_row, N__check_columns, N__sorted_rows⟩
  have Ck : Bc K mg c_Table := ⟨⟨pg_Table, hd_Table, po_Table, sa_Table⟩, n_Table_columns, n_Table_rows, PySem.W.mg_of X G a_Table, ⟨ha_Table, hn, ht, hm_Table, me_Table⟩⟩
  have Ik : Im K mg c_Table f_Table___init__ _ := ⟨F_Table___init__, ⟨mk_Table, a_Table___init__, i_Table___init__, kc_Table⟩, by
        obtain ⟨ds, h1, h2⟩ := F_Table___init__.binds1 (ps := ["self", "columns", "rows"]) 3 1 (by simp) rfl (fun _ _ _ _ _ _ _ us its l1 l2 => match us, its, l1, l2 with | [_, _, _], [_], _, _ => ⟨_, rfl, rfl⟩)
        cases h1
        exact h2⟩
  have Jk : Jd K mg c_Table f_Table_columns f_Table_rows f__places f__picked f__many_together f__by_values f__common _ _ _ _ _ _ _ := ⟨B, PySem.W.mg_none_of X G zsum, PySem.W.mg_none_of X G zmin, ⟨Ck, M_Table_columns, M_Table_rows⟩, N__places, N__picked, N__many_together, N__by_values, N__common⟩
  have Xk : Xd K mg c_Table f__joined_two f__all_columns f_Table_of f__fewest_together f_joined f_is_name_in f_is_stretch f_kept_rows f_Table___len__ f_Table___eq__ _ _ _ _ _ _ _ _ _ _ := ⟨N_joined, N__all_columns, N__fewest_together, N__joined_two, N_kept_rows, N_is_name_in, N_is_stretch, M_Table_of, M_Table___len__, M_Table___eq__, ne, by unfold PySem.W.notFirst; simp⟩
  have Lk : Ld K mg f__law_draw f__law_names f__law_base f__law_picked f__law_made f__law_turned _ _ _ _ _ _ := ⟨B.max, N__law_draw, N__law_names, N__law_base, N__law_picked, N__law_made, N__law_turned⟩
  exact ⟨PySem.W.fnOf "law" "law" (defArgs s_law) (defBody s_law) (defScope s_law) .none kV27 dc27 pm27 an27 cd27 ct27, fun s v => .of_eq rfl, fun base _ _ => ok_law N_law N__law_well N__law_right Tk Ik Jk Xk Lk⟩
end T07
open PySem PySem.W PyProof.Rows
set_option maxRecDepth 100000 in
set_option maxHeartbeats 0 in
theorem PySem.Challenge.cw_foldbough_k07_whole_tables_in_any_order_holds : PySem.Challenge.rw_foldbough_k07_whole_tables_in_any_order.Holds := by
  w_on; o_law; k_head; (case hw => w_witness2)
  k_fill
  refine L2.walk_of (l := PySem.Challenge.rw_foldbough_k07_whole_tables_in_any_order) (n := 63) (k := 9) (x := "_law_script") (CX := fun _ => L2.CX0) (sp := fun w => T07.sp_law (_)) rfl (by decide) rfl ⟨rfl, by decide, by decide⟩ (fun w h Y => PySem.W.kIn_of Y) ?F (fun _ _ a ns hl _ hS => ⟨a, ns, rfl, hS, hl, fun _ => rfl⟩) (fun _ _ _ _ _ z => z)
  case F =>
    intro w mg fa h KX G hmg
    refine' T07.all_mk KX G hmg ?a_is_whole ?l_is_whole ?o_is_whole ?k_is_whole ?a_is_name ?l_is_name ?o_is_name ?k_is_name ?a_is_name_in ?l_is_name_in ?o_is_name_in ?k_is_name_in ?a_are_columns ?l_are_columns ?o_are_columns ?k_are_columns ?a_is_row ?l_is_row ?o_is_row ?k_is_row ?a_is_stretch ?l_is_stretch ?o_is_stretch ?k_is_stretch ?a_joined ?l_joined ?o_joined ?k_joined ?a_kept_rows ?l_kept_rows ?o_kept_rows ?k_kept_rows ?a__check_columns ?l__check_columns ?o__check_columns ?k__check_columns ?a__sorted_rows ?l__sorted_rows ?o__sorted_rows ?k__sorted_rows ?a__all_columns ?l__all_columns ?o__all_columns ?k__all_columns ?a__places ?l__places ?o__places ?k__places ?a__picked ?l__picked ?o__picked ?k__picked ?a__common ?l__common ?o__common ?k__common ?a__by_values ?l__by_values ?o__by_values ?k__by_values ?a__many_together ?l__many_together ?o__many_together ?k__many_together ?a__fewest_together ?l__fewest_together ?o__fewest_together ?k__fewest_together ?a__joined_two ?l__joined_two ?o__joined_two ?k__joined_two ?a__law_well ?l__law_well ?o__law_well ?k__law_well ?a__law_draw ?l__law_draw ?o__law_draw ?k__law_draw ?a__law_names ?l__law_names ?o__law_names ?k__law_names ?a__law_base ?l__law_base ?o__law_base ?k__law_base ?a__law_picked ?l__law_picked ?o__law_picked ?k__law_picked ?a__law_made ?l__law_made ?o__law_made ?k__law_made ?a__law_turned ?l__law_turned ?o__law_turned ?k__law_turned ?a__law_right ?l__law_right ?o__law_right ?k__law_right ?a_law ?l_law ?o_law ?k_law ?a_Table ?a_Table_columns ?i_Table_columns ?l_Table_columns ?o_Table_columns ?k_Table_columns ?a_Table_rows ?i_Table_rows ?l_Table_rows ?o_Table_rows ?k_Table_rows ?a_Table___len__ ?i_Table___len__ ?l_Table___len__ ?o_Table___len__ ?k_Table___len__ ?a_Table___eq__ ?i_Table___eq__ ?l_Table___eq__ ?o_Table___eq__ ?k_Table___eq__ ?a_Table_of ?i_Table_of ?l_Table_of ?o_Table_of ?k_Table_of ?pg_Table ?hd_Table ?po_Table ?sa_Table ?mk_Table ?kc_Table ?ha_Table ?hm_Table ?me_Table ?n_Table_columns ?n_Table_rows ?a_Table___init__ ?i_Table___init__ ?l_Table___init__ ?d1_Table___init__ ?o_Table___init__ ?k_Table___init__ ?hn ?ht ?g_longest ?g_most ?z_len ?z_isi ?z_str ?z_list ?z_tuple ?z_dict ?z_int ?z_range ?z_enum ?z_all ?z_any ?z_max ?z_sorted ?zbool ?zset ?zsum ?zmin ?ne
    (case a_is_whole => k_is)
    (case l_is_whole => k_is)
    (case o_is_whole => k_is)
    (case k_is_whole => k_is)
    (case a_is_name => k_is)
    (case l_is_name => k_is)
    (case o_is_name => k_is)
    (case k_is_name => k_is)
    (case a_is_name_in => k_is)
    (case l_is_name_in => k_is)
    (case o_is_name_in => k_is)
    (case k_is_name_in => k_is)
    (case a_are_columns => k_is)
    (case l_are_columns => k_is)
    (case o_are_columns => k_is)
    (case k_are_columns => k_is)
    (case a_is_row => k_is)
    (case l_is_row => k_is)
    (case o_is_row => k_is)
    (case k_is_row => k_is)
    (case a_is_stretch => k_is)
    (case l_is_stretch => k_is)
    (case o_is_stretch => k_is)
    (case k_is_stretch => k_is)
    (case a_joined => k_is)
    (case l_joined => k_is)
    (case o_joined => k_is)
    (case k_joined => k_is)
    (case a_kept_rows => k_is)
    (case l_kept_rows => k_is)
    (case o_kept_rows => k_is)
    (case k_kept_rows => k_is)
    (case a__check_columns => k_is)
    (case l__check_columns => k_is)
    (case o__check_columns => k_is)
    (case k__check_columns => k_is)
    (case a__sorted_rows => k_is)
    (case l__sorted_rows => k_is)
    (case o__sorted_rows => k_is)
    (case k__sorted_rows => k_is)
    (case a__all_columns => k_is)
    (case l__all_columns => k_is)
    (case o__all_columns => k_is)
    (case k__all_columns => k_is)
    (case a__places => k_is)
    (case l__places => k_is)
    (case o__places => k_is)
    (case k__places => k_is)
    (case a__picked => k_is)
    (case l__picked => k_is)
    (case o__picked => k_is)
    (case k__picked => k_is)
    (case a__common => k_is)
    (case l__common => k_is)
    (case o__common => k_is)
    (case k__common => k_is)
    (case a__by_values => k_is)
    (case l__by_values => k_is)
    (case o__by_values => k_is)
    (case k__by_values => k_is)
    (case a__many_together => k_is)
    (case l__many_together => k_is)
    (case o__many_together => k_is)
    (case k__many_together => k_is)
    (case a__fewest_together => k_is)
    (case l__fewest_together => k_is)
    (case o__fewest_together => k_is)
    (case k__fewest_together => k_is)
    (case a__joined_two => k_is)
    (case l__joined_two => k_is)
    (case o__joined_two => k_is)
    (case k__joined_two => k_is)
    (case a__law_well => k_is)
    (case l__law_well => k_is)
    (case o__law_well => k_is)
    (case k__law_well => k_is)
    (case a__law_draw => k_is)
    (case l__law_draw => k_is)
    (case o__law_draw => k_is)
    (case k__law_draw => k_is)
    (case a__law_names => k_is)
    (case l__law_names => k_is)
    (case o__law_names => k_is)
    (case k__law_names => k_is)
    (case a__law_base => k_is)
    (case l__law_base => k_is)
    (case o__law_base => k_is)
    (case k__law_base => k_is)
    (case a__law_picked => k_is)
    (case l__law_picked => k_is)
    (case o__law_picked => k_is)
    (case k__law_picked => k_is)
    (case a__law_made => k_is)
    (case l__law_made => k_is)
    (case o__law_made => k_is)
    (case k__law_made => k_is)
    (case a__law_turned => k_is)
    (case l__law_turned => k_is)
    (case o__law_turned => k_is)
    (case k__law_turned => k_is)
    (case a__law_right => k_is)
    (case l__law_right => k_is)
    (case o__law_right => k_is)
    (case k__law_right => k_is)
    (case a_law => k_is)
    (case l_law => k_is)
    (case o_law => k_is)
    (case k_law => k_is)
    (case a_Table => k_is)
    (case a_Table_columns => k_is)
    (case i_Table_columns => k_is)
    (case l_Table_columns => k_is)
    (case o_Table_columns => k_is)
    (case k_Table_columns => k_is)
    (case a_Table_rows => k_is)
    (case i_Table_rows => k_is)
    (case l_Table_rows => k_is)
    (case o_Table_rows => k_is)
    (case k_Table_rows => k_is)
    (case a_Table___len__ => k_is)
    (case i_Table___len__ => k_is)
    (case l_Table___len__ => k_is)
    (case o_Table___len__ => k_is)
    (case k_Table___len__ => k_is)
    (case a_Table___eq__ => k_is)
    (case i_Table___eq__ => k_is)
    (case l_Table___eq__ => k_is)
    (case o_Table___eq__ => k_is)
    (case k_Table___eq__ => k_is)
    (case a_Table_of => k_is)
    (case i_Table_of => k_is)
    (case l_Table_of => k_is)
    (case o_Table_of => k_is)
    (case k_Table_of => k_is)
    (case pg_Table => k_is)
    (case hd_Table => k_is)
    (case po_Table => k_is)
    (case sa_Table => k_is)
    (case mk_Table => k_is)
    (case kc_Table => k_is)
    (case ha_Table => k_is)
    (case hm_Table => k_is)
    (case me_Table => kit_is)
    (case n_Table_columns => k_is)
    (case n_Table_rows => k_is)
    (case a_Table___init__ => k_is)
    (case i_Table___init__ => k_is)
    (case l_Table___init__ => k_is)
    (case d1_Table___init__ => k_is)
    (case o_Table___init__ => k_is)
    (case k_Table___init__ => k_is)
    (case hn => k_is)
    (case ht => k_is)
    (case g_longest => k_is)
    (case g_most => k_is)
    (case z_len => k_is)
    (case z_isi => k_is)
    (case z_str => k_is)
    (case z_list => k_is)
    (case z_tuple => k_is)
    (case z_dict => k_is)
    (case z_int => k_is)
    (case z_range => k_is)
    (case z_enum => k_is)
    (case z_all => k_is)
    (case z_any => k_is)
    (case z_max => k_is)
    (case z_sorted => k_is)
    (case zbool => k_is)
    (case zset => k_is)
    (case zsum => k_is)
    (case zmin => k_is)
    (case ne => k_is)

