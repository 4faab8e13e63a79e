import PyProof.Rows.All
import Wide.All
import OpenK.AllK
import Wide.FinOn
import HandS.ForMost
import HandS.Exc
import HandS.TryOnly
import HandS.ExcOwn
import HandS.WordsExc
import HandS.IsInst
import HandS.ExcIs
import HandS.DictComp
import HandS.Walk
import HandS.Conv
import HandS.Codes
import HandS.OwnEq
import KE.KExcIs
import HandS.ExcInit
import HandS.ExcField
import HandS.TupSets
import HandS.SortOrd
import HandS.SetBool
import HandS.TupAny
import HandS.Strs
import HandS.Defaults
import PyProof.Rows.Range3
import HandS.FStr
import HandS.Nested
import HandS.Comp
import HandS.Style
import HandS.Dict
import PyProof.DictUpdate
import HandS.Iter
import HandS.Zip
import KE.GoesMore
import KE.GoesEnum
import KE.KDictZip
import HandS.SetKeys
import KE.KDictPairs
import PyProof.DictMoreH
import HandS.Set
import PyProof.Rows.SortShellAny
import HandS.SetTxt0
import HandS.Ends
import KE.KExcStr
import KE.RegKIsAll
import PySem.Challenge.RW_foldbough_k33_what_parts_hang_on
set_option Elab.async false
set_option linter.all false
set_option maxRecDepth 100000
/-! Mathematics of forests of names told as lists of pairs. -/
namespace TM
open PySem L2
/-- one to eight small letters -/
def NameOk (s : Str) : Prop := 1 ≤ s.length ∧ s.length ≤ 8 ∧ ∀ c ∈ s.cps.toList, 97 ≤ c ∧ c ≤ 122
inductive Fo where
  | nil
  | cons (c : Str) (kids rest : Fo)
abbrev Pr := Str × Option Str
def flat : Fo → Option Str → List Pr
  | .nil, _ => []
  | .cons c k r, u => (c, u) :: (flat k (some c) ++ flat r u)
def names : Fo → List Str
  | .nil => []
  | .cons c k r => c :: (names k ++ names r)
def app : Fo → Fo → Fo
  | .nil, g => g
  | .cons c k r, g => .cons c k (app r g)
/-- the forest beneath u of a list of pairs in which overs stand ahead -/
def mk : List Pr → Option Str → Fo
  | [], _ => .nil
  | (c, o) :: r, u => if o = u then .cons c (mk r (some c)) (mk r u) else mk r u
def ord (ps : List Pr) (u : Option Str) : List Str := names (mk ps u)
theorem ord_nil (u : Option Str) : ord [] u = [] := rfl
theorem ord_cons (c : Str) (o : Option Str) (r : List Pr) (u : Option Str) : ord ((c, o) :: r) u = if o = u then c :: (ord r (some c) ++ ord r u) else ord r u := by
  unfold ord
  show names (if o = u then .cons c (mk r (some c)) (mk r u) else mk r u) = _
  split <;> rfl
theorem flat_names : ∀ (f : Fo) (u : Option Str), (flat f u).map Prod.fst = names f
  | .nil, _ => rfl
  | .cons c k r, u => by
    show c :: ((flat k (some c) ++ flat r u).map Prod.fst) = c :: (names k ++ names r)
    rw [List.map_append, flat_names k, flat_names r]
theorem flat_app : ∀ (f g : Fo) (u : Option Str), flat (app f g) u = flat f u ++ flat g u
  | .nil, _, _ => rfl
  | .cons c k r, g, u => by
    show (c, u) :: (flat k (some c) ++ flat (app r g) u) = (c, u) :: (flat k (some c) ++ flat r u) ++ flat g u
    rw [flat_app r g u, List.cons_append, List.append_assoc]
theorem names_app : ∀ (f g : Fo), names (app f g) = names f ++ names g
  | .nil, _ => rfl
  | .cons c k r, g => by
    show c :: (names k ++ names (app r g)) = c :: (names k ++ names r) ++ names g
    rw [names_app r g, List.cons_append, List.append_assoc]
theorem app_nil : ∀ f : Fo, app f .nil = f
  | .nil => rfl
  | .cons c k r => by show Fo.cons c k (app r .nil) = _; rw [app_nil r]
/-- every over told is none, or a name that is told ahead; names unlike -/
def Valid : List Str → List Pr → Prop
  | _, [] => True
  | seen, (c, o) :: r => c ∉ seen ∧ (∀ x, o = some x → x ∈ seen) ∧ Valid (seen ++ [c]) r
theorem valid_notin : ∀ {ps : List Pr} {seen : List Str} {x : Str}, Valid seen ps → x ∈ seen → x ∉ ps.map Prod.fst
  | [], _, _, _, _ => by simp
  | (c, o) :: r, seen, x, h, hx => by
    obtain ⟨h1, _, h3⟩ := h
    have ih := valid_notin (x := x) h3 (List.mem_append_left _ hx)
    simp only [List.map_cons, List.mem_cons, not_or]
    exact ⟨fun e => h1 (e ▸ hx), ih⟩
theorem valid_nodup : ∀ {ps : List Pr} {seen : List Str}, Valid seen ps → (ps.map Prod.fst).Nodup
  | [], _, _ => by simp
  | (c, o) :: r, seen, h => by
    obtain ⟨_, _, h3⟩ := h
    simp only [List.map_cons, List.nodup_cons]
    exact ⟨valid_notin h3 (by simp), valid_nodup h3⟩
/-- nothing stands beneath a name that is told nowhere as an over -/
theorem mk_none : ∀ {ps : List Pr} {u : Option Str}, (∀ p ∈ ps, p.2 ≠ u) → mk ps u = .nil
  | [], _, _ => rfl
  | (c, o) :: r, u, h => by
    show (if o = u then _ else mk r u) = _
    rw [if_neg (h (c, o) List.mem_cons_self)]
    exact mk_none fun p hp => h p (List.mem_cons_of_mem _ hp)
/-- a forest told in its own order, and what comes behind -/
theorem mk_flat : ∀ (f : Fo) (r : List Pr) (u : Option Str), (names f).Nodup → (∀ x ∈ names f, u ≠ some x) → (∀ p ∈ r, ∀ x ∈ names f, p.2 ≠ some x) →
    mk (flat f u ++ r) u = app f (mk r u) ∧ ∀ v, v ≠ u → (∀ x ∈ names f, v ≠ some x) → mk (flat f u ++ r) v = mk r v
  | .nil, r, u, _, _, _ => ⟨rfl, fun v _ _ => rfl⟩
  | .cons c k s, r, u, hn, hu, hr => by
    have hn' : (c :: (names k ++ names s)).Nodup := hn
    rw [List.nodup_cons, List.nodup_append] at hn'
    obtain ⟨hc, hk, hs, hks⟩ := hn'
    have hck : c ∉ names k := fun z => hc (List.mem_append_left _ z)
    have hcs : c ∉ names s := fun z => hc (List.mem_append_right _ z)
    have mem_k : ∀ x ∈ names k, x ∈ names (Fo.cons c k s) := fun x hx => List.mem_cons_of_mem _ (List.mem_append_left _ hx)
    have mem_s : ∀ x ∈ names s, x ∈ names (Fo.cons c k s) := fun x hx => List.mem_cons_of_mem _ (List.mem_append_right _ hx)
    have mem_c : c ∈ names (Fo.cons c k s) := List.mem_cons_self
    have huc : u ≠ some c := hu c mem_c
    -- the rest behind the kids
    have over_s : ∀ p ∈ flat s u, p.2 = u ∨ ∃ x ∈ names s, p.2 = some x := by
      have gen : ∀ (f : Fo) (u : Option Str), ∀ p ∈ flat f u, p.2 = u ∨ ∃ x ∈ names f, p.2 = some x := by
        intro f
        induction f with
        | nil => intro u p hp; cases hp
        | cons c k r ihk ihr =>
          intro u p hp
          have hp' : p ∈ (c, u) :: (flat k (some c) ++ flat r u) := hp
          rcases List.mem_cons.mp hp' with e | hp'
          · left; rw [e]
          · rcases List.mem_append.mp hp' with hp' | hp'
            · rcases ihk _ p hp' with e | ⟨x, hx, e⟩
              · exact .inr ⟨c, List.mem_cons_self, e⟩
              · exact .inr ⟨x, List.mem_cons_of_mem _ (List.mem_append_left _ hx), e⟩
            · rcases ihr _ p hp' with e | ⟨x, hx, e⟩
              · exact .inl e
              · exact .inr ⟨x, List.mem_cons_of_mem _ (List.mem_append_right _ hx), e⟩
      exact gen s u
    have hR : ∀ p ∈ flat s u ++ r, ∀ x ∈ names k, p.2 ≠ some x := by
      intro p hp x hx e
      rcases List.mem_append.mp hp with hp | hp
      · rcases over_s p hp with e2 | ⟨y, hy, e2⟩
        · exact hu x (mem_k x hx) (e2 ▸ e)
        · rw [e2] at e
          exact hks x hx y hy (Option.some.inj e).symm
      · exact hr p hp x (mem_k x hx) e
    obtain ⟨k1, k2⟩ := mk_flat k (flat s u ++ r) (some c) hk (fun x hx e => hck (Option.some.inj e ▸ hx)) hR
    obtain ⟨s1, s2⟩ := mk_flat s r u hs (fun x hx => hu x (mem_s x hx)) (fun p hp x hx => hr p hp x (mem_s x hx))
    have rc : mk r (some c) = .nil := mk_none fun p hp => hr p hp c mem_c
    have sc : mk (flat s u ++ r) (some c) = .nil := by
      rw [s2 (some c) huc.symm (fun x hx e => hcs (Option.some.inj e ▸ hx)), rc]
    have e0 : flat (Fo.cons c k s) u ++ r = (c, u) :: (flat k (some c) ++ (flat s u ++ r)) := by
      show (c, u) :: (flat k (some c) ++ flat s u) ++ r = _
      rw [List.cons_append, List.append_assoc]
    rw [e0]
    refine ⟨?_, fun v hvu hv => ?_⟩
    · show (if u = u then Fo.cons c (mk (flat k (some c) ++ (flat s u ++ r)) (some c)) (mk (flat k (some c) ++ (flat s u ++ r)) u) else _) = Fo.cons c k (app s (mk r u))
      rw [if_pos rfl, k1, sc, app_nil, k2 u huc (fun x hx => hu x (mem_k x hx)), s1]
    · show (if u = v then _ else mk (flat k (some c) ++ (flat s u ++ r)) v) = _
      rw [if_neg (fun e => hvu e.symm), k2 v (hv c mem_c) (fun x hx => hv x (mem_k x hx)), s2 v hvu (fun x hx => hv x (mem_s x hx))]
theorem mk_own {f : Fo} (hn : (names f).Nodup) : mk (flat f none) none = f := by
  have h := (mk_flat f [] none hn (fun _ _ e => nomatch e) (fun p hp => nomatch hp)).1
  rw [List.append_nil] at h
  rw [h]
  exact app_nil f
theorem mk_two {f g : Fo} (hn : (names (app f g)).Nodup) : mk (flat f none ++ flat g none) none = app f g := by
  rw [← flat_app]
  exact mk_own hn
/-- a forest told in its own order is validly told -/
theorem valid_app : ∀ {ps qs : List Pr} {seen : List Str}, Valid seen ps → Valid (seen ++ ps.map Prod.fst) qs → Valid seen (ps ++ qs)
  | [], qs, seen, _, h => by simpa using h
  | (c, o) :: r, qs, seen, ⟨h1, h2, h3⟩, h => by
    refine ⟨h1, h2, valid_app h3 ?_⟩
    simpa [List.append_assoc] using h
theorem valid_flat : ∀ (f : Fo) (seen : List Str) (u : Option Str), (∀ x, u = some x → x ∈ seen) → (seen ++ names f).Nodup → Valid seen (flat f u)
  | .nil, _, _, _, _ => trivial
  | .cons c k r, seen, u, hu, hn => by
    have hn' : (seen ++ c :: (names k ++ names r)).Nodup := hn
    have e1 : seen ++ c :: (names k ++ names r) = seen ++ [c] ++ names k ++ names r := by simp [List.append_assoc]
    rw [e1] at hn'
    have n1 : (seen ++ [c] ++ names k).Nodup := (List.nodup_append.mp hn').1
    have n2 : (seen ++ [c]).Nodup := (List.nodup_append.mp n1).1
    refine ⟨fun hc => ?_, hu, valid_app (valid_flat k _ (some c) (fun x e => by cases e; simp) n1) ?_⟩
    · have := (List.nodup_append.mp n2).2.2
      exact this c hc c (by simp) rfl
    · rw [flat_names]
      exact valid_flat r _ u (fun x e => List.mem_append_left _ (List.mem_append_left _ (hu x e))) hn'
theorem over_flat : ∀ (f : Fo) (u : Option Str), ∀ p ∈ flat f u, p.2 = u ∨ ∃ x ∈ names f, p.2 = some x := by
  intro f
  induction f with
  | nil => intro u p hp; cases hp
  | cons c k r ihk ihr =>
    intro u p hp
    have hp' : p ∈ (c, u) :: (flat k (some c) ++ flat r u) := hp
    rcases List.mem_cons.mp hp' with e | hp'
    · left; rw [e]
    · rcases List.mem_append.mp hp' with hp' | hp'
      · rcases ihk _ p hp' with e | ⟨x, hx, e⟩
        · exact .inr ⟨c, List.mem_cons_self, e⟩
        · exact .inr ⟨x, List.mem_cons_of_mem _ (List.mem_append_left _ hx), e⟩
      · rcases ihr _ p hp' with e | ⟨x, hx, e⟩
        · exact .inl e
        · exact .inr ⟨x, List.mem_cons_of_mem _ (List.mem_append_right _ hx), e⟩
end TM
namespace TM
open PySem L2
theorem valid_at : ∀ {ps : List Pr} {seen : List Str} {i : Nat} {c : Str} {o : Option Str}, Valid seen ps → ps[i]? = some (c, o) → c ∉ seen ++ (ps.take i).map Prod.fst ∧ ∀ x, o = some x → x ∈ seen ++ (ps.take i).map Prod.fst
  | [], _, _, _, _, _, h => by simp at h
  | (a, b) :: r, seen, 0, c, o, ⟨h1, h2, _⟩, h => by
    simp only [List.getElem?_cons_zero, Option.some.injEq, Prod.mk.injEq] at h
    obtain ⟨rfl, rfl⟩ := h
    simpa using ⟨h1, h2⟩
  | (a, b) :: r, seen, i + 1, c, o, ⟨h1, h2, h3⟩, h => by
    have h' : r[i]? = some (c, o) := by simpa using h
    have ih := valid_at h3 h'
    simpa [List.append_assoc] using ih
theorem valid_take : ∀ {ps : List Pr} {seen : List Str} (i : Nat), Valid seen ps → Valid seen (ps.take i)
  | [], _, i, _ => by simp [Valid]
  | (a, b) :: r, seen, 0, _ => trivial
  | (a, b) :: r, seen, i + 1, ⟨h1, h2, h3⟩ => ⟨h1, h2, valid_take i h3⟩
/-- nothing ahead of a suffix stands right beneath u -/
def Below (ps : List Pr) (u : Option Str) (n : Nat) : Prop := ∃ pre t, ps = pre ++ t ∧ t.length < n ∧ ∀ p ∈ pre, p.2 ≠ u
theorem below_top (ps : List Pr) {n : Nat} (h : ps.length < n) : Below ps none n := ⟨[], ps, rfl, h, fun _ h => nomatch h⟩
/-- the over of a name stands nowhere ahead of it -/
theorem ahead : ∀ {ps : List Pr} {seen : List Str} {x : Str}, Valid seen ps → x ∉ seen → x ∉ ps.map Prod.fst → ∀ p ∈ ps, p.2 ≠ some x
  | [], _, _, _, _, _, p, hp => nomatch hp
  | (a, b) :: r, seen, x, ⟨h1, h2, h3⟩, hs, hx, p, hp => by
    rw [List.map_cons, List.mem_cons, not_or] at hx
    rcases List.mem_cons.mp hp with e | hp
    · rw [e]
      intro e2
      exact hs (h2 x e2)
    · exact ahead h3 (by simp [hs, hx.1]) hx.2 p hp
/-- beneath a column there is only what stands behind it -/
theorem ahead_at {ps : List Pr} {i : Nat} {c : Str} {o : Option Str} (va : Valid [] ps) (h : ps[i]? = some (c, o)) : ∀ p ∈ ps.take (i + 1), p.2 ≠ some c := by
  have hc := (valid_at va h).1
  rw [List.nil_append] at hc
  have e : ps.take (i + 1) = ps.take i ++ [(c, o)] := by rw [List.take_add_one, h]; rfl
  intro p hp
  rw [e] at hp
  rcases List.mem_append.mp hp with hp | hp
  · exact ahead (valid_take i va) (by simp) hc p hp
  · rw [List.mem_singleton.mp hp]
    intro e2
    have h2 := (valid_at va h).2 c e2
    rw [List.nil_append] at h2
    exact hc h2
theorem below_at {ps : List Pr} {i : Nat} {c : Str} {o : Option Str} {n : Nat} (va : Valid [] ps) (h : ps[i]? = some (c, o)) (b : Below ps o (n + 1)) : Below ps (some c) n := by
  obtain ⟨pre, t, e, hl, hp⟩ := b
  have hi : i < ps.length := (List.getElem?_eq_some_iff.mp h).1
  have hpi : pre.length ≤ i := by
    refine Nat.le_of_not_lt fun hlt => ?_
    have : pre[i]? = some (c, o) := by
      rw [e, List.getElem?_append_left hlt] at h
      exact h
    exact hp _ (List.mem_of_getElem? this) rfl
  refine ⟨ps.take (i + 1), ps.drop (i + 1), (List.take_append_drop _ _).symm, ?_, ahead_at va h⟩
  rw [List.length_drop]
  have := congrArg List.length e
  rw [List.length_append] at this
  omega
theorem mk_skip : ∀ {pre t : List Pr} {u : Option Str}, (∀ p ∈ pre, p.2 ≠ u) → mk (pre ++ t) u = mk t u
  | [], _, _, _ => rfl
  | (c, o) :: r, t, u, h => by
    show (if o = u then _ else mk (r ++ t) u) = _
    rw [if_neg (h (c, o) List.mem_cons_self)]
    exact mk_skip fun p hp => h p (List.mem_cons_of_mem _ hp)
/-- the order, told as the program tells it -/
def step (ps : List Pr) (u : Option Str) (p : Pr) : List Str := if p.2 = u then p.1 :: ord ps (some p.1) else []
theorem ord_suffix {ps : List Pr} (va : Valid [] ps) (u : Option Str) : ∀ (t pre : List Pr), ps = pre ++ t → ord t u = t.flatMap (step ps u)
  | [], _, _ => rfl
  | (c, o) :: r, pre, e => by
    have hi : ps[pre.length]? = some (c, o) := by rw [e]; simp
    have h1 : ord ps (some c) = ord r (some c) := by
      have h2 := ahead_at va hi
      have e2 : ps = ps.take (pre.length + 1) ++ r := by
        have e3 : pre ++ (c, o) :: r = (pre ++ [(c, o)]) ++ r := by simp
        have e4 : ps.take (pre.length + 1) = pre ++ [(c, o)] := by
          rw [e, e3, List.take_append_of_le_length (by simp)]
          rw [List.take_of_length_le (by simp)]
        rw [e4, ← e3]
        exact e
      unfold ord
      rw [e2, mk_skip h2]
    have ih := ord_suffix va u r (pre ++ [(c, o)]) (by rw [e]; simp)
    rw [ord_cons, List.flatMap_cons, ← ih]
    unfold step
    rw [h1]
    by_cases ho : o = u
    · simp [ho]
    · simp [ho]
theorem ord_flat {ps : List Pr} (va : Valid [] ps) (u : Option Str) : ord ps u = ps.flatMap (step ps u) := ord_suffix va u ps [] rfl
theorem ord_take {ps : List Pr} {u : Option Str} {i : Nat} {q : Pr} (h : ps[i]? = some q) : (ps.take (i + 1)).flatMap (step ps u) = (ps.take i).flatMap (step ps u) ++ step ps u q := by
  rw [List.take_add_one, h, List.flatMap_append]
  show _ ++ (step ps u q ++ []) = _
  rw [List.append_nil]
/-- the names in the tree's order are the names told -/
theorem pick : ∀ {us : List (Option Str)} {o : Option Str} {A : List Str} {g : Option Str → List Str}, us.Nodup → o ∈ us → (us.flatMap fun u => if o = u then A ++ g u else g u).Perm (A ++ us.flatMap g)
  | [], _, _, _, _, h => nomatch h
  | v :: us, o, A, g, hn, h => by
    rw [List.nodup_cons] at hn
    by_cases e : o = v
    · have hn2 : o ∉ us := e ▸ hn.1
      have e2 : (us.flatMap fun u => if o = u then A ++ g u else g u) = us.flatMap g := by
        clear hn h
        induction us with
        | nil => rfl
        | cons x r ih =>
          rw [List.mem_cons, not_or] at hn2
          rw [List.flatMap_cons, List.flatMap_cons, ih hn2.2, if_neg hn2.1]
      rw [List.flatMap_cons, List.flatMap_cons, e2, if_pos e, List.append_assoc]
    · have h2 : o ∈ us := (List.mem_cons.mp h).resolve_left e
      rw [List.flatMap_cons, List.flatMap_cons, if_neg e]
      have ih := pick (A := A) (g := g) hn.2 h2
      refine ((List.Perm.append_left (g v) ih).trans ?_)
      rw [← List.append_assoc, ← List.append_assoc]
      exact List.Perm.append_right _ List.perm_append_comm
theorem ords_perm : ∀ {ps : List Pr} {seen : List Str}, seen.Nodup → Valid seen ps → ((none :: seen.map some).flatMap (ord ps)).Perm (ps.map Prod.fst)
  | [], seen, _, _ => by
    have : ∀ us : List (Option Str), us.flatMap (ord []) = [] := by
      intro us
      induction us with
      | nil => rfl
      | cons u us ih => rw [List.flatMap_cons, ih]; rfl
    rw [this]
    exact List.Perm.nil
  | (c, o) :: r, seen, hn, ⟨h1, h2, h3⟩ => by
    have hn2 : (seen ++ [c]).Nodup := by
      rw [List.nodup_append]
      refine ⟨hn, by simp, fun a ha b hb => ?_⟩
      rw [List.mem_singleton.mp hb]
      exact fun e => h1 (e ▸ ha)
    have ih := ords_perm hn2 h3
    have hu : (none :: seen.map some : List (Option Str)).Nodup := by
      rw [List.nodup_cons]
      refine ⟨by simp, ?_⟩
      rw [List.nodup_iff_pairwise_ne, List.pairwise_map]
      exact List.Pairwise.imp (fun h e => h (Option.some.inj e)) (List.nodup_iff_pairwise_ne.mp hn)
    have ho : o ∈ (none :: seen.map some : List (Option Str)) := by
      cases o with
      | none => exact List.mem_cons_self
      | some x => exact List.mem_cons_of_mem _ (List.mem_map.mpr ⟨x, h2 x rfl, rfl⟩)
    have e1 : (none :: seen.map some).flatMap (ord ((c, o) :: r)) = (none :: seen.map some).flatMap fun u => if o = u then (c :: ord r (some c)) ++ ord r u else ord r u := by
      congr 1
      funext u
      rw [ord_cons]
      split <;> rfl
    rw [e1]
    refine (pick hu ho).trans ?_
    rw [List.map_cons, List.cons_append]
    refine List.Perm.cons c ?_
    refine List.Perm.trans ?_ ih
    rw [List.map_append, ← List.cons_append, List.flatMap_append]
    have e3 : List.flatMap (ord r) (List.map some [c]) = ord r (some c) := by
      show ord r (some c) ++ [] = _
      rw [List.append_nil]
    rw [e3]
    exact List.perm_append_comm
theorem ord_perm {ps : List Pr} (va : Valid [] ps) : (ord ps none).Perm (ps.map Prod.fst) := by
  have := ords_perm List.nodup_nil va
  simpa using this
theorem ord_nodup {ps : List Pr} (va : Valid [] ps) : (ord ps none).Nodup := (List.Perm.nodup_iff (ord_perm va)).mpr (valid_nodup va)
/-- the pairs in the tree's order are pairs told -/
theorem mk_sub : ∀ {ps : List Pr} {u : Option Str} {p : Pr}, p ∈ flat (mk ps u) u → p ∈ ps
  | [], _, _, h => nomatch h
  | (c, o) :: r, u, p, h => by
    have h' : p ∈ flat (if o = u then .cons c (mk r (some c)) (mk r u) else mk r u) u := h
    by_cases e : o = u
    · rw [if_pos e] at h'
      have h'' : p ∈ (c, u) :: (flat (mk r (some c)) (some c) ++ flat (mk r u) u) := h'
      rcases List.mem_cons.mp h'' with e2 | h2
      · rw [e2, e]
        exact List.mem_cons_self
      · rcases List.mem_append.mp h2 with h2 | h2
        · exact List.mem_cons_of_mem _ (mk_sub h2)
        · exact List.mem_cons_of_mem _ (mk_sub h2)
    · rw [if_neg e] at h'
      exact List.mem_cons_of_mem _ (mk_sub h')
end TM
namespace TM
open PySem L2
theorem flat_le {α β : Type} {f : α → List β} {k : Nat} : ∀ {l : List α}, (∀ a ∈ l, (f a).length ≤ k) → (l.flatMap f).length ≤ k * l.length
  | [], _ => by simp
  | a :: r, h => by
    rw [List.flatMap_cons, List.length_append, List.length_cons, Nat.mul_succ]
    have h1 := h a List.mem_cons_self
    have h2 := flat_le (l := r) fun b hb => h b (List.mem_cons_of_mem _ hb)
    omega
theorem flat_no {ps : List Pr} {c : Str} {o : Option Str} {us : List (Option Str)} (h : o ∉ us) : us.flatMap (ord ((c, o) :: ps)) = us.flatMap (ord ps) := by
  induction us with
  | nil => rfl
  | cons u r ih =>
    rw [List.mem_cons, not_or] at h
    rw [List.flatMap_cons, List.flatMap_cons, ih h.2, ord_cons, if_neg h.1]
theorem ords_le : ∀ {ps : List Pr} {seen : List Str} {us : List (Option Str)}, us.Nodup → Valid seen ps → (∀ x ∈ ps.map Prod.fst, some x ∉ us) → (us.flatMap (ord ps)).length ≤ ps.length
  | [], _, us, _, _, _ => by
    induction us with
    | nil => exact Nat.le_refl _
    | cons u us ih =>
      rw [List.flatMap_cons, List.length_append]
      rename_i h _ _
      have := ih (List.nodup_cons.mp (by assumption)).2 (fun x hx => nomatch hx)
      rw [ord_nil]
      simpa using this
  | (c, o) :: r, seen, us, hu, ⟨h1, h2, h3⟩, hx => by
    by_cases ho : o ∈ us
    · have e1 : us.flatMap (ord ((c, o) :: r)) = us.flatMap fun u => if o = u then (c :: ord r (some c)) ++ ord r u else ord r u := by
        congr 1
        funext u
        rw [ord_cons]
        split <;> rfl
      rw [e1, (pick (A := c :: ord r (some c)) (g := ord r) hu ho).length_eq]
      have hc : some c ∉ us := hx c (by simp)
      have ih := ords_le (us := some c :: us) (List.nodup_cons.mpr ⟨hc, hu⟩) h3 (fun x hx2 h => by
        rcases List.mem_cons.mp h with e | h
        · have := valid_notin h3 (x := c) (by simp)
          exact this (Option.some.inj e ▸ hx2)
        · exact hx x (List.mem_cons_of_mem _ hx2) h)
      rw [List.flatMap_cons, List.length_append] at ih
      simp only [List.length_append, List.length_cons]
      omega
    · rw [flat_no ho]
      have ih := ords_le hu h3 (fun x hx2 => hx x (List.mem_cons_of_mem _ hx2))
      rw [List.length_cons]
      omega
theorem valid_drop : ∀ {ps : List Pr} {seen : List Str} (i : Nat), Valid seen ps → ∃ s, Valid s (ps.drop i)
  | [], seen, i, _ => ⟨seen, by simp [Valid]⟩
  | (a, b) :: r, seen, 0, h => ⟨seen, h⟩
  | (a, b) :: r, seen, i + 1, ⟨_, _, h3⟩ => valid_drop i h3
theorem ord_le {ps : List Pr} (va : Valid [] ps) (u : Option Str) : (ord ps u).length ≤ ps.length := by
  have one : ∀ (qs : List Pr) (s : List Str), Valid s qs → (∀ x ∈ qs.map Prod.fst, u ≠ some x) → (ord qs u).length ≤ qs.length := fun qs s v h => by
    have := ords_le (us := [u]) (by simp) v (fun x hx e => h x hx (List.mem_singleton.mp e).symm)
    simpa using this
  by_cases h : ∃ c, u = some c ∧ c ∈ ps.map Prod.fst
  · obtain ⟨c, rfl, hc⟩ := h
    obtain ⟨⟨c', o⟩, hm, rfl⟩ := List.mem_map.mp hc
    obtain ⟨i, hi, hie⟩ := List.getElem_of_mem hm
    have hq : ps[i]? = some (c', o) := by rw [List.getElem?_eq_getElem hi, hie]
    have e : ord ps (some c') = ord (ps.drop (i + 1)) (some c') := by
      unfold ord
      have := mk_skip (t := ps.drop (i + 1)) (ahead_at va hq)
      rw [List.take_append_drop] at this
      rw [this]
    obtain ⟨s, vs⟩ := valid_drop (i + 1) va
    have hnd := valid_nodup va
    rw [e]
    refine Nat.le_trans (one _ s vs fun x hx e2 => ?_) (by rw [List.length_drop]; omega)
    cases e2
    rw [List.map_drop] at hx
    obtain ⟨j, hj, hje⟩ := List.getElem_of_mem hx
    rw [List.getElem_drop] at hje
    have h1 : (ps.map Prod.fst)[i]'(by simpa using hi) = c' := by rw [List.getElem_map, hie]
    have := (List.getElem_inj hnd).mp (hje.trans h1.symm)
    omega
  · exact one ps [] va fun x hx e => h ⟨x, e, hx⟩
end TM

/-! Where a name stands in a forest: what is above it, what is beneath. -/
namespace TM
open PySem L2
/-- what is above a name, and the forest beneath it -/
def loc : Fo → Str → Option (List Str × Fo)
  | .nil, _ => none
  | .cons d k r, c => if d = c then some ([], k) else match loc k c with
    | some (a, q) => some (d :: a, q)
    | none => loc r c
def tops : Fo → List Str
  | .nil => []
  | .cons c _ r => c :: tops r
theorem loc_names : ∀ {f : Fo} {c : Str}, c ∈ names f → ∃ a q, loc f c = some (a, q)
  | .nil, _, h => nomatch h
  | .cons d k r, c, h => by
    unfold loc
    by_cases e : d = c
    · exact ⟨_, _, if_pos e⟩
    · rw [if_neg e]
      cases hk : loc k c with
      | some p => exact ⟨_, _, rfl⟩
      | none =>
        have h' : c ∈ d :: (names k ++ names r) := h
        rcases List.mem_cons.mp h' with e2 | h2
        · exact absurd e2.symm e
        · rcases List.mem_append.mp h2 with h2 | h2
          · obtain ⟨a, q, e3⟩ := loc_names h2
            rw [hk] at e3
            cases e3
          · exact loc_names h2
theorem loc_mem : ∀ {f : Fo} {c : Str} {a : List Str} {q : Fo}, loc f c = some (a, q) → c ∈ names f
  | .nil, _, _, _, h => by unfold loc at h; cases h
  | .cons d k r, c, a, q, h => by
    unfold loc at h
    show c ∈ d :: (names k ++ names r)
    by_cases e : d = c
    · rw [e]; exact List.mem_cons_self
    · rw [if_neg e] at h
      cases hk : loc k c with
      | some p =>
        obtain ⟨b, p⟩ := p
        exact List.mem_cons_of_mem _ (List.mem_append_left _ (loc_mem hk))
      | none =>
        rw [hk] at h
        exact List.mem_cons_of_mem _ (List.mem_append_right _ (loc_mem h))
theorem loc_none {f : Fo} {c : Str} (h : c ∉ names f) : loc f c = none := by
  cases e : loc f c with
  | none => rfl
  | some p => exact absurd (loc_mem (a := p.1) (q := p.2) e) h
theorem nd_parts {d : Str} {k r : Fo} (h : (names (.cons d k r)).Nodup) : d ∉ names k ∧ d ∉ names r ∧ (names k).Nodup ∧ (names r).Nodup ∧ ∀ x ∈ names k, x ∉ names r := by
  have h' : (d :: (names k ++ names r)).Nodup := h
  rw [List.nodup_cons, List.nodup_append] at h'
  exact ⟨fun z => h'.1 (List.mem_append_left _ z), fun z => h'.1 (List.mem_append_right _ z), h'.2.1, h'.2.2.1, fun x hx hy => h'.2.2.2 x hx x hy rfl⟩
/-- the three ways in which a name stands in a forest -/
theorem loc_cases {d : Str} {k r : Fo} {c : Str} {a : List Str} {q : Fo} (h : loc (.cons d k r) c = some (a, q)) : (d = c ∧ a = [] ∧ q = k) ∨ (d ≠ c ∧ ∃ b, a = d :: b ∧ loc k c = some (b, q)) ∨ (d ≠ c ∧ loc k c = none ∧ loc r c = some (a, q)) := by
  unfold loc at h
  by_cases e : d = c
  · rw [if_pos e] at h
    cases h
    exact .inl ⟨e, rfl, rfl⟩
  · rw [if_neg e] at h
    cases hk : loc k c with
    | some p =>
      obtain ⟨b, p⟩ := p
      rw [hk] at h
      cases h
      exact .inr (.inl ⟨e, b, rfl, rfl⟩)
    | none =>
      rw [hk] at h
      exact .inr (.inr ⟨e, rfl, h⟩)
theorem loc_here {d : Str} {k r : Fo} : loc (.cons d k r) d = some ([], k) := by unfold loc; exact if_pos rfl
theorem loc_in {d c : Str} {k r : Fo} {b : List Str} {q : Fo} (e : d ≠ c) (h : loc k c = some (b, q)) : loc (.cons d k r) c = some (d :: b, q) := by
  unfold loc
  rw [if_neg e, h]
theorem loc_by {d c : Str} {k r : Fo} (e : d ≠ c) (h : loc k c = none) : loc (.cons d k r) c = loc r c := by
  rw [loc.eq_def]
  dsimp only
  rw [if_neg e, h]
theorem loc_sub : ∀ {f : Fo} {c : Str} {a : List Str} {q : Fo}, loc f c = some (a, q) → (a ++ [c]).Sublist (names f)
  | .nil, _, _, _, h => by unfold loc at h; cases h
  | .cons d k r, c, a, q, h => by
    show (a ++ [c]).Sublist (d :: (names k ++ names r))
    rcases loc_cases h with ⟨rfl, rfl, rfl⟩ | ⟨_, b, rfl, g⟩ | ⟨_, _, g⟩
    · exact List.Sublist.cons_cons _ (List.nil_sublist _)
    · exact List.Sublist.cons_cons _ ((loc_sub g).trans (List.sublist_append_left _ _))
    · exact List.Sublist.cons _ ((loc_sub g).trans (List.sublist_append_right _ _))
/-- what is beneath a name stands behind it, in one piece -/
theorem loc_seg : ∀ {f : Fo} {c : Str} {a : List Str} {q : Fo}, loc f c = some (a, q) → ∃ A B, names f = A ++ (c :: names q) ++ B
  | .nil, _, _, _, h => by unfold loc at h; cases h
  | .cons d k r, c, a, q, h => by
    have e0 : names (.cons d k r) = d :: (names k ++ names r) := rfl
    rcases loc_cases h with ⟨rfl, rfl, rfl⟩ | ⟨_, b, rfl, g⟩ | ⟨_, _, g⟩
    · exact ⟨[], names r, rfl⟩
    · obtain ⟨A, B, e⟩ := loc_seg g
      exact ⟨d :: A, B ++ names r, by rw [e0, e]; simp⟩
    · obtain ⟨A, B, e⟩ := loc_seg g
      exact ⟨d :: (names k ++ A), B, by rw [e0, e]; simp⟩
/-- the column right above -/
def lastOr (a : List Str) (u : Option Str) : Option Str := match a.getLast? with
  | some x => some x
  | none => u
theorem lastOr_snoc (a : List Str) (x : Str) (u : Option Str) : lastOr (a ++ [x]) u = some x := by unfold lastOr; rw [List.getLast?_concat]
theorem lastOr_cons (d : Str) (a : List Str) (u : Option Str) : lastOr (d :: a) u = lastOr a (some d) := by
  cases a with
  | nil => rfl
  | cons x r =>
    unfold lastOr
    rw [List.getLast?_cons_cons]
    rw [List.getLast?_eq_some_getLast (by simp)]
theorem loc_flat : ∀ {f : Fo} {c : Str} {a : List Str} {q : Fo} (u : Option Str), loc f c = some (a, q) → (c, lastOr a u) ∈ flat f u
  | .nil, _, _, _, _, h => by unfold loc at h; cases h
  | .cons d k r, c, a, q, u, h => by
    show _ ∈ (d, u) :: (flat k (some d) ++ flat r u)
    rcases loc_cases h with ⟨rfl, rfl, rfl⟩ | ⟨_, b, rfl, g⟩ | ⟨_, _, g⟩
    · exact List.mem_cons_self
    · rw [lastOr_cons]
      exact List.mem_cons_of_mem _ (List.mem_append_left _ (loc_flat (some d) g))
    · exact List.mem_cons_of_mem _ (List.mem_append_right _ (loc_flat u g))
/-- each one above, with what is above it -/
theorem loc_up : ∀ {f : Fo} {c : Str} {a : List Str} {q : Fo}, (names f).Nodup → loc f c = some (a, q) → ∀ (a1 a2 : List Str) (x : Str), a = a1 ++ x :: a2 → ∃ q1, loc f x = some (a1, q1) ∧ c ∈ names q1
  | .nil, _, _, _, _, h => by unfold loc at h; cases h
  | .cons d k r, c, a, q, hn, h => by
    intro a1 a2 x e
    obtain ⟨n1, n2, n3, n4, n5⟩ := nd_parts hn
    rcases loc_cases h with ⟨rfl, rfl, rfl⟩ | ⟨hd, b, rfl, g⟩ | ⟨hd, hk, g⟩
    · simp at e
    · cases a1 with
      | nil =>
        have e' : d :: b = x :: a2 := e
        injection e' with e1 e2
        subst e1
        exact ⟨k, loc_here, loc_mem g⟩
      | cons y a1 =>
        have e' : d :: b = y :: (a1 ++ x :: a2) := e
        injection e' with e1 e2
        subst e1
        obtain ⟨q1, h1, h2⟩ := loc_up n3 g _ _ _ e2
        exact ⟨q1, loc_in (fun z => n1 (z ▸ loc_mem h1)) h1, h2⟩
    · obtain ⟨q1, h1, h2⟩ := loc_up n4 g _ _ _ e
      have hx := loc_mem h1
      exact ⟨q1, (loc_by (fun (z : d = x) => n2 (z ▸ hx)) (loc_none fun z => n5 _ z hx)).trans h1, h2⟩
/-- each one beneath -/
theorem loc_down : ∀ {f : Fo} {c o : Str} {a a2 : List Str} {q q2 : Fo}, (names f).Nodup → loc f c = some (a, q) → loc q o = some (a2, q2) → loc f o = some (a ++ c :: a2, q2)
  | .nil, _, _, _, _, _, _, _, h, _ => by unfold loc at h; cases h
  | .cons d k r, c, o, a, a2, q, q2, hn, h, h2 => by
    obtain ⟨n1, n2, n3, n4, n5⟩ := nd_parts hn
    rcases loc_cases h with ⟨rfl, rfl, rfl⟩ | ⟨hd, b, rfl, g⟩ | ⟨hd, hk, g⟩
    · exact loc_in (fun z => n1 (z ▸ loc_mem h2)) h2
    · have ih := loc_down n3 g h2
      exact loc_in (fun z => n1 (z ▸ loc_mem ih)) ih
    · have ih := loc_down n4 g h2
      have hx := loc_mem ih
      exact (loc_by (fun (z : d = o) => n2 (z ▸ hx)) (loc_none fun z => n5 _ z hx)).trans ih
theorem loc_top : ∀ {f : Fo} {c : Str}, (names f).Nodup → (c ∈ tops f ↔ ∃ q, loc f c = some ([], q))
  | .nil, c, _ => ⟨(fun h => nomatch h), (fun ⟨q, h⟩ => by unfold loc at h; cases h)⟩
  | .cons d k r, c, hn => by
    obtain ⟨n1, n2, n3, n4, n5⟩ := nd_parts hn
    constructor
    · intro h
      have h' : c ∈ d :: tops r := h
      rcases List.mem_cons.mp h' with e | h2
      · subst e
        exact ⟨k, loc_here⟩
      · obtain ⟨q, e⟩ := (loc_top n4).mp h2
        have hx := loc_mem e
        exact ⟨q, (loc_by (fun (z : d = c) => n2 (z ▸ hx)) (loc_none fun z => n5 _ z hx)).trans e⟩
    · rintro ⟨q, h⟩
      show c ∈ d :: tops r
      rcases loc_cases h with ⟨rfl, _, _⟩ | ⟨_, b, e, _⟩ | ⟨_, _, h⟩
      · exact List.mem_cons_self
      · cases e
      · exact List.mem_cons_of_mem _ ((loc_top n4).mpr ⟨q, h⟩)
theorem tops_sub : ∀ f : Fo, (tops f).Sublist (names f)
  | .nil => List.Sublist.slnil
  | .cons d k r => List.Sublist.cons_cons _ ((tops_sub r).trans (List.sublist_append_right _ _))
theorem filter_mem : ∀ {l s : List Str}, l.Nodup → s.Sublist l → (l.filter fun x => decide (x ∈ s)) = s
  | [], s, _, h => by
    cases h
    rfl
  | x :: l, s, hn, h => by
    rw [List.nodup_cons] at hn
    cases h with
    | cons _ h =>
      have hx : x ∉ s := fun z => hn.1 (h.subset z)
      rw [List.filter_cons_of_neg (by simpa using hx)]
      exact filter_mem hn.2 h
    | cons_cons _ h =>
      rename_i s
      rw [List.filter_cons_of_pos (by simp)]
      congr 1
      have e : (l.filter fun y => decide (y ∈ x :: s)) = l.filter fun y => decide (y ∈ s) := by
        refine List.filter_congr fun y hy => ?_
        have : y ≠ x := fun z => hn.1 (z ▸ hy)
        simp [this]
      rw [e]
      exact filter_mem hn.2 h
/-- above and beneath are one thing, told from both ends -/
theorem up_down {f : Fo} {c o : Str} {a a' : List Str} {q q' : Fo} (hn : (names f).Nodup) (hc : loc f c = some (a, q)) (ho : loc f o = some (a', q')) : c ∈ a' ↔ o ∈ names q := by
  constructor
  · intro h
    obtain ⟨a1, a2, e⟩ := List.append_of_mem h
    obtain ⟨q1, h1, h2⟩ := loc_up hn ho _ _ _ e
    rw [hc] at h1
    cases h1
    exact h2
  · intro h
    obtain ⟨a2, q2, h2⟩ := loc_names h
    have := loc_down hn hc h2
    rw [ho] at this
    cases this
    simp
/-- what is right beneath a name -/
theorem kid_iff {f : Fo} {c o : Str} {a a' : List Str} {q q' : Fo} (hn : (names f).Nodup) (hq : (names q).Nodup) (hc : loc f c = some (a, q)) (ho : loc f o = some (a', q')) : a'.getLast? = some c ↔ o ∈ tops q := by
  constructor
  · intro h
    obtain ⟨a1, e⟩ : ∃ a1, a' = a1 ++ [c] := by
      rw [List.getLast?_eq_some_iff] at h
      exact h
    obtain ⟨q1, h1, h2⟩ := loc_up hn ho a1 [] c e
    rw [hc] at h1
    cases h1
    obtain ⟨a2, q2, h3⟩ := loc_names h2
    have h4 := loc_down hn hc h3
    rw [ho] at h4
    obtain ⟨e4, _⟩ := Prod.mk.inj (Option.some.inj h4)
    rw [e] at e4
    have e5 : [c] = c :: a2 := List.append_cancel_left e4
    have e6 : a2 = [] := by
      have := (List.cons.inj e5).2
      exact this.symm
    subst e6
    exact (loc_top hq).mpr ⟨q2, h3⟩
  · intro h
    obtain ⟨q2, h3⟩ := (loc_top hq).mp h
    have h4 := loc_down hn hc h3
    rw [ho] at h4
    obtain ⟨e4, _⟩ := Prod.mk.inj (Option.some.inj h4)
    rw [e4, List.getLast?_concat]
theorem sub_nodup {f : Fo} {c : Str} {a : List Str} {q : Fo} (hn : (names f).Nodup) (h : loc f c = some (a, q)) : (c :: names q).Nodup := by
  obtain ⟨A, B, e⟩ := loc_seg h
  rw [e, List.append_assoc, List.nodup_append] at hn
  exact (List.nodup_append.mp hn.2.1).1
theorem seg_sub {f : Fo} {c : Str} {a : List Str} {q : Fo} (h : loc f c = some (a, q)) : (c :: names q).Sublist (names f) := by
  obtain ⟨A, B, e⟩ := loc_seg h
  rw [e, List.append_assoc]
  exact (List.sublist_append_left _ _).trans (List.sublist_append_right _ _)
/-- the names beneath, child by child -/
def kidsOf (f : Fo) (c : Str) : List Str := match loc f c with
  | some (_, q) => c :: names q
  | none => []
theorem kids_flat : ∀ {q : Fo}, (names q).Nodup → (tops q).flatMap (kidsOf q) = names q
  | .nil, _ => rfl
  | .cons d k r, hn => by
    obtain ⟨n1, n2, n3, n4, n5⟩ := nd_parts hn
    show (d :: tops r).flatMap (kidsOf (.cons d k r)) = d :: (names k ++ names r)
    rw [List.flatMap_cons]
    have e1 : kidsOf (.cons d k r) d = d :: names k := by unfold kidsOf; rw [loc_here]
    have e2 : (tops r).flatMap (kidsOf (.cons d k r)) = (tops r).flatMap (kidsOf r) := by
      have : ∀ l : List Str, (∀ x ∈ l, x ∈ names r) → l.flatMap (kidsOf (.cons d k r)) = l.flatMap (kidsOf r) := by
        intro l
        induction l with
        | nil => intro _; rfl
        | cons x t ih =>
          intro h
          rw [List.flatMap_cons, List.flatMap_cons, ih fun y hy => h y (List.mem_cons_of_mem _ hy)]
          congr 1
          have hx := h x List.mem_cons_self
          unfold kidsOf
          rw [loc_by (fun (z : d = x) => n2 (z ▸ hx)) (loc_none fun z => n5 _ z hx)]
      exact this _ fun x hx => (tops_sub r).subset hx
    rw [e1, e2, kids_flat n4, List.cons_append]
end TM
namespace TM
open PySem L2
theorem perm_eq {α : Type} {R : α → α → Prop} (anti : ∀ a b, R a b → R b a → a = b) : ∀ {l m : List α}, l.Perm m → l.Pairwise R → m.Pairwise R → l = m
  | [], m, h, _, _ => by
    have := h.length_eq
    cases m with
    | nil => rfl
    | cons b m => simp at this
  | a :: l, [], h, _, _ => by
    have := h.length_eq
    simp at this
  | a :: l, b :: m, h, h1, h2 => by
    have hab : a = b := by
      have ha : a ∈ b :: m := h.subset List.mem_cons_self
      have hb : b ∈ a :: l := h.symm.subset List.mem_cons_self
      rcases List.mem_cons.mp ha with e | ha
      · exact e
      · rcases List.mem_cons.mp hb with e | hb
        · exact e.symm
        · exact anti a b ((List.pairwise_cons.mp h1).1 b hb) ((List.pairwise_cons.mp h2).1 a ha)
    subst hab
    rw [perm_eq anti (List.Perm.cons_inv h) (List.pairwise_cons.mp h1).2 (List.pairwise_cons.mp h2).2]
/-- the first i trees of a forest -/
def takeF : Nat → Fo → Fo
  | 0, _ => .nil
  | _ + 1, .nil => .nil
  | i + 1, .cons c k r => .cons c k (takeF i r)
theorem takeF_all : ∀ f : Fo, takeF (tops f).length f = f
  | .nil => rfl
  | .cons c k r => by
    show Fo.cons c k (takeF (tops r).length r) = _
    rw [takeF_all r]
theorem takeF_next : ∀ {f : Fo} {i : Nat} {c : Str}, (names f).Nodup → (tops f)[i]? = some c → ∃ k, loc f c = some ([], k) ∧ takeF (i + 1) f = app (takeF i f) (.cons c k .nil)
  | .nil, i, c, _, h => by simp [tops] at h
  | .cons d k r, 0, c, _, h => by
    have e : d = c := by simpa [tops] using h
    subst e
    exact ⟨k, loc_here, rfl⟩
  | .cons d k r, i + 1, c, hn, h => by
    have h' : (tops r)[i]? = some c := by simpa [tops] using h
    obtain ⟨n1, n2, n3, n4, n5⟩ := nd_parts hn
    obtain ⟨q, h1, h2⟩ := takeF_next n4 h'
    have hx := loc_mem h1
    refine ⟨q, (loc_by (fun (z : d = c) => n2 (z ▸ hx)) (loc_none fun z => n5 _ z hx)).trans h1, ?_⟩
    show Fo.cons d k (takeF (i + 1) r) = Fo.cons d k (app (takeF i r) (.cons c q .nil))
    rw [h2]
theorem takeF_sub : ∀ (f : Fo) (i : Nat), (names (takeF i f)).Sublist (names f)
  | _, 0 => List.nil_sublist _
  | .nil, i + 1 => List.Sublist.slnil
  | .cons c k r, i + 1 => by
    show (c :: (names k ++ names (takeF i r))).Sublist (c :: (names k ++ names r))
    exact List.Sublist.cons_cons _ (List.Sublist.append_left (takeF_sub r i) _)
/-- the pairs of one tree, picked out of a forest's -/
theorem pick_tree : ∀ {f : Fo} {c : Str} {k : Fo}, (names f).Nodup → loc f c = some ([], k) → (flat f none).filter (fun q => decide (q.1 ∈ c :: names k)) = flat (.cons c k .nil) none
  | .nil, _, _, _, h => by unfold loc at h; cases h
  | .cons d k' r, c, k, hn, h => by
    obtain ⟨n1, n2, n3, n4, n5⟩ := nd_parts hn
    have keep : ∀ (l : List Pr), (∀ q ∈ l, q.1 ∈ c :: names k) → l.filter (fun q => decide (q.1 ∈ c :: names k)) = l := fun l hl => List.filter_eq_self.mpr fun q hq => decide_eq_true (hl q hq)
    have drop : ∀ (l : List Pr), (∀ q ∈ l, q.1 ∉ c :: names k) → l.filter (fun q => decide (q.1 ∈ c :: names k)) = [] := fun l hl => List.filter_eq_nil_iff.mpr fun q hq z => hl q hq (of_decide_eq_true z)
    have nm : ∀ {g : Fo} {u : Option Str} {q : Pr}, q ∈ flat g u → q.1 ∈ names g := fun {g u q} hq => by rw [← flat_names g u]; exact List.mem_map.mpr ⟨q, hq, rfl⟩
    show ((d, none) :: (flat k' (some d) ++ flat r none)).filter _ = (c, none) :: (flat k (some c) ++ [])
    rcases loc_cases h with ⟨rfl, _, rfl⟩ | ⟨_, b, e, _⟩ | ⟨hd, hk, g⟩
    · rw [List.filter_cons_of_pos (by simp), List.filter_append, keep (flat k (some d)) fun q hq => List.mem_cons_of_mem _ (nm hq), drop (flat r none) fun q hq z => ?_]
      rcases List.mem_cons.mp z with z | z
      · exact n2 (z ▸ nm hq)
      · exact n5 _ z (nm hq)
    · cases e
    · have hs := seg_sub g
      rw [List.filter_cons_of_neg (by
        intro z
        exact n2 (hs.subset (of_decide_eq_true z))), List.filter_append, drop (flat k' (some d)) fun q hq z => n5 _ (nm hq) (hs.subset z), List.nil_append]
      exact pick_tree n4 g
end TM

set_option maxHeartbeats 2000000
/-! Words of our own, over any row. -/
namespace TX
open PySem L2 PyProof.Rows
/-- the built-in names that the text leaves alone -/
structure Bn (mg : Str → Option Value) : Prop where
  len : mg "len" = none
  isi : mg "isinstance" = none
  str : mg "str" = none
  list : mg "list" = none
  tuple : mg "tuple" = none
  dict : mg "dict" = none
  int : mg "int" = none
  range : mg "range" = none
  enum : mg "enumerate" = none
  all : mg "all" = none
  any : mg "any" = none
  max : mg "max" = none
  sorted : mg "sorted" = none
/-- a def of the module, ready to be called -/
structure Fn (K : PySem.W.Frag) (mg : Str → Option Value) (x : Str) (st : Stmt) (ps : List Str) (f : Addr) (fd : FuncData) : Prop where
  F : Fun K x x st f fd
  g : mg x = some (.ref f)
  b : Binds K fd ps []
/-- all that was tracked but at W is as it was -/
def Sm (W : Addr) (H H' : Hp) : Prop := ∀ b o, b ≠ W → H b = some o → H' b = some o
theorem Sm.rfl' {W : Addr} {H : Hp} : Sm W H H := fun _ _ _ h => h
theorem Sm.trans {W : Addr} {H H1 H2 : Hp} (a : Sm W H H1) (b : Sm W H1 H2) : Sm W H H2 := fun c o n h => b c o n (a c o n h)
theorem Sm.of {W : Addr} {H H' : Hp} (s : Same H H') : Sm W H H' := fun c o _ h => s c o h
theorem Same.new {H : Hp} {p : Addr} {o : HO} (h : H p = none) : Same H (upd H p o) := fun a u e => by rw [upd_ne (ne_of_none e h)]; exact e
theorem Same.new' {H H1 : Hp} {p : Addr} {o : HO} (s : Same H H1) (h : H1 p = none) : Same H (upd H1 p o) := s.trans (Same.new h)
theorem Sm.new {W : Addr} {H H1 : Hp} {p : Addr} {o : HO} (s : Sm W H H1) (h : H1 p = none) : Sm W H (upd H1 p o) := s.trans (.of (Same.new h))
theorem Sm.put {W : Addr} {H H1 : Hp} {o : HO} (s : Sm W H H1) : Sm W H (upd H1 W o) := fun a u n e => by rw [upd_ne n]; exact s a u n e
/-- a well: three ints; n draws may follow -/
def WellAt (n : Nat) (H : Hp) (W : Addr) : Prop := ∃ a b c : Int, H W = some (.lst [.int a, .int b, .int c]) ∧ 0 ≤ b ∧ b < 2147483648 ∧ 0 ≤ c ∧ c + n ≤ 1000000000000
theorem WellAt.mono {n m : Nat} {H : Hp} {W : Addr} (h : WellAt n H W) (hm : m ≤ n) : WellAt m H W := by
  obtain ⟨a, b, c, e, h1, h2, h3, h4⟩ := h
  exact ⟨a, b, c, e, h1, h2, h3, by omega⟩
theorem WellAt.same {n : Nat} {H H' : Hp} {W : Addr} (h : WellAt n H W) (s : Same H H') : WellAt n H' W := by
  obtain ⟨a, b, c, e, r⟩ := h
  exact ⟨a, b, c, s _ _ e, r⟩
theorem WellAt.new {n : Nat} {H : Hp} {W p : Addr} {o : HO} (h : WellAt n H W) (hp : H p = none) : WellAt n (upd H p o) W := h.same (Same.new hp)
theorem WellAt.ne {n : Nat} {H : Hp} {W p : Addr} (h : WellAt n H W) (hp : H p = none) : W ≠ p := by
  obtain ⟨a, b, c, e, r⟩ := h
  exact ne_of_none e hp
/-- a turn's or a test's joint: what is known of the slots and the heap behind -/
theorem two_le : (2 : Nat) ≤ sizeLine := by decide
theorem small100 {n : Nat} (h : n ≤ 1000) : n ≤ sizeLine := Nat.le_trans h (by decide)
end TX
namespace TX
open PySem L2 PyProof.Rows
theorem Same.mut {H H1 : Hp} {p : Addr} {o : HO} (s : Same H H1) (h : H p = none) : Same H (upd H1 p o) := fun a u e => by rw [upd_ne (ne_of_none e h)]; exact s a u e
theorem Sm.mut {W : Addr} {H H1 : Hp} {p : Addr} {o : HO} (s : Sm W H H1) (h : H p = none) : Sm W H (upd H1 p o) := fun a u n e => by rw [upd_ne (ne_of_none e h)]; exact s a u n e
theorem WellAt.upd {n : Nat} {H : Hp} {W p : Addr} {o : HO} (h : WellAt n H W) (hp : W ≠ p) : WellAt n (L2.upd H p o) W := by
  obtain ⟨a, b, c, e, r⟩ := h
  exact ⟨a, b, c, by rw [upd_ne hp]; exact e, r⟩
theorem Sm.free {W : Addr} {H H' : Hp} (e : Sm W H H') {n : Nat} (hW : WellAt n H W) {l : Addr} (h : H' l = Option.none) (hW' : ∃ m, WellAt m H' W) : H l = Option.none := by
  cases q : H l with
  | none => rfl
  | some o =>
    obtain ⟨m, a, b, c, z, _⟩ := hW'
    have : l ≠ W := fun x => by rw [x, z] at h; cases h
    rw [e l o this q] at h
    cases h
/-- signs as texts -/
def S (l : List Nat) : Str := ⟨l.toArray⟩
theorem S_len (l : List Nat) : (S l).length = l.length := by show l.toArray.size = _; rw [List.size_toArray]
theorem S_cps (l : List Nat) : (S l).cps.toList = l := rfl
theorem S_inj {l m : List Nat} (h : S l = S m) : l = m := by
  have := congrArg (fun s : Str => s.cps.toList) h
  exact this
theorem S_eta (s : Str) : s = S s.cps.toList := by
  obtain ⟨⟨l⟩⟩ := s
  rfl
theorem S_app (l m : List Nat) : S l ++ S m = S (l ++ m) := by
  show (⟨l.toArray ++ m.toArray⟩ : Str) = ⟨(l ++ m).toArray⟩
  simp
theorem join_empty : ∀ ys : List (List Nat), Txt.join (S []) (ys.map S) = S ys.flatten := by
  intro ys
  show Builtin.Str.glued (S []) (ys.map S) = _
  rw [StrLaws.glued_eq_join]
  induction ys with
  | nil => rfl
  | cons y r ih =>
    cases r with
    | nil =>
      show S y = S ([y].flatten)
      simp
    | cons z r =>
      show S y ++ S [] ++ Str.join (S []) ((z :: r).map S) = _
      rw [ih, S_app, S_app]
      simp
theorem cutS_S (l : List Nat) (lo hi : Option Int) : cutS (S l) lo hi = S ((l.drop (HT.sIx l.length 0 lo)).take (HT.sIx l.length l.length hi - HT.sIx l.length 0 lo)) := by
  unfold cutS
  rw [S_len]
  rfl
/-- the letters -/
def abc : Str := Str.ofString "abcdefghijklmnopqrstuvwxyz"
theorem abc_eq : abc = S [97, 98, 99, 100, 101, 102, 103, 104, 105, 106, 107, 108, 109, 110, 111, 112, 113, 114, 115, 116, 117, 118, 119, 120, 121, 122] := by decide +kernel
theorem abc_at {j : Nat} (h : j < 26) : atI abc.cps.toList (j : Int) = some (97 + j) := by
  rw [abc_eq]
  refine atI_nat ?_
  rw [S_cps]
  revert j
  decide
theorem abc_len : abc.length ≤ sizeLine := by rw [abc_eq, S_len]; decide
/-- the k-th name of a well's -/
def nmOf (base : List Nat) (spot more bg ap k : Nat) : Str := S (base.take spot ++ (97 + (bg + ap * k) % 26) :: (base.drop spot).take more)
theorem nm_ok {base : List Nat} {spot more bg ap k : Nat} (hb : base.length = 7) (hc : ∀ c ∈ base, 97 ≤ c ∧ c ≤ 122) (hs : spot + more ≤ 7) : TM.NameOk (nmOf base spot more bg ap k) := by
  unfold TM.NameOk nmOf
  rw [S_len, S_cps]
  simp only [List.length_append, List.length_cons, List.length_take, List.length_drop, hb]
  refine ⟨by omega, by omega, fun c h => ?_⟩
  rcases List.mem_append.mp h with h | h
  · exact hc c (List.mem_of_mem_take h)
  · rcases List.mem_cons.mp h with h | h
    · have := Nat.mod_lt (bg + ap * k) (show 26 > 0 by decide)
      omega
    · exact hc c (List.mem_of_mem_drop (List.mem_of_mem_take h))
theorem nm_inj {base : List Nat} {spot more bg ap k k' : Nat} (ha : ap ∈ [1, 3, 5, 7, 9, 11, 15, 17]) (hk : k < 26) (hk' : k' < 26) (h : nmOf base spot more bg ap k = nmOf base spot more bg ap k') : k = k' := by
  have h1 := S_inj h
  have h2 := (List.append_inj h1 rfl).2
  have h3 : 97 + (bg + ap * k) % 26 = 97 + (bg + ap * k') % 26 := (List.cons.inj h2).1
  simp only [List.mem_cons, List.not_mem_nil, or_false] at ha
  rcases ha with e | e | e | e | e | e | e | e <;> subst e <;> omega
theorem nm_nodup {base : List Nat} {spot more bg ap n : Nat} (ha : ap ∈ [1, 3, 5, 7, 9, 11, 15, 17]) (hn : n ≤ 26) : ((List.range n).map (nmOf base spot more bg ap)).Nodup := by
  rw [List.nodup_iff_pairwise_ne, List.pairwise_map]
  refine List.Pairwise.imp_of_mem ?_ (List.nodup_iff_pairwise_ne.mp List.nodup_range)
  intro a b ha' hb' hne e
  exact hne (nm_inj ha (by have := List.mem_range.mp ha'; omega) (by have := List.mem_range.mp hb'; omega) e)
end TX
namespace TX
open PySem L2 PyProof.Rows
theorem sum_signs (cs : List Nat) : (List.map (fun x : Str => x.length) (cs.map fun c => S [c])).sum = cs.length := by
  induction cs with
  | nil => rfl
  | cons c r ih =>
    rw [List.map_cons, List.map_cons, List.sum_cons, ih, S_len, List.length_cons]
    simp
    omega
theorem join_signs (cs : List Nat) : Txt.join (Str.ofString "") (cs.map fun c => S [c]) = S cs := by
  have e1 : Str.ofString "" = S [] := by decide +kernel
  have e2 : cs.map (fun c => S [c]) = (cs.map fun c => [c]).map S := by rw [List.map_map]; rfl
  have e3 : (cs.map fun c => [c]).flatten = cs := by
    clear e2
    induction cs with
    | nil => rfl
    | cons c r ih => rw [List.map_cons, List.flatten_cons, ih]; rfl
  rw [e1, e2, join_empty, e3]
theorem len_empty : (Str.ofString "").length = 0 := by decide +kernel
end TX
namespace TX
open PySem L2 PyProof.Rows
theorem line100 {n : Nat} (h : n ≤ 1000) : n ≤ sizeLine := Nat.le_trans h (by decide)
theorem line100' {n : Nat} (h : n ≤ 1000) : n < sizeLine := Nat.lt_of_le_of_lt h (by decide)
theorem sapp_len (a b : Str) : (a ++ b).length = a.length + b.length := by
  show (a.cps ++ b.cps).size = _
  rw [Array.size_append]
  rfl
end TX
namespace TX
open PySem L2 PyProof.Rows TM
def optV : Option Str → V
  | none => .non
  | some x => .str x
/-- tuples of a name and what stands over it -/
def TupsAt (H : Hp) : List Addr → List Pr → Prop := Paired fun a q => H a = some (.tup [.str q.1, optV q.2])
def PairsAt (H : Hp) (p : Addr) (ps : List Pr) : Prop := ∃ as, H p = some (.lst (as.map V.ref)) ∧ TupsAt H as ps
theorem TupsAt.sm {W : Addr} {H H' : Hp} {as : List Addr} {ps : List Pr} (h : TupsAt H as ps) (s : Sm W H H') (w : ∃ n, WellAt n H W) : TupsAt H' as ps :=
  Paired.mapP h fun a q e => s a _ (by obtain ⟨n, x, y, z, e2, _⟩ := w; exact ne_of e e2 (by intro z; cases z)) e
theorem TupsAt.same {H H' : Hp} {as : List Addr} {ps : List Pr} (h : TupsAt H as ps) (s : Same H H') : TupsAt H' as ps := Paired.mapP h fun a q e => s a _ e
theorem TupsAt.put {H : Hp} {as : List Addr} {ps : List Pr} {p : Addr} {xs : List V} {o : HO} (h : TupsAt H as ps) (hp : H p = some (.lst xs)) : TupsAt (upd H p o) as ps :=
  Paired.mapP h fun a q e => by rw [upd_ne (ne_of e hp (by intro z; cases z))]; exact e
theorem TupsAt.snoc {H : Hp} {as : List Addr} {ps : List Pr} {a : Addr} {q : Pr} (h : TupsAt H as ps) (e : H a = some (.tup [.str q.1, optV q.2])) : TupsAt H (as ++ [a]) (ps ++ [q]) := by
  unfold TupsAt at *
  induction h with
  | nil => exact .cons e .nil
  | cons h _ ih => exact .cons h ih
theorem TupsAt.len {H : Hp} {as : List Addr} {ps : List Pr} (h : TupsAt H as ps) : as.length = ps.length := Paired.length h
theorem PairsAt.same {H H' : Hp} {p : Addr} {ps : List Pr} (h : PairsAt H p ps) (s : Same H H') : PairsAt H' p ps := by
  obtain ⟨as, e, t⟩ := h
  exact ⟨as, s _ _ e, t.same s⟩
theorem PairsAt.sm {W : Addr} {H H' : Hp} {p : Addr} {ps : List Pr} (h : PairsAt H p ps) (s : Sm W H H') (w : ∃ n, WellAt n H W) (hp : p ≠ W) : PairsAt H' p ps := by
  obtain ⟨as, e, t⟩ := h
  exact ⟨as, s _ _ hp e, t.sm s w⟩
end TX
namespace TX
open PySem L2 PyProof.Rows TM
def kvsOf (ps : List Pr) : List (Key × V) := ps.map fun q => ((Sum.inr q.1 : Key), optV q.2)
theorem kvs_none : ∀ {ps : List Pr} {x : Str}, x ∉ ps.map Prod.fst → valV (kvsOf ps) (Sum.inr x : Key) = none
  | [], _, _ => rfl
  | (c, o) :: r, x, h => by
    have hne : ¬ ((Sum.inr c : Key) = Sum.inr x) := fun e => by
      injection e with e
      exact h (by rw [e]; exact List.mem_cons_self)
    show valV (((Sum.inr c : Key), optV o) :: kvsOf r) _ = none
    rw [valV_neg hne]
    exact kvs_none fun hx => h (List.mem_cons_of_mem _ hx)
theorem kvs_some : ∀ {ps : List Pr} {x : Str} {o : Option Str}, (ps.map Prod.fst).Nodup → (x, o) ∈ ps → valV (kvsOf ps) (Sum.inr x : Key) = some (optV o)
  | [], _, _, _, h => nomatch h
  | (c, p) :: r, x, o, hn, h => by
    rw [List.map_cons, List.nodup_cons] at hn
    rcases List.mem_cons.mp h with e | h
    · obtain ⟨rfl, rfl⟩ := Prod.mk.inj e
      exact valV_pos (p := ((Sum.inr x : Key), optV o)) rfl
    · have hne : ¬ ((Sum.inr c : Key) = Sum.inr x) := fun e => by
        injection e with e
        exact hn.1 (by rw [e]; exact List.mem_map.mpr ⟨(x, o), h, rfl⟩)
      show valV (((Sum.inr c : Key), optV p) :: kvsOf r) _ = _
      rw [valV_neg hne]
      exact kvs_some hn.2 h
theorem optV_inj {o o' : Option Str} (h : optV o = optV o') : o = o' := by
  cases o with
  | none =>
    cases o' with
    | none => rfl
    | some y => cases h
  | some x =>
    cases o' with
    | none => cases h
    | some y =>
      have h' : V.str x = V.str y := h
      injection h' with h'
      rw [h']
/-- in a list or in a dict -/
theorem PC.or {X : Cx} {op : CmpOp} {a b : Expr} {t u : TE} (h1 : PC X op a b t) (h2 : PC X op a b u) : PC X op a b (fun σ H Q => t σ H Q ∨ u σ H Q) :=
  ⟨fun pins s σ H Q I h => h.elim (h1.run pins s σ H Q I) (h2.run pins s σ H Q I)⟩
theorem PC.ofR {X : Cx} {op : CmpOp} {a b : Expr} {ta tb : TE} {r : R2} (ho : OpR X (compareOp op) r) (ha : PE X a ta) (hb : PE X b tb) : PC X op a b (tOp r ta tb) :=
  ⟨fun pins s σ H Q I h => thn (ha.run pins s σ H _ I h) fun u s1 ⟨x, H1, I1, rx, h1⟩ => thn (hb.run pins s1 σ H1 _ I1 h1) fun v s2 ⟨y, H2, I2, ry, h2⟩ => ho pins s2 σ H2 x y u v Q I2 rx ry h2⟩
/-- the order of one sign and a letter -/
theorem lt_sign (c d : Nat) : ([c] < [d]) ↔ c < d := by
  constructor
  · intro h
    cases h with
    | rel h => exact h
    | cons h => cases h
  · intro h
    exact List.Lex.rel h
theorem str_a : Str.ofString "a" = S [97] := by decide +kernel
theorem str_z : Str.ofString "z" = S [122] := by decide +kernel
end TX
namespace TX
open PySem L2 PyProof.Rows TM
theorem TupsAt.get {H : Hp} {as : List Addr} {ps : List Pr} (h : TupsAt H as ps) : ∀ {i : Nat} {a : Addr}, as[i]? = some a → ∃ q, ps[i]? = some q ∧ H a = some (.tup [.str q.1, optV q.2]) := by
  unfold TupsAt at h
  induction h with
  | nil => intro i a e; simp at e
  | cons h _ ih =>
    intro i a e
    cases i with
    | zero =>
      simp at e
      subst e
      exact ⟨_, by simp, h⟩
    | succ i =>
      obtain ⟨q, h1, h2⟩ := ih (by simpa using e)
      exact ⟨q, by simpa using h1, h2⟩
theorem kvs_put {ps : List Pr} {c : Str} {o : Option Str} (h : c ∉ ps.map Prod.fst) : putK (kvsOf ps) (Sum.inr c : Key) (optV o) = kvsOf (ps ++ [(c, o)]) := by
  rw [putK_new _ (kvs_none h)]
  unfold kvsOf
  rw [List.map_append]
  rfl
theorem kvs_len (ps : List Pr) : (kvsOf ps).length = ps.length := by unfold kvsOf; rw [List.length_map]
theorem kvs_get {ps : List Pr} {i : Nat} : (kvsOf ps)[i]? = ps[i]?.map fun q => ((Sum.inr q.1 : Key), optV q.2) := by unfold kvsOf; rw [List.getElem?_map]
end TX
namespace TX
open PySem L2 PyProof.Rows TM
/-- a dict comprehension over a walk: Pr by the turn and the heap -/
theorem dc_walk {J : It} {n : Nat} {G : Hp → Prop} {Y : Nat → Hp → V → Hp → Prop} (wk : Walk J n G Y) {tgt : TG} {cond : TT} {key val : TE} {own : List Nat} {slots : L2.St} {Hs : Hp} {Dn : Addr} {Qf : Hp → Prop}
    (Pw : Nat → Hp → Prop) (start : Pw 0 (upd Hs Dn (.dK []))) (good : ∀ i h, i ≤ n → Pw i h → G h)
    (turn : ∀ i v h h', i < n → Pw i h → Y i h v h' → tgt v (wipe slots own) h' fun s2 h2 => wipe s2 own = wipe slots own ∧ cond s2 h2 fun b h3 =>
      (if b = true then (key s2 h3 fun ky h4 => val s2 h4 fun vl h5 => ∃ es kk, ky = kV kk ∧ h5 Dn = some (.dK es) ∧ es.length < sizeLine ∧ Pw (i + 1) (upd h5 Dn (.dK (putK es kk vl)))) else Pw (i + 1) h3))
    (fin : ∀ h, Pw n h → Qf h) :
    ∃ Z : Nat → Nat → Hp → Prop, (∃ m, Z 0 m (upd Hs Dn (.dK []))) ∧ ∀ i m h, Z i m h → (J.stop i h ∧ Qf h) ∨ (J.go i h ∧ ∃ Nx : Hp → Prop, (∀ h', Nx h' → ∃ m', m' < m ∧ Z (i + 1) m' h') ∧
      ∀ v h', J.yld i h v h' → tgt v (wipe slots own) h' fun s2 h2 => wipe s2 own = wipe slots own ∧ cond s2 h2 fun b h3 =>
        (if b = true then (key s2 h3 fun ky h4 => val s2 h4 fun vl h5 => ∃ es kk, ky = kV kk ∧ h5 Dn = some (.dK es) ∧ es.length < sizeLine ∧ Nx (upd h5 Dn (.dK (putK es kk vl)))) else Nx h3)) := by
  refine ⟨fun i m h => i ≤ n ∧ m = n - i ∧ Pw i h, ⟨n, Nat.zero_le _, by simp, start⟩, ?_⟩
  rintro i m h ⟨hi, rfl, pw⟩
  have g := good i h hi pw
  rcases Nat.lt_or_ge i n with hlt | hge
  · exact .inr ⟨wk.goes i h hlt g, Pw (i + 1), fun h' p' => ⟨n - (i + 1), by omega, hlt, rfl, p'⟩, fun v h' y => turn i v h h' hlt pw (wk.yields i h v h' hlt g y)⟩
  · obtain rfl : i = n := by omega
    exact .inl ⟨wk.stops h g, fin h pw⟩
/-- what is asked of a tree's names -/
structure FoOk (f : Fo) : Prop where
  nd : (names f).Nodup
  le : (names f).length ≤ 8
  ok : ∀ x ∈ names f, NameOk x
theorem foOk_mk {ps : List Pr} (va : Valid [] ps) (hl : ps.length ≤ 8) (hn : ∀ x ∈ ps.map Prod.fst, NameOk x) : FoOk (mk ps none) :=
  ⟨ord_nodup va, Nat.le_trans (ord_le va none) hl, fun x hx => hn x ((ord_perm va).mem_iff.mp hx)⟩
theorem kcol : ¬ (("_columns" : Str) = "_over") := by decide +kernel
/-- the attributes of a tree, in the order in which they are stored -/
def tflds (l d : Addr) : List (Str × V) := putF "_over" (.ref d) (putF "_columns" (.ref l) [])
theorem tflds_col (l d : Addr) : (tflds l d).lookup ("_columns" : Str) = some (.ref l) := by
  unfold tflds
  rw [lookup_putF, if_neg kcol, lookup_putF, if_pos rfl]
theorem tflds_over (l d : Addr) : (tflds l d).lookup ("_over" : Str) = some (.ref d) := by
  unfold tflds
  rw [lookup_putF, if_pos rfl]
theorem tflds_no (l d : Addr) {m : Str} (h1 : ¬ m = "_over") (h2 : ¬ m = "_columns") : (tflds l d).lookup m = none := by
  unfold tflds
  rw [lookup_putF, if_neg h1, lookup_putF, if_neg h2]
  rfl
theorem tflds_len (l d : Addr) : (tflds l d).length < 1000 := by
  unfold tflds
  show (if ("_columns" : Str) = "_over" then [(("_columns" : Str), V.ref d)] else (("_columns" : Str), V.ref l) :: putF "_over" (V.ref d) []).length < 1000
  rw [if_neg kcol]
  show 2 < 1000
  decide
/-- a tree stands at p -/
def TreeAt (C : Addr) (H : Hp) (p : Addr) (f : Fo) : Prop := ∃ dx l d, H p = some (.ins C dx (tflds l d)) ∧ H l = some (.lst ((names f).map V.str)) ∧ H d = some (.dK (kvsOf (flat f none)))
theorem TreeAt.same {C : Addr} {H H' : Hp} {p : Addr} {f : Fo} (t : TreeAt C H p f) (s : Same H H') : TreeAt C H' p f := by
  obtain ⟨dx, l, d, h1, h2, h3⟩ := t
  exact ⟨dx, l, d, s _ _ h1, s _ _ h2, s _ _ h3⟩
/-- an own class that isinstance may be asked of -/
structure Ic (K : PySem.W.Frag) (C : Addr) : Prop where
  ha : PySem.W.findIn K (.ref C) "__class__" = some (some (.builtin "object.__class__"))
  hn : PySem.W.specialIn K (.builtin "object.__class__") "__get__" = some (some (.builtin "getset_descriptor.__get__"))
  htk : PySem.W.takesIn K (.builtin "object.__class__") = some true
  hm : PySem.W.mroIn K C (.type "object") = some true
  me : PySem.W.kitOne K (.ref C) (.ref C) = some true
/-- what the top says of the class -/
structure Tc (K : PySem.W.Frag) (mg : Str → Option Value) (C : Addr) : Prop where
  cl : Cls K C
  nC : NoAttr K C "_columns"
  nO : NoAttr K C "_over"
  g : mg "Tree" = some (.ref C)
  ins : Ic K C
end TX
namespace TX
open PySem L2 PyProof.Rows TM
theorem strOk_name {x : Str} (h : NameOk x) : PyData.strOk x = true := by
  unfold PyData.strOk
  rw [Array.all_eq_true']
  intro c hc
  have := h.2.2 c (Array.mem_toList_iff.mpr hc)
  exact decide_eq_true (by omega)
def dS (ns : List Str) : PyData := .list (ns.map .str)
def dO : Option Str → PyData
  | none => .none
  | some x => .str x
def dP (ps : List Pr) : PyData := .list (ps.map fun q => .tuple [.str q.1, dO q.2])
theorem canS : ∀ {ns : List Str}, (∀ x ∈ ns, NameOk x) → PyData.canLayAll0 (ns.map .str) = true
  | [], _ => rfl
  | x :: r, h => by
    rw [List.map_cons]
    unfold PyData.canLayAll0
    rw [show PyData.canLay0 (.str x) = true from strOk_name (h x List.mem_cons_self), canS fun y hy => h y (List.mem_cons_of_mem _ hy)]
    rfl
theorem depS : ∀ (ns : List Str), PyData.depthAll (ns.map .str) = 0
  | [] => rfl
  | x :: r => by
    rw [List.map_cons]
    unfold PyData.depthAll
    rw [depS r]
    rfl
theorem shS {ns : List Str} (h : ∀ x ∈ ns, NameOk x) : SeqAt.shaped (dS ns) = true := by
  unfold SeqAt.shaped dS
  have h1 : PyData.canLay0 (.list (ns.map .str)) = true := by unfold PyData.canLay0; exact canS h
  have h2 : PyData.depth (.list (ns.map .str)) ≤ 64 := by unfold PyData.depth; rw [depS]; decide
  rw [h1, decide_eq_true h2]
  rfl
theorem eqvS : ∀ (ns ms : List Str), PyData.eqvAll (ns.map .str) (ms.map .str) = decide (ns = ms)
  | [], [] => rfl
  | [], _ :: _ => rfl
  | _ :: _, [] => rfl
  | x :: r, y :: t => by
    rw [List.map_cons, List.map_cons]
    unfold PyData.eqvAll PyData.eqv
    rw [eqvS r t]
    by_cases h : x = y <;> by_cases h2 : r = t <;> simp [h, h2]
theorem DpAll_strs {K : PySem.W.Frag} {H : Hp} : ∀ (ns : List Str), DpAll K H (ns.map V.str) (ns.map .str)
  | [] => .nil
  | x :: r => .cons (.str x) (DpAll_strs r)
theorem DpS {K : PySem.W.Frag} {H : Hp} {a : Addr} {ns : List Str} (h : H a = some (.lst (ns.map V.str))) : Dp K H (.ref a) (dS ns) := .lst (.of h) (DpAll_strs ns)
end TX
namespace TX
open PySem L2 PyProof.Rows TM
/-- all names of a list of pairs are names -/
def PsOk (ps : List Pr) : Prop := ∀ q ∈ ps, NameOk q.1 ∧ ∀ x, q.2 = some x → NameOk x
theorem PsOk.flat {f : Fo} (h : FoOk f) : PsOk (flat f none) := fun q hq => by
  refine ⟨h.ok _ ?_, fun x hx => ?_⟩
  · rw [← flat_names f none]
    exact List.mem_map.mpr ⟨q, hq, rfl⟩
  · rcases over_flat f none q hq with e | ⟨y, hy, e⟩
    · rw [e] at hx; cases hx
    · rw [e] at hx
      cases hx
      exact h.ok _ hy
theorem can_pair {q : Pr} (h : NameOk q.1 ∧ ∀ x, q.2 = some x → NameOk x) : PyData.canLay0 (.tuple [.str q.1, dO q.2]) = true := by
  obtain ⟨c, o⟩ := q
  have h1 : PyData.canLay0 (.str c) = true := strOk_name h.1
  have h2 : PyData.canLay0 (dO o) = true := by
    cases o with
    | none => rfl
    | some x => exact strOk_name (h.2 x rfl)
  unfold PyData.canLay0 PyData.canLayAll0 PyData.canLayAll0 PyData.canLayAll0
  rw [h1, h2]
  rfl
theorem canP : ∀ {ps : List Pr}, PsOk ps → PyData.canLayAll0 (ps.map fun q => .tuple [.str q.1, dO q.2]) = true
  | [], _ => rfl
  | x :: r, h => by
    rw [List.map_cons]
    unfold PyData.canLayAll0
    rw [can_pair (h x List.mem_cons_self), canP fun y hy => h y (List.mem_cons_of_mem _ hy)]
    rfl
theorem dep_dO (o : Option Str) : PyData.depth (dO o) = 0 := by cases o <;> rfl
theorem depP : ∀ (ps : List Pr), PyData.depthAll (ps.map fun q => .tuple [.str q.1, dO q.2]) ≤ 1
  | [] => Nat.zero_le _
  | x :: r => by
    rw [List.map_cons]
    unfold PyData.depthAll
    have h1 : PyData.depth (.tuple [.str x.1, dO x.2]) = 1 := by
      unfold PyData.depth PyData.depthAll PyData.depthAll PyData.depthAll
      rw [dep_dO]
      rfl
    have := depP r
    rw [h1]
    omega
theorem shP {ps : List Pr} (h : PsOk ps) : SeqAt.shaped (dP ps) = true := by
  unfold SeqAt.shaped dP
  have h1 : PyData.canLay0 (.list (ps.map fun q => .tuple [.str q.1, dO q.2])) = true := by unfold PyData.canLay0; exact canP h
  have h2 : PyData.depth (.list (ps.map fun q => .tuple [.str q.1, dO q.2])) ≤ 64 := by
    unfold PyData.depth
    have := depP ps
    omega
  rw [h1, decide_eq_true h2]
  rfl
theorem eqv_dO : ∀ (o p : Option Str), PyData.eqv (dO o) (dO p) = decide (o = p)
  | none, none => rfl
  | none, some _ => rfl
  | some _, none => rfl
  | some x, some y => by
    show PyData.eqv (.str x) (.str y) = _
    unfold PyData.eqv
    by_cases h : x = y <;> simp [h]
theorem eqv_pair (q r : Pr) : PyData.eqv (.tuple [.str q.1, dO q.2]) (.tuple [.str r.1, dO r.2]) = decide (q = r) := by
  obtain ⟨a, b⟩ := q
  obtain ⟨c, d⟩ := r
  unfold PyData.eqv PyData.eqvAll PyData.eqvAll PyData.eqvAll
  rw [eqv_dO]
  have : PyData.eqv (.str a) (.str c) = decide (a = c) := by unfold PyData.eqv; by_cases h : a = c <;> simp [h]
  show (PyData.eqv (.str a) (.str c) && (decide (b = d) && true)) = _
  rw [this]
  by_cases h : a = c <;> by_cases h2 : b = d <;> simp [h, h2]
theorem eqvP : ∀ (ps qs : List Pr), PyData.eqvAll (ps.map fun q => .tuple [.str q.1, dO q.2]) (qs.map fun q => .tuple [.str q.1, dO q.2]) = decide (ps = qs)
  | [], [] => rfl
  | [], _ :: _ => rfl
  | _ :: _, [] => rfl
  | x :: r, y :: t => by
    rw [List.map_cons, List.map_cons]
    unfold PyData.eqvAll
    rw [eqvP r t, eqv_pair]
    by_cases h : x = y <;> by_cases h2 : r = t <;> simp [h, h2]
theorem Dp_optV {K : PySem.W.Frag} {H : Hp} : ∀ (o : Option Str), Dp K H (optV o) (dO o)
  | none => .non
  | some x => .str x
theorem DpAll_tups {K : PySem.W.Frag} {H : Hp} {as : List Addr} {ps : List Pr} (h : TupsAt H as ps) : DpAll K H (as.map V.ref) (ps.map fun q => .tuple [.str q.1, dO q.2]) := by
  unfold TupsAt at h
  induction h with
  | nil => exact .nil
  | cons h _ ih => exact .cons (.tup (.of h) (.cons (.str _) (.cons (Dp_optV _) .nil))) ih
theorem PairsAt.dp {K : PySem.W.Frag} {H : Hp} {a : Addr} {ps : List Pr} (h : PairsAt H a ps) : Dp K H (.ref a) (dP ps) := by
  obtain ⟨as, e, t⟩ := h
  exact .lst (.of e) (DpAll_tups t)
theorem eqv_dS (ns ms : List Str) : PyData.eqv (dS ns) (dS ms) = decide (ns = ms) := by
  unfold dS PyData.eqv
  exact eqvS ns ms
theorem eqv_dP (ps qs : List Pr) : PyData.eqv (dP ps) (dP qs) = decide (ps = qs) := by
  unfold dP PyData.eqv
  exact eqvP ps qs
end TX
namespace TX
open PySem L2 PyProof.Rows TM
/-- a method of a class, ready to be called -/
structure Mt (K : PySem.W.Frag) (C : Addr) (m qual : Str) (st : Stmt) (ps : List Str) (f : Addr) (fd : FuncData) : Prop where
  F : Fun K m qual st f fd
  me : Meth K C m f
  b : Binds K fd ps []
theorem TupsAt.app {H : Hp} {as bs : List Addr} {ps qs : List Pr} (h : TupsAt H as ps) (k : TupsAt H bs qs) : TupsAt H (as ++ bs) (ps ++ qs) := by
  unfold TupsAt at *
  induction h with
  | nil => exact k
  | cons h _ ih => exact .cons h ih
/-- an error class of our own that is raised with a text -/
structure Ec (K : PySem.W.Frag) (mg : Str → Option Value) (x : Str) (C : Addr) : Prop where
  ex : PySem.W.excIn K C [.type "ValueError", .type "Exception", .type "BaseException", .type "object"] "ValueError.__new__" = true
  g : mg x = some (.ref C)
  k : PySem.W.keepIn K (.ref C) = true
  b : PySem.W.subIn K (.ref C) (.type "BaseException") = some true
  t : PySem.W.typeIn K (.ref C) = some (.type "type")
theorem FoOk.app {f g : Fo} (hf : FoOk f) (hg : FoOk g) (hd : ∀ x ∈ names f, x ∉ names g) (hl : (names f).length + (names g).length ≤ 8) : FoOk (app f g) := by
  refine ⟨?_, ?_, fun x hx => ?_⟩
  · rw [names_app, List.nodup_append]
    exact ⟨hf.nd, hg.nd, fun a ha b hb e => hd a ha (e ▸ hb)⟩
  · rw [names_app, List.length_append]
    exact hl
  · rw [names_app] at hx
    rcases List.mem_append.mp hx with hx | hx
    · exact hf.ok x hx
    · exact hg.ok x hx
theorem inV_str (x : Str) (ns : List Str) : inV (.str x) (ns.map V.str) = decide (x ∈ ns) := by
  unfold inV
  induction ns with
  | nil => rfl
  | cons y r ih =>
    rw [List.map_cons, List.any_cons, ih]
    show ((y == x) || decide (x ∈ r)) = _
    by_cases h : x = y
    · simp [h]
    · have h' : ¬ y = x := fun e => h e.symm
      simp [h, h']
theorem flat_strs (ns : List Str) : (ns.map V.str).all flatV = true := by
  rw [List.all_map, List.all_eq_true]
  intro x _
  rfl
end TX
namespace TX
open PySem L2 PyProof.Rows TM
theorem merge_kvs : ∀ (qs pre : List Pr), ((pre ++ qs).map Prod.fst).Nodup → mergeK (kvsOf pre) (kvsOf qs) = kvsOf (pre ++ qs)
  | [], pre, _ => by rw [List.append_nil]; rfl
  | (c, o) :: r, pre, h => by
    have hc : c ∉ pre.map Prod.fst := by
      rw [List.map_append, List.nodup_append] at h
      intro hm
      exact h.2.2 c hm c (by simp) rfl
    show mergeK (putK (kvsOf pre) (Sum.inr c : Key) (optV o)) (kvsOf r) = _
    rw [kvs_put hc, merge_kvs r (pre ++ [(c, o)]) (by simpa using h)]
    simp
theorem merge_nil {ps : List Pr} (h : (ps.map Prod.fst).Nodup) : mergeK [] (kvsOf ps) = kvsOf ps := by
  have := merge_kvs ps [] (by simpa using h)
  rw [List.nil_append] at this
  exact this
theorem kvs_isSome {ps : List Pr} (h : (ps.map Prod.fst).Nodup) (x : Str) : (valV (kvsOf ps) (Sum.inr x : Key)).isSome = decide (x ∈ ps.map Prod.fst) := by
  by_cases hx : x ∈ ps.map Prod.fst
  · obtain ⟨⟨x', o⟩, hm, rfl⟩ := List.mem_map.mp hx
    rw [kvs_some h hm, decide_eq_true hx]
    rfl
  · rw [kvs_none hx, decide_eq_false hx]
    rfl
theorem cut_strs (ns : List Str) (lo hi : Option Int) : ∃ ms : List Str, cutV (ns.map V.str) lo hi = ms.map V.str ∧ ms.Sublist ns ∧ ms.length ≤ HT.sIx ns.length ns.length hi - HT.sIx ns.length 0 lo := by
  refine ⟨(ns.drop (HT.sIx ns.length 0 lo)).take (HT.sIx ns.length ns.length hi - HT.sIx ns.length 0 lo), ?_, ?_, ?_⟩
  · unfold cutV
    rw [List.length_map, List.map_take, List.map_drop]
  · exact (List.take_sublist _ _).trans (List.drop_sublist _ _)
  · rw [List.length_take]
    exact Nat.min_le_left _ _
/-- dict(pairs) -/
def rDP (K : PySem.W.Frag) : List V → Hp → VK → Prop := fun vs H Q => ∃ (L : Addr) (as : List Addr) (es : List (Key × V)), vs = [.ref L] ∧ SqL K H L (as.map V.ref) ∧
  Paired (fun a e => SqT K H a [kV e.1, e.2]) as es ∧ ∀ d, H d = none → Q (.ref d) (upd H d (.dK (mergeK [] es)))
theorem call_dP {X : Cx} (hc : X.calm = true) : CallR X (.type "dict") (rDP X.K) := call_dictP hc
theorem pairs_es {K : PySem.W.Frag} {H : Hp} {as : List Addr} {ps : List Pr} (h : TupsAt H as ps) : Paired (fun a (e : Key × V) => SqT K H a [kV e.1, e.2]) as (kvsOf ps) := by
  unfold TupsAt at h
  induction h with
  | nil => exact .nil
  | cons h _ ih => exact .cons (.of h) ih
theorem PairsAt.nil {H : Hp} {p : Addr} (h : H p = some (.lst [])) : PairsAt H p [] := ⟨[], h, .nil⟩
theorem ord_len {ps : List Pr} (va : Valid [] ps) : (names (mk ps none)).length = ps.length := by
  have := (ord_perm va).length_eq
  rw [List.length_map] at this
  exact this
theorem foOk_nil : FoOk .nil := ⟨List.nodup_nil, Nat.zero_le _, fun _ h => nomatch h⟩
theorem PairsAt.app {H H' : Hp} {a b p : Addr} {ps qs : List Pr} {as bs : List Addr} (h : TupsAt H as ps) (k : TupsAt H bs qs) (s : Same H H') (e : H' p = some (.lst (as.map V.ref ++ bs.map V.ref))) : PairsAt H' p (ps ++ qs) :=
  ⟨as ++ bs, by rw [e, List.map_append], (h.app k).same s⟩
theorem PsOk.app {ps qs : List Pr} (h : PsOk ps) (k : PsOk qs) : PsOk (ps ++ qs) := fun q hq => (List.mem_append.mp hq).elim (h q) (k q)
/-- [pairs, pairs] -/
theorem sh2 {ps qs : List Pr} (h : PsOk ps) (k : PsOk qs) : SeqAt.shaped (.list [dP ps, dP qs]) = true := by
  unfold SeqAt.shaped
  have a1 : PyData.canLay0 (dP ps) = true := (Bool.and_eq_true_iff.mp (shP h)).1
  have a2 : PyData.canLay0 (dP qs) = true := (Bool.and_eq_true_iff.mp (shP k)).1
  have b1 : PyData.depth (dP ps) ≤ 2 := by unfold dP PyData.depth; have := depP ps; omega
  have b2 : PyData.depth (dP qs) ≤ 2 := by unfold dP PyData.depth; have := depP qs; omega
  have h1 : PyData.canLay0 (.list [dP ps, dP qs]) = true := by
    unfold PyData.canLay0 PyData.canLayAll0 PyData.canLayAll0 PyData.canLayAll0
    rw [a1, a2]
    rfl
  have h2 : PyData.depth (.list [dP ps, dP qs]) ≤ 64 := by
    unfold PyData.depth PyData.depthAll PyData.depthAll PyData.depthAll
    omega
  rw [h1, decide_eq_true h2]
  rfl
theorem eqv_refl2 (ps qs : List Pr) : PyData.eqv (.list [dP ps, dP qs]) (.list [dP ps, dP qs]) = true := by
  unfold PyData.eqv PyData.eqvAll PyData.eqvAll PyData.eqvAll
  rw [eqv_dP, eqv_dP, decide_eq_true rfl, decide_eq_true rfl]
  rfl
theorem Dp2 {K : PySem.W.Frag} {H : Hp} {p a b : Addr} {ps qs : List Pr} (h : H p = some (.lst [.ref a, .ref b])) (ha : PairsAt H a ps) (hb : PairsAt H b qs) : Dp K H (.ref p) (.list [dP ps, dP qs]) :=
  .lst (.of h) (.cons ha.dp (.cons hb.dp .nil))
end TX
namespace TX
open PySem L2 PyProof.Rows TM
theorem optV_ne_none {o : Option Str} : decide (optV o = .non) = o.isNone := by
  cases o with
  | none => rfl
  | some x => rfl
/-- the over of a name, found in the dict -/
theorem over_get {f : Fo} (ok : FoOk f) {c : Str} {a : List Str} {q : Fo} (h : loc f c = some (a, q)) : valV (kvsOf (flat f none)) (Sum.inr c : Key) = some (optV (lastOr a none)) :=
  kvs_some (by rw [flat_names]; exact ok.nd) (loc_flat none h)
end TX
namespace TX
open PySem L2 PyProof.Rows TM
/-- an expression that is v whatever is asked behind, and only makes objects -/
def Ee (te : TE) (s : L2.St) (H : Hp) (v : V) : Prop := ∀ h, Same H h → ∀ Q : VK, (∀ h', Same h h' → Q v h') → te s h Q
def Et (tt : TT) (s : L2.St) (H : Hp) (b : Bool) : Prop := ∀ h, Same H h → ∀ Q : Bool → Hp → Prop, (∀ h', Same h h' → Q b h') → tt s h Q
theorem et_yes {s : L2.St} {H : Hp} : Et tYes s H true := fun h _ Q q => q h (fun _ _ e => e)
theorem ee_var {i : Nat} {s : L2.St} {H : Hp} {v : V} (e : s[i]? = some (some v)) : Ee (tVar i) s H v := fun h _ Q q => ⟨v, e, q h (fun _ _ e => e)⟩
/-- [e for x in l if t], the items of the list l -/
theorem lc_all {K : PySem.W.Frag} {l : Addr} {i : Nat} {tt : TT} {te : TE} {s : L2.St} {H : Hp} {xs : List V} {g : V → V} {p : V → Bool} {Q : VK} {ti : TE} (hi : ti s H fun v h => v = .ref l ∧ Same H h) (mono : ∀ Q1 Q2 : VK, (∀ v h, Q1 v h → Q2 v h) → ti s H Q1 → ti s H Q2)
    (hl : SqL K H l xs) (hn : xs.length ≤ 1000) (ht : ∀ x ∈ xs, ∀ h, Same H h → Et tt ((wipe s [i]).set i (some x)) h (p x)) (he : ∀ x ∈ xs, p x = true → ∀ h, Same H h → Ee te ((wipe s [i]).set i (some x)) h (g x))
    (q : ∀ L h, Same H h → H L = none → h L = some (.lst ((xs.filter p).map g)) → Q (.ref L) h) : tLc (iList K ti) (gName i) tt te [i] s H Q := by
  refine mono _ _ (fun v H1 => ?_) hi
  rintro ⟨rfl, s1⟩
  refine ⟨l, rfl, ⟨xs, s1.seq hl⟩, fun D nD => ?_⟩
  refine lc_it (walk_list (xs := xs)) (fun j h => h D = some (.lst (((xs.take j).filter p).map g)) ∧ Same H1 h) ⟨upd_same, Same.new nD⟩ (fun j h _ ⟨_, s2⟩ => s2.seq (s1.seq hl)) ?_ ?_
  · rintro j x h h' hj ⟨e, s2⟩ ⟨rfl, hx⟩
    have hm : x ∈ xs := List.mem_of_getElem? hx
    have htk : xs.take (j + 1) = xs.take j ++ [x] := by rw [List.take_add_one, hx]; rfl
    have s3 := s1.trans s2
    refine ⟨?_, ?_⟩
    · show (((wipe s [i]).set i (some x)).set i none) = wipe s [i]
      show (((s.set i none).set i (some x)).set i none) = s.set i none
      rw [List.set_set, List.set_set]
    refine ht x hm h' s3 h' (fun _ _ e => e) _ fun h4 s4 => ?_
    have e4 := s4 _ _ e
    cases hp : p x with
    | true =>
      refine he x hm hp h4 (s3.trans s4) h4 (fun _ _ e => e) _ fun h5 s5 => ?_
      refine ⟨_, s5 _ _ e4, ?_, ?_, Same.mut ((s2.trans s4).trans s5) nD⟩
      · rw [List.length_map]
        have h1 := List.length_filter_le p (xs.take j)
        rw [List.length_take] at h1
        exact line100' (by omega)
      · rw [upd_same, htk, List.filter_append, List.filter_cons_of_pos hp, List.map_append]
        rfl
    | false =>
      refine ⟨?_, s2.trans s4⟩
      rw [htk, List.filter_append, List.filter_cons_of_neg (by rw [hp]; exact Bool.false_ne_true), List.filter_nil, List.append_nil]
      exact e4
  · rintro h ⟨e, s2⟩
    rw [List.take_length] at e
    exact q D h (s1.trans s2) (s1.free nD) e
theorem mono_var {i : Nat} {s : L2.St} {H : Hp} : ∀ Q1 Q2 : VK, (∀ v h, Q1 v h → Q2 v h) → tVar i s H Q1 → tVar i s H Q2 := fun Q1 Q2 k ⟨v, e, h⟩ => ⟨v, e, k v H h⟩
theorem mono_fld {K : PySem.W.Frag} {i : Nat} {f : Str} {s : L2.St} {H : Hp} : ∀ Q1 Q2 : VK, (∀ v h, Q1 v h → Q2 v h) → tFld K (tVar i) f s H Q1 → tFld K (tVar i) f s H Q2 :=
  fun Q1 Q2 k ⟨v, e, a, C, dx, fs, w, h1, h2, h3, h4, h5, h⟩ => ⟨v, e, a, C, dx, fs, w, h1, h2, h3, h4, h5, k w H h⟩
theorem filter_strs (ns : List Str) (p : Str → Bool) (r : V → Bool) (h : ∀ n ∈ ns, r (.str n) = p n) : (ns.map V.str).filter r = (ns.filter p).map V.str := by
  induction ns with
  | nil => rfl
  | cons n t ih =>
    rw [List.map_cons, List.filter_cons, List.filter_cons, h n List.mem_cons_self, ih fun m hm => h m (List.mem_cons_of_mem _ hm)]
    cases p n <;> rfl
end TX
namespace TX
open PySem L2 PyProof.Rows TM
/-- an if whose test is false, whatever was made -/
theorem sq_no {tc : TT} {t B : TS} {D : Ends} {s : L2.St} {H : Hp} (h : Et tc s H false) (k : ∀ h', Same H h' → B D s h') : tSeq (tIfS tc t tNext) B D s H := h H (fun _ _ e => e) _ k
theorem et_or {t u : TT} {s : L2.St} {H : Hp} (h : Et t s H false) (k : ∀ h', Same H h' → Et u s h' false) : Et (tOr t u) s H false := fun h1 s1 Q q =>
  h h1 s1 _ fun h2 s2 => k h2 (s1.trans s2) h2 (fun _ _ e => e) Q fun h3 s3 => q h3 (s2.trans s3)
theorem kids_take {q : Fo} {ks : List Str} {i : Nat} {c : Str} (h : ks[i]? = some c) : (ks.take (i + 1)).flatMap (kidsOf q) = (ks.take i).flatMap (kidsOf q) ++ kidsOf q c := by
  rw [List.take_add_one, h, List.flatMap_append]
  show _ ++ (kidsOf q c ++ []) = _
  rw [List.append_nil]
theorem bool_data (bs : List Bool) : SeqAt.shaped (.list (bs.map PyData.bool)) = true := by
  have h1 : PyData.canLayAll0 (bs.map PyData.bool) = true := by
    induction bs with
    | nil => rfl
    | cons b r ih => rw [List.map_cons]; unfold PyData.canLayAll0; rw [ih]; rfl
  have h2 : PyData.depthAll (bs.map PyData.bool) = 0 := by
    clear h1
    induction bs with
    | nil => rfl
    | cons b r ih => rw [List.map_cons]; unfold PyData.depthAll; rw [ih]; rfl
  unfold SeqAt.shaped
  have a1 : PyData.canLay0 (.list (bs.map PyData.bool)) = true := by unfold PyData.canLay0; exact h1
  have a2 : PyData.depth (.list (bs.map PyData.bool)) ≤ 64 := by unfold PyData.depth; rw [h2]; decide
  rw [a1, decide_eq_true a2]
  rfl
theorem bool_refl (bs : List Bool) : PyData.eqv (.list (bs.map PyData.bool)) (.list (bs.map PyData.bool)) = true := by
  unfold PyData.eqv
  induction bs with
  | nil => rfl
  | cons b r ih =>
    rw [List.map_cons]
    unfold PyData.eqvAll
    rw [ih]
    show (b == b && true) = true
    simp
theorem Dp_bools {K : PySem.W.Frag} {H : Hp} {a : Addr} {bs : List Bool} (h : H a = some (.lst (bs.map V.bl))) : Dp K H (.ref a) (.list (bs.map PyData.bool)) := by
  refine .lst (.of h) ?_
  clear h
  induction bs with
  | nil => exact .nil
  | cons b r ih => exact .cons (.bl b) ih
theorem filter_yes {xs : List V} : xs.filter (fun _ => true) = xs := by
  induction xs with
  | nil => rfl
  | cons x r ih => rw [List.filter_cons_of_pos rfl, ih]
theorem dec_strs (n : Str) (ks : List Str) : decide (V.str n ∈ ks.map V.str) = decide (n ∈ ks) := by
  by_cases hm : n ∈ ks
  · rw [decide_eq_true hm, decide_eq_true (List.mem_map.mpr ⟨n, hm, rfl⟩)]
  · rw [decide_eq_false hm, decide_eq_false]
    intro z
    obtain ⟨m, hm2, e2⟩ := List.mem_map.mp z
    exact hm (V.str.inj e2 ▸ hm2)
theorem same_rfl {H : Hp} : Same H H := fun _ _ e => e
end TX
namespace TX
open PySem L2 PyProof.Rows TM
theorem lt_anti : ∀ {a b : List Nat}, PySem.Spec.ltCps a b = false → PySem.Spec.ltCps b a = false → a = b
  | [], [], _, _ => rfl
  | [], _ :: _, h, _ => by cases h
  | _ :: _, [], _, h => by cases h
  | x :: a, y :: b, h1, h2 => by
    have g1 : (decide (x < y) || (x == y && PySem.Spec.ltCps a b)) = false := h1
    have g2 : (decide (y < x) || (y == x && PySem.Spec.ltCps b a)) = false := h2
    have e : x = y := by
      have a1 : ¬ x < y := fun z => by rw [decide_eq_true z] at g1; cases g1
      have a2 : ¬ y < x := fun z => by rw [decide_eq_true z] at g2; cases g2
      omega
    subst e
    simp at g1 g2
    rw [lt_anti g1 g2]
theorem lt_trans' : ∀ {a b c : List Nat}, PySem.Spec.ltCps b a = false → PySem.Spec.ltCps c b = false → PySem.Spec.ltCps c a = false
  | [], _, [], _, _ => rfl
  | [], [], _ :: _, _, h => rfl
  | [], _ :: _, _ :: _, _, _ => rfl
  | _ :: _, [], _, h, _ => by cases h
  | x :: a, y :: b, [], _, h => by cases h
  | x :: a, y :: b, z :: c, h1, h2 => by
    have g1 : (decide (y < x) || (y == x && PySem.Spec.ltCps b a)) = false := h1
    have g2 : (decide (z < y) || (z == y && PySem.Spec.ltCps c b)) = false := h2
    show (decide (z < x) || (z == x && PySem.Spec.ltCps c a)) = false
    have a1 : ¬ y < x := fun w => by rw [decide_eq_true w] at g1; cases g1
    have a2 : ¬ z < y := fun w => by rw [decide_eq_true w] at g2; cases g2
    have a3 : ¬ z < x := by omega
    rw [decide_eq_false a3, Bool.false_or]
    by_cases e : z = x
    · have e1 : y = x := by omega
      subst e
      subst e1
      simp at g1 g2
      rw [lt_trans' g1 g2]
      simp
    · have : (z == x) = false := by simpa using e
      rw [this]
      rfl
theorem sorted_pair : ∀ {l : List Str}, PyProof.Rows.sortedS l = true → l.Pairwise fun a b => PySem.Spec.ltCps b.cps.toList a.cps.toList = false
  | [], _ => List.Pairwise.nil
  | [x], _ => List.pairwise_singleton _ _
  | x :: y :: r, h => by
    have h' : (!PySem.Spec.ltCps y.cps.toList x.cps.toList && PyProof.Rows.risingS y r) = true := h
    rw [Bool.and_eq_true] at h'
    have ih : (y :: r).Pairwise fun a b => PySem.Spec.ltCps b.cps.toList a.cps.toList = false := sorted_pair h'.2
    have h1 : PySem.Spec.ltCps y.cps.toList x.cps.toList = false := by simpa using h'.1
    refine List.pairwise_cons.mpr ⟨fun z hz => ?_, ih⟩
    rcases List.mem_cons.mp hz with e | hz
    · rw [e]
      exact h1
    · exact lt_trans' h1 ((List.pairwise_cons.mp ih).1 z hz)
theorem sorted_same {l m : List Str} (h : l.Perm m) (h1 : PyProof.Rows.sortedS l = true) (h2 : PyProof.Rows.sortedS m = true) : l = m := by
  refine perm_eq (fun a b r1 r2 => ?_) h (sorted_pair h1) (sorted_pair h2)
  rw [S_eta a, S_eta b, lt_anti r2 r1]
theorem mono_c {v : V} {s : L2.St} {H : Hp} : ∀ Q1 Q2 : VK, (∀ v h, Q1 v h → Q2 v h) → tC v s H Q1 → tC v s H Q2 := fun _ _ k h => k _ _ h
end TX

set_option maxHeartbeats 2000000
/-! Rules of our own: the length of an own instance; isinstance of a caught error, one class or several. -/
namespace TY
open PySem L2 PyProof.Rows TX
section
variable {X : Cx}
/-- len(o) by an own __len__ -/
def rLenO (C : Addr) (sp : Sp) (E : XK) : List V → Hp → VK → Prop := fun xs H Q => ∃ a dx fs, xs = [.ref a] ∧ H a = some (.ins C dx fs) ∧ sp [.ref a] H (fun v H' => ∃ k : Nat, v = .int k ∧ k ≤ 1000000 ∧ Q (.int k) H') E
theorem call_lenO {CX : CXT} {C f : Addr} {fd : FuncData} {ps : List Str} {sp : Sp} {E : XK} {n : Nat} (F : FnOk X.prog X.w X.K X.mg X.base CX n f fd ps sp) (hs : PySem.W.findIn X.K (.ref C) "__len__" = some (some (.ref f)))
    (hf : PySem.W.isFn X.K (.ref f) = true) (hb : Binds X.K fd ps []) (hx : Passes CX X E) (hr : Room (n + 1) X.A) : CallR X (.builtin "len") (rLenO C sp E) := by
  intro pins s σ H xs us Q I r h
  obtain ⟨a, dx, fs, rfl, ha, hsp⟩ := h
  obtain ⟨u, rfl, rx⟩ := vals1 r
  cases rx
  obtain ⟨mA, J, _⟩ := ins_get I.hok ha
  obtain ⟨od, J, _⟩ := J.look
  obtain ⟨m, hF⟩ := I.fr
  refine PySem.W.len_K hF I.ok.mod.kin J hs hf ?_
  have e0 : Env0 X.prog X.w X.K X.mg X.base X.A.in1 X.stack s H := by
    have e := I.env0
    exact ⟨e.frames, e.mod, e.bs, e.bsz, e.funs, e.frf, e.hok, e.bare⟩
  have hl := F.len _ _ _ _ hsp
  refine wpAny_call (codeAny_mono (F.run X.A.in1 X.stack s H ⟨[.ref a], []⟩ [.ref a] [.ref a] _ E hr.in1 e0 (by
    have := hb s [.ref a] I.kIn (by simpa using hl)
    simpa using this) (.cons rfl .nil) hsp) fun r s' hq => ?_)
  cases r with
  | error e => exact hx pins σ H s e s' I hq
  | ok fl =>
    cases fl with
    | ret u =>
      obtain ⟨z, H', I', rz, k, ez, hk, q⟩ := I.after hq
      subst ez
      obtain ⟨t, rfl⟩ := rz
      show PySem.W.LenBack _ (.int (k : Int) t) s'
      exact ⟨by omega, ⟨.int k, H', I'.tok _, ⟨_, rfl⟩, q⟩⟩
    | next => exact False.elim hq
    | brk => exact False.elim hq
    | cont => exact False.elim hq
/-- isinstance of the error that the suite holds: one class, or a tuple of classes that was just laid -/
def rIsX (K : PySem.W.Frag) (a : Addr) (cls : Value) (d : Option Addr) : List V → Hp → VK → Prop := fun xs H Q => ∃ (D : Addr) (c : V) (b : Bool), cls = .ref D ∧ d = none ∧ ExcC K D ∧ xs = [.ref a, c] ∧
  ((∃ cv, ClsV c cv ∧ PySem.W.kitOne K (.ref D) cv = some b) ∨ (∃ tp cs us, c = .ref tp ∧ H tp = some (.tup cs) ∧ Paired ClsV cs us ∧ PySem.W.kitAny K (.ref D) us = some b)) ∧ Q (.bl b) H
theorem call_isX {a : Addr} {oe : Obj} {cls : Value} {d : Option Addr} {pn : List (Addr × Obj)} (hz : Zc cls d oe) (hf : ∃ vs, oe.data = .fields vs) : CallR (X.suite a ((a, oe) :: pn)) (.builtin "isinstance") (rIsX X.K a cls d) := by
  intro pins s σ H xs us Q I r h
  obtain ⟨D, c, b, rfl, rfl, C, rfl, hc, q⟩ := h
  obtain ⟨u1, u2, rfl, r1, r2⟩ := vals2 r
  cases r1
  obtain ⟨hget, _⟩ := I.pin (a, oe) (List.mem_append.mpr (.inl List.mem_cons_self))
  obtain ⟨vs, hv⟩ := hf
  have J : PySem.W.InstAt s.heap a oe D none := by
    obtain ⟨oc, od, oda, osl⟩ := oe
    obtain ⟨h1, h2⟩ := hz
    dsimp only at h1 h2 hv
    subst h1 h2 hv
    exact ⟨hget, rfl, rfl, trivial⟩
  have Z := PySem.W.handS_kitx_exc (x := a) (ox := oe) C.hg C.hk C.hs C.hd C.ha C.hn C.ht C.hm
  rcases hc with ⟨cv, hcv, e⟩ | ⟨tp, cs, ws, rfl, hT, k, e⟩
  · have e2 := hcv.eq r2
    subst e2
    exact PySem.W.kia_one Z I.kIn J e (fun z => nomatch z) fun tk => ⟨.bl b, H, I.kept (t' := tk) fun _ _ z => z, rfl, q⟩
  · cases (show u2 = Value.ref tp from r2)
    obtain ⟨_, its, rv, o, h1, h2, n, h3⟩ := (show ObjOk X.prog X.w H s.heap tp (.tup cs) from I.hok tp _ hT)
    have e3 := ClsV.all k rv
    subst e3
    obtain ⟨oc, od, dt, sl⟩ := o
    simp only at h2 h3
    subst h2 h3
    exact PySem.W.kia_tup Z I.kIn J h1 e (fun z => nomatch z) fun tk => ⟨.bl b, H, I.kept (t' := tk) fun _ _ z => z, rfl, q⟩
end
end TY

set_option maxHeartbeats 2000000
/-! Rules of our own: a made instance whose __init__ may raise; isinstance of a caught error that has a dict; two lists of the same items. -/
namespace TY
open PySem L2 PyProof.Rows TX
section
variable {X : Cx} {CX : CXT} {k : Nat} {f C : Addr} {fd : FuncData} {ps : List Str} {sp : Sp} {E : L2.St → XK} {x : Str} {p pos : Pos} {e : Expr} {es : List Expr} {t : TA}
theorem run_makeS {pins : List (Addr × Obj)} {σ : L2.St} {H : Hp} {s : Shared} {Q : VK} {us : List Value} {vs : List V} (M : Mk X.K C f) (F : FnOk X.prog X.w X.K X.mg X.base CX k f fd ps sp) (hr : Room (k + 1) X.A) (hb : Binds X.K fd ps [])
    (hx : PassesAt CX X σ (E σ)) (I : Inv X pins σ H s) (r : Vals vs us)
    (h : ∀ x dx, H x = none → H dx = none → dx ≠ x → sp (.ref x :: vs) (upd (upd H dx (.own x)) x (.ins C dx [])) (fun v H2 => v = .non ∧ Q (.ref x) H2) (E σ)) :
    wpAny (model X.prog X.w) X.A (call (.ref C) us) (EP X pins σ Q) X.xe s := by
  have hq := h (s.heap.objs.size + 1) s.heap.objs.size (I.hok.fresh (Nat.le_succ _)) (I.hok.fresh (Nat.le_refl _)) (Nat.ne_of_lt (Nat.lt_succ_self _))
  have I2 := Inv.made (C := C) I
  have r2 : Vals (V.ref (s.heap.objs.size + 1) :: vs) (Value.ref (s.heap.objs.size + 1) :: us) := .cons rfl r
  have hl : (Value.ref (s.heap.objs.size + 1) :: us).length = ps.length := by
    have e := r2.length
    rw [F.len _ _ _ _ hq] at e
    exact e.symm
  have b := hb _ (Value.ref (s.heap.objs.size + 1) :: us) I2.kIn (by rw [List.append_nil]; exact hl)
  rw [List.append_nil] at b
  refine wpAny_call (make_map (f := f) I.kIn M.makes M.init (beq_iff_eq.mp M.fn) (codeAny_mono (F.run _ X.stack _ _ ⟨Value.ref (s.heap.objs.size + 1) :: us, []⟩ (Value.ref (s.heap.objs.size + 1) :: us) _ _ (E σ) (hr.make C us [])
    (I2.env0.make C us []) b r2 hq) fun r s' hq' => ?_))
  cases r with
  | error e => exact hx pins _ _ e s' I2 hq'
  | ok fl =>
    cases fl with
    | ret u =>
      obtain ⟨v, H', I3, rv, ev, q3⟩ := I2.after hq'
      subst ev
      exact ⟨rv, ⟨V.ref (s.heap.objs.size + 1), H', I3, rfl, q3⟩⟩
    | next => exact False.elim hq'
    | brk => exact False.elim hq'
    | cont => exact False.elim hq'
/-- C(..), whose __init__ may raise -/
def tMakeS (C : Addr) (sp : Sp) (E : L2.St → XK) (t : TA) : TE := fun σ H Q => t σ H fun vs H1 => ∀ x dx, H1 x = none → H1 dx = none → dx ≠ x →
  sp (.ref x :: vs) (upd (upd H1 dx (.own x)) x (.ins C dx [])) (fun v H2 => v = .non ∧ Q (.ref x) H2) (E σ)
theorem pe_makeS (M : Mk X.K C f) (F : FnOk X.prog X.w X.K X.mg X.base CX k f fd ps sp) (hr : Room (k + 1) X.A) (hg : Gl X x) (hm : X.mg x = some (.ref C)) (hb : Binds X.K fd ps []) (hx : ∀ σ, PassesAt CX X σ (E σ))
    (ha : PA X (e :: es) t) (hdb : (x == ("__debug__" : Str)) = false := by decide) (he : starEach (e :: es) X.env = (false, eval e X.env) :: starEach es X.env := by rfl) (hpl : (backTo pos (starEach es X.env)).any (·.1) = false := by rfl) :
    PE X (.Call (.Name x p) (e :: es) [] pos) (tMakeS C sp E t) := by
  refine ⟨fun pins s σ H Q I h => ?_⟩
  refine wpAny_Call_Name_kw (ld_glob I hg hm ?_ hdb)
  refine PySem.W.callWith_K (h₀ := X.base) I.ok.mod.kin M.kp (thn (ha.run pos pins s σ H _ I h) fun us s1 ⟨vs, H1, I1, r, q⟩ => ⟨I1.kIn, ?_⟩) he hpl
  exact run_makeS M F hr hb (hx σ) I1 r q
/-- isinstance of the error that the suite holds, which has a dict -/
def rIsXd (K : PySem.W.Frag) (a : Addr) (cls : Value) (d : Option Addr) : List V → Hp → VK → Prop := fun xs H Q => ∃ (D : Addr) (c : V) (b : Bool), cls = .ref D ∧ ExcC K D ∧ (∃ (dd : Addr) (fs : List (Str × V)), d = some dd ∧ H dd = some (.xd fs)) ∧ xs = [.ref a, c] ∧
  ((∃ cv, ClsV c cv ∧ PySem.W.kitOne K (.ref D) cv = some b) ∨ (∃ tp cs us, c = .ref tp ∧ H tp = some (.tup cs) ∧ Paired ClsV cs us ∧ PySem.W.kitAny K (.ref D) us = some b)) ∧ Q (.bl b) H
theorem call_isXd {a : Addr} {oe : Obj} {cls : Value} {d : Option Addr} {pn : List (Addr × Obj)} (hz : Zc cls d oe) (hf : ∃ vs, oe.data = .fields vs) : CallR (X.suite a ((a, oe) :: pn)) (.builtin "isinstance") (rIsXd X.K a cls d) := by
  intro pins s σ H xs us Q I r h
  obtain ⟨D, c, b, rfl, C, ⟨dd, fs, rfl, hdd⟩, rfl, hc, q⟩ := h
  obtain ⟨u1, u2, rfl, r1, r2⟩ := vals2 r
  cases r1
  obtain ⟨hget, _⟩ := I.pin (a, oe) (List.mem_append.mpr (.inl List.mem_cons_self))
  obtain ⟨vs, hv⟩ := hf
  have hx : ObjOk X.prog X.w H s.heap dd (.xd fs) := I.hok dd _ hdd
  obtain ⟨mA, hns, hr⟩ := hx
  obtain ⟨od, ho, hl⟩ := lookIn_ns hns
  have J : PySem.W.InstAt s.heap a oe D (some od) := ⟨hget, hz.1, by unfold PySem.W.notCls; rw [hv] <;> rfl, by rw [hz.2]; exact ho⟩
  have hcl : (PySem.W.clsIn X.K D).isSome = true := by
    obtain ⟨cd, hc', _⟩ := PySem.W.any_some C.hd
    rw [hc']
    rfl
  have Z := PySem.W.kitx_exc (x := a) (ox := oe) (od := some od) hcl C.hg C.hk C.hs C.ha C.hn C.ht C.hm
  rcases hc with ⟨cv, hcv, e⟩ | ⟨tp, cs, ws, rfl, hT, k, e⟩
  · have e2 := hcv.eq r2
    subst e2
    exact PySem.W.kia_one Z I.kIn J e (fun z => nomatch z) fun tk => ⟨.bl b, H, I.kept (t' := tk) fun _ _ z => z, rfl, q⟩
  · cases (show u2 = Value.ref tp from r2)
    obtain ⟨_, its, rv, o, h1, h2, n, h3⟩ := (show ObjOk X.prog X.w H s.heap tp (.tup cs) from I.hok tp _ hT)
    have e3 := ClsV.all k rv
    subst e3
    obtain ⟨oc, od', dt, sl⟩ := o
    simp only at h2 h3
    subst h2 h3
    exact PySem.W.kia_tup Z I.kIn J h1 e (fun z => nomatch z) fun tk => ⟨.bl b, H, I.kept (t' := tk) fun _ _ z => z, rfl, q⟩
/-- two lists of the same items: != is False -/
def itemV : V → Bool
  | .non => true
  | .bl _ => true
  | .int _ => true
  | .str _ => true
  | .ref _ => true
  | _ => false
theorem eqAt_item {A : Around} {s : Shared} {x : V} {u v : Value} (rx : RelV x u) (ry : RelV x v) (h : itemV x = true) : SeqAt.EqAt A s u v true := by
  cases x with
  | ref a =>
    cases (show u = Value.ref a from rx)
    cases (show v = Value.ref a from ry)
    intro prog w E Q hq
    unfold eqBool
    refine wpAny_holding ?_
    refine wpAny_ite_split (fun _ => ?_) (fun hab => absurd (by simp) hab)
    wp_walk
    exact hq
  | non => exact (eqAt_V rx ry rfl rfl : _)
  | bl b => have q := eqAt_V (A := A) (s := s) rx ry rfl rfl; rw [show eqV (.bl b) (.bl b) = true by simp [eqV]] at q; exact q
  | int i => have q := eqAt_V (A := A) (s := s) rx ry rfl rfl; rw [show eqV (.int i) (.int i) = true by simp [eqV]] at q; exact q
  | str z => have q := eqAt_V (A := A) (s := s) rx ry rfl rfl; rw [show eqV (.str z) (.str z) = true by simp [eqV]] at q; exact q
  | _ => cases h
def rNeSame (K : PySem.W.Frag) : R2 := fun x y H Q => ∃ a b xs, x = .ref a ∧ y = .ref b ∧ SqL K H a xs ∧ SqL K H b xs ∧ xs.all itemV = true ∧ Q (.bl false) H
theorem op_neSame (hu : X.A.units < cLine) : OpR X (compareOp .NotEq) (rNeSame X.K) := by
  intro pins s σ H x y v u Q I rx ry h
  obtain ⟨a, b, xs, rfl, rfl, ha, hb, hi, q⟩ := h
  cases rx
  cases ry
  obtain ⟨its, r, hl, _⟩ := I.list ha
  obtain ⟨its2, r2, hl2, _⟩ := I.list hb
  have hsz : its.toArray.size = its2.toArray.size := by rw [List.size_toArray, List.size_toArray, ← r.length, ← r2.length]
  have he : ∀ j (h1 : j < its.toArray.size) (h2 : j < its2.toArray.size), SeqAt.EqAt X.A.in1 s its.toArray[j] its2.toArray[j] ((fun _ => true) j) := by
    intro j h1 h2
    have k1 : j < xs.length := by rw [r.length]; simpa using h1
    obtain ⟨u1, e1, r1⟩ := r.get (List.getElem?_eq_getElem k1)
    obtain ⟨u2, e2, r3⟩ := r2.get (List.getElem?_eq_getElem k1)
    have g1 : its.toArray[j] = u1 := by
      have h1' : j < its.length := by simpa using h1
      rw [List.getElem?_eq_getElem h1'] at e1
      simpa using Option.some.inj e1
    have g2 : its2.toArray[j] = u2 := by
      have h2' : j < its2.length := by simpa using h2
      rw [List.getElem?_eq_getElem h2'] at e2
      simpa using Option.some.inj e2
    rw [g1, g2]
    exact eqAt_item r1 r3 (List.all_eq_true.mp hi _ (List.getElem_mem k1))
  have z := SeqAt.RcNeAt.lists hl.isList hl2.isList hsz hu he
  have e : (List.range its.toArray.size).all (fun _ => true) = true := by simp
  rw [e] at z
  exact z X.prog X.w X.xe _ ⟨.bl false, H, I, rfl, q⟩
/-- a list == [] -/
def rEqNil (K : PySem.W.Frag) : R2 := fun x y H Q => ∃ a b xs, x = .ref a ∧ y = .ref b ∧ SqL K H a xs ∧ SqL K H b [] ∧ Q (.bl xs.isEmpty) H
theorem op_eqNil (hu : X.A.units < cLine) : OpR X (compareOp .Eq) (rEqNil X.K) := by
  intro pins s σ H x y v u Q I rx ry h
  obtain ⟨a, b, xs, rfl, rfl, ha, hb, q⟩ := h
  cases rx
  cases ry
  obtain ⟨its, r, hl, _⟩ := I.list ha
  obtain ⟨its2, r2, hl2, _⟩ := I.list hb
  have h2 : its2 = [] := by
    cases r2
    rfl
  subst h2
  cases xs with
  | nil =>
    cases r
    have z := SeqAt.RcAt.lists (e := fun _ => true) hl.isList hl2.isList rfl hu (fun j h1 h2 => absurd h1 (by simp))
    exact z X.prog X.w X.xe _ ⟨.bl true, H, I, rfl, q⟩
  | cons z zs =>
    have hsz : (its.toArray.size != ([] : List Value).toArray.size) = true := by
      have : its.length = (z :: zs).length := r.length.symm
      simp [this]
    have z := SeqAt.RcAt.lists_lengths hl.isList hl2.isList hsz hu
    exact z X.prog X.w X.xe _ ⟨.bl false, H, I, rfl, q⟩
/-- one sign of a text -/
theorem found_sign (x : Str) (c : Nat) : (!(Builtin.Str.occurrences x ⟨#[c]⟩ 0 x.length 1).isEmpty) = decide (c ∈ x.cps.toList) := StrLaws.found_one x c
end
end TY

set_option maxHeartbeats 2000000
/-! Rules of our own: sets of rows (tuples of ints, below 64): made by a comprehension, sorted whatever the ints. -/
namespace TB
open PySem L2 PyProof.Rows
/-! ### the order of rows -/
def ltI : List Int → List Int → Bool
  | [], [] => false
  | [], _ :: _ => true
  | _ :: _, [] => false
  | x :: a, y :: b => if x = y then ltI a b else decide (x < y)
theorem ltI_asym : ∀ {a b : List Int}, ltI a b = true → ltI b a = false
  | [], [], h => by cases h
  | [], _ :: _, _ => rfl
  | _ :: _, [], h => by cases h
  | x :: a, y :: b, h => by
    unfold ltI at h ⊢
    by_cases e : x = y
    · subst e
      rw [if_pos rfl] at h ⊢
      exact ltI_asym h
    · rw [if_neg e] at h
      rw [if_neg (fun z => e z.symm)]
      have := of_decide_eq_true h
      exact decide_eq_false (by omega)
theorem ltI_anti : ∀ {a b : List Int}, ltI a b = false → ltI b a = false → a = b
  | [], [], _, _ => rfl
  | [], _ :: _, h, _ => by cases h
  | _ :: _, [], _, h => by cases h
  | x :: a, y :: b, h, k => by
    unfold ltI at h k
    by_cases e : x = y
    · subst e
      rw [if_pos rfl] at h k
      rw [ltI_anti h k]
    · rw [if_neg e] at h
      rw [if_neg (fun z => e z.symm)] at k
      have h1 := of_decide_eq_false h
      have h2 := of_decide_eq_false k
      omega
theorem ltI_le : ∀ {a b c : List Int}, ltI b a = false → ltI c b = false → ltI c a = false
  | [], [], [], _, _ => rfl
  | [], [], _ :: _, _, h => by cases h <;> rfl
  | [], _ :: _, [], h, _ => by first | rfl | cases h
  | [], _ :: _, _ :: _, h, _ => by first | rfl | cases h
  | _ :: _, [], _, h, _ => by cases h
  | _ :: _, _ :: _, [], _, h => by cases h
  | x :: a, y :: b, z :: c, h, k => by
    unfold ltI at h k ⊢
    by_cases e : y = x
    · subst e
      rw [if_pos rfl] at h
      by_cases e2 : z = y
      · subst e2
        rw [if_pos rfl] at k ⊢
        exact ltI_le h k
      · rw [if_neg e2] at k ⊢
        exact k
    · rw [if_neg e] at h
      have h1 := of_decide_eq_false h
      by_cases e2 : z = y
      · subst e2
        rw [if_neg e]
        exact h
      · rw [if_neg e2] at k
        have h2 := of_decide_eq_false k
        rw [if_neg (by omega)]
        exact decide_eq_false (by omega)
theorem ltI_swo {α : Type} (k : α → List Int) : SrtO.Swo fun v u => ltI (k v) (k u) := ⟨fun _ _ => ltI_asym, fun _ _ _ => ltI_le⟩
/-! ### rows held against one another by the sort -/
theorem lex_all {prog : Program} {w : World} {A : Around} {s : Shared} {Q : Bool → Shared → Prop} : ∀ {xs ys : List Value} {ns ms : List Int} {i : Nat} {fin : Bool}, IntsAre xs ns → IntsAre ys ms → (ns.length = ms.length → fin = false) → ns.length = ms.length → Q (ltI ns ms) s →
    W.KatLex prog w A true fin Q (xs.zip ys) i s := by
  intro xs ys ns ms i fin h
  induction h generalizing ys ms i with
  | nil =>
    intro k hf hl q
    cases k with
    | nil =>
      have e := hf hl
      subst e
      exact W.kat_nil q
    | cons n t k => cases hl
  | @cons n t vs ns h ih =>
    intro k hf hl q
    cases k with
    | nil => cases hl
    | @cons m u ws ms k =>
      have hl' : ns.length = ms.length := by simpa using hl
      refine W.kat_cons (SeqAt.EqAt.int_int n t m u prog w _ _ ?_)
      refine W.kat_go (fun e => ?_) fun e => ?_
      · have e : n = m := by simpa using e
        subst e
        refine W.kat_yes (ih k (fun _ => hf hl) hl' ?_)
        have : ltI (n :: ns) (n :: ms) = ltI ns ms := by conv => lhs; unfold ltI; rw [if_pos rfl]
        rwa [this] at q
      · have e : ¬ n = m := by simpa using e
        have : ltI (n :: ns) (m :: ms) = decide (n < m) := by unfold ltI; rw [if_neg e]
        rw [this] at q
        refine W.kat_no ?_
        by_cases hi : i = 0
        · subst hi
          exact oneLt_int q
        · have : (true && i == 0) = false := by simp [hi]
          rw [this]
          exact W.kat_one _ _ (lt_int q)
theorem tups_cmp {prog : Program} {w : World} {A : Around} {s : Shared} {vs : List Value} {k : Value → List Int} {d : Nat} (hk : ∀ v ∈ vs, TS.TupInts s.heap v (k v) ∧ (k v).length = d) : SrtO.Cmp prog w A s (tuples' true) (fun p => p.1 ∈ vs) (SrtO.lt2 fun v u => ltI (k v) (k u)) := by
  intro p q hp hq
  obtain ⟨⟨a, xs, ea, ⟨o, ho, hc, n, hd⟩, ia⟩, la⟩ := hk p.1 hp
  obtain ⟨⟨b, ys, eb, ⟨o', ho', hc', n', hd'⟩, ib⟩, lb⟩ := hk q.1 hq
  have l1 : xs.size = d := by
    have : ∀ {xs ns}, IntsAre xs ns → xs.length = ns.length := fun h => by induction h <;> simp_all
    rw [← la, ← this ia, Array.length_toList]
  have l2 : ys.size = d := by
    have : ∀ {xs ns}, IntsAre xs ns → xs.length = ns.length := fun h => by induction h <;> simp_all
    rw [← lb, ← this ib, Array.length_toList]
  rw [ea, eb]
  refine W.kat_lt ho hd ho' hd' (lex_all ia ib (fun _ => by rw [l1, l2]; simp) (by rw [la, lb]) ⟨rfl, ?_⟩)
  show ltI _ _ = ltI (k p.1) (k q.1)
  rw [ea, eb]
theorem firsts {h : Heap} {k : Value → List Int} : ∀ {vs : List Value}, (∀ v ∈ vs, TS.TupInts h v (k v) ∧ k v ≠ []) → ∃ fs : List Value, W.KatTups h vs fs ∧ fs.length = vs.length ∧ ∀ f ∈ fs, ∃ x t, f = Value.int x t
  | [], _ => ⟨[], by first | trivial | exact .nil | rfl, rfl, fun _ h => nomatch h⟩
  | v :: vs, hv => by
    obtain ⟨fs, h1, h2, h3⟩ := firsts fun u hu => hv u (List.mem_cons_of_mem _ hu)
    obtain ⟨⟨a, xs, ea, ⟨o, ho, hc, n, hd⟩, ia⟩, ne⟩ := hv v List.mem_cons_self
    generalize hns : k v = ns at ia ne
    generalize hl : xs.toList = l at ia
    cases ia with
    | nil => exact absurd rfl ne
    | @cons m t l' ns' ia =>
      subst ea
      refine ⟨.int m t :: fs, W.KatTups.cons ho hc hd ?_ h1, by rw [List.length_cons, List.length_cons, h2], fun f hf => ?_⟩
      · rw [← Array.getElem?_toList, hl]
        rfl
      · rcases List.mem_cons.mp hf with e | hf
        · exact ⟨m, t, e⟩
        · exact h3 f hf
theorem tupInts_keep {h h' : Heap} {v : Value} {ns : List Int} (t : TS.TupInts h v ns) (keep : ∀ b o, h.get? b = some o → o.cls = .type "tuple" → h'.get? b = some o) : TS.TupInts h' v ns := by
  obtain ⟨a, xs, ea, ⟨o, ho, hc, n, hd⟩, ia⟩ := t
  exact ⟨a, xs, ea, ⟨o, keep _ _ ho hc, hc, n, hd⟩, ia⟩
theorem rows_sortable {prog : Program} {w : World} {A : Around} {s : Shared} {a : Addr} {vs : List Value} {k : Value → List Int} {d : Nat} (h0 : 0 < vs.length) (hk : ∀ v ∈ vs, TS.TupInts s.heap v (k v) ∧ (k v).length = d) (hne : ∀ v ∈ vs, k v ≠ [])
    (ha : ∀ o, s.heap.get? a = some o → o.cls ≠ .type "tuple") : SrtO.SortableO prog w A s a vs fun v u => ltI (k v) (k u) := by
  intro h' keep
  have hk' : ∀ v ∈ vs, TS.TupInts h' v (k v) ∧ (k v).length = d := fun v hv => ⟨tupInts_keep (hk v hv).1 fun b o e hc => keep b o (fun z => ha o (z ▸ e) hc) e, (hk v hv).2⟩
  obtain ⟨fs, h1, h2, h3⟩ := firsts fun v hv => ⟨(hk' v hv).1, hne v hv⟩
  refine ⟨tuples' true, fun Q E hq => ?_, tups_cmp hk'⟩
  refine W.kat_kind (T := .type "int") h1 (by omega) (fun f hf => ?_) (by rfl) ?_
  · obtain ⟨x, t, rfl⟩ := h3 f hf
    exact W.Looks.now
  · have e : (Value.type "int" != Value.type "tuple") = true := by decide +kernel
    rw [e]
    exact hq
/-! ### a set of rows sorted -/
/-- what stands at an address -/
theorem rowsV {P : Program} {w : World} {h : Heap} {L : List (Addr × List Int)} (nd : (L.map (·.2)).Nodup) (tup : ∀ p ∈ L, L2.IsT P w h p.2 p.1) : ∃ k : Value → List Int, ∀ p ∈ L, k (.ref p.1) = p.2 := by
  refine ⟨fun v => match v with
    | .ref a => (match L.find? fun p => p.1 == a with
      | some p => p.2
      | none => [])
    | _ => [], fun p hp => ?_⟩
  show (match L.find? fun q => q.1 == p.1 with | some q => q.2 | none => []) = p.2
  cases hf : L.find? fun q => q.1 == p.1 with
  | none =>
    have := List.find?_eq_none.mp hf p hp
    simp at this
  | some q =>
    have hq := List.mem_of_find?_eq_some hf
    have he : q.1 = p.1 := by simpa using List.find?_some hf
    have a1 := tup q hq
    rw [he] at a1
    exact IsTupleKey.inj a1 (tup p hp)
theorem sorted_rows {P : Program} {w : World} {A : Around} {E : Value → Shared → Prop} {s : Shared} {a : Addr} {L : List (Addr × List Int)} {es : Array (Int × Value)} {ep : Nat} {t : SetTable} {Q : Value → Shared → Prop} {d : Nat}
    (R : SetTR P w s.heap a L es ep t) (hh : A.handled = none) (hd : ∀ p ∈ L, p.2.length = d)
    (hQ : ∀ (s' : Shared) (p : Nat) (out : Array Value) (c : Nat) (L' : List (Addr × List Int)), (∀ b o, s.heap.get? b = some o → s'.heap.get? b = some o) → s'.gens = s.gens → s'.os = s.os → s.heap.objs.size ≤ p →
      s'.heap.get? p = some (seqObj "list" out c) → out.toList = L'.map (fun q => Value.ref q.1) → L'.Perm L → L'.Pairwise (fun q r => ltI r.2 q.2 = false) → Q (.ref p) s') :
    wpAny (model P w) A (call (.builtin "sorted") [.ref a]) Q E s := by
  obtain ⟨o, ho, hex, hdat⟩ := R.ob
  have hsz := R.size
  have hfew := R.few
  obtain ⟨k, hk⟩ := rowsV R.nd R.tup
  refine Calls.call_function_entry kind_sorted plain_sorted entry_sorted (args_sorted1 (.ref a)) ?_
  refine wpAny_bind (wpAny_pure (wpAny_bind (collect_set hh ⟨o, ho, ⟨hex.1, hdat⟩⟩ R.fits (Nat.lt_of_lt_of_le (by omega) (by decide : 64 ≤ scanBound)) R.tab.ris R.led fun s1 vs k1 hz g1 o1 pm => ?_)))
  have hes : es.toList.map (·.2) = L.map fun q => Value.ref q.1 := by
    rw [R.rows]
    show ((L.map fun p => (thash P w p.2, Value.ref p.1)).map (·.2)) = _
    rw [List.map_map]
    rfl
  rw [hes] at pm
  have hvl : vs.length < 64 := by
    rw [pm.length_eq, List.length_map]
    exact hfew
  refine wpAny_bind (wpAny_newList ?_)
  have hoL := Heap.get?_push_size s1.heap (o := seqObj "list" vs.toArray 0) rfl
  have tk : ∀ q ∈ L, TS.TupInts (s1.heap.push (seqObj "list" vs.toArray 0)) (.ref q.1) q.2 := fun q hq =>
    tupInts_of (isT_keep (R.tup q hq) fun b u e => Heap.get?_push_of_some (seqObj "list" vs.toArray 0) (k1 b u e))
  have of_vs : ∀ v ∈ vs, ∃ q ∈ L, v = .ref q.1 := fun v hv => by
    obtain ⟨q, hq, e⟩ := List.mem_map.mp (pm.mem_iff.mp hv)
    exact ⟨q, hq, e.symm⟩
  have hkv : ∀ v ∈ vs, TS.TupInts (s1.heap.push (seqObj "list" vs.toArray 0)) v (k v) ∧ (k v).length = d := fun v hv => by
    obtain ⟨q, hq, rfl⟩ := of_vs v hv
    rw [hk q hq]
    exact ⟨tk q hq, hd q hq⟩
  refine wpAny_bind (wpAny_holding ?_)
  have ord : ∀ {l : List Value}, (∀ v ∈ l, ∃ q ∈ L, v = .ref q.1) → ∃ L1 : List (Addr × List Int), l = L1.map (fun q => Value.ref q.1) ∧ ∀ q ∈ L1, q ∈ L := by
    intro l
    induction l with
    | nil => exact fun _ => ⟨[], rfl, fun _ h => nomatch h⟩
    | cons v r ih =>
      intro hv
      obtain ⟨q, hq, e⟩ := hv v List.mem_cons_self
      obtain ⟨L1, e1, hs⟩ := ih fun u hu => hv u (List.mem_cons_of_mem _ hu)
      exact ⟨q :: L1, by rw [List.map_cons, e, e1], fun z hz => (List.mem_cons.mp hz).elim (fun e => e ▸ hq) (hs z)⟩
  have one : ∀ q ∈ L, ∀ r ∈ L, q.1 = r.1 → q = r := fun q hq r hr e => by
    have a1 := R.tup q hq
    rw [e] at a1
    exact Prod.ext e (IsTupleKey.inj a1 (R.tup r hr))
  have perm_of : ∀ {L1 : List (Addr × List Int)}, (∀ q ∈ L1, q ∈ L) → (L1.map fun q => Value.ref q.1).Perm (L.map fun q => Value.ref q.1) → L1.Perm L := by
    intro L1 hs p1
    have nL := nodup_of_map R.nd
    have nref : (L.map fun q => Value.ref q.1).Nodup := List.pairwise_map.mpr (List.Pairwise.imp_of_mem (fun {q r} hq hr hne e => hne (one q hq r hr (Value.ref.inj e))) nL)
    have n1 : L1.Nodup := nodup_of_map ((List.Perm.nodup_iff p1).mpr nref)
    refine (List.perm_ext_iff_of_nodup n1 nL).mpr fun q => ⟨hs q, fun hq => ?_⟩
    obtain ⟨r, hr, e⟩ := List.mem_map.mp (p1.mem_iff.mpr (List.mem_map.mpr ⟨q, hq, rfl⟩))
    rw [← one r (hs r hr) q hq (Value.ref.inj e)]
    exact hr
  have cmp2 : ∀ {L1 : List (Addr × List Int)} {out : List Value}, out = L1.map (fun q => Value.ref q.1) → (∀ q ∈ L1, q ∈ L) → SrtO.Srtd (fun v u => ltI (k v) (k u)) out → L1.Pairwise fun q r => ltI r.2 q.2 = false := by
    intro L1 out e hs h
    rw [e] at h
    refine List.Pairwise.imp_of_mem (fun {q r} hq hr z => ?_) (List.pairwise_map.mp h)
    have z : ltI (k (.ref r.1)) (k (.ref q.1)) = false := z
    rwa [hk q (hs q hq), hk r (hs r hr)] at z
  refine wpAny_call_entry slot_list_sort ⟨_, hoL, rfl⟩ entry_list_sort ?_ (args_list_sort _)
  refine SrtO.list_sort_ord (ltI_swo k) hoL (Nat.le_trans (Nat.le_of_lt hvl) (by decide)) (fun h2 => rows_sortable (by omega) hkv (fun v hv e => ?_) fun o e => ?_) fun out hs st => ?_
  · -- unlike rows of no values can't be two
    have d0 : d = 0 := by rw [← (hkv v hv).2, e]; rfl
    obtain ⟨L1, e1, h1⟩ := ord of_vs
    have pL := perm_of h1 (e1 ▸ pm)
    have nd1 : (L1.map (·.2)).Nodup := (List.Perm.nodup_iff (pL.map _)).mpr R.nd
    rw [e1, List.length_map] at h2
    match L1, h2, nd1, h1 with
    | q :: r :: _, _, nd1, h1 =>
      rw [List.map_cons, List.map_cons, List.nodup_cons] at nd1
      have eq : q.2 = [] := List.length_eq_zero_iff.mp (by rw [hd q (h1 q List.mem_cons_self), d0])
      have er : r.2 = [] := List.length_eq_zero_iff.mp (by rw [hd r (h1 r (List.mem_cons_of_mem _ List.mem_cons_self)), d0])
      exact absurd (by rw [eq, er]; exact List.mem_cons_self) nd1.1
  · rw [hoL] at e
    cases e
    show Value.type "list" ≠ Value.type "tuple"
    decide +kernel
  · obtain ⟨L', e', hs'⟩ := ord (l := out) fun v hv => of_vs v (st.perm.mem_iff.mp hv)
    obtain ⟨c, hc⟩ := sortedHeap_at (out := out.toArray) hoL
    refine ⟨_, rfl, wpAny_pure ⟨_, rfl, ?_⟩⟩
    refine hQ _ s1.heap.objs.size out.toArray c L' (fun b u e => ?_) g1 o1 hz hc e' (perm_of hs' (e' ▸ st.perm.trans pm)) (cmp2 e' hs' hs)
    have hb := k1 b u e
    have hlt := Heap.lt_size hb
    show (sortedHeap (s1.heap.push (seqObj "list" vs.toArray 0)) s1.heap.objs.size vs out.toArray).get? b = some u
    rw [sortedHeap_old (Nat.ne_of_lt hlt) (by rw [Heap.size_push]; exact Nat.lt_succ_of_lt hlt)]
    exact Heap.get?_push_of_some _ hb
/-- sorted(rows), a set of rows -/
def rSortedS (K : W.Frag) (P : Program) (w : World) : List V → Hp → VK → Prop := fun vs H Q => ∃ a L d, vs = [.ref a] ∧ H a = some (SetTO P w a L) ∧ (∀ p ∈ L, SqT K H p.1 (p.2.map V.int)) ∧ (∀ p ∈ L, p.2.length = d) ∧
  ∀ (L' : List (Addr × List Int)) (p : Addr), L'.Perm L → (L'.map (·.2)).Nodup → L'.length < 64 → L'.Pairwise (fun q r => ltI r.2 q.2 = false) → H p = none → Q (.ref p) (upd H p (.lst (L'.map fun q => V.ref q.1)))
theorem cr_sortedS {X : Cx} (hc : X.calm = true) : CallR X (.builtin "sorted") (rSortedS X.K X.prog X.w) := by
  intro pins s σ H vs us Q I r h
  obtain ⟨a, L, d, rfl, ha, hk, hd, q⟩ := h
  have R0 : SetT0 X.prog X.w s.heap a L := (I.hok a _ ha).1
  obtain ⟨es, ep, t, R⟩ := R0.full fun p hp => I.isT (hk p hp)
  rw [Vals.ref1 r]
  refine sorted_rows R (I.ok.hd hc) hd fun s' p out c L' k g o hp hg hout pm pw => ?_
  have hfew : L'.length < 64 := by rw [pm.length_eq]; exact R.few
  have hn : H p = none := HOk.fresh I.hok hp
  have hv : Vals (L'.map fun q => V.ref q.1) out.toList := by rw [hout]; exact vals_of_refs L'
  have hlen : (L'.map fun q => V.ref q.1).length ≤ sizeLine := by rw [List.length_map]; exact TX.line100 (by omega)
  have J : Inv X pins σ (upd H p (.lst (L'.map fun q => V.ref q.1))) { heap := s'.heap, gens := s'.gens, drawn := s'.drawn, toks := s'.toks, os := s.os } := by
    refine Inv.call (ch := []) I (Un.laid k hp hn) (HOk.laid I.hok k hp ⟨hlen, _, c, hv, hg⟩) ?_ ?_
    · rw [g]
      exact I.bare
    · exact fun x z => nomatch z
  have e : s' = { heap := s'.heap, gens := s'.gens, drawn := s'.drawn, toks := s'.toks, os := s.os } := by
    cases s'
    cases s
    cases o
    rfl
  rw [e]
  exact ⟨.ref p, _, J, rfl, q L' p pm ((List.Perm.nodup_iff (pm.map _)).mpr R.nd) hfew pw hn⟩
/-! ### a row put into a set -/
theorem add_row {P : Program} {w : World} {A : Around} {E : Value → Shared → Prop} {s : Shared} {a : Addr} {L : List (Addr × List Int)} {es : Array (Int × Value)} {ep : Nat} {t : SetTable} {x : Addr} {k : List Int} {Q : Value → Shared → Prop}
    (R : SetTR P w s.heap a L es ep t) (hx : L2.IsT P w s.heap k x) (hu : A.units + 1 < cLine) (hl : L.length + 1 < 64)
    (hQ : ∀ (h' : Heap) (tk : Nat) (L' : List (Addr × List Int)) (es' : Array (Int × Value)) (ep' : Nat) (t' : SetTable), Heap.SameBut a s.heap h' → SetTR P w h' a L' es' ep' t' →
      (k ∈ L.map (·.2) → L' = L) → (k ∉ L.map (·.2) → L'.Perm ((x, k) :: L)) → Q .none { heap := h', gens := s.gens, drawn := s.drawn, toks := tk, os := s.os }) :
    wpAny (model P w) A (call (.builtin "set.add") [.ref a, .ref x]) Q E s := by
  obtain ⟨o, ho, hex, hd⟩ := id R.ob
  refine wpAny_call_entry F.slot_set_add ⟨o, ho, hex.1⟩ F.entry_set_add ?_ (F.args_set_add_2 _ _)
  show wpAny _ _ ((do let y ← setAdd a (.ref x); ret .none : Sem Fin)) _ _ _
  refine wpAny_bind (wpAny_holding (wpAny_bind (wpAny_pyHash_tuple hu hx ?_)))
  refine add_at (s := { heap := s.heap, gens := s.gens, drawn := s.drawn, toks := s.toks + (k.length + 1), os := s.os }) R hx hu hl fun b h' L' es' ep' t' sb R' h1 h2 => ?_
  exact wpAny_pure ⟨_, rfl, hQ h' _ L' es' ep' t' sb R' h1 h2⟩
theorem addT_ok {X : Cx} {pins : List (Addr × Obj)} {σ : L2.St} {H : Hp} {s : Shared} {E : Value → Shared → Prop} {D x : Addr} {L : List (Addr × List Int)} {k : List Int} {Q : Value → Shared → Prop} (hu : X.A.units + 1 < cLine) (I : Inv X pins σ H s)
    (hD : H D = some (SetTO X.prog X.w D L)) (hk : ∀ p ∈ L, SqT X.K H p.1 (p.2.map V.int)) (hx : SqT X.K H x (k.map V.int)) (room : L.length + 1 < 64)
    (h : ∀ (s' : Shared) (L' : List (Addr × List Int)), (k ∈ L.map (·.2) → L' = L) → (k ∉ L.map (·.2) → L'.Perm ((x, k) :: L)) → Inv X pins σ (upd H D (SetTO X.prog X.w D L')) s' → Q .none s') :
    wpAny (model X.prog X.w) X.A (call (.builtin "set.add") [.ref D, .ref x]) Q E s := by
  have R0 : SetT0 X.prog X.w s.heap D L := (I.hok D _ hD).1
  obtain ⟨es, ep, t, R⟩ := R0.full fun p hp => I.isT (hk p hp)
  refine add_row R (I.isT hx) hu room fun h' tk L' es' ep' t' sb R' h1 h2 => ?_
  refine h _ L' h1 h2 (Inv.write (e := D) I ?_ (.inl rfl) (fun b u hb hu => (sb.2 b hb).trans hu) ?_ (setTO_new R'.t0))
  · rw [hD]
    trivial
  · obtain ⟨o, ho, _⟩ := R'.ob
    exact ⟨o, ho⟩
/-! ### {row for .. in ..} -/
def tScT (K : W.Frag) (P : Program) (w : World) (wi : TI) (g : TG) (tt : TT) (te : TE) (vs : List Nat) : TE := fun σ H Q => wi σ H fun J H1 => ∀ D, H1 D = none → ∃ Wt : Nat → Nat → Hp → Prop, (∃ m, Wt 0 m (upd H1 D (SetTO P w D []))) ∧
  ∀ i m H, Wt i m H → (J.stop i H ∧ Q (.ref D) H) ∨ (J.go i H ∧ ∃ Nx : Hp → Prop, (∀ H', Nx H' → ∃ m', m' < m ∧ Wt (i + 1) m' H') ∧ ∀ x H', J.yld i H x H' → g x (wipe σ vs) H' fun σ2 H2 => wipe σ2 vs = wipe σ vs ∧
    tt σ2 H2 fun b H3 => if b = true then te σ2 H3 fun y H4 => ∃ (t : Addr) (k : List Int) (L : List (Addr × List Int)), y = .ref t ∧ SqT K H4 t (k.map V.int) ∧ H4 D = some (SetTO P w D L) ∧ (∀ p ∈ L, SqT K H4 p.1 (p.2.map V.int)) ∧ L.length + 1 < 64 ∧
      ∀ L' : List (Addr × List Int), (k ∈ L.map (·.2) → L' = L) → (k ∉ L.map (·.2) → L'.Perm ((t, k) :: L)) → Nx (upd H4 D (SetTO P w D L')) else Nx H3)
theorem sc_rows {X : Cx} {pins : List (Addr × Obj)} {s : Shared} {σ : L2.St} {H : Hp} {Q : VK} {elt tg iter : Expr} {ifs : List Expr} {scope : Scope} {own : List (Str × Nat)} {pos pos' : Pos} {wi : TI} {g : TG} {tt : TT} {te : TE} {use : Option (Value → Sem Unit)} {Qf : Value → Shared → Prop}
    (hu : X.A.units + 1 < cLine) (hc : X.calm = true) (hN : X.N.Nodup) (I : L2.Inv X pins σ H s) (hi : PI X tg iter wi) (ok : BlkOk X.N X.env.scope scope own)
    (hg : ∀ (s : Shared) (H : Hp) (C : Addr) (cl : List (Str × Addr)) (fp : List Addr), PG (X.blk s H scope (compEnvC scope cl C X.env) fp) tg g)
    (ht : ∀ (s : Shared) (H : Hp) (C : Addr) (cl : List (Str × Addr)) (fp : List Addr), PTs (X.blk s H scope (compEnvC scope cl C X.env) fp) ifs tt)
    (he : ∀ (s : Shared) (H : Hp) (C : Addr) (cl : List (Str × Addr)) (fp : List Addr), PE (X.blk s H scope (compEnvC scope cl C X.env) fp) elt te)
    (hs : ∀ x : Value, foldedSetIterable iter X.env x = pure x) (h : tScT X.K X.prog X.w wi g tt te (own.map (·.2)) σ H Q)
    (hRR : ∀ (D C : Addr) (s' : Shared) (m : Str → Option Value) (H' : Hp), L2.Inv X pins σ H' s' → Q (.ref D) H' → s'.heap.Ns C m → FpOk X pins H' C → compPost (model X.prog X.w) X.A X.xe use Qf (.ref D) C (.ok .next) s') :
    wpAny (model X.prog X.w) X.A (comprehension (elt.SetComp [⟨tg, iter, ifs, 0⟩] scope pos) scope X.env pos' (newSet (.type "set")) false (eval iter X.env) use) Qf X.xe s := by
  have hfree : ∀ y ∈ scope.names, y.2 = .free → ∃ c, List.lookup y.1 X.env.cells = some c := fun y hy e => (ok.free y hy e).elim (fun k => I.ok.has _ (.inl k)) fun k => I.ok.has _ (.inr k)
  refine wpAny_comprehension_free rfl hs (closure_ok hfree) ok.kind (fun y hy e => by rw [ok.uniq y hy, e]) ?_
  refine thn (hi.run pins s σ H _ I h) fun xv s1 hx => thn hx fun itv s2 h2 => ?_
  obtain ⟨it, fp, tn, J, H2, rfl, I2, T, st2, f2, q⟩ := h2
  refine PpSet.newSet_ok (newEnv_comp ?_)
  have hDn : H2 s2.heap.objs.size = none := HOk.fresh I2.hok (Nat.le_refl _)
  obtain ⟨Wt, ⟨m0, w0⟩, turn⟩ := q _ hDn
  have I3 : L2.Inv X pins σ (upd H2 s2.heap.objs.size (SetTO X.prog X.w s2.heap.objs.size [])) { heap := s2.heap.push { cls := .type "set", data := .set #[] 0 (SetTable.fresh 0 0 !X.w.params.followText "set-order") }, gens := s2.gens, drawn := s2.drawn, toks := s2.toks, os := s2.os } :=
    Inv.laid I2 (fun b o e => Heap.get?_push_of_some _ e) (Nat.le_refl _) (setTO_new (setTR_fresh (Heap.get?_push_size _ rfl)).t0)
  have sz : ∀ b ∈ fp, b < s2.heap.objs.size := fun b hb => by
    obtain ⟨o, e, _⟩ := T.obj 0 s2.heap st2 b hb
    exact Heap.lt_size e
  have k3 : ∀ (b : Addr) (o : Obj), s2.heap.get? b = some o → (s2.heap.push { cls := .type "set", data := .set #[] 0 (SetTable.fresh 0 0 !X.w.params.followText "set-order") }).get? b = some o := fun b o e => Heap.get?_push_of_some _ e
  have z3 : (s2.heap.push { cls := .type "set", data := .set #[] 0 (SetTable.fresh 0 0 !X.w.params.followText "set-order") }).objs.size = s2.heap.objs.size + 1 := Heap.size_push _ _
  generalize hs3 : ({ heap := s2.heap.push { cls := .type "set", data := .set #[] 0 (SetTable.fresh 0 0 !X.w.params.followText "set-order") }, gens := s2.gens, drawn := s2.drawn, toks := s2.toks, os := s2.os } : Shared) = s3 at I3 ⊢
  have k3' : ∀ (b : Addr) (o : Obj), s2.heap.get? b = some o → s3.heap.get? b = some o := by rw [← hs3]; exact k3
  have z3' : s3.heap.objs.size = s2.heap.objs.size + 1 := by rw [← hs3]; exact z3
  have f3 : ∀ b ∈ fp, FpOk X pins (upd H2 s2.heap.objs.size (SetTO X.prog X.w s2.heap.objs.size [])) b ∧ b < s3.heap.objs.size := fun b hb =>
    ⟨⟨by rw [upd_ne (Nat.ne_of_lt (sz b hb))]; exact (f2 b hb).1, (f2 b hb).2⟩, by rw [z3']; exact Nat.lt_succ_of_lt (sz b hb)⟩
  have st3 : tn 0 s3.heap := T.keep 0 _ _ st2 fun b _ o e => k3' b o e
  have I4 := block_start I3 ok hN f3
  have pg := hg s3 (upd H2 s2.heap.objs.size (SetTO X.prog X.w s2.heap.objs.size [])) s3.heap.objs.size (cellsFrom (s3.heap.objs.size + 1) scope.names (cloFrom X.env.cells scope.names [])) fp
  have pt := ht s3 (upd H2 s2.heap.objs.size (SetTO X.prog X.w s2.heap.objs.size [])) s3.heap.objs.size (cellsFrom (s3.heap.objs.size + 1) scope.names (cloFrom X.env.cells scope.names [])) fp
  have pe := he s3 (upd H2 s2.heap.objs.size (SetTO X.prog X.w s2.heap.objs.size [])) s3.heap.objs.size (cellsFrom (s3.heap.objs.size + 1) scope.names (cloFrom X.env.cells scope.names [])) fp
  show codeAny _ _ (Code.compStart _ 0 _ _ (compEnvC scope (cellsFrom (s3.heap.objs.size + 1) scope.names (cloFrom X.env.cells scope.names [])) s3.heap.objs.size X.env)) (compPost (model X.prog X.w) X.A X.xe use Qf (.ref s2.heap.objs.size) s3.heap.objs.size) _
  have cL : (compEnvC scope (cellsFrom (s3.heap.objs.size + 1) scope.names (cloFrom X.env.cells scope.names [])) s3.heap.objs.size X.env).locals = s3.heap.objs.size := rfl
  have hs4 : ∀ (b : Addr) (o : Obj), s3.heap.get? b = some o → (pushCells (s3.heap.push { cls := .type "dict", data := .dict #[] }) scope.names).get? b = some o := fun b o e => pushCells_keeps scope.names _ b o (Heap.get?_push_of_some _ e)
  generalize hce : compEnvC scope (cellsFrom (s3.heap.objs.size + 1) scope.names (cloFrom X.env.cells scope.names [])) s3.heap.objs.size X.env = ce at I4 pg pt pe cL ⊢
  have st4 : tn 0 (pushCells (s3.heap.push { cls := .type "dict", data := .dict #[] }) scope.names) := T.keep 0 _ _ st3 fun b _ o e => hs4 b o e
  have nfp : ∀ b ∈ fp, upd H2 s2.heap.objs.size (SetTO X.prog X.w s2.heap.objs.size []) b = none := fun b hb => (f3 b hb).1.1
  generalize upd H2 s2.heap.objs.size (SetTO X.prog X.w s2.heap.objs.size []) = H3 at w0 I3 f3 I4 pg pt pe nfp
  generalize hs4' : ({ heap := pushCells (s3.heap.push { cls := .type "dict", data := .dict #[] }) scope.names, gens := s3.gens, drawn := s3.drawn, toks := s3.toks, os := s3.os } : Shared) = s4 at I4 ⊢
  have st4' : tn 0 s4.heap := by rw [← hs4']; exact st4
  have stat : ∀ {σ' : L2.St} {H' : Hp} {s' : Shared}, L2.Inv (X.blk s3 H3 scope ce fp) [] σ' H' s' → (∀ b ∈ fp, H' b = none) → ∀ b ∈ fp, FpOk (X.blk s3 H3 scope ce fp) [] H' b := fun I' hn b hb =>
    ⟨hn b hb, (I'.ok.exf b hb).1, I'.ok.exfs b hb, .inl hb, (I'.ok.exf b hb).2, fun p hp => by simp [Cx.blk] at hp⟩
  have loop : codeAny (model X.prog X.w) X.A (Code.compLoop (elt.SetComp [⟨tg, iter, ifs, 0⟩] scope pos) 0 (.ref it) (.ref s2.heap.objs.size) ce) (compPost (model X.prog X.w) X.A X.xe use Qf (.ref s2.heap.objs.size) s3.heap.objs.size) s4 := by
    refine PpSet.compLoopS_any (fun n s' => ∃ i H', L2.Inv (X.blk s3 H3 scope ce fp) [] (wipe σ (own.map (·.2))) H' s' ∧ tn i s'.heap ∧ (∀ b ∈ fp, H' b = none) ∧ Wt i n H') ?_ m0 ⟨0, H3, I4, st4', nfp, w0⟩
    rintro n s5 ⟨i, H5, I5, st5, n5, w5⟩
    rcases turn i n H5 w5 with ⟨stop, qq⟩ | ⟨go, Nx, hNx, step⟩
    · refine thnF (T.done (X.blk s3 H3 scope ce fp) rfl rfl rfl hc i [] s5 _ H5 _ I5 (stat I5 n5) st5 stop) fun r s6 x => ?_
      obtain ⟨rfl, I6⟩ := x
      have I7 : L2.Inv X pins σ H5 s6 := Inv.call' (ch := fp) I3 I6.os I6.base I6.hok I6.bare fun b hb => ⟨(f3 b hb).1.2.2.2.1, (f3 b hb).1.2.1, (f3 b hb).1.2.2.2.2.1, (f3 b hb).1.2.2.2.2.2⟩
      have nC : H5 s3.heap.objs.size = none := by
        have z : H5 ce.locals = none := I6.free
        rwa [cL] at z
      obtain ⟨m, hn, _⟩ := I6.loc
      have hn : s6.heap.Ns ce.locals m := hn
      rw [cL] at hn
      exact hRR _ _ s6 m H5 I7 qq hn (I3.fpOk (Nat.le_refl _) nC)
    · refine thnF (T.item (X.blk s3 H3 scope ce fp) rfl rfl rfl hc i [] s5 _ H5 _ I5 (stat I5 n5) st5 go) fun r s6 x => ?_
      obtain ⟨u, rfl, h6⟩ := x
      refine thnF h6 fun _ s7 x => ?_
      obtain ⟨x, H7, I7, r7, y7, st7, n7⟩ := x
      have I7' := I7.pinned (stat I7 n7) (T.obj _ _ st7)
      refine thnF (pg.run _ s7 _ H7 x u _ I7' r7 (step x H7 y7)) fun _ s8 x => ?_
      obtain ⟨σ8, H8, I8, hw8, q8⟩ := x
      refine thnF (pt.run _ s8 σ8 H8 _ I8 q8) fun b s9 x => ?_
      obtain ⟨H9, I9, q9⟩ := x
      have fin : ∀ {s' : Shared} {H' : Hp}, L2.Inv (X.blk s3 H3 scope ce fp) ([] ++ pinsAt fp s7.heap) σ8 H' s' → Nx H' → ∃ m, m < n ∧ ∃ i H', L2.Inv (X.blk s3 H3 scope ce fp) [] (wipe σ (own.map (·.2))) H' s' ∧ tn i s'.heap ∧ (∀ b ∈ fp, H' b = none) ∧ Wt i m H' := by
        intro s' H' I' nx
        obtain ⟨m', hm, w'⟩ := hNx H' nx
        have pin' : ∀ b ∈ fp, ∀ o, s7.heap.get? b = some o → s'.heap.get? b = some o ∧ H' b = none := fun b hb o e => by
          have z := I'.pin (b, o) (List.mem_append_right _ (List.mem_append_right _ (mem_pinsAt hb e)))
          exact ⟨z.1, z.2.1⟩
        have hl : (wipe σ (own.map (·.2))).length = σ8.length := by
          rw [← hw8, wipe_length]
        refine ⟨m', hm, i + 1, H', I'.unpinned.weak hl (fun j v e => (wipe_some (hw8 ▸ e)).1), T.keep _ _ _ st7 (fun b hb o e => (pin' b hb o e).1), fun b hb => ?_, w'⟩
        obtain ⟨o, e, _⟩ := T.obj _ _ st7 b hb
        exact (pin' b hb o e).2
      cases b with
      | false =>
        rw [if_neg Bool.false_ne_true] at q9 ⊢
        exact fin I9 q9
      | true =>
        rw [if_pos rfl] at q9 ⊢
        refine thnF (pe.run _ s9 σ8 H9 _ I9 q9) fun z s10 x => ?_
        obtain ⟨y, H10, I10, ry, tt', k, L, rfl, hk, hD, hL, room, nx⟩ := x
        cases (show z = Value.ref tt' from ry)
        exact addT_ok (X := X.blk s3 H3 scope ce fp) hu I10 hD hL hk room fun s' L' h1 h2 I' => fin I' (nx L' h1 h2)
  exact PpSet.codeAny_compStart_set loop (T.self _ 0 _ _ _ st4' loop)
theorem pe_scT {X : Cx} {elt tg iter : Expr} {ifs : List Expr} {scope : Scope} {own : List (Str × Nat)} {pos : Pos} {wi : TI} {g : TG} {tt : TT} {te : TE} (hu : X.A.units + 1 < cLine) (hc : X.calm = true) (hN : X.N.Nodup) (hi : PI X tg iter wi) (ok : BlkOk X.N X.env.scope scope own)
    (hg : ∀ (s : Shared) (H : Hp) (C : Addr) (cl : List (Str × Addr)) (fp : List Addr), PG (X.blk s H scope (compEnvC scope cl C X.env) fp) tg g)
    (ht : ∀ (s : Shared) (H : Hp) (C : Addr) (cl : List (Str × Addr)) (fp : List Addr), PTs (X.blk s H scope (compEnvC scope cl C X.env) fp) ifs tt)
    (he : ∀ (s : Shared) (H : Hp) (C : Addr) (cl : List (Str × Addr)) (fp : List Addr), PE (X.blk s H scope (compEnvC scope cl C X.env) fp) elt te)
    (hs : ∀ x : Value, foldedSetIterable iter X.env x = pure x := by intros; rfl) : PE X (elt.SetComp [⟨tg, iter, ifs, 0⟩] scope pos) (tScT X.K X.prog X.w wi g tt te (own.map (·.2))) :=
  ⟨fun pins s σ H Q I h => by
    rw [PpSet.eval_SetComp]
    refine sc_rows hu hc hN I hi ok hg ht he hs h fun D C s' m H' I' q hn f => ?_
    obtain ⟨f0, f1, f2, f3, f4, f5⟩ := f
    exact ⟨m, hn, fun h'' sb => ⟨.ref D, H', Inv.turned I' (fun b o hb e => (sb.2 b hb).trans e) f0 f1 f3 f4 f5, rfl, q⟩⟩⟩
/-- a set of rows, the things walked one by one -/
theorem sc_walk {K : W.Frag} {P : Program} {w : World} {J : It} {n : Nat} {G : Hp → Prop} {Y : Nat → Hp → V → Hp → Prop} (wk : Walk J n G Y) {tgt : TG} {cond : TT} {te : TE} {own : List Nat} {slots : L2.St} {Hs : Hp} {D : Addr} {Qf : Hp → Prop}
    (Pw : Nat → Hp → Prop) (start : Pw 0 (upd Hs D (SetTO P w D []))) (good : ∀ i h, i ≤ n → Pw i h → G h)
    (turn : ∀ i v h h', i < n → Pw i h → Y i h v h' → tgt v (wipe slots own) h' fun s2 h2 => wipe s2 own = wipe slots own ∧ cond s2 h2 fun b h3 =>
      (if b = true then te s2 h3 fun y h4 => ∃ (t : Addr) (k : List Int) (L : List (Addr × List Int)), y = .ref t ∧ SqT K h4 t (k.map V.int) ∧ h4 D = some (SetTO P w D L) ∧ (∀ p ∈ L, SqT K h4 p.1 (p.2.map V.int)) ∧ L.length + 1 < 64 ∧
        ∀ L' : List (Addr × List Int), (k ∈ L.map (·.2) → L' = L) → (k ∉ L.map (·.2) → L'.Perm ((t, k) :: L)) → Pw (i + 1) (upd h4 D (SetTO P w D L')) else Pw (i + 1) h3))
    (fin : ∀ h, Pw n h → Qf h) :
    ∃ Wt : Nat → Nat → Hp → Prop, (∃ m, Wt 0 m (upd Hs D (SetTO P w D []))) ∧ ∀ i m h, Wt i m h → (J.stop i h ∧ Qf h) ∨ (J.go i h ∧ ∃ Nx : Hp → Prop, (∀ h', Nx h' → ∃ m', m' < m ∧ Wt (i + 1) m' h') ∧
      ∀ v h', J.yld i h v h' → tgt v (wipe slots own) h' fun s2 h2 => wipe s2 own = wipe slots own ∧ cond s2 h2 fun b h3 =>
        if b = true then te s2 h3 fun y h4 => ∃ (t : Addr) (k : List Int) (L : List (Addr × List Int)), y = .ref t ∧ SqT K h4 t (k.map V.int) ∧ h4 D = some (SetTO P w D L) ∧ (∀ p ∈ L, SqT K h4 p.1 (p.2.map V.int)) ∧ L.length + 1 < 64 ∧
          ∀ L' : List (Addr × List Int), (k ∈ L.map (·.2) → L' = L) → (k ∉ L.map (·.2) → L'.Perm ((t, k) :: L)) → Nx (upd h4 D (SetTO P w D L')) else Nx h3) := by
  refine ⟨fun i m h => i ≤ n ∧ m = n - i ∧ Pw i h, ⟨n, Nat.zero_le _, by simp, start⟩, ?_⟩
  rintro i m h ⟨hi, rfl, pw⟩
  have g := good i h hi pw
  rcases Nat.lt_or_ge i n with hlt | hge
  · exact .inr ⟨wk.goes i h hlt g, Pw (i + 1), fun h' p' => ⟨n - (i + 1), by omega, hlt, rfl, p'⟩, fun v h' y => turn i v h h' hlt pw (wk.yields i h v h' hlt g y)⟩
  · obtain rfl : i = n := by omega
    exact .inl ⟨wk.stops h g, fin h pw⟩
end TB

set_option maxHeartbeats 1000000
/-! Tuples: slices and sums of any kind read once; rows of whole numbers. -/
namespace TW
open PySem L2 PyProof.Rows TX
section
variable {K : PySem.W.Frag}
theorem cutV_whole {xs : List V} {lo hi : Option Int} (h : HT.sIx xs.length 0 lo = 0 ∧ HT.sIx xs.length xs.length hi = xs.length) : cutV xs lo hi = xs := by
  unfold cutV
  rw [h.1, h.2]
  simp
/-- t[lo:hi] -/
theorem sl_both {xs : List V} {lo hi : Option Int} {a : Addr} {H : Hp} {Q : VK} (h : H a = some (.tup xs)) (q : ∀ p H', Same H H' → H' p = some (.tup (cutV xs lo hi)) → Q (.ref p) H') : rSlA K (.ref a) lo hi H Q := by
  refine ⟨a, xs, rfl, .of h, fun w => q a H same_rfl ?_, fun _ p np => q p _ (Same.new np) upd_same⟩
  rw [h, cutV_whole w]
/-- t + u -/
theorem cat_both {xs ys : List V} {a b : Addr} {H : Hp} {Q : VK} (h : H a = some (.tup xs)) (k : H b = some (.tup ys)) (hl : xs.length + ys.length ≤ 1000) (q : ∀ p H', Same H H' → H' p = some (.tup (xs ++ ys)) → Q (.ref p) H') : rCatA K (.ref a) (.ref b) H Q := by
  refine ⟨a, b, xs, ys, rfl, rfl, .of h, .of k, line100 hl, fun e => ?_, fun _ e => ?_, fun _ _ p np => q p _ (Same.new np) upd_same⟩
  · subst e
    exact q b H same_rfl k
  · subst e
    refine q a H same_rfl ?_
    rw [h, List.append_nil]
theorem cut_take {xs : List V} {n : Nat} : cutV xs none (some (n : Int)) = xs.take n := by
  unfold cutV
  rw [HT.sIx_none, HT.sIx_nat, List.drop_zero, Nat.sub_zero]
  rcases Nat.le_total n xs.length with h | h
  · rw [Nat.min_eq_left h]
  · rw [Nat.min_eq_right h, List.take_of_length_le h, List.take_of_length_le (Nat.le_refl _)]
theorem cut_drop {xs : List V} {n : Nat} : cutV xs (some (n : Int)) none = xs.drop n := by
  unfold cutV
  rw [HT.sIx_none, HT.sIx_nat]
  rcases Nat.le_total n xs.length with h | h
  · rw [Nat.min_eq_left h, List.take_of_length_le (by rw [List.length_drop]; omega)]
  · rw [Nat.min_eq_right h, List.drop_of_length_le h, List.drop_of_length_le (Nat.le_refl _), List.take_nil]
theorem cut_mid {xs : List V} {n m : Nat} : cutV xs (some (n : Int)) (some (m : Int)) = (xs.drop n).take (m - n) := by
  unfold cutV
  rw [HT.sIx_nat, HT.sIx_nat]
  rcases Nat.le_total n xs.length with h | h
  · rw [Nat.min_eq_left h]
    rcases Nat.le_total m xs.length with h2 | h2
    · rw [Nat.min_eq_left h2]
    · rw [Nat.min_eq_right h2, List.take_of_length_le (Nat.le_of_eq List.length_drop), List.take_of_length_le (by rw [List.length_drop]; omega)]
  · rw [Nat.min_eq_right h, List.drop_of_length_le h, List.drop_of_length_le (Nat.le_refl _)]
    simp
end
/-- what a draw leaves as it was -/
theorem well_strs {H : Hp} {W l : Addr} {ns : List Str} (w : ∃ n, WellAt n H W) (h : H l = some (.lst (ns.map V.str))) : l ≠ W := by
  rintro rfl
  obtain ⟨n, a, b, c, e, _⟩ := w
  rw [h] at e
  cases ns with
  | nil => cases e
  | cons x r =>
    have e2 := Option.some.inj e
    injection e2 with e3
    rw [List.map_cons] at e3
    injection e3 with e4 _
    cases e4
theorem well_no {H : Hp} {W l : Addr} {o : HO} (w : ∃ n, WellAt n H W) (h : H l = some o) (k : ∀ xs, o ≠ .lst xs) : l ≠ W := by
  rintro rfl
  obtain ⟨n, a, b, c, e, _⟩ := w
  rw [h] at e
  exact k _ (Option.some.inj e)
theorem _root_.TX.TreeAt.sm {C W : Addr} {H H' : Hp} {p : Addr} {f : TM.Fo} (t : TreeAt C H p f) (s : Sm W H H') (w : ∃ n, WellAt n H W) : TreeAt C H' p f := by
  obtain ⟨dx, l, d, h1, h2, h3⟩ := t
  exact ⟨dx, l, d, s _ _ (well_no w h1 fun _ z => by cases z) h1, s _ _ (well_strs w h2) h2, s _ _ (well_no w h3 fun _ z => by cases z) h3⟩
theorem tup_sm {W : Addr} {H H' : Hp} {p : Addr} {xs : List V} (h : H p = some (.tup xs)) (s : Sm W H H') (w : ∃ n, WellAt n H W) : H' p = some (.tup xs) := s _ _ (well_no w h fun _ z => by cases z) h
/-- a whole number -/
def wholeV : V → Bool
  | .int _ => true
  | _ => false
/-- a value that no memory is asked for -/
def plainV : V → Bool
  | .int _ => true
  | .bl _ => true
  | .non => true
  | .str _ => true
  | _ => false
def numV : V → Bool
  | .int _ => true
  | .bl _ => true
  | _ => false
def truthV : V → Bool
  | .bl _ => true
  | _ => false
theorem whole_num (v : V) : wholeV v = (numV v && !truthV v) := by cases v <;> rfl
theorem plain_ty {K : PySem.W.Frag} {H : Hp} {v : V} (h : plainV v = true) : ∃ t, TyOf K H v (.type t) ∧ kitB t "int" = some (numV v) ∧ kitB t "bool" = some (truthV v) := by
  cases v with
  | int i => exact ⟨_, .int i, (by decide +kernel : kitB "int" "int" = some true), (by decide +kernel : kitB "int" "bool" = some false)⟩
  | bl b => exact ⟨_, .bl b, (by decide +kernel : kitB "bool" "int" = some true), (by decide +kernel : kitB "bool" "bool" = some true)⟩
  | non => exact ⟨_, .non, (by decide +kernel : kitB "NoneType" "int" = some false), (by decide +kernel : kitB "NoneType" "bool" = some false)⟩
  | str s => exact ⟨_, .str s, (by decide +kernel : kitB "str" "int" = some false), (by decide +kernel : kitB "str" "bool" = some false)⟩
  | _ => cases h
/-- a thing that may be a row of so many values; whether it is one -/
def RowLike (H : Hp) (v : V) (many : Nat) (b : Bool) : Prop :=
  (∃ a xs, v = .ref a ∧ H a = some (.tup xs) ∧ xs.length ≤ 100 ∧ xs.all plainV = true ∧ b = (decide (xs.length = many) && xs.all wholeV)) ∨
  (b = false ∧ (v = .non ∨ (∃ s, v = .str s) ∨ (∃ i, v = .int i) ∨ ∃ a xs, v = .ref a ∧ H a = some (.lst xs)))
theorem RowLike.same {H H' : Hp} {v : V} {many : Nat} {b : Bool} (h : RowLike H v many b) (s : Same H H') : RowLike H' v many b := by
  rcases h with ⟨a, xs, e1, e2, e3⟩ | ⟨e1, e2 | e2 | e2 | ⟨a, xs, e2, e3⟩⟩
  · exact .inl ⟨a, xs, e1, s _ _ e2, e3⟩
  · exact .inr ⟨e1, .inl e2⟩
  · exact .inr ⟨e1, .inr (.inl e2)⟩
  · exact .inr ⟨e1, .inr (.inr (.inl e2))⟩
  · exact .inr ⟨e1, .inr (.inr (.inr ⟨a, xs, e2, s _ _ e3⟩))⟩
/-- a row of whole numbers -/
theorem row_like {H : Hp} {a : Addr} {xs : List V} {n : Nat} (h : H a = some (.tup xs)) (hl : xs.length = n) (hn : n ≤ 100) (hw : xs.all wholeV = true) : RowLike H (.ref a) n true := by
  refine .inl ⟨a, xs, rfl, h, by omega, ?_, ?_⟩
  · rw [List.all_eq_true] at hw ⊢
    intro x hx
    have := hw x hx
    cases x <;> first | rfl | cases this
  · rw [decide_eq_true hl, hw]
    rfl
theorem row_of {H : Hp} {v : V} {n : Nat} (h : RowLike H v n true) : ∃ a xs, v = .ref a ∧ H a = some (.tup xs) ∧ xs.length = n ∧ xs.all wholeV = true := by
  rcases h with ⟨a, xs, e1, e2, e3, e4, e5⟩ | ⟨e1, _⟩
  · have := e5.symm
    rw [Bool.and_eq_true, decide_eq_true_iff] at this
    exact ⟨a, xs, e1, e2, this.1, this.2⟩
  · cases e1
end TW
namespace TM
open PySem L2
/-- beneath a name there is its part of the forest -/
theorem mk_loc : ∀ {t : List Pr} {seen : List Str} {u : Option Str} {c : Str} {a : List Str} {k : Fo}, Valid seen t → (∀ x, u = some x → x ∈ seen) → loc (mk t u) c = some (a, k) → mk t (some c) = k
  | [], _, u, c, a, k, _, _, h => by
    have h' : loc Fo.nil c = some (a, k) := h
    unfold loc at h'
    cases h'
  | (d, o) :: r, seen, u, c, a, k, ⟨h1, h2, h3⟩, hu, h => by
    have hin : ∀ {v : Option Str} {a' : List Str} {k' : Fo}, loc (mk r v) c = some (a', k') → c ∈ r.map Prod.fst := fun {v a' k'} g => by
      have := loc_mem g
      rw [← flat_names _ v] at this
      obtain ⟨p, hp, rfl⟩ := List.mem_map.mp this
      exact List.mem_map.mpr ⟨p, mk_sub hp, rfl⟩
    have out : c ∈ r.map Prod.fst → o ≠ some c := fun hc e => valid_notin h3 (List.mem_append_left _ (h2 c e)) hc
    have skip : o ≠ some c → mk ((d, o) :: r) (some c) = mk r (some c) := fun e => if_neg e
    by_cases ho : o = u
    · have e0 : mk ((d, o) :: r) u = .cons d (mk r (some d)) (mk r u) := if_pos ho
      rw [e0] at h
      rcases loc_cases h with ⟨rfl, rfl, rfl⟩ | ⟨_, b, rfl, g⟩ | ⟨_, _, g⟩
      · exact skip fun e => h1 (h2 d e)
      · rw [skip (out (hin g))]
        exact mk_loc h3 (fun x e => by cases e; simp) g
      · rw [skip (out (hin g))]
        exact mk_loc h3 (fun x e => List.mem_append_left _ (hu x e)) g
    · have e0 : mk ((d, o) :: r) u = mk r u := if_neg ho
      rw [e0] at h
      rw [skip (out (hin h))]
      exact mk_loc h3 (fun x e => List.mem_append_left _ (hu x e)) h
theorem ord_loc {ps : List Pr} {c : Str} {a : List Str} {k : Fo} (va : Valid [] ps) (h : loc (mk ps none) c = some (a, k)) : ord ps (some c) = names k := by
  unfold ord
  rw [mk_loc (u := none) va (fun _ e => by cases e) h]
end TM

set_option maxHeartbeats 1000000
/-! Things as data: equal to themselves. -/
namespace TD
open PySem L2 PyProof.Rows TX TW
/-- a plain value as data -/
def dV : V → PyData
  | .int i => .int i
  | .bl b => .bool b
  | .str s => .str s
  | _ => .none
theorem Dp_plain {K : PySem.W.Frag} {H : Hp} {v : V} (h : plainV v = true) : Dp K H v (dV v) := by
  cases v with
  | int i => exact .int i
  | bl b => exact .bl b
  | str s => exact .str s
  | non => exact .non
  | _ => cases h
theorem DpAll_plain {K : PySem.W.Frag} {H : Hp} : ∀ {xs : List V}, xs.all plainV = true → DpAll K H xs (xs.map dV)
  | [], _ => .nil
  | x :: r, h => by
    rw [List.all_cons, Bool.and_eq_true] at h
    exact .cons (Dp_plain h.1) (DpAll_plain h.2)
theorem Dp_tup {K : PySem.W.Frag} {H : Hp} {a : Addr} {xs : List V} (h : H a = some (.tup xs)) (p : xs.all plainV = true) : Dp K H (.ref a) (.tuple (xs.map dV)) := .tup (.of h) (DpAll_plain p)
theorem whole_plain {xs : List V} (h : xs.all wholeV = true) : xs.all plainV = true := by
  rw [List.all_eq_true] at h ⊢
  intro x hx
  have := h x hx
  cases x <;> first | rfl | cases this
/-- whole numbers alone -/
theorem can_whole {xs : List V} (h : xs.all wholeV = true) : PyData.canLayAll0 (xs.map dV) = true := by
  induction xs with
  | nil => rfl
  | cons x r ih =>
    rw [List.all_cons, Bool.and_eq_true] at h
    rw [List.map_cons]
    unfold PyData.canLayAll0
    rw [ih h.2]
    cases x <;> first | rfl | cases h.1
theorem dep_plain (xs : List V) : PyData.depthAll (xs.map dV) = 0 := by
  induction xs with
  | nil => rfl
  | cons x r ih =>
    rw [List.map_cons]
    unfold PyData.depthAll
    rw [ih]
    cases x <;> rfl
theorem can_tup {xs : List V} (h : xs.all wholeV = true) : PyData.canLay0 (.tuple (xs.map dV)) = true := by unfold PyData.canLay0; exact can_whole h
theorem dep_tup (xs : List V) : PyData.depth (.tuple (xs.map dV)) = 1 := by unfold PyData.depth; rw [dep_plain]
theorem shaped_of {d : PyData} (h : PyData.canLay0 d = true) (k : PyData.depth d ≤ 64) : SeqAt.shaped d = true := by
  unfold SeqAt.shaped
  rw [h, decide_eq_true k]
  rfl
theorem can2 {a b : PyData} (h : PyData.canLay0 a = true) (k : PyData.canLay0 b = true) : PyData.canLay0 (.tuple [a, b]) = true := by
  unfold PyData.canLay0 PyData.canLayAll0 PyData.canLayAll0 PyData.canLayAll0
  rw [h, k]
  rfl
theorem dep2 (a b : PyData) : PyData.depth (.tuple [a, b]) = 1 + max (PyData.depth a) (PyData.depth b) := by
  show PyData.depthAll [a, b] + 1 = _
  show max (PyData.depth a) (max (PyData.depth b) 0) + 1 = _
  omega
theorem canL {xs : List PyData} (h : ∀ x ∈ xs, PyData.canLay0 x = true) : PyData.canLay0 (.list xs) = true := by
  unfold PyData.canLay0
  induction xs with
  | nil => rfl
  | cons x r ih =>
    unfold PyData.canLayAll0
    rw [h x List.mem_cons_self, ih fun y hy => h y (List.mem_cons_of_mem _ hy)]
    rfl
theorem depL {xs : List PyData} {n : Nat} (h : ∀ x ∈ xs, PyData.depth x ≤ n) : PyData.depth (.list xs) ≤ n + 1 := by
  have : PyData.depthAll xs ≤ n := by
    induction xs with
    | nil => exact Nat.zero_le _
    | cons x r ih =>
      unfold PyData.depthAll
      have h1 := h x List.mem_cons_self
      have h2 := ih fun y hy => h y (List.mem_cons_of_mem _ hy)
      omega
  unfold PyData.depth
  omega
theorem eqv_same {d e : PyData} (h : PyData.canLay0 d = true) (k : d = e) : PyData.eqv d e = true := by
  subst k
  exact SeqAt.eqv_refl d h
end TD

set_option maxHeartbeats 2000000
/-! Rows, each once, rising; where tables stand. -/
namespace TG
open PySem L2 PyProof.Rows TX TB TD TW
theorem ltI_irr (a : List Int) : ltI a a = false := by
  cases h : ltI a a with
  | false => rfl
  | true => rw [ltI_asym h] at h; cases h
theorem ltI_trans {a b c : List Int} (h : ltI a b = true) (k : ltI b c = true) : ltI a c = true := by
  cases e : ltI a c with
  | true => rfl
  | false =>
    have := ltI_le (ltI_asym k) e
    rw [h] at this
    cases this
abbrev Rise (l : List (List Int)) : Prop := l.Pairwise fun a b => ltI a b = true
theorem Rise.nodup {l : List (List Int)} (h : Rise l) : l.Nodup := h.imp fun {a b} z e => by rw [e, ltI_irr] at z; cases z
theorem rise_of {l : List (List Int)} (n : l.Nodup) (h : l.Pairwise fun a b => ltI b a = false) : Rise l := by
  refine List.Pairwise.imp₂ (R := fun a b => a ≠ b) (S := fun a b => ltI b a = false) (fun a b hne hb => ?_) n h
  cases e : ltI a b with
  | true => rfl
  | false => exact absurd (ltI_anti e hb) hne
theorem rise_unique : ∀ {l m : List (List Int)}, Rise l → Rise m → (∀ x, x ∈ l ↔ x ∈ m) → l = m := by
  intro l m hl hm h
  refine TM.perm_eq (R := fun a b => ltI a b = true) (fun a b h1 h2 => ?_) ((List.perm_ext_iff_of_nodup hl.nodup hm.nodup).mpr h) hl hm
  rw [ltI_asym h1] at h2
  cases h2
def ins (x : List Int) : List (List Int) → List (List Int)
  | [] => [x]
  | y :: l => if x = y then y :: l else if ltI x y = true then x :: y :: l else y :: ins x l
theorem mem_ins {x z : List Int} : ∀ {l : List (List Int)}, z ∈ ins x l ↔ z = x ∨ z ∈ l
  | [] => by simp [ins]
  | y :: l => by
    unfold ins
    by_cases e : x = y
    · rw [if_pos e]
      subst e
      simp
    · rw [if_neg e]
      by_cases h : ltI x y = true
      · rw [if_pos h]
        simp
      · rw [if_neg h, List.mem_cons, mem_ins (l := l), List.mem_cons]
        constructor
        · rintro (h | h | h)
          · exact .inr (.inl h)
          · exact .inl h
          · exact .inr (.inr h)
        · rintro (h | h | h)
          · exact .inr (.inl h)
          · exact .inl h
          · exact .inr (.inr h)
theorem rise_ins {x : List Int} : ∀ {l : List (List Int)}, Rise l → Rise (ins x l)
  | [], _ => List.pairwise_singleton _ _
  | y :: l, h => by
    unfold ins
    have h' := List.pairwise_cons.mp h
    by_cases e : x = y
    · rw [if_pos e]
      exact h
    · rw [if_neg e]
      by_cases k : ltI x y = true
      · rw [if_pos k]
        refine List.pairwise_cons.mpr ⟨fun z hz => ?_, h⟩
        rcases List.mem_cons.mp hz with e | hz
        · rw [e]
          exact k
        · exact ltI_trans k (h'.1 z hz)
      · rw [if_neg k]
        refine List.pairwise_cons.mpr ⟨fun z hz => ?_, rise_ins h'.2⟩
        rcases mem_ins.mp hz with e2 | hz
        · rw [e2]
          cases k2 : ltI y x with
          | true => rfl
          | false => exact absurd (ltI_anti (by simpa using k) k2) e
        · exact h'.1 z hz
/-- rows, each once, rising -/
def norm (rs : List (List Int)) : List (List Int) := rs.foldr ins []
theorem mem_norm {rs : List (List Int)} {x : List Int} : x ∈ norm rs ↔ x ∈ rs := by
  unfold norm
  induction rs with
  | nil => simp
  | cons r rs ih => rw [List.foldr_cons, mem_ins, ih, List.mem_cons]
theorem rise_norm (rs : List (List Int)) : Rise (norm rs) := by
  unfold norm
  induction rs with
  | nil => exact List.Pairwise.nil
  | cons r rs ih => exact rise_ins ih
theorem norm_of {l rs : List (List Int)} (h : Rise l) (k : ∀ x, x ∈ l ↔ x ∈ rs) : l = norm rs := rise_unique h (rise_norm rs) fun x => (k x).trans mem_norm.symm
theorem norm_len (rs : List (List Int)) : (norm rs).length ≤ rs.length := by
  unfold norm
  have : ∀ (x : List Int) (l : List (List Int)), (ins x l).length ≤ l.length + 1 := by
    intro x l
    induction l with
    | nil => exact Nat.le_refl _
    | cons y l ih =>
      unfold ins
      split
      · exact Nat.le_succ _
      · split
        · exact Nat.le_refl _
        · rw [List.length_cons, List.length_cons]
          omega
  induction rs with
  | nil => exact Nat.le_refl _
  | cons r rs ih =>
    rw [List.foldr_cons, List.length_cons]
    have := this r (rs.foldr ins [])
    omega
theorem norm_filter (rs : List (List Int)) (p : List Int → Bool) : (norm rs).filter p = norm (rs.filter p) := norm_of ((rise_norm rs).filter p) fun x => by rw [List.mem_filter, List.mem_filter, mem_norm]
theorem norm_idem {l : List (List Int)} (h : Rise l) : norm l = l := (norm_of h fun _ => Iff.rfl).symm
theorem norm_norm (rs : List (List Int)) : norm (norm rs) = norm rs := norm_idem (rise_norm rs)
/-! ### where rows stand -/
abbrev RowsAt (H : Hp) : List Addr → List (List Int) → Prop := Paired fun a r => H a = some (.tup (r.map V.int))
theorem RowsAt.same {H H' : Hp} {as : List Addr} {rs : List (List Int)} (h : RowsAt H as rs) (s : Same H H') : RowsAt H' as rs := Paired.mapP h fun a q e => s a _ e
theorem RowsAt.put {H : Hp} {as : List Addr} {rs : List (List Int)} {p : Addr} {xs : List V} {o : HO} (h : RowsAt H as rs) (hp : H p = some (.lst xs)) : RowsAt (upd H p o) as rs :=
  Paired.mapP h fun a q e => by rw [upd_ne (ne_of e hp (by intro z; cases z))]; exact e
theorem RowsAt.sm {W : Addr} {H H' : Hp} {as : List Addr} {rs : List (List Int)} (h : RowsAt H as rs) (s : Sm W H H') (w : ∃ n, WellAt n H W) : RowsAt H' as rs := Paired.mapP h fun a q e => tup_sm e s w
theorem RowsAt.len {H : Hp} {as : List Addr} {rs : List (List Int)} (h : RowsAt H as rs) : as.length = rs.length := Paired.length h
theorem pr_snoc {α β : Type} {R : α → β → Prop} {as : List α} {bs : List β} {a : α} {b : β} (h : Paired R as bs) (r : R a b) : Paired R (as ++ [a]) (bs ++ [b]) := by
  induction h with
  | nil => exact .cons r .nil
  | cons h _ ih => exact .cons h ih
theorem pr_at {α β : Type} {R : α → β → Prop} {as : List α} {bs : List β} (h : Paired R as bs) : ∀ {i : Nat} {a : α}, as[i]? = some a → ∃ b, bs[i]? = some b ∧ R a b := by
  induction h with
  | nil => intro i a h; simp at h
  | cons hd _ ih =>
    intro i a h
    cases i with
    | zero =>
      rw [List.getElem?_cons_zero] at h
      cases h
      exact ⟨_, rfl, hd⟩
    | succ i => exact ih (by simpa using h)
theorem pr_by {α β : Type} {R : α → β → Prop} {as : List α} {bs : List β} (h : Paired R as bs) : ∀ {i : Nat} {b : β}, bs[i]? = some b → ∃ a, as[i]? = some a ∧ R a b := by
  induction h with
  | nil => intro i a h; simp at h
  | cons hd _ ih =>
    intro i a h
    cases i with
    | zero =>
      rw [List.getElem?_cons_zero] at h
      cases h
      exact ⟨_, rfl, hd⟩
    | succ i => exact ih (by simpa using h)
theorem pr_app {α β : Type} {R : α → β → Prop} {as as' : List α} {bs bs' : List β} (h : Paired R as bs) (k : Paired R as' bs') : Paired R (as ++ as') (bs ++ bs') := by
  induction h with
  | nil => exact k
  | cons h _ ih => exact .cons h ih
theorem pr_zip {α β : Type} {R : α → β → Prop} {as : List α} {bs : List β} (h : Paired R as bs) : ∀ p ∈ as.zip bs, R p.1 p.2 := by
  induction h with
  | nil => intro p hp; cases hp
  | cons hd _ ih =>
    intro p hp
    rcases List.mem_cons.mp hp with e | hp
    · rw [e]
      exact hd
    · exact ih p hp
theorem zip_fst {α β : Type} : ∀ {as : List α} {bs : List β}, as.length = bs.length → (as.zip bs).map (·.1) = as ∧ (as.zip bs).map (·.2) = bs
  | [], [], _ => ⟨rfl, rfl⟩
  | [], _ :: _, h => by cases h
  | _ :: _, [], h => by cases h
  | a :: as, b :: bs, h => by
    have := zip_fst (as := as) (bs := bs) (by simpa using h)
    rw [List.zip_cons_cons, List.map_cons, List.map_cons, this.1, this.2]
    exact ⟨rfl, rfl⟩
theorem of_zip {H : Hp} {L : List (Addr × List Int)} (h : ∀ p ∈ L, H p.1 = some (.tup (p.2.map V.int))) : RowsAt H (L.map (·.1)) (L.map (·.2)) := by
  induction L with
  | nil => exact .nil
  | cons p L ih => exact .cons (h p List.mem_cons_self) (ih fun q hq => h q (List.mem_cons_of_mem _ hq))
/-! ### rows as data -/
def dR (rs : List (List Int)) : PyData := .list (rs.map fun r => .tuple ((r.map V.int).map dV))
theorem whole_ints (r : List Int) : (r.map V.int).all wholeV = true := by
  rw [List.all_eq_true]
  intro v hv
  obtain ⟨i, _, rfl⟩ := List.mem_map.mp hv
  rfl
theorem DpRow {K : PySem.W.Frag} {H : Hp} {a : Addr} {r : List Int} (h : H a = some (.tup (r.map V.int))) : Dp K H (.ref a) (.tuple ((r.map V.int).map dV)) := Dp_tup h (whole_plain (whole_ints r))
theorem DpRows {K : PySem.W.Frag} {H : Hp} {a : Addr} {as : List Addr} {rs : List (List Int)} (h : H a = some (.lst (as.map V.ref))) (k : RowsAt H as rs) : Dp K H (.ref a) (dR rs) := by
  refine .lst (.of h) ?_
  clear h
  induction k with
  | nil => exact .nil
  | cons h _ ih => exact .cons (DpRow h) ih
theorem canRows (rs : List (List Int)) : PyData.canLay0 (dR rs) = true := canL fun d hd => by
  obtain ⟨r, _, rfl⟩ := List.mem_map.mp hd
  exact can_tup (whole_ints r)
theorem shRows (rs : List (List Int)) : SeqAt.shaped (dR rs) = true := by
  refine shaped_of (canRows rs) ?_
  have : PyData.depth (dR rs) ≤ 1 + 1 := depL fun d hd => by
    obtain ⟨r, _, rfl⟩ := List.mem_map.mp hd
    rw [dep_tup]
    exact Nat.le_refl _
  omega
theorem eqv_ints : ∀ (r q : List Int), PyData.eqvAll ((r.map V.int).map dV) ((q.map V.int).map dV) = decide (r = q)
  | [], [] => rfl
  | [], _ :: _ => rfl
  | _ :: _, [] => rfl
  | x :: r, y :: q => by
    rw [List.map_cons, List.map_cons, List.map_cons, List.map_cons]
    unfold PyData.eqvAll
    rw [eqv_ints r q]
    have : PyData.eqv (dV (V.int x)) (dV (V.int y)) = decide (x = y) := by
      show PyData.eqv (.int x) (.int y) = _
      unfold PyData.eqv
      by_cases h : x = y <;> simp [h]
    rw [this]
    by_cases h : x = y <;> by_cases h2 : r = q <;> simp [h, h2]
theorem eqv_row (r q : List Int) : PyData.eqv (.tuple ((r.map V.int).map dV)) (.tuple ((q.map V.int).map dV)) = decide (r = q) := by
  unfold PyData.eqv
  exact eqv_ints r q
theorem eqv_dR (rs qs : List (List Int)) : PyData.eqv (dR rs) (dR qs) = decide (rs = qs) := by
  unfold dR PyData.eqv
  induction rs generalizing qs with
  | nil => cases qs <;> rfl
  | cons r rs ih =>
    cases qs with
    | nil => rfl
    | cons q qs =>
      rw [List.map_cons, List.map_cons]
      unfold PyData.eqvAll
      rw [ih qs, eqv_row]
      by_cases h : r = q <;> by_cases h2 : rs = qs <;> simp [h, h2]
/-! ### where tables stand -/
def bflds (l r : Addr) : List (Str × V) := putF "_rows" (.ref r) (putF "_columns" (.ref l) [])
theorem kbc : ¬ (("_columns" : Str) = "_rows") := by decide +kernel
theorem bflds_col (l r : Addr) : (bflds l r).lookup ("_columns" : Str) = some (.ref l) := by
  unfold bflds
  rw [lookup_putF, if_neg kbc, lookup_putF, if_pos rfl]
theorem bflds_rows (l r : Addr) : (bflds l r).lookup ("_rows" : Str) = some (.ref r) := by
  unfold bflds
  rw [lookup_putF, if_pos rfl]
theorem bflds_no (l r : Addr) {m : Str} (h1 : ¬ m = "_rows") (h2 : ¬ m = "_columns") : (bflds l r).lookup m = none := by
  unfold bflds
  rw [lookup_putF, if_neg h1, lookup_putF, if_neg h2]
  rfl
/-- unlike names, not too many -/
structure Cs (cs : List Str) : Prop where
  nd : cs.Nodup
  le : cs.length ≤ 8
  ok : ∀ x ∈ cs, TM.NameOk x
/-- a table of these columns and rows -/
def TabAt (C : Addr) (H : Hp) (p : Addr) (cs : List Str) (rs : List (List Int)) : Prop := ∃ dx l r as, H p = some (.ins C dx (bflds l r)) ∧ H l = some (.lst (cs.map V.str)) ∧ H r = some (.lst (as.map V.ref)) ∧ RowsAt H as rs
theorem TabAt.same {C : Addr} {H H' : Hp} {p : Addr} {cs : List Str} {rs : List (List Int)} (t : TabAt C H p cs rs) (s : Same H H') : TabAt C H' p cs rs := by
  obtain ⟨dx, l, r, as, h1, h2, h3, h4⟩ := t
  exact ⟨dx, l, r, as, s _ _ h1, s _ _ h2, s _ _ h3, h4.same s⟩
/-- the class of tables -/
structure Bc (K : PySem.W.Frag) (mg : Str → Option Value) (C : Addr) : Prop where
  cl : Cls K C
  nC : NoAttr K C "_columns"
  nR : NoAttr K C "_rows"
  g : mg "Table" = some (.ref C)
  ins : Ic K C
end TG

/-! Sets of some thousands of things: what their tables' mathematics is. -/
namespace TBA
open PySem L2 PyProof.Rows
/-! ### i -> 5 i + 1 goes through all of a power of two -/
def geo : Nat → Nat
  | 0 => 0
  | k + 1 => geo k * 5 + 1
theorem geo_four : ∀ k, geo k * 4 + 1 = 5 ^ k
  | 0 => rfl
  | k + 1 => by
    have := geo_four k
    rw [Nat.pow_succ, ← this]
    show (geo k * 5 + 1) * 4 + 1 = _
    omega
theorem geo_add (a : Nat) : ∀ b, geo (a + b) = geo a * 5 ^ b + geo b
  | 0 => by simp [geo]
  | b + 1 => by
    show geo (a + b) * 5 + 1 = geo a * 5 ^ (b + 1) + (geo b * 5 + 1)
    rw [geo_add a b, Nat.pow_succ, Nat.add_mul, ← Nat.mul_assoc]
    omega
theorem geo_par : ∀ d, geo d % 2 = d % 2
  | 0 => rfl
  | d + 1 => by
    have := geo_par d
    show (geo d * 5 + 1) % 2 = (d + 1) % 2
    omega
theorem five_mod (e : Nat) : 5 ^ e % 4 = 1 := by
  rw [← geo_four]
  omega
theorem cop_odd (n q : Nat) : Nat.Coprime (2 ^ n) (2 * q + 1) := by
  refine Nat.Coprime.pow_left n ?_
  show Nat.gcd 2 (2 * q + 1) = 1
  rw [Nat.gcd_rec, show (2 * q + 1) % 2 = 1 by omega]
  rfl
theorem geo_dvd : ∀ n d, 2 ^ n ∣ geo d → 2 ^ n ∣ d
  | 0, d, _ => by simp
  | n + 1, d, h => by
    have h2 : geo d % 2 = 0 := Nat.mod_eq_zero_of_dvd (Nat.dvd_trans ⟨2 ^ n, by rw [Nat.pow_succ, Nat.mul_comm]⟩ h)
    obtain ⟨e, rfl⟩ : ∃ e, d = e + e := ⟨d / 2, by have := geo_par d; omega⟩
    obtain ⟨q, hq⟩ : ∃ q, 5 ^ e + 1 = 2 * (2 * q + 1) := ⟨5 ^ e / 4, by have := five_mod e; omega⟩
    have e1 : geo (e + e) = 2 * (geo e * (2 * q + 1)) := by
      have : geo e * 5 ^ e + geo e = geo e * (5 ^ e + 1) := by rw [Nat.mul_add, Nat.mul_one]
      rw [geo_add, this, hq, Nat.mul_left_comm]
    rw [e1, Nat.pow_succ, Nat.mul_comm] at h
    have h3 := Nat.dvd_of_mul_dvd_mul_left (by decide) h
    obtain ⟨c, hc⟩ := geo_dvd n e ((cop_odd n q).dvd_of_dvd_mul_right h3)
    exact ⟨c, by rw [Nat.pow_succ, Nat.mul_right_comm, ← hc]; omega⟩
/-- the masks: a power of two less one, no more than 8191 -/
def PowM (m : Nat) : Prop := ∃ n, 3 ≤ n ∧ n ≤ 13 ∧ m + 1 = 2 ^ n
theorem PowM.le {m : Nat} (h : PowM m) : m ≤ 8191 := by
  obtain ⟨n, _, h2, e⟩ := h
  have := Nat.pow_le_pow_right (n := 2) (by decide) h2
  omega
theorem PowM.odd {m : Nat} (h : PowM m) : m % 2 = 1 := by
  obtain ⟨n, h1, _, e⟩ := h
  obtain ⟨k, rfl⟩ : ∃ k, n = k + 1 := ⟨n - 1, by omega⟩
  rw [Nat.pow_succ] at e
  omega
theorem lcg_form (m i : Nat) (hi : i ≤ m) : ∀ k, lcgI m i k = (i * 5 ^ k + geo k) % (m + 1)
  | 0 => by
    show i = (i * 1 + 0) % (m + 1)
    rw [Nat.mul_one, Nat.add_zero, Nat.mod_eq_of_lt (Nat.lt_succ_of_le hi)]
  | k + 1 => by
    show (lcgI m i k * 5 + 1) % (m + 1) = _
    rw [lcg_form m i hi k, Nat.add_mod, Nat.mul_mod, Nat.mod_mod, ← Nat.mul_mod, ← Nat.add_mod]
    congr 1
    show _ = i * 5 ^ (k + 1) + (geo k * 5 + 1)
    rw [Nat.pow_succ, Nat.add_mul, Nat.mul_assoc]
    omega
theorem lcg_le (m i : Nat) (hi : i ≤ m) : ∀ k, lcgI m i k ≤ m
  | 0 => hi
  | _ + 1 => Nat.le_of_lt_succ (Nat.mod_lt _ (Nat.succ_pos _))
theorem lcg_then (m i k : Nat) : ∀ d, lcgI m i (k + d) = lcgI m (lcgI m i k) d
  | 0 => rfl
  | d + 1 => by
    show (lcgI m i (k + d) * 5 + 1) % (m + 1) = _
    rw [lcg_then m i k d]
    rfl
theorem lcg_unlike {m : Nat} (hm : PowM m) {x : Nat} (hx : x ≤ m) {d : Nat} (h0 : 0 < d) (hd : d ≤ m) : lcgI m x d ≠ x := by
  intro e
  obtain ⟨n, _, _, hp⟩ := hm
  rw [lcg_form m x hx] at e
  have e4 : x * 5 ^ d + geo d = x + geo d * (2 * (2 * x) + 1) := by
    rw [← geo_four d, Nat.mul_add, Nat.mul_add, Nat.mul_one, Nat.mul_one]
    have a1 : x * (geo d * 4) = 4 * (x * geo d) := by rw [← Nat.mul_assoc, Nat.mul_comm]
    have a2 : geo d * (2 * (2 * x)) = 4 * (x * geo d) := by rw [← Nat.mul_assoc 2 2 x, Nat.mul_left_comm, Nat.mul_comm (geo d) x]
    rw [a1, a2]
    omega
  have e5 : (x + geo d * (2 * (2 * x) + 1)) % (m + 1) = x % (m + 1) := by rw [← e4, e, Nat.mod_eq_of_lt (Nat.lt_succ_of_le hx)]
  have e6 := Nat.sub_mod_eq_zero_of_mod_eq e5
  rw [Nat.add_sub_cancel_left] at e6
  have e7 : 2 ^ n ∣ geo d * (2 * (2 * x) + 1) := by rw [← hp]; exact Nat.dvd_of_mod_eq_zero e6
  have e8 := geo_dvd n d ((cop_odd n _).dvd_of_dvd_mul_right e7)
  have := Nat.le_of_dvd h0 e8
  omega
theorem lcg_meets {m : Nat} (hm : PowM m) {i j : Nat} (hi : i ≤ m) (hj : j ≤ m) : ∃ k, k ≤ m ∧ lcgI m i k = j := by
  by_cases c : j ∈ (List.range (m + 1)).map (lcgI m i)
  · obtain ⟨k, hk, e⟩ := List.mem_map.mp c
    exact ⟨k, Nat.le_of_lt_succ (List.mem_range.mp hk), e⟩
  · exfalso
    have q := nat_nodup_len (j :: (List.range (m + 1)).map (lcgI m i)) (List.range (m + 1)) (List.nodup_cons.mpr ⟨c, ?_⟩) fun x hx => ?_
    · rw [List.length_cons, List.length_map, List.length_range] at q
      omega
    · refine List.pairwise_map.mpr (List.Pairwise.imp_of_mem (fun {a b} _ hb hlt e => ?_) List.pairwise_lt_range)
      obtain ⟨d, rfl⟩ : ∃ d, b = a + d := ⟨b - a, by omega⟩
      rw [lcg_then] at e
      exact lcg_unlike hm (lcg_le m i hi a) (by omega) (by have := List.mem_range.mp hb; omega) e.symm
    · rcases List.mem_cons.mp hx with e | hx
      · exact List.mem_range.mpr (by omega)
      · obtain ⟨k, _, e⟩ := List.mem_map.mp hx
        have := lcg_le m i hi k
        exact List.mem_range.mpr (by omega)
/-! ### the way of a search meets all places -/
theorem runs_meet {m : Nat} (hm : PowM m) (h : Int) {j : Nat} (hj : j ≤ m) : ∃ n, n ≤ m + 12 ∧ runI m (SetTable.bits h) n = j := by
  obtain ⟨k, hk, e⟩ := lcg_meets hm (runI_le m (SetTable.bits h) 12) hj
  exact ⟨12 + k, by omega, (runI_tail (bits_lt h) k).trans e⟩
theorem way_meets {m : Nat} (hm : PowM m) (h : Int) {j : Nat} (hj : j ≤ m) : ∃ k, k < 10 * SetTable.turns m ∧ way m h k = j := by
  obtain ⟨n, hn, e⟩ := runs_meet hm h hj
  obtain ⟨k, hk, e2⟩ := run_nth m (SetTable.bits h) n
  refine ⟨k, ?_, (congrArg SetTable.Probe.j e2).trans e⟩
  unfold SetTable.turns
  omega
theorem way_in (m : Nat) (h : Int) (k : Nat) : way m h k ≤ m := by
  have hi : SetTable.bits h % (m + 1) ≤ m := Nat.le_of_lt_succ (Nat.mod_lt _ (Nat.succ_pos _))
  have r := runEnd_bd hi
  have q := nth_in (m := m) k (runAt m (SetTable.bits h % (m + 1)) (SetTable.bits h)) (by
    show SetTable.bits h % (m + 1) + (SetTable.runEnd m (SetTable.bits h % (m + 1)) - SetTable.bits h % (m + 1)) ≤ m
    omega)
  show (nth m (runAt m (SetTable.bits h % (m + 1)) (SetTable.bits h)) k).j ≤ m
  omega
/-! ### tables -/
/-- from a hash one comes to the place, through taken ones -/
def Way (t : SetTable) (h : Int) (j : Nat) : Prop := ∃ k, way t.mask h k = j ∧ ∀ c, c < k → way t.mask h c ∈ t.place.toList
structure Tab (t : SetTable) (hs : List Int) : Prop where
  up : Ris t.place.toList
  nod : t.dummies = #[]
  len : t.place.size = hs.length
  pow : PowM t.mask
  low : ∀ x ∈ t.place.toList, x ≤ t.mask
  ways : ∀ (i : Nat) (h : Int) (j : Nat), hs[i]? = some h → t.place.toList[i]? = some j → Way t h j
theorem Tab.plen {t : SetTable} {hs : List Int} (T : Tab t hs) : t.place.toList.length = hs.length := Array.length_toList.trans T.len
/-- the first place on the way that isn't taken -/
theorem Tab.first {t : SetTable} {hs : List Int} (T : Tab t hs) (hl : hs.length ≤ t.mask) (h : Int) : ∃ K, K < 10 * SetTable.turns t.mask ∧ way t.mask h K ∉ t.place.toList ∧ ∀ c, c < K → way t.mask h c ∈ t.place.toList := by
  obtain ⟨j, hj, hn⟩ := st_missing t.place.toList (t.mask + 1) (by rw [T.plen]; omega)
  obtain ⟨k, hk, e⟩ := way_meets T.pow h (Nat.le_of_lt_succ hj)
  obtain ⟨K, h1, h2, h3⟩ := st_least (p := fun k => way t.mask h k ∉ t.place.toList) k (e ▸ hn)
  exact ⟨K, Nat.lt_of_le_of_lt h1 hk, h2, fun c hc => Classical.byContradiction (h3 c hc)⟩
theorem Tab.ahead {t : SetTable} {hs : List Int} (T : Tab t hs) {h : Int} {K i j : Nat} (hK : way t.mask h K ∉ t.place.toList) (hi : hs[i]? = some h) (hj : t.place.toList[i]? = some j) : ∃ k, k < K ∧ way t.mask h k = j := by
  obtain ⟨k, e, hb⟩ := T.ways i h j hi hj
  refine ⟨k, ?_, e⟩
  apply Classical.byContradiction
  intro c
  rcases Nat.lt_or_eq_of_le (Nat.le_of_not_lt c) with d | d
  · exact hK (hb K d)
  · rw [d, e] at hK
    exact hK (List.mem_of_getElem? hj)
theorem Tab.put {t : SetTable} {hs : List Int} (T : Tab t hs) {h : Int} {K j p : Nat} (hj : j = way t.mask h K) (hp : p = SetTable.below t.place j) (hK : j ∉ t.place.toList) (hb : ∀ c, c < K → way t.mask h c ∈ t.place.toList) :
    p ≤ hs.length ∧ Tab (t.put j).1 (hs.take p ++ h :: hs.drop p) ∧ (t.put j).1.fill = hs.length + 1 := by
  obtain ⟨c1, _, _⟩ := below_cut T.up j
  rw [← hp] at c1
  have pl : p ≤ t.place.toList.length := by rw [Array.length_toList]; exact c1
  have ph : p ≤ hs.length := by rw [← T.len]; exact c1
  have new : t.place[SetTable.below t.place j]? ≠ some j := fun e => hK (List.mem_of_getElem? (by rw [Array.getElem?_toList]; exact e))
  have pp : (t.put j).1.place.toList = t.place.toList.take p ++ j :: t.place.toList.drop p := by rw [hp]; exact put_place t j
  have sz : (t.put j).1.place.size = hs.length + 1 := by rw [← Array.length_toList, pp, len_ins _ pl, T.plen]
  have more : ∀ {x : Nat}, x ∈ t.place.toList → x ∈ (t.put j).1.place.toList := fun {x} hx => by rw [pp]; exact L2.mem_ins.2 (.inr hx)
  have stay : ∀ {g : Int} {y : Nat}, Way t g y → Way (t.put j).1 g y := fun ⟨k, e, z⟩ => ⟨k, e, fun c hc => more (z c hc)⟩
  refine ⟨ph, ⟨ris_insert T.up new, put_dm T.nod j, by rw [len_ins _ ph]; exact sz, T.pow, fun x hx => ?_, fun i g y h1 h2 => ?_⟩, ?_⟩
  · rw [pp] at hx
    rcases L2.mem_ins.1 hx with rfl | z
    · rw [hj]
      exact way_in _ _ _
    · exact T.low x z
  · rw [tins_get hs ph] at h1
    rw [pp, tins_get _ pl] at h2
    by_cases c : i < p
    · rw [if_pos c] at h1 h2
      exact stay (T.ways i g y h1 h2)
    · rw [if_neg c] at h1 h2
      by_cases d : i = p
      · rw [if_pos d] at h1 h2
        cases h1
        cases h2
        exact ⟨K, hj.symm, fun c hc => more (hb c hc)⟩
      · rw [if_neg d] at h1 h2
        exact stay (T.ways (i - 1) g y h1 h2)
  · show (t.put j).1.place.size + (t.put j).1.dummies.size = hs.length + 1
    rw [sz, put_dm T.nod j]
    rfl
/-! ### laid anew -/
theorem free_meets {m : Nat} (hm : PowM m) (owner : Array (Option Nat)) (h : Int) {j : Nat} (hj : j ≤ m) (hf : oAt owner j = none) :
    ∃ K, SetTable.layClean.free m owner (SetTable.turns m) (SetTable.bits h % (m + 1)) (SetTable.bits h) = some (way m h K) ∧ oAt owner (way m h K) = none ∧ ∀ c, c < K → oAt owner (way m h c) ≠ none := by
  obtain ⟨n, hn, e⟩ := runs_meet hm h hj
  generalize ho : off m (SetTable.bits h % (m + 1)) (SetTable.bits h) n = o
  have hw : way m h o = j := by
    rw [← ho]
    show SetTable.Probe.j (nth m _ (off m _ _ n)) = j
    rw [nth_off, itL_run]
    exact e
  obtain ⟨K, k1, k2, k3⟩ := st_least (p := fun k => oAt owner (way m h k) = none) o (by show oAt owner (way m h o) = none; rw [hw]; exact hf)
  refine ⟨K, free_spec m owner (SetTable.turns m) n _ _ K (by unfold SetTable.turns; omega) (by rw [ho]; exact k1) (fun c hc => ?_) ?_, k2, k3⟩
  · cases z : oAt owner (nth m (runAt m (SetTable.bits h % (m + 1)) (SetTable.bits h)) c).j with
    | none => exact absurd z (k3 c hc)
    | some _ => rfl
  · have q : oAt owner (way m h K) = none := k2
    exact Option.isNone_iff_eq_none.mpr q
theorem own_more {m : Nat} (hm : PowM m) {done : List Int} {owner : Array (Option Nat)} (W : Own m done owner) (hl : done.length ≤ m) (h : Int) :
    ∃ j, SetTable.layClean.free m owner (SetTable.turns m) (SetTable.bits h % (m + 1)) (SetTable.bits h) = some j ∧ Own m (done ++ [h]) (owner.setIfInBounds j (some done.length)) := by
  obtain ⟨ps, lp, hin⟩ := W.ps
  obtain ⟨j0, h0, n0⟩ := st_missing ps (m + 1) (by omega)
  have hj0 : oAt owner j0 = none := Classical.byContradiction fun z => n0 (hin j0 (Nat.le_of_lt_succ h0) z)
  obtain ⟨K, e1, e2, e3⟩ := free_meets hm owner h (Nat.le_of_lt_succ h0) hj0
  generalize hy : way m h K = y at e1 e2
  have ym : y ≤ m := hy ▸ way_in m h K
  have self := oAt_set_self (some done.length) (show y < owner.size by rw [W.sz]; omega)
  have mono : ∀ {i : Nat}, oAt owner i ≠ none → oAt (owner.setIfInBounds y (some done.length)) i ≠ none := fun {i} hi => by
    by_cases c : i = y
    · rw [c, self]
      exact fun e => nomatch e
    · rwa [oAt_set_ne _ c]
  refine ⟨y, e1, ⟨?_, fun j k hj e => ?_, fun k hk => ?_, y :: ps, ?_, fun j hj e => ?_⟩⟩
  · rw [Array.size_setIfInBounds]
    exact W.sz
  · by_cases c : j = y
    · rw [c, self] at e
      cases e
      exact ⟨h, K, by simp, hy.trans c.symm, fun c hc => mono (e3 c hc)⟩
    · rw [oAt_set_ne _ c] at e
      obtain ⟨g, K', a1, a2, a3⟩ := W.at_ j k hj e
      exact ⟨g, K', (List.getElem?_append_left (List.getElem?_eq_some_iff.mp a1).1).trans a1, a2, fun c hc => mono (a3 c hc)⟩
  · by_cases c : k = done.length
    · exact ⟨y, ym, by rw [self, c]⟩
    · obtain ⟨j, hj, e⟩ := W.all k (by simp at hk; omega)
      exact ⟨j, hj, by rw [oAt_set_ne _ (fun z => by rw [z, e2] at e; cases e)]; exact e⟩
  · simp [lp]
  · by_cases c : j = y
    · exact c ▸ List.mem_cons_self
    · rw [oAt_set_ne _ c] at e
      exact List.mem_cons_of_mem _ (hin j hj e)
theorem lay_all {m : Nat} (hm : PowM m) : ∀ (rest done : List Int) (owner : Array (Option Nat)), Own m done owner → done.length + rest.length ≤ m →
    ∃ o2, rest.foldl (stepF m) (some (owner, done.length)) = some (o2, (done ++ rest).length) ∧ Own m (done ++ rest) o2
  | [], done, owner, W, _ => ⟨owner, by simp, by simpa using W⟩
  | h :: rest, done, owner, W, hl => by
    rw [List.length_cons] at hl
    obtain ⟨j, e, W'⟩ := own_more hm W (by omega) h
    have e1 : (done ++ [h]).length = done.length + 1 := by simp
    obtain ⟨o2, f, W2⟩ := lay_all hm rest (done ++ [h]) _ W' (by omega)
    have e2 : done ++ [h] ++ rest = done ++ h :: rest := by simp
    rw [e2] at f W2
    rw [e1] at f
    exact ⟨o2, by rw [List.foldl_cons, stepF_some e]; exact f, W2⟩
theorem laid_clean {m : Nat} (hm : PowM m) {hs : Array Int} (hn : hs.size ≤ m) : ∃ owner, SetTable.layClean m hs = some owner ∧ Own m hs.toList owner := by
  obtain ⟨owner, f, W⟩ := lay_all hm hs.toList [] _ (Own.init m) (by simpa using hn)
  rw [List.nil_append] at W f
  refine ⟨owner, ?_, W⟩
  rw [layClean_eq]
  exact congrArg (Option.map (·.1)) f
theorem laid_anew (t : SetTable) {hs : Array Int} {wanted M : Nat} (hw : SetTable.sizeAbove wanted - 1 = M) (hM : PowM M) (hn : hs.size ≤ M) :
    ∃ t2 order, t.relaid hs wanted = some (t2, order) ∧ order.toList.Perm (List.range hs.size) ∧ Tab t2 (order.toList.map fun i => hs.getD i 0) ∧ t2.mask = M ∧ t2.led = t.led ∧ t2.plain = t.plain := by
  obtain ⟨owner, e, W⟩ := laid_clean hM hn
  have hr : t.relaid hs wanted = some (tabOf t M owner, ((liveOf M owner).map (·.2)).toArray) := by
    rw [relaid_eq, hw, e]
    rfl
  obtain ⟨r1, r2⟩ := ris_live (fun j => owner.getD j none) (List.range (M + 1)) List.pairwise_lt_range
  have r1 : Ris ((liveOf M owner).map (·.1)) := r1
  have r2 : ∀ x ∈ (liveOf M owner).map (·.1), x ∈ List.range (M + 1) := r2
  have hz : hs.toList.length = hs.size := rfl
  have all : ∀ k, k < hs.size → k ∈ (liveOf M owner).map (·.2) := fun k hk => by
    obtain ⟨j, b1, b2⟩ := W.all k hk
    exact List.mem_map.mpr ⟨(j, k), (mem_live W.sz).2 ⟨b1, b2⟩, rfl⟩
  have len : (liveOf M owner).length = hs.size := by
    obtain ⟨ps, p1, p2⟩ := W.ps
    have nd : ((liveOf M owner).map (·.1)).Nodup := List.Pairwise.imp (fun h => Nat.ne_of_lt h) r1
    have a := nat_nodup_len ((liveOf M owner).map (·.1)) ps nd fun x hx => by
      obtain ⟨⟨y, k⟩, hq, rfl⟩ := List.mem_map.mp hx
      obtain ⟨b1, b2⟩ := (mem_live W.sz).1 hq
      exact p2 y b1 (by rw [b2]; exact fun z => nomatch z)
    have b := nat_nodup_len (List.range hs.size) ((liveOf M owner).map (·.2)) List.nodup_range fun k hk => all k (List.mem_range.mp hk)
    rw [List.length_map, p1] at a
    rw [List.length_map, List.length_range] at b
    omega
  refine ⟨tabOf t M owner, _, hr, perm_range hs.size _ ?_ all, ⟨r1, rfl, ?_, hM, fun x hx => Nat.le_of_lt_succ (List.mem_range.mp (r2 x hx)), fun i h j h1 h2 => ?_⟩, rfl, rfl, rfl⟩
  · show ((liveOf M owner).map (·.2)).length = hs.size
    rw [List.length_map]
    exact len
  · show ((liveOf M owner).map (·.1)).toArray.size = (((liveOf M owner).map (·.2)).map fun i => hs.getD i 0).length
    simp
  · have h1 : (((liveOf M owner).map (·.2)).map fun i => hs.getD i 0)[i]? = some h := h1
    have h2 : ((liveOf M owner).map (·.1))[i]? = some j := h2
    rw [List.map_map, List.getElem?_map] at h1
    rw [List.getElem?_map] at h2
    obtain ⟨⟨y, k⟩, hq, rfl⟩ := Option.map_eq_some_iff.mp h2
    rw [hq] at h1
    obtain ⟨b1, b2⟩ := (mem_live W.sz).1 (List.mem_of_getElem? hq)
    obtain ⟨g, K, a1, a2, a3⟩ := W.at_ y k b1 b2
    have e0 : hs.getD k 0 = g := by rw [Array.getD_eq_getD_getElem?, ← Array.getElem?_toList, a1]; rfl
    have e1 : g = h := e0.symm.trans (Option.some.inj h1)
    subst e1
    refine ⟨K, a2, fun c hc => ?_⟩
    show way M g c ∈ (liveOf M owner).map (·.1)
    cases z : oAt owner (way M g c) with
    | none => exact absurd z (a3 c hc)
    | some k2 => exact List.mem_map.mpr ⟨(way M g c, k2), (mem_live W.sz).2 ⟨way_in M g c, z⟩, rfl⟩
/-! ### how great the next one is -/
theorem above_go : ∀ (fuel size n w : Nat), size = 2 ^ n → w < 2 ^ (n + fuel) → ∃ k, n ≤ k ∧ SetTable.sizeAbove.go w fuel size = 2 ^ k ∧ w < 2 ^ k ∧ (k = n ∨ 2 ^ k ≤ 2 * w)
  | 0, size, n, w, e, h => ⟨n, Nat.le_refl _, by unfold SetTable.sizeAbove.go; exact e, h, .inl rfl⟩
  | f + 1, size, n, w, e, h => by
    unfold SetTable.sizeAbove.go
    by_cases c : size ≤ w
    · rw [if_pos c]
      obtain ⟨k, h1, h2, h3, h4⟩ := above_go f (size * 2) (n + 1) w (by rw [e, Nat.pow_succ]) (by rw [show n + 1 + f = n + (f + 1) by omega]; exact h)
      refine ⟨k, by omega, h2, h3, .inr ?_⟩
      rcases h4 with rfl | h4
      · rw [Nat.pow_succ, ← e]
        omega
      · exact h4
    · rw [if_neg c]
      exact ⟨n, Nat.le_refl _, e, by omega, .inl rfl⟩
theorem above_size {w : Nat} (h : w < 2 ^ 67) : ∃ k, 3 ≤ k ∧ SetTable.sizeAbove w = 2 ^ k ∧ w < 2 ^ k ∧ (k = 3 ∨ 2 ^ k ≤ 2 * w) := above_go 64 8 3 w rfl h
/-- a table that is too full, of fewer than two thousand things, is laid anew large enough -/
theorem next_mask {u m : Nat} (hu : u < 2000) (hm : PowM m) (hf : 3 * m ≤ u * 5) (hb : (u - 1) * 5 < m * 3) : ∃ M, SetTable.sizeAbove (SetTable.grown u) - 1 = M ∧ PowM M ∧ SetTable.sizeAbove (SetTable.grown u) ≤ 8192 ∧ u * 5 < M * 3 := by
  have hg : SetTable.grown u = u * 4 := by
    unfold SetTable.grown
    rw [if_neg (by omega)]
  obtain ⟨k, k1, k2, k3, k4⟩ := above_size (w := u * 4) (by have : (2 : Nat) ^ 67 = 147573952589676412928 := by decide
                                                            omega)
  obtain ⟨n, n1, n2, n3⟩ := hm
  have hm2 : m ≤ 2047 := by
    apply Classical.byContradiction
    intro c
    have : 12 ≤ n := by
      apply Classical.byContradiction
      intro d
      have := Nat.pow_le_pow_right (n := 2) (by decide) (show n ≤ 11 by omega)
      omega
    have := Nat.pow_le_pow_right (n := 2) (by decide) this
    omega
  have k13 : k ≤ 13 := by
    rcases k4 with rfl | k4
    · omega
    · apply Classical.byContradiction
      intro c
      have := Nat.pow_le_pow_right (n := 2) (by decide) (show 14 ≤ k by omega)
      omega
  rw [hg, k2]
  have p13 := Nat.pow_le_pow_right (n := 2) (by decide) k13
  exact ⟨2 ^ k - 1, rfl, ⟨k, k1, k13, by omega⟩, by omega, by omega⟩
end TBA

set_option maxHeartbeats 2000000
/-! Sets of fewer than two thousand things of a kind (tuples of whole numbers, nested ones): search, put in, laid anew. -/
namespace TBS
open PySem PySem.Spec L2 PyProof.Rows TBA
/-- a kind of things by which sets and dicts are kept -/
structure Kd (P : Program) (w : World) (K : Type) [DecidableEq K] where
  hk : HeapKind P w K
  rm : ∀ A : Around, A.units + 16 < cLine → hk.room A
  tup : ∀ {h : Heap} {k : K} {a : Addr}, hk.is h k a → ∃ o, h.get? a = some o ∧ o.cls = .type "tuple"
  keep : ∀ {h h' : Heap} {k : K} {a : Addr}, hk.is h k a → (∀ b o, h.get? b = some o → o.cls = .type "tuple" → h'.get? b = some o) → hk.is h' k a
  ofc : ∀ {A : Around} {E : Value → Shared → Prop} {s : Shared} {k : K} {b : Addr} {Q : Bool → Shared → Prop}, hk.is s.heap k b → Q false s → wpAny (model P w) A (ofAClassStatement 8 (.ref b)) Q E s
  byv : ∀ {A : Around} {E : Value → Shared → Prop} {s : Shared} {k : K} {b : Addr} {Q : Bool → Shared → Prop}, hk.is s.heap k b → Q true s → wpAny (model P w) A (hashByValue 8 (.ref b)) Q E s
section
variable {P : Program} {w : World} {K : Type} [DecidableEq K] (kd : Kd P w K)
def ents (L : List (Addr × K)) : List (Int × Value) := L.map fun p => (kd.hk.hash p.2, Value.ref p.1)
structure SetB (h : Heap) (a : Addr) (L : List (Addr × K)) (es : Array (Int × Value)) (ep : Nat) (t : SetTable) : Prop where
  obj : ∃ o, h.get? a = some o ∧ o.ExactSet ∧ o.data = .set es ep t
  ens : es.toList = ents kd L
  tab : Tab t (L.map fun p => kd.hk.hash p.2)
  one : (L.map (·.2)).Nodup
  are : ∀ p ∈ L, kd.hk.is h p.2 p.1
  pln : t.plain = true
  ldg : w.params.followText "set-order" = true ∨ t.led = true
  gap : L.length * 5 < t.mask * 3
  low : L.length < 2000
end
section
variable {P : Program} {w : World} {K : Type} [DecidableEq K] {kd : Kd P w K} {A : Around} {E : Value → Shared → Prop} {s : Shared} {a : Addr} {L : List (Addr × K)} {es : Array (Int × Value)} {ep : Nat} {t : SetTable}
theorem ents_len {L : List (Addr × K)} {es : Array (Int × Value)} (e : es.toList = ents kd L) : es.size = L.length := by
  rw [← Array.length_toList, e]
  exact List.length_map _
theorem SetB.size {h : Heap} (S : SetB kd h a L es ep t) : es.size = L.length := ents_len S.ens
theorem fits_of {n : Nat} {hs : List Int} (T : Tab t hs) (e : hs.length = n) (l : n ≤ t.mask) : t.fits n = true := by
  unfold SetTable.fits SetTable.fill
  rw [T.nod, T.len, e, Bool.and_eq_true, beq_iff_eq, decide_eq_true_eq]
  exact ⟨rfl, l⟩
theorem SetB.fits {h : Heap} (S : SetB kd h a L es ep t) : t.fits es.size = true := fits_of S.tab (by rw [List.length_map, S.size]) (by have := S.gap; rw [S.size]; omega)
theorem SetB.ent {h : Heap} (S : SetB kd h a L es ep t) {i : Nat} {p : Addr × K} (e : L[i]? = some p) : es[i]? = some (kd.hk.hash p.2, Value.ref p.1) := by
  rw [← Array.getElem?_toList, S.ens]
  unfold ents
  rw [List.getElem?_map, e]
  rfl
theorem SetB.stays {h : Heap} (S : SetB kd h a L es ep t) : ¬ t.gaveWay = true := by
  unfold SetTable.gaveWay
  rw [S.tab.pow.odd]
  decide
/-- what is asked of the things on the way can't be seen -/
theorem seen_none {x : Addr} {k : K} {Q : Bool → Shared → Prop} (hx : kd.hk.is s.heap k x) {ys : List Value} (hy : ∀ y ∈ ys, ∃ k' c, y = Value.ref c ∧ kd.hk.is s.heap k' c) (q : Q false s) :
    wpAny (model P w) A (searchCouldBeSeen (.ref x) ys) Q E s := by
  unfold searchCouldBeSeen
  refine wpAny_bind (wpAny_forIn_list _ (fun left r s1 => r.1 = none ∧ s1 = s ∧ ∀ y ∈ left, ∃ k' c, y = Value.ref c ∧ kd.hk.is s.heap k' c) _ ?_ ?_ _ _ ⟨rfl, rfl, hy⟩)
  · rintro v left r s1 ⟨e, rfl, al⟩
    obtain ⟨k', c, rfl, hc⟩ := al v List.mem_cons_self
    have al2 : ∀ y ∈ left, ∃ k' c, y = Value.ref c ∧ kd.hk.is s1.heap k' c := fun u hu => al u (List.mem_cons_of_mem _ hu)
    dsimp only
    by_cases hv : (x == c || (carriedByValue (.ref x) && carriedByValue (.ref c))) = true
    · exact wp_if_pos hv (wpAny_pure ⟨rfl, rfl, al2⟩)
    · refine wp_if_neg hv (wpAny_bind (kd.hk.quiet hx ?_))
      simp only [Bool.not_true, Bool.false_eq_true, if_false]
      refine wpAny_bind (kd.hk.quiet hc ?_)
      simp only [Bool.not_true, Bool.false_eq_true, if_false]
      refine wpAny_bind (kd.ofc hx ?_)
      simp only [Bool.false_eq_true, if_false]
      refine wpAny_bind (kd.ofc hc ?_)
      simp only [Bool.false_eq_true, if_false]
      exact wpAny_pure ⟨rfl, rfl, al2⟩
  · rintro ⟨r1, r2⟩ s1 ⟨e, rfl, _⟩
    cases (show r1 = none from e)
    exact wpAny_pure q
abbrev begin_ (m : Nat) (h : Int) : SetTable.Probe := runAt m (SetTable.bits h % (m + 1)) (SetTable.bits h)
theorem nth_dummy (m : Nat) : ∀ (n : Nat) (p : SetTable.Probe), p.dummy = none → (nth m p n).dummy = none
  | 0, _, h => h
  | n + 1, p, h => nth_dummy m n (adv m p) (by unfold adv; split <;> exact h)
/-- the search of one that is to be put in, from the c-th step on -/
theorem seek (S : SetB kd s.heap a L es ep t) {x : Addr} {k : K} {g : Int} (hg : kd.hk.hash k = g) (hx : kd.hk.is s.heap k x) (hr : kd.hk.room A) {F : Nat} (hF : F < 10 * SetTable.turns t.mask)
    (free : way t.mask g F ∉ t.place.toList) (full : ∀ c, c < F → way t.mask g c ∈ t.place.toList) {Q : SetFound → Shared → Prop}
    (yes : k ∈ L.map (·.2) → Q (.there none) s) (no : k ∉ L.map (·.2) → Q (.free (way t.mask g F) false) s) :
    ∀ (f c : Nat) (from_ : Option SetTable.Probe), from_.getD (t.probeStart g) = nth t.mask (begin_ t.mask g) c → c ≤ F → F - c < f →
      (∀ (i : Nat) p, L[i]? = some p → p.2 = k → ∃ d, c ≤ d ∧ d < F ∧ t.place.toList[i]? = some (way t.mask g d)) → wpAny (model P w) A (setSearchFrom a (.ref x) g true f from_) Q E s
  | 0, _, _, _, _, hf, _ => absurd hf (Nat.not_lt_zero _)
  | f + 1, c, from_, e0, hc, hf, still => by
    obtain ⟨o, ho, hex, hd⟩ := S.obj
    rw [setSearchFrom_succ]
    refine wpAny_bind (wpAny_setState_of ho hd S.fits ?_)
    dsimp only
    refine wp_if_neg S.stays ?_
    try refine wpAny_bind (wpAny_pure ?_)
    have on : ∀ d, nth t.mask (nth t.mask (begin_ t.mask g) c) d = nth t.mask (begin_ t.mask g) (c + d) := fun d => (nth_add t.mask c _ d).symm
    have onj : ∀ d, (nth t.mask (nth t.mask (begin_ t.mask g) c) d).j = way t.mask g (c + d) := fun d => congrArg SetTable.Probe.j (on d)
    have hashes : ∀ (i : Nat) p, L[i]? = some p → (es[i]?.map (·.1)).getD 0 = kd.hk.hash p.2 := fun i p hp => by rw [S.ent hp]; rfl
    rcases go_spec t S.tab.up S.tab.nod (fun i => (es[i]?.map (·.1)).getD 0) g (10 * SetTable.turns t.mask) (F - c) _ (nth_dummy t.mask c (begin_ t.mask g) rfl) (by omega) (fun d hd' => by rw [onj]; exact full _ (by omega)) (by rw [onj, show c + (F - c) = F by omega]; exact free)
      with ⟨d, i, d1, d2, d3, d4, d5⟩ | ⟨d4, d5⟩
    · -- one of this hash
      have pr : t.probe (fun i => (es[i]?.map (·.1)).getD 0) g (from_.getD (t.probeStart g)) = some (.candidate (way t.mask g (c + d)) i (nth t.mask (begin_ t.mask g) (c + (d + 1)))) := by
        rw [e0, ← onj, ← on]
        exact d5
      rw [pr]
      dsimp only
      rw [onj] at d2
      have il : i < L.length := by
        have h1 : i < t.place.toList.length := (List.getElem?_eq_some_iff.mp d2).1
        rwa [S.tab.plen, List.length_map] at h1
      obtain ⟨p, hp⟩ : ∃ p, L[i]? = some p := ⟨_, List.getElem?_eq_getElem il⟩
      have pm : p ∈ L := List.mem_of_getElem? hp
      have sl : t.slot (way t.mask g (c + d)) = .live i := slot_live S.tab.up d2
      have onward : wpAny (model P w) A (searchRest a (.ref x) g true f es t (way t.mask g (c + d)) i (nth t.mask (begin_ t.mask g) (c + (d + 1)))) Q E s := by
        unfold searchRest
        rw [S.ent hp]
        dsimp only
        refine wpAny_bind (wpAny_holding (kd.hk.eqBool hr (S.are p pm) hx ?_))
        refine wpAny_bind (wpAny_setState_of ho hd S.fits ?_)
        dsimp only
        by_cases same : p.2 = k
        · exact wp_if_pos (by simp [same]) (wpAny_pure (yes (List.mem_map.mpr ⟨p, pm, same⟩)))
        · refine wp_if_neg (by simp [same]) ?_
          try refine wpAny_bind (wpAny_pure ?_)
          rw [sameMem]
          dsimp only
          simp only [if_true, sl, S.ent hp]
          refine wpAny_bind (wpAny_isSame_ref_self (wpAny_bind (wpAny_pure ?_)))
          simp only [if_true]
          refine wp_if_neg (by simp [same]) (seek S hg hx hr hF free full yes no f (c + (d + 1)) _ rfl (by omega) (by omega) fun j q hq hk => ?_)
          obtain ⟨b, b1, b2, b3⟩ := still j q hq hk
          refine ⟨b, ?_, b2, b3⟩
          apply Classical.byContradiction
          intro lt
          rcases Nat.lt_or_ge b (c + d) with z | z
          · refine d4 (b - c) j (by omega) (by rw [onj, show c + (b - c) = b by omega]; exact b3) ?_
            exact (hashes j q hq).trans (by rw [hk, hg])
          · obtain rfl : b = c + d := by omega
            have s2 := slot_live S.tab.up b3
            rw [sl] at s2
            cases s2
            rw [hp] at hq
            cases hq
            exact same hk
      by_cases hl : t.led = true
      · refine wp_if_neg (by simp [hl]) ?_
        try refine wpAny_bind (wpAny_pure ?_)
        exact onward
      · refine wp_if_pos (by simp [hl]) (wpAny_bind (seen_none hx (fun y hy => ?_) ?_))
        · obtain ⟨e, he, ee⟩ := List.mem_map.mp hy
          have h1 : e ∈ es ∧ e.1 = g := by simpa using he
          have h2 : e ∈ es.toList := by simpa using h1.1
          rw [S.ens] at h2
          obtain ⟨q, hq, rfl⟩ := List.mem_map.mp h2
          exact ⟨q.2, q.1, ee.symm, S.are q hq⟩
        · refine wp_if_neg (by decide) ?_
          try refine wpAny_bind (wpAny_pure ?_)
          exact onward
    · -- an empty place
      have pr : t.probe (fun i => (es[i]?.map (·.1)).getD 0) g (from_.getD (t.probeStart g)) = some (.empty (way t.mask g F) none) := by
        have : way t.mask g F = (nth t.mask (nth t.mask (begin_ t.mask g) c) (F - c)).j := by rw [onj, show c + (F - c) = F by omega]
        rw [e0, this]
        exact d5
      rw [pr]
      dsimp only
      refine wpAny_pure (no fun hm => ?_)
      obtain ⟨q, hq, hk⟩ := List.mem_map.mp hm
      obtain ⟨j, hj⟩ := List.mem_iff_getElem?.mp hq
      obtain ⟨b, b1, b2, b3⟩ := still j q hj hk
      exact d4 (b - c) j (by omega) (by rw [onj, show c + (b - c) = b by omega]; exact b3) ((hashes j q hj).trans (by rw [hk, hg]))
theorem sought (S : SetB kd s.heap a L es ep t) {x : Addr} {k : K} {g : Int} (hg : kd.hk.hash k = g) (hx : kd.hk.is s.heap k x) (hr : kd.hk.room A) {Q : SetFound → Shared → Prop} (yes : k ∈ L.map (·.2) → Q (.there none) s)
    (no : ∀ F, k ∉ L.map (·.2) → way t.mask g F ∉ t.place.toList → (∀ c, c < F → way t.mask g c ∈ t.place.toList) → Q (.free (way t.mask g F) false) s) : wpAny (model P w) A (setSearch a (.ref x) g true) Q E s := by
  have gap := S.gap
  obtain ⟨F, h1, h2, h3⟩ := S.tab.first (by rw [List.length_map]; omega) g
  have ml := S.tab.pow.le
  have big : F < 100000 := by
    unfold SetTable.turns at h1
    omega
  unfold setSearch
  refine seek S hg hx hr h1 h2 h3 yes (fun n => no F n h2 h3) 100000 0 none rfl (Nat.zero_le _) (by omega) fun i p hp hk => ?_
  have il : i < t.place.toList.length := by
    rw [S.tab.plen, List.length_map]
    exact (List.getElem?_eq_some_iff.mp hp).1
  obtain ⟨d, d1, d2⟩ := S.tab.ahead h2 (h := g) (i := i) (by rw [List.getElem?_map, hp, ← hg, ← hk]; rfl) (List.getElem?_eq_getElem il)
  exact ⟨d, Nat.zero_le _, d1, by rw [d2, List.getElem?_eq_getElem il]⟩
/-- a thing isn't the set -/
theorem is_but {h h' : Heap} {k : K} {b : Addr} {o : Obj} (hb : kd.hk.is h k b) (ho : h.get? a = some o) (hx : o.ExactSet) (hs : Heap.SameBut a h h') : kd.hk.is h' k b := by
  refine kd.keep hb fun c u e ec => ?_
  have ne : c ≠ a := by
    rintro rfl
    rw [ho] at e
    cases e
    have : Value.type "set" = .type "tuple" := hx.1.symm.trans ec
    injection this with z
    exact absurd z (by decide)
  exact (hs.2 c ne).trans e
theorem ents_put (L : List (Addr × K)) (p : Nat) (x : Addr × K) : ents kd (L.take p ++ x :: L.drop p) = (ents kd L).take p ++ (kd.hk.hash x.2, Value.ref x.1) :: (ents kd L).drop p := by
  unfold ents
  rw [List.map_append, List.map_cons, List.map_take, List.map_drop]
/-- the entries in another order -/
theorem ents_order (L : List (Addr × K)) (es : Array (Int × Value)) (order : Array Nat) (e : es.toList = ents kd L) (hp : order.toList.Perm (List.range L.length)) :
    ∃ L2, (order.filterMap (es[·]?)).toList = ents kd L2 ∧ L2.Perm L ∧ (L2.map fun p => kd.hk.hash p.2) = order.toList.map fun i => (es.map (·.1)).getD i 0 := by
  have sz := ents_len e
  have at_ : ∀ i (h : i < L.length), es[i]? = some (kd.hk.hash (L[i]).2, Value.ref (L[i]).1) := fun i h => by
    rw [← Array.getElem?_toList, e]
    unfold ents
    rw [List.getElem?_map, List.getElem?_eq_getElem h]
    rfl
  have key : ∀ l : List Nat, (∀ i ∈ l, i < L.length) → ∃ L2 : List (Addr × K), l.filterMap (fun i => es[i]?) = ents kd L2 ∧ L2 = l.filterMap (fun i => L[i]?) ∧ (L2.map fun p => kd.hk.hash p.2) = l.map fun i => (es.map (·.1)).getD i 0 := by
    intro l
    induction l with
    | nil => exact fun _ => ⟨[], rfl, rfl, rfl⟩
    | cons i l ih =>
      intro hl
      have hi := hl i List.mem_cons_self
      obtain ⟨L2, e1, e2, e3⟩ := ih fun j hj => hl j (List.mem_cons_of_mem _ hj)
      refine ⟨L[i] :: L2, by rw [List.filterMap_cons_some (at_ i hi), e1]; rfl, by rw [List.filterMap_cons_some (List.getElem?_eq_getElem hi), e2], ?_⟩
      rw [List.map_cons, List.map_cons, e3]
      congr 1
      have : (es.map (·.1))[i]? = some (kd.hk.hash (L[i]).2) := by rw [Array.getElem?_map, at_ i hi]; rfl
      simp [Array.getD_eq_getD_getElem?, this]
  obtain ⟨L2, e1, e2, e3⟩ := key order.toList fun i hi => List.mem_range.mp (hp.mem_iff.mp hi)
  have whole : ∀ n, n ≤ L.length → (List.range n).filterMap (fun i => L[i]?) = L.take n := by
    intro n
    induction n with
    | zero => exact fun _ => rfl
    | succ n ih =>
      intro hn
      rw [List.range_succ, List.filterMap_append, ih (Nat.le_of_lt hn), List.take_succ, List.getElem?_eq_getElem hn, List.filterMap_cons_some (List.getElem?_eq_getElem hn)]
      rfl
  refine ⟨L2, by simpa using e1, ?_, e3⟩
  have pm := hp.filterMap fun i => L[i]?
  rwa [whole _ (Nat.le_refl _), List.take_length, ← e2] at pm
/-- a table too full, laid anew -/
theorem relay {o : Obj} (ho : s.heap.get? a = some o) (hex : o.ExactSet) (hd : o.data = .set es ep t) (ee : es.toList = ents kd L) (T : Tab t (L.map fun p => kd.hk.hash p.2)) (ml : L.length ≤ t.mask) (one : (L.map (·.2)).Nodup)
    (are : ∀ p ∈ L, kd.hk.is s.heap p.2 p.1) (pl : t.plain = true) (ld : w.params.followText "set-order" = true ∨ t.led = true) (low : L.length < 2000) {wanted M : Nat} (hw : SetTable.sizeAbove wanted - 1 = M) (hM : PowM M)
    (hs : SetTable.sizeAbove wanted ≤ 8192) (gap : L.length * 5 < M * 3) {Q : Unit → Shared → Prop} (q : ∀ h' L' es' ep' t', Heap.SameBut a s.heap h' → SetB kd h' a L' es' ep' t' → L'.Perm L → Q () { s with heap := h' }) :
    wpAny (model P w) A (setRelay a wanted) Q E s := by
  have sz := ents_len ee
  obtain ⟨t2, order, e, hp, T2, em, el, ep2⟩ := laid_anew t (hs := es.map (·.1)) (wanted := wanted) hw hM (by rw [Array.size_map, sz]; omega)
  rw [Array.size_map, sz] at hp
  obtain ⟨L2, r1, r2, r3⟩ := ents_order L es order ee hp
  rw [← r3] at T2
  have sz2 : (order.filterMap (es[·]?)).size = es.size := by rw [ents_len r1, r2.length_eq, sz]
  have w8 : (8192 : Nat) ≤ sizeLine := by rw [sizeLine_eq]; omega
  rw [setRelay_eq]
  refine wpAny_bind (wpAny_setState_of ho hd (fits_of T (by rw [List.length_map, sz]) (by rw [sz]; exact ml)) ?_)
  dsimp only
  refine wp_if_neg (by omega) ?_
  try refine wpAny_bind (wpAny_pure ?_)
  rw [e]
  dsimp only
  refine wpAny_bind (wp_if_neg (by rw [sz2]; simp) ?_)
  try refine wpAny_bind (wpAny_pure ?_)
  refine wpAny_pure ?_
  dsimp only
  have sb : Heap.SameBut a s.heap (s.heap.update a (Obj.putSet (order.filterMap (es[·]?)) t2)) := Heap.SameBut.update ..
  exact wpAny_storeSet_of ho hd (q _ L2 _ (ep + 1) t2 sb ⟨⟨_, store_at ho hd, hex, rfl⟩, r1, T2, (r2.map (·.2)).nodup_iff.mpr one, fun p hpm => is_but (are p (r2.mem_iff.mp hpm)) ho hex sb, ep2.trans pl, by rw [el]; exact ld, by rw [r2.length_eq, em]; exact gap,
    by rw [r2.length_eq]; exact low⟩ r2) (by rw [sz2, sz]; omega)
/-- one put in -/
theorem put_in (S : SetB kd s.heap a L es ep t) {x : Addr} {k : K} (hx : kd.hk.is s.heap k x) (hr : kd.hk.room A) (hl : L.length + 1 < 2000) {Q : Bool → Shared → Prop}
    (q : ∀ b h' L' es' ep' t', Heap.SameBut a s.heap h' → SetB kd h' a L' es' ep' t' → (k ∈ L.map (·.2) → L' = L) → (k ∉ L.map (·.2) → L'.Perm ((x, k) :: L)) → Q b { s with heap := h' }) :
    wpAny (model P w) A (setAddHashed a (.ref x) (kd.hk.hash k)) Q E s := by
  obtain ⟨o, ho, hex, hd⟩ := S.obj
  have sz := S.size
  have gap := S.gap
  unfold setAddHashed
  refine wpAny_holding ?_
  rw [show (100000 : Nat) = 99999 + 1 from rfl, setAddHashedIn_succ]
  refine wpAny_bind (wpAny_setState_of ho hd S.fits ?_)
  dsimp only
  refine wp_if_neg (by simp [byScan, Value.scannable]) ?_
  try refine wpAny_bind (wpAny_pure ?_)
  refine wpAny_bind (sought S rfl hx hr (fun hm => ?_) fun F hm free full => ?_)
  · exact wpAny_pure (q false s.heap L es ep t (Heap.SameBut.refl a s.heap) S (fun _ => rfl) fun z => absurd hm z)
  · dsimp only
    refine wpAny_bind (wpAny_setState_of ho hd S.fits ?_)
    dsimp only
    obtain ⟨p, hp⟩ : ∃ p, p = SetTable.below t.place (way t.mask (kd.hk.hash k) F) := ⟨_, rfl⟩
    obtain ⟨pl, T1, fill⟩ := S.tab.put rfl hp free full
    have p1 : (t.put (way t.mask (kd.hk.hash k) F)).1.plain = true := S.pln
    have l1 : (t.put (way t.mask (kd.hk.hash k) F)).1.led = t.led := rfl
    have m1 : (t.put (way t.mask (kd.hk.hash k) F)).1.mask = t.mask := rfl
    have q1 : (t.put (way t.mask (kd.hk.hash k) F)).2 = p := hp.symm
    generalize t.put (way t.mask (kd.hk.hash k) F) = tp at T1 fill p1 l1 m1 q1 ⊢
    obtain ⟨t1, p'⟩ := tp
    cases (show p' = p from q1)
    dsimp only at T1 fill p1 l1 m1 ⊢
    first
      | (refine wpAny_bind ?_; refine wp_if_pos p1 ?_; refine kd.byv hx ?_)
      | refine wp_if_pos p1 (wpAny_bind (kd.byv hx ?_))
    simp only [if_true]
    have ee : (SetTable.insertAt es p (kd.hk.hash k, Value.ref x)).toList = ents kd (L.take p ++ (x, k) :: L.drop p) := by rw [SetTable.toList_insertAt, ents_put, S.ens]
    have pm := put_perm L p (x, k)
    have len : (L.take p ++ (x, k) :: L.drop p).length = L.length + 1 := pm.length_eq
    have T2 : Tab t1 ((L.take p ++ (x, k) :: L.drop p).map fun p => kd.hk.hash p.2) := by
      rw [List.map_append, List.map_cons, List.map_take, List.map_drop]
      exact T1
    have one : ((L.take p ++ (x, k) :: L.drop p).map (·.2)).Nodup := (pm.map (·.2)).nodup_iff.mpr (List.nodup_cons.mpr ⟨hm, S.one⟩)
    generalize L.take p ++ (x, k) :: L.drop p = L1 at ee pm len T2 one
    generalize SetTable.insertAt es p (kd.hk.hash k, Value.ref x) = es1 at ee ⊢
    have s1 := ents_len ee
    refine wpAny_bind (wpAny_storeSet_of ho hd ?_ (by rw [s1, len, sizeLine_eq]; omega))
    have sb : Heap.SameBut a s.heap (s.heap.update a (Obj.putSet es1 t1)) := Heap.SameBut.update ..
    have ho1 := store_at (es' := es1) (t' := t1) ho hd
    generalize s.heap.update a (Obj.putSet es1 t1) = h1 at sb ho1 ⊢
    have are : ∀ p ∈ L1, kd.hk.is h1 p.2 p.1 := fun p hp => by
      rcases List.mem_cons.mp (pm.mem_iff.mp hp) with rfl | hp
      · exact is_but hx ho hex sb
      · exact is_but (S.are p hp) ho hex sb
    have ld : w.params.followText "set-order" = true ∨ t1.led = true := by rw [l1]; exact S.ldg
    have fl : t1.tooFull = decide ((L.length + 1) * 5 ≥ t.mask * 3) := by
      unfold SetTable.tooFull
      rw [fill, List.length_map, m1]
    by_cases hf : t1.tooFull = true
    · first
        | (refine wpAny_bind ?_; refine wp_if_pos (by simp [hf]) ?_)
        | (refine wp_if_pos (by simp [hf]) ?_; refine wpAny_bind ?_)
      rw [fl, decide_eq_true_eq] at hf
      rw [sz]
      obtain ⟨M, n1, n2, n3, n4⟩ := next_mask (u := L.length + 1) hl S.tab.pow (by omega) (by omega)
      have ml := S.tab.pow
      have m7 : 7 ≤ t.mask := by
        obtain ⟨n, h3, _, e⟩ := ml
        have := Nat.pow_le_pow_right (n := 2) (by decide) h3
        omega
      exact relay (s := { s with heap := h1 }) ho1 hex rfl ee T2 (by rw [len, m1]; omega) one are p1 ld (by rw [len]; exact hl) n1 n2 n3 (by rw [len]; exact n4) fun h2 L2 es2 ep2 t2 sb2 S2 pm2 =>
        wpAny_pure (q true h2 L2 es2 ep2 t2 (sb.trans sb2) S2 (fun z => absurd z hm) fun _ => pm2.trans pm)
    · first
        | refine wp_if_neg (by simp [hf]) ?_
        | (refine wpAny_bind ?_; refine wp_if_neg (by simp [hf]) ?_; refine wpAny_pure ?_)
      rw [fl, decide_eq_true_eq] at hf
      exact wpAny_pure (q true h1 L1 es1 (ep + 1) t1 sb ⟨⟨_, ho1, hex, rfl⟩, ee, T2, one, are, p1, ld, by rw [len, m1]; omega, by rw [len]; exact hl⟩ (fun z => absurd z hm) fun _ => pm)
theorem SetB.stay {h h' : Heap} (S : SetB kd h a L es ep t) (k : ∀ b o, h.get? b = some o → h'.get? b = some o) : SetB kd h' a L es ep t := by
  obtain ⟨o, ho, r⟩ := S.obj
  exact ⟨⟨o, k a o ho, r⟩, S.ens, S.tab, S.one, fun p hp => kd.keep (S.are p hp) fun b u e _ => k b u e, S.pln, S.ldg, S.gap, S.low⟩
/-- a new set -/
theorem set_new {h : Heap} (ho : h.get? a = some { cls := .type "set", dict := none, data := .set #[] 0 (.fresh 0 0 (!w.params.followText "set-order")) }) : SetB kd h a [] #[] 0 (.fresh 0 0 (!w.params.followText "set-order")) where
  obj := ⟨_, ho, ⟨rfl, rfl, rfl⟩, rfl⟩
  ens := rfl
  tab := ⟨List.Pairwise.nil, rfl, rfl, ⟨3, by decide, by decide, rfl⟩, fun x hx => (by cases hx), fun i h j hi => (by simp at hi)⟩
  one := List.nodup_nil
  are := fun p hp => (by cases hp)
  pln := rfl
  ldg := by
    show _ ∨ (!w.params.followText "set-order") = true
    cases w.params.followText "set-order" <;> simp
  gap := by show 0 * 5 < 7 * 3; decide
  low := by show 0 < 2000; decide
end
end TBS

set_option maxHeartbeats 3200000
/-! set(xs), xs a list of fewer than two thousand things of a kind. -/
namespace TBU
open PySem PySem.Spec L2 PyProof.Rows TBA TBS
section
variable {K : Type}
/-- what was got of the first i things -/
structure Had (ks : List (Addr × K)) (i : Nat) (L : List (Addr × K)) : Prop where
  from_ : ∀ p ∈ L, p ∈ ks.take i
  each : ∀ p ∈ ks.take i, p.2 ∈ L.map (·.2)
  many : L.length ≤ i
theorem Had.step {ks L L' : List (Addr × K)} {i : Nat} {x : Addr × K} (g : Had ks i L) (h : ks[i]? = some x) (old : x.2 ∈ L.map (·.2) → L' = L) (new : x.2 ∉ L.map (·.2) → L'.Perm (x :: L)) : Had ks (i + 1) L' := by
  have e := take_next h
  by_cases c : x.2 ∈ L.map (·.2)
  · rw [old c]
    refine ⟨fun p hp => by rw [e]; exact List.mem_append_left _ (g.from_ p hp), fun p hp => ?_, Nat.le_succ_of_le g.many⟩
    rw [e] at hp
    rcases List.mem_append.mp hp with z | z
    · exact g.each p z
    · rw [List.mem_singleton.mp z]
      exact c
  · have pm := new c
    refine ⟨fun p hp => ?_, fun p hp => (pm.map (·.2)).mem_iff.mpr ?_, by rw [pm.length_eq]; exact Nat.succ_le_succ g.many⟩
    · rw [e]
      rcases List.mem_cons.mp (pm.mem_iff.mp hp) with z | z
      · exact List.mem_append_right _ (List.mem_singleton.mpr z)
      · exact List.mem_append_left _ (g.from_ p z)
    · rw [e] at hp
      rcases List.mem_append.mp hp with z | z
      · exact List.mem_cons_of_mem _ (g.each p z)
      · rw [List.mem_singleton.mp z]
        exact List.mem_cons_self
end
section
variable {P : Program} {w : World} {K : Type} [DecidableEq K] {kd : Kd P w K} {A : Around} {E : Value → Shared → Prop} {s : Shared}
/-- each of what is walked is put in -/
theorem put_all {I : Addr} {fp wr : List Addr} {G : Array GenState → Array GenState → Prop} {n : Nat} {Pv : Nat → Value → Prop} {St : Nat → Shared → Prop} {R : Result → Shared → Prop} (W : WalksS P w A.in1 I fp wr G n Pv St)
    (D : Addr) (hD : D ∉ fp) (ks : List (Addr × K)) (hn : n = ks.length) (low : ks.length < 2000) (val : ∀ i v, Pv i v → ∃ p, ks[i]? = some p ∧ v = .ref p.1) (h0 : Heap) (are : ∀ p ∈ ks, kd.hk.is h0 p.2 p.1) (nD : h0.get? D = none)
    (nw : ∀ b ∈ wr, h0.get? b = none) (hr : kd.hk.room A.in1) :
    ∀ (k i : Nat) (s : Shared), n - i = k → i ≤ n → St i s → (∀ b o, h0.get? b = some o → s.heap.get? b = some o) → (∃ L es ep t, SetB kd s.heap D L es ep t ∧ Had ks i L) →
      (∀ s' L es ep t, Moved (D :: wr) G s s' → SetB kd s'.heap D L es ep t → Had ks n L → (∀ b o, h0.get? b = some o → s'.heap.get? b = some o) → R (.ok (.ret .none)) s') →
      codeAny (model P w) A (.builtin "set.update.loop" ⟨[.ref D, .ref I], []⟩) R s := by
  have Dw : D ∉ wr := fun z => hD (W.sub _ z)
  have up : ∀ b ∈ wr, b ∈ D :: wr := fun b hb => List.mem_cons_of_mem _ hb
  have onM : ∀ {s s' : Shared}, Moved wr G s s' → (∀ b o, h0.get? b = some o → s.heap.get? b = some o) → ∀ b o, h0.get? b = some o → s'.heap.get? b = some o := fun m kp b o e => m.heap b o (fun hb => by rw [nw b hb] at e; cases e) (kp b o e)
  have setM : ∀ {s s' : Shared} {L : List (Addr × K)} {es ep t} {i : Nat}, Moved wr G s s' → (∀ b o, h0.get? b = some o → s.heap.get? b = some o) → SetB kd s.heap D L es ep t → Had ks i L → SetB kd s'.heap D L es ep t := by
    intro s s' L es ep t i m kp S g
    obtain ⟨o, ho, r⟩ := S.obj
    exact ⟨⟨o, m.heap D o Dw ho, r⟩, S.ens, S.tab, S.one, fun p hp => kd.keep (are p (List.mem_of_mem_take (g.from_ p hp))) fun b u e _ => onM m kp b u e, S.pln, S.ldg, S.gap, S.low⟩
  intro k
  induction k with
  | zero =>
    intro i s hk hi st kp ⟨L, es, ep, t, S, g⟩ q
    obtain rfl : i = n := by omega
    refine codeAny_builtin F.entry_set_update_loop ?_
    rw [Around.under_plainId F.plain_set_update_loop _]
    show wpAny _ A.in1 (pyNext (.ref I) >>= _) _ _ s
    refine wpAny_bind (W.done s _ _ st fun s2 m => ?_)
    show wpAny _ A.in1 (ret Value.none) _ _ s2
    exact wpAny_pure (q s2 L es ep t (m.mono up) (setM m kp S g) g (onM m kp))
  | succ k ih =>
    intro i s hk hi st kp ⟨L, es, ep, t, S, g⟩ q
    have lt : i < n := by omega
    refine codeAny_builtin F.entry_set_update_loop ?_
    rw [Around.under_plainId F.plain_set_update_loop _]
    show wpAny _ A.in1 (pyNext (.ref I) >>= _) _ _ s
    refine wpAny_bind (W.item i s _ _ lt st fun v s2 hP st2 m => ?_)
    obtain ⟨p, hp, rfl⟩ := val i v hP
    have kp2 := onM m kp
    have hx : kd.hk.is s2.heap p.2 p.1 := kd.keep (are p (List.mem_of_getElem? hp)) fun b u e _ => kp2 b u e
    show wpAny _ A.in1 (holding [Value.ref p.1] (setAdd D (.ref p.1)) >>= _) _ _ s2
    refine wpAny_bind (wpAny_holding ?_)
    unfold setAdd
    refine wpAny_holding (wpAny_bind (kd.hk.pyHash hr hx ?_))
    have S1 : SetB kd s2.heap D L es ep t := setM m kp S g
    refine put_in (kd := kd) (s := { s2 with toks := s2.toks + kd.hk.draws p.2 }) S1 hx hr (by have := g.many; omega) fun b h' L' es' ep' t' sb S2 c1 c2 => ?_
    have kp3 : ∀ b o, h0.get? b = some o → h'.get? b = some o := fun b o e => (sb.2 b (fun z => by rw [z, nD] at e; cases e)).trans (kp2 b o e)
    refine wpAny_pure ⟨plainId_quiet F.plain_set_update_loop _, ih (i + 1) _ (by omega) lt (W.frame _ s2 _ _ st2 (Nat.le_add_right _ _) fun b hb o e => ?_) kp3 ⟨L', es', ep', t', S2, g.step hp c1 c2⟩ fun s3 L2 es2 ep2 t2 m3 S3 g3 kp4 => ?_⟩
    · exact (sb.2 b (fun z : b = D => hD (z ▸ hb))).trans e
    · refine q s3 L2 es2 ep2 t2 (Moved.trans W.gtrans ((m.mono up).then_heap (Nat.le_add_right _ _) fun b o hb e => ?_) m3) S3 g3 kp4
      exact (sb.2 b (fun z : b = D => hb (z ▸ List.mem_cons_self))).trans e
abbrev newO (w : World) : Obj := { cls := .type "set", dict := none, data := .set #[] 0 (.fresh 0 0 (!w.params.followText "set-order")) }
set_option maxRecDepth 100000 in
/-- set(xs) -/
theorem set_of {l : Addr} {items : Array Value} (ks : List (Addr × K)) {Q : Value → Shared → Prop} (hh : A.handled = none) (hl : s.heap.IsList l items) (ei : items.toList = ks.map fun p => Value.ref p.1)
    (are : ∀ p ∈ ks, kd.hk.is s.heap p.2 p.1) (low : ks.length < 2000) (hu : A.units + 24 < cLine)
    (q : ∀ (h' : Heap) (tk : Nat) L es ep t, SetB kd h' s.heap.objs.size L es ep t → Had ks ks.length L → (∀ b o, s.heap.get? b = some o → h'.get? b = some o) → Q (.ref s.heap.objs.size) { s with heap := h', toks := tk }) :
    wpAny (model P w) A (call (.type "set") [.ref l]) Q E s := by
  have isz : items.size = ks.length := by
    have := congrArg List.length ei
    rwa [Array.length_toList, List.length_map] at this
  obtain ⟨c, tl, hmro⟩ := F.called_set.mro
  have hmade := F.called_set.made
  have hsub := F.called_set.sub
  refine wpAny_call (codeAny_of_tree ?_)
  show wpAny _ _ (callAny (.type "set") _) _ _ _
  refine wpAny_pure ⟨Code.quiet_builtin _ (by decide +kernel), codeAny_builtin F.entry_type_call ?_⟩
  rw [Around.under_plain (weight_type_call_type "set" [.ref l] []) rfl]
  have h1 := F.called_set.notType
  have h2 := F.called_set.canCreate
  have hct := F.typeCall_set_1 (.ref l)
  repeat (any_goals (first | assumption | wp_step))

  refine codeAny_mono (code_set_led1 (.ref l) (E := E) (Q₁ := fun obj s₁ => obj = .ref s.heap.objs.size ∧ s₁ = { s with heap := s.heap.push (newO w) }) ⟨rfl, rfl⟩) fun r s₁ hr => ?_
  cases r with
  | error e => exact hr
  | ok fl =>
    cases fl with
    | ret obj =>
      obtain ⟨rfl, rfl⟩ := hr
      have hS : (s.heap.push (newO w)).get? s.heap.objs.size = some (newO w) := Heap.get?_push_size _ rfl
      have hT : Shared.TypeIs { s with heap := s.heap.push (newO w) } (.ref s.heap.objs.size) "set" := ⟨_, hS, rfl⟩
      have hli := F.called_set.init.lookup
      have hbi := F.called_set.init.bind (.ref s.heap.objs.size)
      repeat (any_goals (first | assumption | wp_step))

      refine codeAny_mono (codeAny_call_builtin (R := wants (fun r s₂ => r = .none ∧ ∃ h' tk L es ep t, s₂ = { s with heap := h', toks := tk } ∧ SetB kd h' s.heap.objs.size L es ep t ∧ Had ks ks.length L ∧
          (∀ b o, s.heap.get? b = some o → h'.get? b = some o)) E) F.called_set.init.plain F.entry_set_init (check_set_init_1 hT ?_)) fun r₂ s₂ hr₂ => ?_
      · obtain ⟨⟨ocls, odict, odata, oslots⟩, hol, hcl, nl, hdl⟩ := hl
        simp only at hcl hdl
        subst hcl hdl
        have hol' : (s.heap.push (newO w)).get? l = some { cls := .type "list", dict := odict, data := .seq items nl, slots := oslots } := Heap.get?_push_of_some _ hol
        have hsls := F.sub_list_set
        have hslf := F.sub_list_frozenset
        have hne : (Value.type "list" == Value.type "dict") = false := by decide
        have hl1 : (s.heap.push (newO w)).IsList l items := ⟨_, hol', rfl, nl, rfl⟩
        unfold Builtin.«set.__init__» noKeywords Builtin.Frozenset.updateFrom
        generalize hPI : pyIter = PI
        wp_walk
        subst hPI

        refine wpAny_pyIter_list hl1 (wpAny_bind (wpAny_runValue ?_))
        have lS : l < s.heap.objs.size := Heap.lt_size hol
        have hh3 : A.in1.in1.in1.handled = none := by simp [hh]
        have z1 : (s.heap.push (newO w)).objs.size = s.heap.objs.size + 1 := Heap.size_push ..
        have neI : l ≠ (s.heap.push (newO w)).objs.size := by
          rw [z1]
          exact Nat.ne_of_lt (Nat.lt_succ_of_lt lS)
        have outf : s.heap.objs.size ∉ [(s.heap.push (newO w)).objs.size, l] := by
          rw [z1]
          simp only [List.mem_cons, List.not_mem_nil, or_false, not_or]
          exact ⟨Nat.ne_of_lt (Nat.lt_succ_self _), Nat.ne_of_gt lS⟩
        have val : ∀ (i : Nat) (v : Value), items[i]? = some v → ∃ p, ks[i]? = some p ∧ v = .ref p.1 := fun i v hv => by
          have z : items.toList[i]? = some v := by rw [Array.getElem?_toList]; exact hv
          rw [ei, List.getElem?_map] at z
          obtain ⟨p, e1, e2⟩ := Option.map_eq_some_iff.mp z
          exact ⟨p, e1, e2.symm⟩
        have none_of : ∀ b, s.heap.objs.size ≤ b → s.heap.get? b = none := fun b hb => by
          cases z : s.heap.get? b with
          | none => rfl
          | some o => exact absurd (Nat.lt_of_lt_of_le (Heap.lt_size z) hb) (Nat.lt_irrefl _)
        refine put_all (kd := kd) ((Walks.list hh3 _ l neI items).toS) s.heap.objs.size outf ks isz low val s.heap are (none_of _ (Nat.le_refl _)) (fun b hb => none_of b (by
            rw [List.mem_singleton.mp hb, z1]
            exact Nat.le_succ _)) (kd.rm _ (by show A.units + 1 + 1 + 1 + 16 < cLine; omega)) (items.size - 0) 0 _ (by omega) (Nat.zero_le _)
          ⟨⟨_, Heap.get?_push_size _ rfl, rfl, rfl⟩, (hl1.push _)⟩ (fun b o e => Heap.get?_push_of_some _ (Heap.get?_push_of_some _ e)) ?first ?last
        case first => exact ⟨[], #[], 0, _, set_new (Heap.get?_push_of_some _ hS), ⟨fun p h => (by cases h), fun p h => (by simp at h), Nat.le_refl _⟩⟩
        case last =>
          intro s' L es ep t hm S' g' kp
          obtain ⟨h', g2, d', tk', os'⟩ := s'
          cases (show g2 = s.gens from hm.gens)
          cases (show d' = s.drawn from hm.drawn)
          cases (show os' = s.os from hm.os)
          show wpAny _ _ _ _ _ _
          refine wpAny_pure ?_
          show wpAny _ _ (ret Value.none) _ _ _
          rw [isz] at g'
          exact wpAny_pure ⟨rfl, h', tk', L, es, ep, t, rfl, S', g', kp⟩

      · cases r₂ with
        | error e => exact hr₂
        | ok fl₂ =>
          cases fl₂ with
          | ret r =>
            obtain ⟨rfl, h', tk, L, es, ep, t, rfl, S', g', k'⟩ := hr₂
            repeat (any_goals (first | assumption | wp_step))
            exact q _ _ _ _ _ _ S' g' k'
          | _ => exact hr₂.elim
    | _ => exact hr.elim
end
end TBU

set_option maxHeartbeats 3200000
/-! Rules of our own: sets of fewer than two thousand things of a kind. -/
namespace TBH
open PySem L2 PyProof.Rows TB TBS TBU
/-- rows: tuples of whole numbers -/
def kdI (P : Program) (w : World) : Kd P w (List Int) where
  hk := TK P w
  rm := fun A h => (show A.units < cLine by omega)
  tup := fun ⟨o, _, _, ho, hc, _⟩ => ⟨o, ho, hc⟩
  keep := fun ⟨o, its, n, ho, hc, r⟩ k => ⟨o, its, n, k _ o ho hc, hc, r⟩
  ofc := fun h q => ofAClass_tup h q
  byv := fun h q => hashBy_tup h q
/-- the set at an address, without the things themselves -/
structure SetB0 {P : Program} {w : World} {κ : Type} [DecidableEq κ] (kd : Kd P w κ) (h : Heap) (a : Addr) (L : List (Addr × κ)) : Prop where
  ex : ∃ (es : Array (Int × Value)) (ep : Nat) (t : SetTable), (∃ o, h.get? a = some o ∧ o.ExactSet ∧ o.data = .set es ep t) ∧ es.toList = ents kd L ∧ TBA.Tab t (L.map fun p => kd.hk.hash p.2) ∧ (L.map (·.2)).Nodup ∧ t.plain = true ∧
    (w.params.followText "set-order" = true ∨ t.led = true) ∧ L.length * 5 < t.mask * 3 ∧ L.length < 2000
def SetKO {P : Program} {w : World} {κ : Type} [DecidableEq κ] (kd : Kd P w κ) (a : Addr) (L : List (Addr × κ)) : HO := .ext fun h => SetB0 kd h a L
section
variable {P : Program} {w : World} {κ : Type} [DecidableEq κ] {kd : Kd P w κ} {h : Heap} {a : Addr} {L : List (Addr × κ)}
theorem less {es : Array (Int × Value)} {ep : Nat} {t : SetTable} (R : SetB kd h a L es ep t) : SetB0 kd h a L := ⟨es, ep, t, R.obj, R.ens, R.tab, R.one, R.pln, R.ldg, R.gap, R.low⟩
theorem SetB0.whole (R : SetB0 kd h a L) (ht : ∀ p ∈ L, kd.hk.is h p.2 p.1) : ∃ es ep t, SetB kd h a L es ep t := by
  obtain ⟨es, ep, t, h1, h2, h3, h4, h5, h6, h7, h8⟩ := R.ex
  exact ⟨es, ep, t, h1, h2, h3, h4, ht, h5, h6, h7, h8⟩
theorem setKO_ok {H : Hp} (R : SetB0 kd h a L) : ObjOk P w H h a (SetKO kd a L) := by
  obtain ⟨es, ep, t, ⟨o, ho, r⟩, z⟩ := id R.ex
  refine ⟨R, ⟨o, ho⟩, fun h1 h2 p k => ?_⟩
  obtain ⟨es', ep', t', ⟨o', ho', r'⟩, z'⟩ := SetB0.ex p
  exact ⟨es', ep', t', ⟨o', k o' ho', r'⟩, z'⟩
end
/-- a kind as the hand layer sees it -/
structure KH (K : W.Frag) (P : Program) (w : World) (κ : Type) [DecidableEq κ] where
  kd : Kd P w κ
  at_ : Hp → κ → Addr → Prop
  ok : ∀ {X : Cx} {pins : List (Addr × Obj)} {σ : L2.St} {H : Hp} {s : Shared} {k : κ} {b : Addr}, X.K = K → X.prog = P → X.w = w → Inv X pins σ H s → at_ H k b → kd.hk.is s.heap k b
def khI (K : W.Frag) (P : Program) (w : World) : KH K P w (List Int) where
  kd := kdI P w
  at_ := fun H k b => SqT K H b (k.map V.int)
  ok := by
    intro X pins σ H s k b e1 e2 e3 I h
    subst e1 e2 e3
    exact I.isT h
theorem refs_mapG {κ : Type} : ∀ {ks : List (Addr × κ)} {us : List Value}, Vals (ks.map fun p => V.ref p.1) us → us = ks.map fun p => Value.ref p.1
  | [], _, .nil => rfl
  | p :: ks, _, .cons r t => by
    cases r
    rw [refs_mapG t]
    rfl
/-- set(xs) -/
def rSetK {K : W.Frag} {P : Program} {w : World} {κ : Type} [DecidableEq κ] (kh : KH K P w κ) : List V → Hp → VK → Prop := fun xs H Q => ∃ (l : Addr) (ks : List (Addr × κ)), xs = [V.ref l] ∧ SqL K H l (ks.map fun p => V.ref p.1) ∧ (∀ p ∈ ks, kh.at_ H p.2 p.1) ∧ ks.length < 2000 ∧
  ∀ a L, H a = none → (∀ p ∈ L, p ∈ ks) → (∀ p ∈ ks, p.2 ∈ L.map (·.2)) → (L.map (·.2)).Nodup → Q (.ref a) (upd H a (SetKO kh.kd a L))
theorem cr_setK {X : Cx} {κ : Type} [DecidableEq κ] (kh : KH X.K X.prog X.w κ) (hc : X.calm = true) (hu : X.A.units + 64 < cLine) : CallR X (.type "set") (rSetK kh) := by
  intro pins s σ H xs us Q I r h
  obtain ⟨l, ks, rfl, hl, hk, hf, q⟩ := h
  rw [Vals.ref1 r]
  obtain ⟨its, rv, pl, hz⟩ := I.list hl
  have hn : H s.heap.objs.size = none := HOk.fresh I.hok (Nat.le_refl _)
  refine set_of (kd := kh.kd) ks (I.ok.hd hc) pl.isList (by simpa using refs_mapG rv) (fun p hp => kh.ok rfl rfl rfl I (hk p hp)) hf (by omega) fun h' tk L es ep t R g k => ?_
  refine ⟨.ref s.heap.objs.size, upd H s.heap.objs.size (SetKO kh.kd s.heap.objs.size L), I.laid (t' := tk) k (Nat.le_refl _) (setKO_ok (less R)), rfl, q _ L hn (fun p hp => List.mem_of_mem_take (g.from_ p hp)) (fun p hp => g.each p (by rw [List.take_length]; exact hp)) R.one⟩
theorem sorted_rowsB {P : Program} {w : World} {A : Around} {E : Value → Shared → Prop} {s : Shared} {a : Addr} {L : List (Addr × List Int)} {es : Array (Int × Value)} {ep : Nat} {t : SetTable} {Q : Value → Shared → Prop} {d : Nat}
    (R : SetB (kdI P w) s.heap a L es ep t) (hh : A.handled = none) (hd : ∀ p ∈ L, p.2.length = d)
    (hQ : ∀ (s' : Shared) (p : Nat) (out : Array Value) (c : Nat) (L' : List (Addr × List Int)), (∀ b o, s.heap.get? b = some o → s'.heap.get? b = some o) → s'.gens = s.gens → s'.os = s.os → s.heap.objs.size ≤ p →
      s'.heap.get? p = some (seqObj "list" out c) → out.toList = L'.map (fun q => Value.ref q.1) → L'.Perm L → L'.Pairwise (fun q r => ltI r.2 q.2 = false) → Q (.ref p) s') :
    wpAny (model P w) A (call (.builtin "sorted") [.ref a]) Q E s := by
  obtain ⟨o, ho, hex, hdat⟩ := R.obj
  have hsz := R.size
  have hfew := R.low
  obtain ⟨k, hk⟩ := rowsV R.one R.are
  refine Calls.call_function_entry kind_sorted plain_sorted entry_sorted (args_sorted1 (.ref a)) ?_
  refine wpAny_bind (wpAny_pure (wpAny_bind (collect_set hh ⟨o, ho, ⟨hex.1, hdat⟩⟩ R.fits (Nat.lt_of_lt_of_le (by omega) (by decide : 2000 ≤ scanBound)) R.tab.up R.ldg fun s1 vs k1 hz g1 o1 pm => ?_)))
  have hes : es.toList.map (·.2) = L.map fun q => Value.ref q.1 := by
    rw [R.ens]
    unfold ents
    rw [List.map_map]
    rfl
  rw [hes] at pm
  have hvl : vs.length < 2000 := by
    rw [pm.length_eq, List.length_map]
    exact hfew
  refine wpAny_bind (wpAny_newList ?_)
  have hoL := Heap.get?_push_size s1.heap (o := seqObj "list" vs.toArray 0) rfl
  have tk : ∀ q ∈ L, TS.TupInts (s1.heap.push (seqObj "list" vs.toArray 0)) (.ref q.1) q.2 := fun q hq =>
    tupInts_of (isT_keep (R.are q hq) fun b u e => Heap.get?_push_of_some (seqObj "list" vs.toArray 0) (k1 b u e))
  have of_vs : ∀ v ∈ vs, ∃ q ∈ L, v = .ref q.1 := fun v hv => by
    obtain ⟨q, hq, e⟩ := List.mem_map.mp (pm.mem_iff.mp hv)
    exact ⟨q, hq, e.symm⟩
  have hkv : ∀ v ∈ vs, TS.TupInts (s1.heap.push (seqObj "list" vs.toArray 0)) v (k v) ∧ (k v).length = d := fun v hv => by
    obtain ⟨q, hq, rfl⟩ := of_vs v hv
    rw [hk q hq]
    exact ⟨tk q hq, hd q hq⟩
  refine wpAny_bind (wpAny_holding ?_)
  have ord : ∀ {l : List Value}, (∀ v ∈ l, ∃ q ∈ L, v = .ref q.1) → ∃ L1 : List (Addr × List Int), l = L1.map (fun q => Value.ref q.1) ∧ ∀ q ∈ L1, q ∈ L := by
    intro l
    induction l with
    | nil => exact fun _ => ⟨[], rfl, fun _ h => nomatch h⟩
    | cons v r ih =>
      intro hv
      obtain ⟨q, hq, e⟩ := hv v List.mem_cons_self
      obtain ⟨L1, e1, hs⟩ := ih fun u hu => hv u (List.mem_cons_of_mem _ hu)
      exact ⟨q :: L1, by rw [List.map_cons, e, e1], fun z hz => (List.mem_cons.mp hz).elim (fun e => e ▸ hq) (hs z)⟩
  have one : ∀ q ∈ L, ∀ r ∈ L, q.1 = r.1 → q = r := fun q hq r hr e => by
    have a1 := R.are q hq
    rw [e] at a1
    exact Prod.ext e (IsTupleKey.inj a1 (R.are r hr))
  have perm_of : ∀ {L1 : List (Addr × List Int)}, (∀ q ∈ L1, q ∈ L) → (L1.map fun q => Value.ref q.1).Perm (L.map fun q => Value.ref q.1) → L1.Perm L := by
    intro L1 hs p1
    have nL := nodup_of_map R.one
    have nref : (L.map fun q => Value.ref q.1).Nodup := List.pairwise_map.mpr (List.Pairwise.imp_of_mem (fun {q r} hq hr hne e => hne (one q hq r hr (Value.ref.inj e))) nL)
    have n1 : L1.Nodup := nodup_of_map ((List.Perm.nodup_iff p1).mpr nref)
    refine (List.perm_ext_iff_of_nodup n1 nL).mpr fun q => ⟨hs q, fun hq => ?_⟩
    obtain ⟨r, hr, e⟩ := List.mem_map.mp (p1.mem_iff.mpr (List.mem_map.mpr ⟨q, hq, rfl⟩))
    rw [← one r (hs r hr) q hq (Value.ref.inj e)]
    exact hr
  have cmp2 : ∀ {L1 : List (Addr × List Int)} {out : List Value}, out = L1.map (fun q => Value.ref q.1) → (∀ q ∈ L1, q ∈ L) → SrtO.Srtd (fun v u => ltI (k v) (k u)) out → L1.Pairwise fun q r => ltI r.2 q.2 = false := by
    intro L1 out e hs h
    rw [e] at h
    refine List.Pairwise.imp_of_mem (fun {q r} hq hr z => ?_) (List.pairwise_map.mp h)
    have z : ltI (k (.ref r.1)) (k (.ref q.1)) = false := z
    rwa [hk q (hs q hq), hk r (hs r hr)] at z
  refine wpAny_call_entry slot_list_sort ⟨_, hoL, rfl⟩ entry_list_sort ?_ (args_list_sort _)
  refine SrtO.list_sort_ord (ltI_swo k) hoL (Nat.le_trans (Nat.le_of_lt hvl) (by rw [sizeLine_eq]; decide)) (fun h2 => rows_sortable (by omega) hkv (fun v hv e => ?_) fun o e => ?_) fun out hs st => ?_
  · -- unlike rows of no values can't be two
    have d0 : d = 0 := by rw [← (hkv v hv).2, e]; rfl
    obtain ⟨L1, e1, h1⟩ := ord of_vs
    have pL := perm_of h1 (e1 ▸ pm)
    have nd1 : (L1.map (·.2)).Nodup := (List.Perm.nodup_iff (pL.map _)).mpr R.one
    rw [e1, List.length_map] at h2
    match L1, h2, nd1, h1 with
    | q :: r :: _, _, nd1, h1 =>
      rw [List.map_cons, List.map_cons, List.nodup_cons] at nd1
      have eq : q.2 = [] := List.length_eq_zero_iff.mp (by rw [hd q (h1 q List.mem_cons_self), d0])
      have er : r.2 = [] := List.length_eq_zero_iff.mp (by rw [hd r (h1 r (List.mem_cons_of_mem _ List.mem_cons_self)), d0])
      exact absurd (by rw [eq, er]; exact List.mem_cons_self) nd1.1
  · rw [hoL] at e
    cases e
    show Value.type "list" ≠ Value.type "tuple"
    decide +kernel
  · obtain ⟨L', e', hs'⟩ := ord (l := out) fun v hv => of_vs v (st.perm.mem_iff.mp hv)
    obtain ⟨c, hc⟩ := sortedHeap_at (out := out.toArray) hoL
    refine ⟨_, rfl, wpAny_pure ⟨_, rfl, ?_⟩⟩
    refine hQ _ s1.heap.objs.size out.toArray c L' (fun b u e => ?_) g1 o1 hz hc e' (perm_of hs' (e' ▸ st.perm.trans pm)) (cmp2 e' hs' hs)
    have hb := k1 b u e
    have hlt := Heap.lt_size hb
    show (sortedHeap (s1.heap.push (seqObj "list" vs.toArray 0)) s1.heap.objs.size vs out.toArray).get? b = some u
    rw [sortedHeap_old (Nat.ne_of_lt hlt) (by rw [Heap.size_push]; exact Nat.lt_succ_of_lt hlt)]
    exact Heap.get?_push_of_some _ hb
/-- sorted(rows), a set of rows -/
def rSortB (K : W.Frag) (P : Program) (w : World) : List V → Hp → VK → Prop := fun vs H Q => ∃ a L d, vs = [.ref a] ∧ H a = some (SetKO (kdI P w) a L) ∧ (∀ p ∈ L, SqT K H p.1 (p.2.map V.int)) ∧ (∀ p ∈ L, p.2.length = d) ∧
  ∀ (L' : List (Addr × List Int)) (p : Addr), L'.Perm L → (L'.map (·.2)).Nodup → L'.length < 2000 → L'.Pairwise (fun q r => ltI r.2 q.2 = false) → H p = none → Q (.ref p) (upd H p (.lst (L'.map fun q => V.ref q.1)))
theorem cr_sortB {X : Cx} (hc : X.calm = true) : CallR X (.builtin "sorted") (rSortB X.K X.prog X.w) := by
  intro pins s σ H vs us Q I r h
  obtain ⟨a, L, d, rfl, ha, hk, hd, q⟩ := h
  have R0 : SetB0 (kdI X.prog X.w) s.heap a L := (I.hok a _ ha).1
  obtain ⟨es, ep, t, R⟩ := R0.whole fun p hp => I.isT (hk p hp)
  rw [Vals.ref1 r]
  refine sorted_rowsB R (I.ok.hd hc) hd fun s' p out c L' k g o hp hg hout pm pw => ?_
  have hfew : L'.length < 2000 := by rw [pm.length_eq]; exact R.low
  have hn : H p = none := HOk.fresh I.hok hp
  have hv : Vals (L'.map fun q => V.ref q.1) out.toList := by rw [hout]; exact vals_of_refs L'
  have hlen : (L'.map fun q => V.ref q.1).length ≤ sizeLine := by rw [List.length_map, sizeLine_eq]; omega
  have J : Inv X pins σ (upd H p (.lst (L'.map fun q => V.ref q.1))) { heap := s'.heap, gens := s'.gens, drawn := s'.drawn, toks := s'.toks, os := s.os } := by
    refine Inv.call (ch := []) I (Un.laid k hp hn) (HOk.laid I.hok k hp ⟨hlen, _, c, hv, hg⟩) ?_ fun x z => nomatch z
    rw [g]
    exact I.bare
  have e : s' = { heap := s'.heap, gens := s'.gens, drawn := s'.drawn, toks := s'.toks, os := s.os } := by
    cases s'
    cases s
    cases o
    rfl
  rw [e]
  exact ⟨.ref p, _, J, rfl, q L' p pm ((List.Perm.nodup_iff (pm.map _)).mpr R.one) hfew pw hn⟩
/-! ### one put into a set -/
theorem add_K {P : Program} {w : World} {κ : Type} [DecidableEq κ] {kd : Kd P w κ} {A : Around} {E : Value → Shared → Prop} {s : Shared} {a : Addr} {L : List (Addr × κ)} {es : Array (Int × Value)} {ep : Nat} {t : SetTable} {x : Addr} {k : κ} {Q : Value → Shared → Prop}
    (R : SetB kd s.heap a L es ep t) (hx : kd.hk.is s.heap k x) (hu : A.units + 24 < cLine) (hl : L.length + 1 < 2000)
    (hQ : ∀ (h' : Heap) (tk : Nat) (L' : List (Addr × κ)) (es' : Array (Int × Value)) (ep' : Nat) (t' : SetTable), Heap.SameBut a s.heap h' → SetB kd h' a L' es' ep' t' →
      (k ∈ L.map (·.2) → L' = L) → (k ∉ L.map (·.2) → L'.Perm ((x, k) :: L)) → Q .none { heap := h', gens := s.gens, drawn := s.drawn, toks := tk, os := s.os }) :
    wpAny (model P w) A (call (.builtin "set.add") [.ref a, .ref x]) Q E s := by
  obtain ⟨o, ho, hex, hd⟩ := id R.obj
  have hr : kd.hk.room A.in1 := kd.rm _ (by show A.units + 1 + 16 < cLine; omega)
  refine wpAny_call_entry F.slot_set_add ⟨o, ho, hex.1⟩ F.entry_set_add ?_ (F.args_set_add_2 _ _)
  show wpAny _ _ ((do let y ← setAdd a (.ref x); ret .none : Sem Fin)) _ _ _
  refine wpAny_bind (wpAny_holding (wpAny_bind (kd.hk.pyHash hr hx ?_)))
  refine put_in (kd := kd) (s := { heap := s.heap, gens := s.gens, drawn := s.drawn, toks := s.toks + kd.hk.draws k, os := s.os }) R hx hr hl fun b h' L' es' ep' t' sb R' h1 h2 => ?_
  exact wpAny_pure ⟨_, rfl, hQ h' _ L' es' ep' t' sb R' h1 h2⟩
theorem addK_ok {X : Cx} {κ : Type} [DecidableEq κ] {K : W.Frag} {P : Program} {w : World} {kh : KH K P w κ} (e1 : X.K = K) (e2 : X.prog = P) (e3 : X.w = w) {pins : List (Addr × Obj)} {σ : L2.St} {H : Hp} {s : Shared} {E : Value → Shared → Prop} {D x : Addr} {L : List (Addr × κ)} {k : κ} {Q : Value → Shared → Prop} (hu : X.A.units + 24 < cLine) (I : Inv X pins σ H s)
    (hD : H D = some (SetKO kh.kd D L)) (hk : ∀ p ∈ L, kh.at_ H p.2 p.1) (hx : kh.at_ H k x) (room : L.length + 1 < 2000)
    (h : ∀ (s' : Shared) (L' : List (Addr × κ)), (k ∈ L.map (·.2) → L' = L) → (k ∉ L.map (·.2) → L'.Perm ((x, k) :: L)) → Inv X pins σ (upd H D (SetKO kh.kd D L')) s' → Q .none s') :
    wpAny (model X.prog X.w) X.A (call (.builtin "set.add") [.ref D, .ref x]) Q E s := by
  subst e2 e3
  have R0 : SetB0 kh.kd s.heap D L := (I.hok D _ hD).1
  obtain ⟨es, ep, t, R⟩ := R0.whole fun p hp => kh.ok e1 rfl rfl I (hk p hp)
  refine add_K R (kh.ok e1 rfl rfl I hx) hu room fun h' tk L' es' ep' t' sb R' h1 h2 => ?_
  refine h _ L' h1 h2 (Inv.write (e := D) I ?_ (.inl rfl) (fun b u hb hu => (sb.2 b hb).trans hu) ?_ (setKO_ok (less R')))
  · rw [hD]
    trivial
  · obtain ⟨o, ho, _⟩ := R'.obj
    exact ⟨o, ho⟩
/-! ### {row for .. in ..} -/
def tScK {K : W.Frag} {P : Program} {w : World} {κ : Type} [DecidableEq κ] (kh : KH K P w κ) (wi : TI) (g : TG) (tt : TT) (te : TE) (vs : List Nat) : TE := fun σ H Q => wi σ H fun J H1 => ∀ D, H1 D = none → ∃ Wt : Nat → Nat → Hp → Prop, (∃ m, Wt 0 m (upd H1 D (SetKO kh.kd D []))) ∧
  ∀ i m H, Wt i m H → (J.stop i H ∧ Q (.ref D) H) ∨ (J.go i H ∧ ∃ Nx : Hp → Prop, (∀ H', Nx H' → ∃ m', m' < m ∧ Wt (i + 1) m' H') ∧ ∀ x H', J.yld i H x H' → g x (wipe σ vs) H' fun σ2 H2 => wipe σ2 vs = wipe σ vs ∧
    tt σ2 H2 fun b H3 => if b = true then te σ2 H3 fun y H4 => ∃ (t : Addr) (k : κ) (L : List (Addr × κ)), y = .ref t ∧ kh.at_ H4 k t ∧ H4 D = some (SetKO kh.kd D L) ∧ (∀ p ∈ L, kh.at_ H4 p.2 p.1) ∧ L.length + 1 < 2000 ∧
      ∀ L' : List (Addr × κ), (k ∈ L.map (·.2) → L' = L) → (k ∉ L.map (·.2) → L'.Perm ((t, k) :: L)) → Nx (upd H4 D (SetKO kh.kd D L')) else Nx H3)
theorem sc_K {X : Cx} {κ : Type} [DecidableEq κ] (kh : KH X.K X.prog X.w κ) {pins : List (Addr × Obj)} {s : Shared} {σ : L2.St} {H : Hp} {Q : VK} {elt tg iter : Expr} {ifs : List Expr} {scope : Scope} {own : List (Str × Nat)} {pos pos' : Pos} {wi : TI} {g : TG} {tt : TT} {te : TE} {use : Option (Value → Sem Unit)} {Qf : Value → Shared → Prop}
    (hu : X.A.units + 24 < cLine) (hc : X.calm = true) (hN : X.N.Nodup) (I : L2.Inv X pins σ H s) (hi : PI X tg iter wi) (ok : BlkOk X.N X.env.scope scope own)
    (hg : ∀ (s : Shared) (H : Hp) (C : Addr) (cl : List (Str × Addr)) (fp : List Addr), PG (X.blk s H scope (compEnvC scope cl C X.env) fp) tg g)
    (ht : ∀ (s : Shared) (H : Hp) (C : Addr) (cl : List (Str × Addr)) (fp : List Addr), PTs (X.blk s H scope (compEnvC scope cl C X.env) fp) ifs tt)
    (he : ∀ (s : Shared) (H : Hp) (C : Addr) (cl : List (Str × Addr)) (fp : List Addr), PE (X.blk s H scope (compEnvC scope cl C X.env) fp) elt te)
    (hs : ∀ x : Value, foldedSetIterable iter X.env x = pure x) (h : tScK kh wi g tt te (own.map (·.2)) σ H Q)
    (hRR : ∀ (D C : Addr) (s' : Shared) (m : Str → Option Value) (H' : Hp), L2.Inv X pins σ H' s' → Q (.ref D) H' → s'.heap.Ns C m → FpOk X pins H' C → compPost (model X.prog X.w) X.A X.xe use Qf (.ref D) C (.ok .next) s') :
    wpAny (model X.prog X.w) X.A (comprehension (elt.SetComp [⟨tg, iter, ifs, 0⟩] scope pos) scope X.env pos' (newSet (.type "set")) false (eval iter X.env) use) Qf X.xe s := by
  have hfree : ∀ y ∈ scope.names, y.2 = .free → ∃ c, List.lookup y.1 X.env.cells = some c := fun y hy e => (ok.free y hy e).elim (fun k => I.ok.has _ (.inl k)) fun k => I.ok.has _ (.inr k)
  refine wpAny_comprehension_free rfl hs (closure_ok hfree) ok.kind (fun y hy e => by rw [ok.uniq y hy, e]) ?_
  refine thn (hi.run pins s σ H _ I h) fun xv s1 hx => thn hx fun itv s2 h2 => ?_
  obtain ⟨it, fp, tn, J, H2, rfl, I2, T, st2, f2, q⟩ := h2
  refine PpSet.newSet_ok (newEnv_comp ?_)
  have hDn : H2 s2.heap.objs.size = none := HOk.fresh I2.hok (Nat.le_refl _)
  obtain ⟨Wt, ⟨m0, w0⟩, turn⟩ := q _ hDn
  have I3 : L2.Inv X pins σ (upd H2 s2.heap.objs.size (SetKO kh.kd s2.heap.objs.size [])) { heap := s2.heap.push { cls := .type "set", data := .set #[] 0 (SetTable.fresh 0 0 !X.w.params.followText "set-order") }, gens := s2.gens, drawn := s2.drawn, toks := s2.toks, os := s2.os } :=
    Inv.laid I2 (fun b o e => Heap.get?_push_of_some _ e) (Nat.le_refl _) (setKO_ok (less (set_new (Heap.get?_push_size _ rfl))))
  have sz : ∀ b ∈ fp, b < s2.heap.objs.size := fun b hb => by
    obtain ⟨o, e, _⟩ := T.obj 0 s2.heap st2 b hb
    exact Heap.lt_size e
  have k3 : ∀ (b : Addr) (o : Obj), s2.heap.get? b = some o → (s2.heap.push { cls := .type "set", data := .set #[] 0 (SetTable.fresh 0 0 !X.w.params.followText "set-order") }).get? b = some o := fun b o e => Heap.get?_push_of_some _ e
  have z3 : (s2.heap.push { cls := .type "set", data := .set #[] 0 (SetTable.fresh 0 0 !X.w.params.followText "set-order") }).objs.size = s2.heap.objs.size + 1 := Heap.size_push _ _
  generalize hs3 : ({ heap := s2.heap.push { cls := .type "set", data := .set #[] 0 (SetTable.fresh 0 0 !X.w.params.followText "set-order") }, gens := s2.gens, drawn := s2.drawn, toks := s2.toks, os := s2.os } : Shared) = s3 at I3 ⊢
  have k3' : ∀ (b : Addr) (o : Obj), s2.heap.get? b = some o → s3.heap.get? b = some o := by rw [← hs3]; exact k3
  have z3' : s3.heap.objs.size = s2.heap.objs.size + 1 := by rw [← hs3]; exact z3
  have f3 : ∀ b ∈ fp, FpOk X pins (upd H2 s2.heap.objs.size (SetKO kh.kd s2.heap.objs.size [])) b ∧ b < s3.heap.objs.size := fun b hb =>
    ⟨⟨by rw [upd_ne (Nat.ne_of_lt (sz b hb))]; exact (f2 b hb).1, (f2 b hb).2⟩, by rw [z3']; exact Nat.lt_succ_of_lt (sz b hb)⟩
  have st3 : tn 0 s3.heap := T.keep 0 _ _ st2 fun b _ o e => k3' b o e
  have I4 := block_start I3 ok hN f3
  have pg := hg s3 (upd H2 s2.heap.objs.size (SetKO kh.kd s2.heap.objs.size [])) s3.heap.objs.size (cellsFrom (s3.heap.objs.size + 1) scope.names (cloFrom X.env.cells scope.names [])) fp
  have pt := ht s3 (upd H2 s2.heap.objs.size (SetKO kh.kd s2.heap.objs.size [])) s3.heap.objs.size (cellsFrom (s3.heap.objs.size + 1) scope.names (cloFrom X.env.cells scope.names [])) fp
  have pe := he s3 (upd H2 s2.heap.objs.size (SetKO kh.kd s2.heap.objs.size [])) s3.heap.objs.size (cellsFrom (s3.heap.objs.size + 1) scope.names (cloFrom X.env.cells scope.names [])) fp
  show codeAny _ _ (Code.compStart _ 0 _ _ (compEnvC scope (cellsFrom (s3.heap.objs.size + 1) scope.names (cloFrom X.env.cells scope.names [])) s3.heap.objs.size X.env)) (compPost (model X.prog X.w) X.A X.xe use Qf (.ref s2.heap.objs.size) s3.heap.objs.size) _
  have cL : (compEnvC scope (cellsFrom (s3.heap.objs.size + 1) scope.names (cloFrom X.env.cells scope.names [])) s3.heap.objs.size X.env).locals = s3.heap.objs.size := rfl
  have hs4 : ∀ (b : Addr) (o : Obj), s3.heap.get? b = some o → (pushCells (s3.heap.push { cls := .type "dict", data := .dict #[] }) scope.names).get? b = some o := fun b o e => pushCells_keeps scope.names _ b o (Heap.get?_push_of_some _ e)
  generalize hce : compEnvC scope (cellsFrom (s3.heap.objs.size + 1) scope.names (cloFrom X.env.cells scope.names [])) s3.heap.objs.size X.env = ce at I4 pg pt pe cL ⊢
  have st4 : tn 0 (pushCells (s3.heap.push { cls := .type "dict", data := .dict #[] }) scope.names) := T.keep 0 _ _ st3 fun b _ o e => hs4 b o e
  have nfp : ∀ b ∈ fp, upd H2 s2.heap.objs.size (SetKO kh.kd s2.heap.objs.size []) b = none := fun b hb => (f3 b hb).1.1
  generalize upd H2 s2.heap.objs.size (SetKO kh.kd s2.heap.objs.size []) = H3 at w0 I3 f3 I4 pg pt pe nfp
  generalize hs4' : ({ heap := pushCells (s3.heap.push { cls := .type "dict", data := .dict #[] }) scope.names, gens := s3.gens, drawn := s3.drawn, toks := s3.toks, os := s3.os } : Shared) = s4 at I4 ⊢
  have st4' : tn 0 s4.heap := by rw [← hs4']; exact st4
  have stat : ∀ {σ' : L2.St} {H' : Hp} {s' : Shared}, L2.Inv (X.blk s3 H3 scope ce fp) [] σ' H' s' → (∀ b ∈ fp, H' b = none) → ∀ b ∈ fp, FpOk (X.blk s3 H3 scope ce fp) [] H' b := fun I' hn b hb =>
    ⟨hn b hb, (I'.ok.exf b hb).1, I'.ok.exfs b hb, .inl hb, (I'.ok.exf b hb).2, fun p hp => by simp [Cx.blk] at hp⟩
  have loop : codeAny (model X.prog X.w) X.A (Code.compLoop (elt.SetComp [⟨tg, iter, ifs, 0⟩] scope pos) 0 (.ref it) (.ref s2.heap.objs.size) ce) (compPost (model X.prog X.w) X.A X.xe use Qf (.ref s2.heap.objs.size) s3.heap.objs.size) s4 := by
    refine PpSet.compLoopS_any (fun n s' => ∃ i H', L2.Inv (X.blk s3 H3 scope ce fp) [] (wipe σ (own.map (·.2))) H' s' ∧ tn i s'.heap ∧ (∀ b ∈ fp, H' b = none) ∧ Wt i n H') ?_ m0 ⟨0, H3, I4, st4', nfp, w0⟩
    rintro n s5 ⟨i, H5, I5, st5, n5, w5⟩
    rcases turn i n H5 w5 with ⟨stop, qq⟩ | ⟨go, Nx, hNx, step⟩
    · refine thnF (T.done (X.blk s3 H3 scope ce fp) rfl rfl rfl hc i [] s5 _ H5 _ I5 (stat I5 n5) st5 stop) fun r s6 x => ?_
      obtain ⟨rfl, I6⟩ := x
      have I7 : L2.Inv X pins σ H5 s6 := Inv.call' (ch := fp) I3 I6.os I6.base I6.hok I6.bare fun b hb => ⟨(f3 b hb).1.2.2.2.1, (f3 b hb).1.2.1, (f3 b hb).1.2.2.2.2.1, (f3 b hb).1.2.2.2.2.2⟩
      have nC : H5 s3.heap.objs.size = none := by
        have z : H5 ce.locals = none := I6.free
        rwa [cL] at z
      obtain ⟨m, hn, _⟩ := I6.loc
      have hn : s6.heap.Ns ce.locals m := hn
      rw [cL] at hn
      exact hRR _ _ s6 m H5 I7 qq hn (I3.fpOk (Nat.le_refl _) nC)
    · refine thnF (T.item (X.blk s3 H3 scope ce fp) rfl rfl rfl hc i [] s5 _ H5 _ I5 (stat I5 n5) st5 go) fun r s6 x => ?_
      obtain ⟨u, rfl, h6⟩ := x
      refine thnF h6 fun _ s7 x => ?_
      obtain ⟨x, H7, I7, r7, y7, st7, n7⟩ := x
      have I7' := I7.pinned (stat I7 n7) (T.obj _ _ st7)
      refine thnF (pg.run _ s7 _ H7 x u _ I7' r7 (step x H7 y7)) fun _ s8 x => ?_
      obtain ⟨σ8, H8, I8, hw8, q8⟩ := x
      refine thnF (pt.run _ s8 σ8 H8 _ I8 q8) fun b s9 x => ?_
      obtain ⟨H9, I9, q9⟩ := x
      have fin : ∀ {s' : Shared} {H' : Hp}, L2.Inv (X.blk s3 H3 scope ce fp) ([] ++ pinsAt fp s7.heap) σ8 H' s' → Nx H' → ∃ m, m < n ∧ ∃ i H', L2.Inv (X.blk s3 H3 scope ce fp) [] (wipe σ (own.map (·.2))) H' s' ∧ tn i s'.heap ∧ (∀ b ∈ fp, H' b = none) ∧ Wt i m H' := by
        intro s' H' I' nx
        obtain ⟨m', hm, w'⟩ := hNx H' nx
        have pin' : ∀ b ∈ fp, ∀ o, s7.heap.get? b = some o → s'.heap.get? b = some o ∧ H' b = none := fun b hb o e => by
          have z := I'.pin (b, o) (List.mem_append_right _ (List.mem_append_right _ (mem_pinsAt hb e)))
          exact ⟨z.1, z.2.1⟩
        have hl : (wipe σ (own.map (·.2))).length = σ8.length := by
          rw [← hw8, wipe_length]
        refine ⟨m', hm, i + 1, H', I'.unpinned.weak hl (fun j v e => (wipe_some (hw8 ▸ e)).1), T.keep _ _ _ st7 (fun b hb o e => (pin' b hb o e).1), fun b hb => ?_, w'⟩
        obtain ⟨o, e, _⟩ := T.obj _ _ st7 b hb
        exact (pin' b hb o e).2
      cases b with
      | false =>
        rw [if_neg Bool.false_ne_true] at q9 ⊢
        exact fin I9 q9
      | true =>
        rw [if_pos rfl] at q9 ⊢
        refine thnF (pe.run _ s9 σ8 H9 _ I9 q9) fun z s10 x => ?_
        obtain ⟨y, H10, I10, ry, tt', k, L, rfl, hk, hD, hL, room, nx⟩ := x
        cases (show z = Value.ref tt' from ry)
        exact addK_ok (X := X.blk s3 H3 scope ce fp) (kh := kh) rfl rfl rfl hu I10 hD hL hk room fun s' L' h1 h2 I' => fin I' (nx L' h1 h2)
  exact PpSet.codeAny_compStart_set loop (T.self _ 0 _ _ _ st4' loop)
theorem pe_scK {X : Cx} {κ : Type} [DecidableEq κ] (kh : KH X.K X.prog X.w κ) {elt tg iter : Expr} {ifs : List Expr} {scope : Scope} {own : List (Str × Nat)} {pos : Pos} {wi : TI} {g : TG} {tt : TT} {te : TE} (hu : X.A.units + 24 < cLine) (hc : X.calm = true) (hN : X.N.Nodup) (hi : PI X tg iter wi) (ok : BlkOk X.N X.env.scope scope own)
    (hg : ∀ (s : Shared) (H : Hp) (C : Addr) (cl : List (Str × Addr)) (fp : List Addr), PG (X.blk s H scope (compEnvC scope cl C X.env) fp) tg g)
    (ht : ∀ (s : Shared) (H : Hp) (C : Addr) (cl : List (Str × Addr)) (fp : List Addr), PTs (X.blk s H scope (compEnvC scope cl C X.env) fp) ifs tt)
    (he : ∀ (s : Shared) (H : Hp) (C : Addr) (cl : List (Str × Addr)) (fp : List Addr), PE (X.blk s H scope (compEnvC scope cl C X.env) fp) elt te)
    (hs : ∀ x : Value, foldedSetIterable iter X.env x = pure x := by intros; rfl) : PE X (elt.SetComp [⟨tg, iter, ifs, 0⟩] scope pos) (tScK kh wi g tt te (own.map (·.2))) :=
  ⟨fun pins s σ H Q I h => by
    rw [PpSet.eval_SetComp]
    refine sc_K kh hu hc hN I hi ok hg ht he hs h fun D C s' m H' I' q hn f => ?_
    obtain ⟨f0, f1, f2, f3, f4, f5⟩ := f
    exact ⟨m, hn, fun h'' sb => ⟨.ref D, H', Inv.turned I' (fun b o hb e => (sb.2 b hb).trans e) f0 f1 f3 f4 f5, rfl, q⟩⟩⟩
/-- a set of rows, the things walked one by one -/
theorem sc_walkK {K : W.Frag} {P : Program} {w : World} {κ : Type} [DecidableEq κ] (kh : KH K P w κ) {J : It} {n : Nat} {G : Hp → Prop} {Y : Nat → Hp → V → Hp → Prop} (wk : Walk J n G Y) {tgt : TG} {cond : TT} {te : TE} {own : List Nat} {slots : L2.St} {Hs : Hp} {D : Addr} {Qf : Hp → Prop}
    (Pw : Nat → Hp → Prop) (start : Pw 0 (upd Hs D (SetKO kh.kd D []))) (good : ∀ i h, i ≤ n → Pw i h → G h)
    (turn : ∀ i v h h', i < n → Pw i h → Y i h v h' → tgt v (wipe slots own) h' fun s2 h2 => wipe s2 own = wipe slots own ∧ cond s2 h2 fun b h3 =>
      (if b = true then te s2 h3 fun y h4 => ∃ (t : Addr) (k : κ) (L : List (Addr × κ)), y = .ref t ∧ kh.at_ h4 k t ∧ h4 D = some (SetKO kh.kd D L) ∧ (∀ p ∈ L, kh.at_ h4 p.2 p.1) ∧ L.length + 1 < 2000 ∧
        ∀ L' : List (Addr × κ), (k ∈ L.map (·.2) → L' = L) → (k ∉ L.map (·.2) → L'.Perm ((t, k) :: L)) → Pw (i + 1) (upd h4 D (SetKO kh.kd D L')) else Pw (i + 1) h3))
    (fin : ∀ h, Pw n h → Qf h) :
    ∃ Wt : Nat → Nat → Hp → Prop, (∃ m, Wt 0 m (upd Hs D (SetKO kh.kd D []))) ∧ ∀ i m h, Wt i m h → (J.stop i h ∧ Qf h) ∨ (J.go i h ∧ ∃ Nx : Hp → Prop, (∀ h', Nx h' → ∃ m', m' < m ∧ Wt (i + 1) m' h') ∧
      ∀ v h', J.yld i h v h' → tgt v (wipe slots own) h' fun s2 h2 => wipe s2 own = wipe slots own ∧ cond s2 h2 fun b h3 =>
        if b = true then te s2 h3 fun y h4 => ∃ (t : Addr) (k : κ) (L : List (Addr × κ)), y = .ref t ∧ kh.at_ h4 k t ∧ h4 D = some (SetKO kh.kd D L) ∧ (∀ p ∈ L, kh.at_ h4 p.2 p.1) ∧ L.length + 1 < 2000 ∧
          ∀ L' : List (Addr × κ), (k ∈ L.map (·.2) → L' = L) → (k ∉ L.map (·.2) → L'.Perm ((t, k) :: L)) → Nx (upd h4 D (SetKO kh.kd D L')) else Nx h3) := by
  refine ⟨fun i m h => i ≤ n ∧ m = n - i ∧ Pw i h, ⟨n, Nat.zero_le _, by simp, start⟩, ?_⟩
  rintro i m h ⟨hi, rfl, pw⟩
  have g := good i h hi pw
  rcases Nat.lt_or_ge i n with hlt | hge
  · exact .inr ⟨wk.goes i h hlt g, Pw (i + 1), fun h' p' => ⟨n - (i + 1), by omega, hlt, rfl, p'⟩, fun v h' y => turn i v h h' hlt pw (wk.yields i h v h' hlt g y)⟩
  · obtain rfl : i = n := by omega
    exact .inl ⟨wk.stops h g, fin h pw⟩
end TBH

namespace T33
open PySem L2
def top (i : Nat) : Stmt := PySem.Challenge.pw_foldbough_k33_what_parts_hang_on.main.body.getD i (.Pass ⟨0, 0, 0, 0⟩)
abbrev s_norow : Stmt := inClass (top 4) 0
abbrev s_notree : Stmt := inClass (top 5) 0
abbrev s_nocol : Stmt := inClass (top 6) 0
abbrev s_nofit : Stmt := inClass (top 7) 0
abbrev s_is_whole : Stmt := top 11
abbrev s_is_name : Stmt := top 12
abbrev s_is_name_in : Stmt := top 13
abbrev s_are : Stmt := top 14
abbrev s_is_row : Stmt := top 15
abbrev s_along : Stmt := top 17
abbrev s_tinit : Stmt := inClass (top 19) 0
abbrev s_tcolumns : Stmt := inClass (top 19) 1
abbrev s_tpairs : Stmt := inClass (top 19) 2
abbrev s_tover : Stmt := inClass (top 19) 3
abbrev s_tabove : Stmt := inClass (top 19) 4
abbrev s_tbeneath : Stmt := inClass (top 19) 5
abbrev s_tchildren : Stmt := inClass (top 19) 6
abbrev s_tisabove : Stmt := inClass (top 19) 7
abbrev s_tcheck : Stmt := inClass (top 19) 8
abbrev s_tlen : Stmt := inClass (top 19) 9
abbrev s_teq : Stmt := inClass (top 19) 10
abbrev s_fits : Stmt := top 20
abbrev s_told : Stmt := top 21
abbrev s_is_pair : Stmt := top 22
abbrev s_in_order : Stmt := top 23
abbrev s_ccin : Stmt := top 25
abbrev s_chk : Stmt := top 25
abbrev s_apart : Stmt := top 26
abbrev s_keysof : Stmt := top 28
abbrev s_checkfit : Stmt := top 29
abbrev s_binit : Stmt := inClass (top 31) 0
abbrev s_bcolumns : Stmt := inClass (top 31) 1
abbrev s_brows : Stmt := inClass (top 31) 2
abbrev s_bhas : Stmt := inClass (top 31) 3
abbrev s_bof : Stmt := inClass (top 31) 6
abbrev s_bcheck : Stmt := inClass (top 31) 7
abbrev s_blen : Stmt := inClass (top 31) 8
abbrev s_beq : Stmt := inClass (top 31) 9
abbrev s_cc : Stmt := top 32
abbrev s_sorted : Stmt := top 33
abbrev s_places : Stmt := top 34
abbrev s_picked : Stmt := top 35
abbrev s_cell : Stmt := top 37
abbrev s_well : Stmt := top 38
abbrev s_draw : Stmt := top 39
abbrev s_one : Stmt := top 40
abbrev s_names : Stmt := top 41
abbrev s_pairs : Stmt := top 42
abbrev s_labove : Stmt := top 43
abbrev s_lbeneath : Stmt := top 44
abbrev s_values : Stmt := top 45
abbrev s_rows : Stmt := top 46
abbrev s_mixed : Stmt := top 47
abbrev s_tables : Stmt := top 48
abbrev s_plain : Stmt := top 49
abbrev s_made : Stmt := top 50
abbrev s_due : Stmt := top 51
abbrev s_exch : Stmt := top 52
abbrev s_law : Stmt := top 53
end T33

set_option maxHeartbeats 2000000
/-! Rules of our own: != of an instance whose class has an own __eq__ alone; == of one, whatever it says. -/
namespace TY
open PySem L2 PyProof.Rows TX
section
variable {prog : Program} {w : World} {A : Around} {E : Value → Shared → Prop} {s : Shared} {K : PySem.W.Frag} {x C f : Addr} {ox : Obj} {od : Option Obj} {b tb : Value}
theorem ifBound_B {M : Model} {id : String} {name : Str} {args : List Value} {Q : Option Value → Shared → Prop} (X : K.In s.heap) (I : PySem.W.InstAt s.heap x ox C od) (hs : PySem.W.findIn K (.ref C) name = some (some (.builtin id)))
    (hb : ∀ self, bindSpecial (.builtin id) self = pure (.builtin id, [self])) (h : wpAny M A (call (.builtin id) (.ref x :: args)) (fun v => Q (some v)) E s) : wpAny M A (callSpecialIfBound? (.ref x) name args) Q E s := by
  simp only [callSpecialIfBound?, bindSpecialIfBound?]
  refine wpAny_holding (wpAny_bind (wpAny_bind (wpAny_bind (I.type.here ((PySem.W.looks_findIn X hs).here ?_)))))
  refine wpAny_bind (wpAny_askSetting (wpAny_ite ?_))
  have fin : wpAny M A (call (.builtin id) ([.ref x] ++ args) >>= fun v => pure (some v)) Q E s := wpAny_bind (wpAny_mono h (fun v s' h' => wpAny_pure h') fun _ _ h' => h')
  rw [hb]
  split
  · exact wpAny_bind (wpAny_pure (wpAny_pure (by exact fin)))
  · exact wpAny_tryCatch (wpAny_bind (wpAny_pure (wpAny_pure (by exact fin))))
theorem objNe_own (hu : A.units < cLine) (X : K.In s.heap) (I : PySem.W.InstAt s.heap x ox C od) (hs : PySem.W.findIn K (.ref C) "__eq__" = some (some (.ref f))) (hf : PySem.W.isFn K (.ref f) = true) {Q : Fin → Shared → Prop}
    (h : wpAny (model prog w) A (call (.ref f) [.ref x, b]) (fun v s' => ∃ r, v = .bool r ∧ Q (.done (.ret (.bool (!r)))) s') E s) : wpAny (model prog w) A (Builtin.«object.__ne__» ⟨[.ref x, b], []⟩) Q E s := by
  have step : ∀ {Q' : Option Value → Shared → Prop}, (∀ r s', Q (.done (.ret (.bool (!r)))) s' → Q' (some (.bool r)) s') → wpAny (model prog w) A (callSpecialIfBound? (.ref x) "__eq__" [b]) Q' E s := fun hq =>
    PySem.W.ifBound_K X I hs hf (wpAny_mono h (fun v s' ⟨r, e, q⟩ => by subst e; exact hq r s' q) fun _ _ e => e)
  unfold Builtin.«object.__ne__»
  repeat (first | with_reducible refine wpAny_cRoomFor hu ?_ | with_reducible refine step (fun r s' q => ?_) | wp_step)
  exact q
theorem looks_obj {M : Model} (X : K.In s.heap) (I : PySem.W.InstAt s.heap x ox C od) (hm : PySem.W.mroIn K C (.type "object") = some true) : PySem.W.Looks M s.heap (isInstance (.ref x) (.type "object")) true := I.type.andThen (PySem.W.looks_mroIn X hm)
/-- x != b, the class having an own __eq__ alone -/
theorem ne_own {Q : Value → Shared → Prop} (hu : A.units + 1 < cLine) (X : K.In s.heap) (I : PySem.W.InstAt s.heap x ox C od) (hm : PySem.W.mroIn K C (.type "object") = some true) (hb : PySem.W.Looks (model prog w) s.heap (typeOf b) tb) (hn : PySem.W.notFirst K C tb = true)
    (hne : PySem.W.findIn K (.ref C) "__ne__" = some (some (.builtin "object.__ne__"))) (hs : PySem.W.findIn K (.ref C) "__eq__" = some (some (.ref f))) (hf : PySem.W.isFn K (.ref f) = true)
    (h : wpAny (model prog w) A.in1 (call (.ref f) [.ref x, b]) (fun v s' => ∃ r, v = .bool r ∧ Q (.bool (!r)) s') E s) : wpAny (model prog w) A (richCompare .NotEq (.ref x) b) Q E s := by
  have one : wpAny (model prog w) A (tryCompare (.ref x) (cmpInfo .NotEq).2.1 b) (fun r s' => ∃ v, r = some v ∧ Q v s') E s := by
    unfold tryCompare
    refine wpAny_bind (ifBound_B X I hne F.slot_tuple_iterator_ne.bind (wpAny_call (codeAny_call_builtin F.slot_tuple_iterator_ne.plain F.cmpEntry_ne ?_)))
    refine @PySem.W.check_slot (model prog w) _ _ s "object.__ne__" "object" "__ne__" (.ref x) [b] [] _ F.cmpKind_ne F.cmpSplit_ne (looks_obj X I hm) (F.cmpArgs_ne _ _) ?_
    refine objNe_own (by show A.in1.units < cLine; have : A.in1.units = A.units + 1 := rfl; omega) X I hs hf (wpAny_mono h (fun v s' ⟨r, e, q⟩ => ⟨r, e, ?_⟩) fun _ _ e => e)
    exact wpAny_pure ⟨_, rfl, q⟩
  unfold richCompare
  simp only [oneThing_ref]
  refine wpAny_holding (wpAny_bind (wpAny_cRoomFor (Nat.lt_of_succ_lt hu) ?_))
  refine wpAny_bind (I.type.here (wpAny_bind (hb.here ?_)))
  split
  · rename_i q
    have e : PySem.W.subIn K tb (.ref C) = some false := by
      rcases Bool.or_eq_true_iff.mp hn with e | e
      · rw [beq_iff_eq.mp e] at q; simp at q
      · exact beq_iff_eq.mp e
    refine wpAny_bind ((PySem.W.looks_subIn X e).here ?_)
    simp only [Bool.false_eq_true, if_false]
    refine wpAny_bind (wpAny_mono one (fun r s' z => ?_) fun _ _ e => e)
    obtain ⟨v, rfl, hq⟩ := z
    exact wpAny_pure hq
  · refine wpAny_bind (wpAny_pure ?_)
    simp only [Bool.false_eq_true, if_false]
    refine wpAny_bind (wpAny_mono one (fun r s' z => ?_) fun _ _ e => e)
    obtain ⟨v, rfl, hq⟩ := z
    exact wpAny_pure hq
end
/-! ### as expressions -/
section
variable {X : Cx} {CX : CXT} {n : Nat} {C f : Addr} {fd : FuncData} {ps : List Str} {sp : Sp} {E : XK}
/-- x == y and x != y by an own __eq__ -/
def rOwnEq (K : PySem.W.Frag) (C : Addr) (sp : Sp) (E : XK) (neg : Bool) : R2 := fun x y H Q => ∃ (a dx : Addr) (fs : List (Str × V)) (t : Value), x = .ref a ∧ H a = some (.ins C dx fs) ∧ TyX K H y t ∧ PySem.W.notFirst K C t = true ∧
  sp [x, y] H (fun v H' => ∃ r, v = .bl r ∧ Q (.bl (if neg = true then !r else r)) H') E
theorem run_own {A : Around} {pins : List (Addr × Obj)} {s : Shared} {σ : L2.St} {H : Hp} {x y : V} {v u : Value} {Q : VK} (F : FnOk X.prog X.w X.K X.mg X.base CX n f fd ps sp) (hb : Binds X.K fd ps []) (hx : Passes CX X E) (hr : Room n A) (hf : A.frames = X.A.frames)
    (I : Inv X pins σ H s) (rx : RelV x v) (ry : RelV y u) (h : sp [x, y] H Q E) : wpAny (model X.prog X.w) A (call (.ref f) [v, u]) (EP X pins σ Q) X.xe s := by
  have e0 : Env0 X.prog X.w X.K X.mg X.base A X.stack s H := by
    have e := I.env0
    exact ⟨by rw [hf]; exact e.frames, e.mod, e.bs, e.bsz, e.funs, e.frf, e.hok, e.bare⟩
  have hl := F.len _ _ _ _ h
  have r2 : Vals [x, y] [v, u] := .cons rx (.cons ry .nil)
  refine wpAny_call (codeAny_mono (F.run A X.stack s H ⟨[v, u], []⟩ [v, u] [x, y] _ E hr e0 (by
    have := hb s [v, u] I.kIn (by simpa using hl)
    simpa using this) r2 h) fun r s' hq => ?_)
  cases r with
  | error e => exact hx pins σ H s e s' I hq
  | ok fl =>
    cases fl with
    | ret w => exact I.after hq
    | next => exact False.elim hq
    | brk => exact False.elim hq
    | cont => exact False.elim hq
theorem op_eqOwn (F : FnOk X.prog X.w X.K X.mg X.base CX n f fd ps sp) (hs : PySem.W.findIn X.K (.ref C) "__eq__" = some (some (.ref f))) (hf : PySem.W.isFn X.K (.ref f) = true) (hb : Binds X.K fd ps []) (hx : Passes CX X E) (hr : Room n X.A) :
    OpR X (compareOp .Eq) (rOwnEq X.K C sp E false) := by
  intro pins s σ H x y v u Q I rx ry h
  obtain ⟨a, dx, fs, t, rfl, ha, ty, hn, q⟩ := h
  cases (show v = Value.ref a from rx)
  obtain ⟨mA, J, _⟩ := ins_get I.hok ha
  obtain ⟨od, J, _⟩ := J.look
  obtain ⟨P, Z, p, _⟩ := kit_of I ry ty
  obtain ⟨m, hF⟩ := I.fr
  refine PySem.W.cmp_ofEq (PySem.W.cmp_K (op := .Eq) (tb := t) hr.units0 hF I.ok.mod.kin J (Z.ty _ _ I.kIn p) hn hs hf ?_)
  refine wpAny_mono (run_own F hb hx hr rfl I rx ry q) (fun w s' z => ?_) fun _ _ e => e
  obtain ⟨z', H', I', rz, r, ez, qz⟩ := z
  subst ez
  cases (show w = Value.bool r from rz)
  exact ⟨.bl r, H', I', rfl, qz⟩
theorem op_neOwn (F : FnOk X.prog X.w X.K X.mg X.base CX n f fd ps sp) (hm : PySem.W.mroIn X.K C (.type "object") = some true) (hne : PySem.W.findIn X.K (.ref C) "__ne__" = some (some (.builtin "object.__ne__")))
    (hs : PySem.W.findIn X.K (.ref C) "__eq__" = some (some (.ref f))) (hf : PySem.W.isFn X.K (.ref f) = true) (hb : Binds X.K fd ps []) (hx : Passes CX X E) (hr : Room (n + 1) X.A) : OpR X (compareOp .NotEq) (rOwnEq X.K C sp E true) := by
  intro pins s σ H x y v u Q I rx ry h
  obtain ⟨a, dx, fs, t, rfl, ha, ty, hn, q⟩ := h
  cases (show v = Value.ref a from rx)
  obtain ⟨mA, J, _⟩ := ins_get I.hok ha
  obtain ⟨od, J, _⟩ := J.look
  obtain ⟨P, Z, p, _⟩ := kit_of I ry ty
  have hr1 : Room n X.A.in1 := hr.in1
  have hu : X.A.units + 1 < cLine := by
    have := hr1.units0
    exact this
  refine PySem.W.cmp_ofNotEq (ne_own hu I.kIn J hm (Z.ty _ _ I.kIn p) hn hne hs hf ?_)
  refine wpAny_mono (run_own F hb hx hr1 rfl I rx ry q) (fun w s' z => ?_) fun _ _ e => e
  obtain ⟨z', H', I', rz, r, ez, qz⟩ := z
  subst ez
  cases (show w = Value.bool r from rz)
  exact ⟨r, rfl, .bl (!r), H', I', rfl, qz⟩
end
end TY

set_option maxHeartbeats 4000000
/-! A rule of our own: len(set(xs)) of texts, some alike or not. -/
namespace TUD
open PySem PySem.Spec PyProof.Rows SS
section
variable {prog : Program} {w : World} {A : Around} {R : Result → Shared → Prop} {I : Addr} {fp wr : List Addr} {G : Array GenState → Array GenState → Prop} {n : Nat} {P : Nat → Value → Prop} {St : Nat → Shared → Prop}
/-- the texts met ahead of the i-th -/
def met (ks : Nat → Str) (i : Nat) (k : Str) : Bool := ((List.range i).map ks).any (· == k)
/-- how many unlike ones ahead of the i-th -/
def cnt (ks : Nat → Str) : Nat → Nat
  | 0 => 0
  | i + 1 => if met ks i (ks i) = true then cnt ks i else cnt ks i + 1
theorem cnt_le (ks : Nat → Str) : ∀ i, cnt ks i ≤ i
  | 0 => Nat.le_refl _
  | i + 1 => by
    have := cnt_le ks i
    unfold cnt
    split <;> omega
theorem met_new {ks : Nat → Str} {i : Nat} (hd : ∀ j, j < i → ks j ≠ ks i) : met ks i (ks i) = false := by
  unfold met
  rw [List.any_eq_false]
  intro y hy
  obtain ⟨j, hj, rfl⟩ := List.mem_map.mp hy
  simpa using hd j (List.mem_range.mp hj)
theorem met_next {ks : Nat → Str} {i : Nat} (k : Str) : (met ks i k || decide (k = ks i)) = met ks (i + 1) k := by
  unfold met
  rw [List.range_succ, List.map_append, List.any_append]
  have e : decide (k = ks i) = ([i].map ks).any (· == k) := by
    by_cases h : k = ks i
    · rw [decide_eq_true h, h]
      simp
    · rw [decide_eq_false h]
      have : (ks i == k) = false := by simpa using fun z => h z.symm
      simp [this]
  rw [e]
theorem loopD (Wk : WalksS prog w A.in1 I fp wr G n P St) (S : Addr) (nS : S ∉ fp) (ks : Nat → Str) (hb : n + 1 < scanBound) (hv : ∀ i v, P i v → ∃ t, v = .str (ks i) t) :
    ∀ (m i : Nat) (s : Shared), n - i = m → i ≤ n → St i s → s.heap.SetOf (PySem.strKind prog w) S (met ks i) (cnt ks i) →
      (∀ s', Moved (S :: wr) G s s' → s'.heap.SetOf (PySem.strKind prog w) S (met ks n) (cnt ks n) → R (.ok (.ret .none)) s') → codeAny (model prog w) A (.builtin "set.update.loop" ⟨[.ref S, .ref I], []⟩) R s := by
  have nW : S ∉ wr := fun z => nS (Wk.sub _ z)
  have up : ∀ b ∈ wr, b ∈ S :: wr := fun b z => List.mem_cons_of_mem _ z
  have keep : ∀ {s s' : Shared} {i : Nat}, Moved wr G s s' → s.heap.SetOf (PySem.strKind prog w) S (met ks i) (cnt ks i) → s'.heap.SetOf (PySem.strKind prog w) S (met ks i) (cnt ks i) := fun mv h => by
    obtain ⟨o, es, ep, t, ho, r⟩ := h
    exact ⟨o, es, ep, t, mv.heap S _ nW ho, r⟩
  intro m
  induction m with
  | zero =>
    intro i s hm hi hst hS hR
    obtain rfl : i = n := by omega
    refine codeAny_builtin PyProof.Rows.F.entry_set_update_loop ?_
    rw [Around.under_plainId PyProof.Rows.F.plain_set_update_loop _]
    show wpAny _ A.in1 (pyNext (.ref I) >>= _) _ _ s
    refine wpAny_bind (Wk.done s _ _ hst fun s' mv => ?_)
    show wpAny _ A.in1 (ret Value.none) _ _ s'
    exact wpAny_pure (hR s' (mv.mono up) (keep mv hS))
  | succ m ih =>
    intro i s hm hi hst hS hR
    have hlt : i < n := by omega
    refine codeAny_builtin PyProof.Rows.F.entry_set_update_loop ?_
    rw [Around.under_plainId PyProof.Rows.F.plain_set_update_loop _]
    show wpAny _ A.in1 (pyNext (.ref I) >>= _) _ _ s
    refine wpAny_bind (Wk.item i s _ _ hlt hst fun v s' hP hst' mv => ?_)
    obtain ⟨t, rfl⟩ := hv i v hP
    have h1 := keep mv hS
    show wpAny _ A.in1 (holding [Value.str (ks i) t] (setAdd S (.str (ks i) t)) >>= _) _ _ s'
    refine wpAny_bind (wpAny_holding ?_)
    unfold setAdd
    refine wpAny_holding ?_
    refine wpAny_bind ((PySem.strKind prog w).pyHash (k := ks i) (strKind_is _ _ _ _) ?_)
    refine wpAny_setAddHashed_of (knd := PySem.strKind prog w) (s := { s' with toks := s'.toks + 1 }) (strKind_is _ _ _ _) rfl h1 (by have := cnt_le ks i; omega) fun h' hsb h2 => ?_
    have h3 : h'.SetOf (PySem.strKind prog w) S (met ks (i + 1)) (cnt ks (i + 1)) := SetOf_congr h2 (fun k => met_next k) rfl
    refine wpAny_pure ⟨plainId_quiet PyProof.Rows.F.plain_set_update_loop _, ih (i + 1) _ (by omega) hlt (Wk.frame _ s' _ _ hst' (Nat.le_succ _) fun b hb o e => ?_) h3 fun s2 m2 h4 => ?_⟩
    · exact (hsb.2 b fun z => nS (z ▸ hb)).trans e
    · exact hR s2 (Moved.trans Wk.gtrans ((mv.mono up).then_heap (Nat.le_succ _) fun b o hb e => (hsb.2 b fun z => hb (by rw [z]; exact List.mem_cons_self)).trans e) m2) h4
end
section
variable {prog : Program} {w : World} {A : Around} {E : Value → Shared → Prop} {s : Shared}
/-- a set that was just begun -/
abbrev bare (led : Bool) : Obj := { cls := .type "set", dict := none, data := .set #[] 0 (.fresh 0 0 led) }
set_option maxHeartbeats 3200000 in
theorem set_texts {l : Addr} {items : Array Value} {xs : List Str} {Q : Value → Shared → Prop} (hh : A.handled = none) (hl : s.heap.IsList l items) (hi : PyProof.Rows.StrsAre items.toList xs) (h64 : xs.length < 64)
    (h : ∀ (h' : Heap) (tk : Nat), h'.SetOf (PySem.strKind prog w) s.heap.objs.size (met (fun i => xs.getD i Str.empty) items.size) (cnt (fun i => xs.getD i Str.empty) items.size) → (∀ b o, b < s.heap.objs.size → s.heap.get? b = some o → h'.get? b = some o) → Q (.ref s.heap.objs.size) { s with heap := h', toks := tk }) :
    wpAny (model prog w) A (call (.type "set") [.ref l]) Q E s := by
  obtain ⟨c, tl, hmro⟩ := PySem.F.called_set.mro
  have g1 := PySem.F.called_set.made
  have g2 := PySem.F.called_set.sub
  have g3 := PySem.F.called_set.notType
  have g4 := PySem.F.called_set.canCreate
  have g5 := PySem.F.typeCall_set_1 (.ref l)
  refine wpAny_call (codeAny_of_tree ?_)
  show wpAny _ _ (callAny (.type "set") _) _ _ _
  refine wpAny_pure ⟨Code.quiet_builtin _ (by decide +kernel), codeAny_builtin PySem.F.entry_type_call ?_⟩
  rw [Around.under_plain (weight_type_call_type "set" [.ref l] []) rfl]
  repeat (any_goals (first | assumption | wp_step))
  refine codeAny_mono (code_set_new_1 (.ref l) (E := E) (Q₁ := fun u s1 => ∃ led : Bool, u = .ref s.heap.objs.size ∧ s1 = { s with heap := s.heap.push (bare led) }) fun led => ⟨led, rfl, rfl⟩) fun r s1 hr => ?_
  cases r with
  | error e => exact hr
  | ok fl =>
   cases fl with
   | ret u =>
    obtain ⟨led, rfl, rfl⟩ := hr
    have at0 : (s.heap.push (bare led)).get? s.heap.objs.size = some (bare led) := Heap.get?_push_size _ rfl
    have ty0 : Shared.TypeIs { s with heap := s.heap.push (bare led) } (.ref s.heap.objs.size) "set" := ⟨_, at0, rfl⟩
    have g6 := PySem.F.called_set.init.lookup
    have g7 := PySem.F.called_set.init.bind (.ref s.heap.objs.size)
    repeat (any_goals (first | assumption | wp_step))
    refine codeAny_mono (codeAny_call_builtin (R := wants (fun r s2 => r = .none ∧ ∃ h' tk, s2 = { s with heap := h', toks := tk } ∧ h'.SetOf (PySem.strKind prog w) s.heap.objs.size (met (fun i => xs.getD i Str.empty) items.size) (cnt (fun i => xs.getD i Str.empty) items.size) ∧
        (∀ b o, b < s.heap.objs.size → s.heap.get? b = some o → h'.get? b = some o)) E) PySem.F.called_set.init.plain PySem.F.entry_set_init (check_set_init_1 ty0 ?_)) fun r2 s2 hr2 => ?_
    · obtain ⟨ol, hol, hcl, nl, hdl⟩ := hl
      obtain ⟨oc, od, odata, osl⟩ := ol
      simp only at hcl hdl
      subst hcl hdl
      have at1 : (s.heap.push (bare led)).get? l = some { cls := .type "list", dict := od, data := .seq items nl, slots := osl } := Heap.get?_push_of_some _ hol
      have g8 := PySem.F.sub_list_set
      have g9 := PySem.F.sub_list_frozenset
      have g10 : (Value.type "list" == Value.type "dict") = false := by decide
      have il : (s.heap.push (bare led)).IsList l items := ⟨_, at1, rfl, nl, rfl⟩
      unfold Builtin.«set.__init__» noKeywords Builtin.Frozenset.updateFrom
      generalize hPI : pyIter = PI
      wp_walk
      subst hPI
      refine wpAny_pyIter_list il ?_
      refine wpAny_bind (wpAny_runValue ?_)
      have lS : l < s.heap.objs.size := Heap.lt_size hol
      have sz : (s.heap.push (bare led)).objs.size = s.heap.objs.size + 1 := Heap.size_push _ _
      have hn3 : A.in1.in1.in1.handled = none := by simp [hh]
      have lI : l ≠ (s.heap.push (bare led)).objs.size := by
        rw [sz]
        exact Nat.ne_of_lt (Nat.lt_succ_of_lt lS)
      have nS : s.heap.objs.size ∉ [(s.heap.push (bare led)).objs.size, l] := by
        rw [sz]
        simp only [List.mem_cons, List.not_mem_nil, or_false, not_or]
        exact ⟨Nat.ne_of_lt (Nat.lt_succ_self _), Nat.ne_of_gt lS⟩
      have hsz : xs.length = items.size := by rw [← StrsAre.len_eq hi, Array.length_toList]
      have hv : ∀ (i : Nat) (v : Value), items[i]? = some v → ∃ t, v = .str (xs.getD i Str.empty) t := fun i v e => strs_at hi i v (by rw [Array.getElem?_toList]; exact e)
      refine loopD ((Walks.list hn3 _ l lI items).toS) s.heap.objs.size nS (fun i => xs.getD i Str.empty) (by unfold scanBound; omega) hv (items.size - 0) 0 _ (by omega) (Nat.zero_le _) ⟨⟨_, Heap.get?_push_size _ rfl, rfl, rfl⟩, (il.push _)⟩ ?begun ?ended
      case begun =>
        have at2 : ((s.heap.push (bare led)).push { cls := .type "list_iterator", data := .fields #[.ref l, .int 0 0] }).get? s.heap.objs.size = some (bare led) := Heap.get?_push_of_some _ at0
        exact PyProof.Rows.SetOf_congr ((PyProof.Rows.setObjOf_fresh (knd := PySem.strKind prog w) led).setOf at2 (by unfold scanBound; omega)) (fun _ => rfl) rfl
      case ended =>
        intro s3 mv hS3
        obtain ⟨h', g', d', tk', os'⟩ := s3
        obtain rfl : g' = s.gens := mv.gens
        obtain rfl : d' = s.drawn := mv.drawn
        obtain rfl : os' = s.os := mv.os
        show wpAny _ _ _ _ _ _
        refine wpAny_pure ?_
        show wpAny _ _ (ret Value.none) _ _ _
        refine wpAny_pure ⟨rfl, h', tk', rfl, hS3, fun b o hb e => ?_⟩
        refine mv.heap b o ?_ (Heap.get?_push_of_some _ (Heap.get?_push_of_some _ e))
        rw [sz]
        simp only [List.mem_cons, List.not_mem_nil, or_false, not_or]
        exact ⟨Nat.ne_of_lt hb, Nat.ne_of_lt (Nat.lt_succ_of_lt hb)⟩
    · cases r2 with
      | error e => exact hr2
      | ok f2 =>
        cases f2 with
        | ret r =>
          obtain ⟨rfl, h', tk, rfl, h1, h2⟩ := hr2
          repeat (any_goals (first | assumption | wp_step))
          exact h _ _ h1 h2
        | _ => exact hr2.elim
   | _ => exact hr.elim
end
end TUD

set_option maxHeartbeats 2000000
namespace TUD
open PySem L2 PyProof.Rows TX TY
/-- how many unlike texts -/
def unl (xs : List Str) : Nat := cnt (fun i => xs.getD i Str.empty) xs.length
theorem met_old {ks : Nat → Str} {i : Nat} : met ks i (ks i) = true ↔ ∃ j, j < i ∧ ks j = ks i := by
  unfold met
  rw [List.any_eq_true]
  constructor
  · rintro ⟨y, hy, e⟩
    obtain ⟨j, hj, rfl⟩ := List.mem_map.mp hy
    exact ⟨j, List.mem_range.mp hj, by simpa using e⟩
  · rintro ⟨j, hj, e⟩
    exact ⟨ks j, List.mem_map.mpr ⟨j, List.mem_range.mpr hj, rfl⟩, by simpa using e⟩
theorem cnt_eq {ks : Nat → Str} : ∀ {i : Nat}, cnt ks i = i ↔ ∀ b, b < i → ∀ a, a < b → ks a ≠ ks b
  | 0 => ⟨fun _ b hb => absurd hb (Nat.not_lt_zero _), fun _ => rfl⟩
  | i + 1 => by
    have ih := cnt_eq (ks := ks) (i := i)
    have le := cnt_le ks i
    unfold cnt
    constructor
    · intro h b hb a ha e
      split at h
      · omega
      · rename_i hm
        have h' : cnt ks i = i := by omega
        by_cases hbi : b = i
        · subst hbi
          exact hm (met_old.mpr ⟨a, ha, e⟩)
        · exact ih.mp h' b (by omega) a ha e
    · intro h
      have h1 := ih.mpr fun b hb a ha => h b (by omega) a ha
      rw [if_neg]
      · omega
      · intro z
        obtain ⟨j, hj, e⟩ := met_old.mp z
        exact h i (Nat.lt_succ_self _) j hj e
theorem unl_eq {xs : List Str} : unl xs = xs.length ↔ xs.Nodup := by
  unfold unl
  rw [cnt_eq]
  constructor
  · intro h
    rw [List.nodup_iff_pairwise_ne, List.pairwise_iff_getElem]
    intro i j hi hj hij e
    refine h j hj i hij ?_
    rw [List.getD_eq_getElem?_getD, List.getD_eq_getElem?_getD, List.getElem?_eq_getElem hi, List.getElem?_eq_getElem hj]
    exact e
  · intro h b hb a ha e
    have ha' : a < xs.length := by omega
    rw [List.getD_eq_getElem?_getD, List.getD_eq_getElem?_getD, List.getElem?_eq_getElem ha', List.getElem?_eq_getElem hb] at e
    have := (List.getElem_inj h).mp e
    omega
section
variable {X : Cx}
/-- len(set(xs)), xs texts -/
def tLenD (K : PySem.W.Frag) (ta : TE) : TE := fun σ H Q => ta σ H fun x H1 => ∃ (l : Addr) (xs : List Str), x = .ref l ∧ SqL K H1 l (xs.map V.str) ∧ xs.length < 64 ∧ Q (.int (unl xs)) H1
theorem vals_strs : ∀ {xs : List Str} {us : List Value}, Vals (xs.map V.str) us → StrsAre us xs
  | [], _, h => by
    cases h
    exact .nil
  | x :: r, _, h => by
    cases h with
    | cons h t =>
      obtain ⟨k, e⟩ := (show ∃ k, _ = Value.str x k from h)
      subst e
      exact .cons x k (vals_strs t)
theorem pe_lenD {a : Expr} {ta : TE} {p p2 q pos : Pos} (hc : X.calm = true) (hg : Gl X "len") (hm : X.mg "len" = none) (hg2 : Gl X "set") (hm2 : X.mg "set" = none) (ha : PE X a ta)
    (na : starEach [a] X.env = (false, eval a X.env) :: starEach [] X.env := by rfl) : PE X (.Call (.Name "len" p) [.Call (.Name "set" p2) [a] [] q] [] pos) (tLenD X.K ta) := by
  refine ⟨fun pins s σ H Q I h => ?_⟩
  refine Call_ (ld_blt I hg hm boot_len (PyProof.Rows.callWith_builtin1 (PyProof.Rows.args_cons ?_ rfl) rfl rfl))
  refine Call_ (ld_blt I hg2 hm2 boot_set (PyProof.Rows.callWith_type1 (PyProof.Rows.args_cons (thn (ha.run pins s σ H _ I h) fun v s1 ⟨x, H1, I1, r1, q1⟩ => PyProof.Rows.args_nil ?_) na) na rfl))
  obtain ⟨l, xs, rfl, hq, h64, q2⟩ := q1
  cases r1
  obtain ⟨its, r, pl, hz⟩ := I1.list hq
  have hl : its.toArray.size = xs.length := by rw [List.size_toArray, ← r.length, List.length_map]
  refine set_texts (I1.ok.hd hc) pl.isList (by simpa using vals_strs r) h64 fun h' tk hS hk => ?_
  refine PyProof.Rows.args_nil ?_
  rw [hl] at hS
  have hle := cnt_le (fun i => xs.getD i Str.empty) xs.length
  obtain ⟨o, es, ep, t, ho, hex, hd', _, _, _, hf, hn⟩ := hS
  have I2 : Inv X pins σ H1 { s1 with heap := h', toks := tk } := I1.kept fun b o e => hk b o (Heap.lt_size e) e
  exact call_len_set ho hex hd' hf (by rw [hn]; omega) ⟨.int (unl xs), H1, I2.tok _, ⟨_, by rw [hn]; rfl⟩, q2⟩
end
end TUD

set_option maxHeartbeats 1000000
/-! Refusals with a field of their own: made, raised, caught. -/
namespace TE
open PySem L2 PyProof.Rows TX TY
/-- an own class over ValueError, read off the written part -/
def oexB (K : PySem.W.Frag) (C : Addr) : Bool := match K.lookup C with
  | some ⟨.type "type", _, .cls cd, sl⟩ => (match cd.mro, sl.toList with
    | .ref D :: bm, [_, _, _, _, some (.builtin n), _] => D == C && (n == "ValueError.__new__" && (!cd.hasDel && (cd.hasDict && PySem.HandSPX.refsVE bm)))
    | _, _ => false)
  | _ => false
theorem oexB_ok {K : PySem.W.Frag} {C : Addr} (q : oexB K C = true) : ∃ nm q N bs bm sn sub ab col dd k0 k1 k2 k3 k5, K.lookup C = some (excClassObj nm q C N bs bm true sn sub ab col dd k0 k1 k2 k3 k5 "ValueError.__new__") ∧ PySem.HandSPX.refsVE bm = true := by
  unfold oexB at q
  split at q
  · rename_i dd cd sl ho
    split at q
    · rename_i D bm k0 k1 k2 k3 n k5 hm hs
      simp only [Bool.and_eq_true, beq_iff_eq, Bool.not_eq_true'] at q
      obtain ⟨rfl, rfl, hdel, hdict, ht⟩ := q
      obtain ⟨nm, bs, mro, ns, qn, hd, sn, sub, ab, col, del⟩ := cd
      dsimp only at hm hdel hdict
      subst hm hdel hdict
      have hsl : sl = #[k0, k1, k2, k3, some (.builtin "ValueError.__new__"), k5] := by
        obtain ⟨l⟩ := sl
        simp only at hs
        rw [hs]
      subst hsl
      exact ⟨nm, qn, ns, bs, bm, sn, sub, ab, col, dd, k0, k1, k2, k3, k5, ho, ht⟩
    · cases q
  · cases q
section
variable {K : PySem.W.Frag} {mg : Str → Option Value}
/-- a class that is raised, with its own field -/
structure Nt (K : PySem.W.Frag) (mg : Str → Option Value) (x fld qual : Str) (st : Stmt) (Ct fi : Addr) (di : FuncData) : Prop where
  T : OexC K Ct
  i : PySem.W.findIn K (.ref Ct) "__init__" = some (some (.ref fi))
  t : PySem.W.typeIn K (.ref fi) = some (.type "function")
  F : Fun K "__init__" qual st fi di
  b : Binds K di ["self", fld] []
  g : mg x = some (.ref Ct)
  no : PySem.W.findIn K (.ref Ct) fld = some none
def sp_efld (C : Addr) (fld : Str) : Sp := fun vs H Q _ => ∃ (a : Addr) (v : V), vs = [.ref a, v] ∧ H a = some (exo a C none) ∧ ∀ dx, H dx = none → dx ≠ a → Q .non (upd (upd H dx (exd dx [(fld, v)])) a (exo a C (some dx)))
/-- raise C(v) -/
theorem rd_efld {C : Addr} {fld : Str} {H : Hp} {v : V} {Q : XK} (q : ∀ H' d, Same H H' → H' d = some (.xd [(fld, v)]) → Q (.ref C) (some d) H') : ∀ a, H a = none → sp_efld C fld [.ref a, v] (upd H a (exo a C none))
    (fun u H2 => u = .non ∧ ∃ (d : Addr) (fs : List (Str × V)), H2 a = some (exo a C (some d)) ∧ H2 d = some (exd d fs) ∧ H d = none ∧ Q (.ref C) (some d) (upd (del H2 a) d (.xd fs))) (fun _ _ _ => False) := by
  intro a na
  refine ⟨a, v, rfl, upd_same, fun dx nx hne => ⟨rfl, dx, [(fld, v)], upd_same, by rw [upd_ne hne, upd_same], ?_, ?_⟩⟩
  · rw [upd_ne hne] at nx
    exact nx
  · rw [upd_ne hne] at nx
    refine q _ dx (fun b o e => ?_) upd_same
    have hb1 : b ≠ dx := ne_of_none e nx
    have hb2 : b ≠ a := ne_of_none e na
    rw [upd_ne hb1, del_ne hb2, upd_ne hb2, upd_ne hb1, upd_ne hb2]
    exact e
end
end TE

set_option maxHeartbeats 1000000
/-! A rule of our own: f(k = v, ..), no argument by place. -/
namespace TK
open PySem L2 PyProof.Rows
theorem pe_callK0 {X : Cx} {CX : CXT} {k : Nat} {f : Addr} {fd : FuncData} {ps ks : List Str} {sp : Sp} {E : XK} {x : Str} {p pos : Pos} {kws : List Keyword} {tk : TA} {g : List Value → List Value → List Value} {gV : List V → List V → List V}
    (F : FnOk X.prog X.w X.K X.mg X.base CX k f fd ps sp) (hr : Room k X.A) (hg : Gl X x) (hm : X.mg x = some (.ref f)) (hk : PySem.W.keepIn X.K (.ref f) = true) (hb : KBn X.K fd ps 0 ks g gV) (hx : Passes CX X E) (hkw : PK X kws tk)
    (hall : ((backToKw pos (keywordEach kws X.env)).all (·.1.isSome)) = true := by rfl) (hks : (backToKw pos (keywordEach kws X.env)).filterMap (·.1) = ks := by rfl) (hdb : (x == Str.ofString "__debug__") = false := by decide +kernel)
    (hpl : (((backTo pos (starEach [] X.env)).any (·.1)) || (backToKw pos (keywordEach kws X.env)).any (·.1.isNone)) = false := by rfl) : PE X (.Call (.Name x p) [] kws pos) (tCallN 0 ks.length sp gV E tNil tk) :=
  ⟨fun pins s σ H Q I h => wpAny_Call_Name_kw (ld_glob I hg hm (by
    refine PySem.W.callWith_KW0 I.ok.mod.kin hk hall ?_ hpl
    refine thn (hkw.run pos pins s σ H _ I h) fun ws s2 x => ?_
    obtain ⟨zs, H2, I2, rz, l1, l2, q2⟩ := x
    refine ⟨I2.kIn, ?_⟩
    rw [hks]
    exact run_fnN F hr hb hx I2 .nil rz rfl l2 q2) hdb)⟩
theorem kbn0 {K : PySem.W.Frag} {x qual : Str} {st : Stmt} {f : Addr} {fd : FuncData} {ps ks : List Str} (F : Fun K x qual st f fd) (g : {α : Type} → List α → List α) (hrel : ∀ {zs : List V} {ws : List Value}, Vals zs ws → Vals (g zs) (g ws))
    (h : ∀ (kV doc pm : Value) (an : Option Addr) (cdv ct : Value) (ws : List Value), ws.length = ks.length → bindArgs (PySem.W.fnOf x qual (defArgs st) (defBody st) (defScope st) .none kV doc pm an cdv ct) { pos := [], kw := ks.zip ws } = pure (ps.zip (g ws))) :
    KBn K fd ps 0 ks (fun _ ws => g ws) (fun _ zs => g zs) := by
  obtain ⟨oc, od, kV, doc, pm, an, cdv, ct, osl, rfl, lk, hcd⟩ := F.ex
  refine ⟨fun s us ws hK hu hw => ?_, fun _ r => hrel r⟩
  have : us = [] := List.length_eq_zero_iff.mp hu
  subst this
  exact .of_eq (h kV doc pm an cdv ct ws hw)
theorem vals_rev {zs : List V} {ws : List Value} (h : Vals zs ws) : Vals zs.reverse ws.reverse := by
  have app : ∀ {a b : List V} {c d : List Value}, Vals a c → Vals b d → Vals (a ++ b) (c ++ d) := by
    intro a b c d h k
    induction h with
    | nil => exact k
    | cons r _ ih => exact .cons r ih
  induction h with
  | nil => exact .nil
  | cons r _ ih =>
    rw [List.reverse_cons, List.reverse_cons]
    exact app ih (.cons r .nil)
end TK

set_option maxHeartbeats 1000000
/-! Rules of our own: a method that may raise what the caller's slots say; a method called by names alone. -/
namespace TK
open PySem L2 PyProof.Rows
section
variable {X : Cx} {CX : CXT} {k : Nat} {f C : Addr} {fd : FuncData} {ps : List Str} {sp : Sp} {m : Str} {pos apos : Pos} {o : Expr} {ta : TE} {pl : Sem Bool}
def tMethE (C : Addr) (m : Str) (sp : Sp) (E : L2.St → XK) (ta : TE) (t : TA) : TE := fun σ H Q => ta σ H fun x H1 => ∃ (a dx : Addr) (fs : List (Str × V)), x = .ref a ∧ H1 a = some (.ins C dx fs) ∧ fs.lookup m = none ∧ t σ H1 fun vs H2 => sp (x :: vs) H2 Q (E σ)
theorem pe_methE {E : L2.St → XK} {e : Expr} {es : List Expr} {t : TA} (he : PE X o ta) (c : Cls X.K C) (hm : Meth X.K C m f) (F : FnOk X.prog X.w X.K X.mg X.base CX k f fd ps sp) (hr : Room k X.A) (hb : Binds X.K fd ps []) (hx : ∀ σ, PassesAt CX X σ (E σ)) (ha : PA X (e :: es) t)
    (hst : starEach (e :: es) X.env = (false, eval e X.env) :: starEach es X.env := by rfl) (hpl : (backTo pos (starEach es X.env)).any (·.1) = false := by rfl)
    (ht : eval (.Call (.Attribute o m apos) (e :: es) [] pos) X.env = (do
      let ov ← eval o X.env
      standAt apos.atName
      let (f, first) ← holding [ov] (getMethod ov m pl)
      callWith pos f first (backTo pos (starEach (e :: es) X.env)) (backToKw pos (keywordEach [] X.env))) := by rfl) : PE X (.Call (.Attribute o m apos) (e :: es) [] pos) (tMethE C m sp E ta t) := by
  refine ⟨fun pins s σ H Q I h => PySem.W.methodCall_KW (thn (he.run pins s σ H _ I h) fun u s1 x => ?_) ht⟩
  obtain ⟨x, H1, I1, rx, a, dx, fs, rfl, ea, l, q⟩ := x
  cases (show u = Value.ref a from rx)
  refine getmeth_ok I1 ea c hm l (PySem.W.callWith_K (h₀ := X.base) I.ok.mod.kin hm.kp (thn (ha.run pos pins s1 σ H1 _ I1 q) fun us s2 x => ?_) hst hpl)
  obtain ⟨vs, H2, I2, r, q2⟩ := x
  exact ⟨I2.kIn, run_fnS F hr hb (hx σ) I2 (.cons (show RelV (V.ref a) (Value.ref a) from rfl) r) q2⟩
def tMethK0 (C : Addr) (m : Str) (n : Nat) (sp : Sp) (gV : List V → List V → List V) (E : XK) (ta : TE) (tk : TA) : TE := fun σ H Q => ta σ H fun x H1 => ∃ (a dx : Addr) (fs : List (Str × V)), x = .ref a ∧ H1 a = some (.ins C dx fs) ∧ fs.lookup m = none ∧ tk σ H1 fun zs H2 => zs.length = n ∧ sp (gV [x] zs) H2 Q E
theorem pe_methK0 {E : XK} {kws : List Keyword} {ks : List Str} {tk : TA} {g : List Value → List Value → List Value} {gV : List V → List V → List V} (he : PE X o ta) (c : Cls X.K C) (hm : Meth X.K C m f) (F : FnOk X.prog X.w X.K X.mg X.base CX k f fd ps sp) (hr : Room k X.A) (hb : KBn X.K fd ps 1 ks g gV) (hx : Passes CX X E) (hkw : PK X kws tk)
    (hall : ((backToKw pos (keywordEach kws X.env)).all (·.1.isSome)) = true := by rfl) (hks : (backToKw pos (keywordEach kws X.env)).filterMap (·.1) = ks := by rfl)
    (hpl : (((backTo pos (starEach [] X.env)).any (·.1)) || (backToKw pos (keywordEach kws X.env)).any (·.1.isNone)) = false := by rfl)
    (ht : eval (.Call (.Attribute o m apos) [] kws pos) X.env = (do
      let ov ← eval o X.env
      standAt apos.atName
      let (f, first) ← holding [ov] (getMethod ov m pl)
      callWith pos f first (backTo pos (starEach [] X.env)) (backToKw pos (keywordEach kws X.env))) := by rfl) : PE X (.Call (.Attribute o m apos) [] kws pos) (tMethK0 C m ks.length sp gV E ta tk) := by
  refine ⟨fun pins s σ H Q I h => PySem.W.methodCall_KW (thn (he.run pins s σ H _ I h) fun u s1 x => ?_) ht⟩
  obtain ⟨x, H1, I1, rx, a, dx, fs, rfl, ea, l, q⟩ := x
  cases (show u = Value.ref a from rx)
  refine getmeth_ok I1 ea c hm l (PySem.W.callWith_KW0 I.ok.mod.kin hm.kp hall ?_ hpl)
  refine thn (hkw.run pos pins s1 σ H1 _ I1 q) fun ws s2 x => ?_
  obtain ⟨zs, H2, I2, rz, l2, q2⟩ := x
  refine ⟨I2.kIn, ?_⟩
  rw [hks]
  exact run_fnN F hr hb hx I2 (.cons (show RelV (V.ref a) (Value.ref a) from rfl) .nil) rz rfl l2 q2
theorem kbn1 {K : PySem.W.Frag} {x qual : Str} {st : Stmt} {f : Addr} {fd : FuncData} {ps ks : List Str} (F : Fun K x qual st f fd) (g : {α : Type} → List α → List α → List α) (hrel : ∀ {vs : List V} {us : List Value} {zs : List V} {ws : List Value}, Vals vs us → Vals zs ws → Vals (g vs zs) (g us ws)) (n : Nat)
    (h : ∀ (kV doc pm : Value) (an : Option Addr) (cdv ct : Value) (us ws : List Value), us.length = n → ws.length = ks.length → bindArgs (PySem.W.fnOf x qual (defArgs st) (defBody st) (defScope st) .none kV doc pm an cdv ct) { pos := us, kw := ks.zip ws } = pure (ps.zip (g us ws))) :
    KBn K fd ps n ks (fun us ws => g us ws) (fun vs zs => g vs zs) := by
  obtain ⟨oc, od, kV, doc, pm, an, cdv, ct, osl, rfl, lk, hcd⟩ := F.ex
  exact ⟨fun s us ws hK hu hw => .of_eq (h kV doc pm an cdv ct us ws hu hw), fun r1 r2 => hrel r1 r2⟩
end
end TK

set_option maxHeartbeats 2000000
/-! Rules of our own: dict == dict that may be False; str(o) by an own __str__. -/
namespace TQ
open PySem L2 PyProof.Rows TX TY
section
variable {κ : Type} [DecidableEq κ]
/-- whether each entry has its like -/
def likes (ls : List (κ × V)) (p : κ × V) : Bool := match valV ls p.1 with
  | some y => eqV p.2 y
  | none => false
theorem hits_any {A : Around} {s : Shared} {ls : List (κ × V)} {vb : List (κ × Value)} (rb : KV ls vb) (fb : ∀ p ∈ ls, flatV p.2 = true) : ∀ {ks : List (κ × V)} {va : List (κ × Value)}, KV ks va → (∀ p ∈ ks, flatV p.2 = true) → PySem.W.KeqHits A s vb va (ks.all (likes ls)) := by
  intro ks va ra
  unfold KV at ra
  induction ra with
  | nil => intro _; exact .nil
  | @cons p q ps qs h t ih =>
    intro hp
    obtain ⟨k, v⟩ := q
    obtain ⟨h1, h2⟩ := h
    have h1' : p.1 = k := h1
    subst h1'
    have rr := rb.val p.1
    rw [List.all_cons]
    cases e : valV ls p.1 with
    | none =>
      have e2 : likes ls p = false := by unfold likes; rw [e]
      rw [e] at rr
      rw [e2, Bool.false_and]
      refine .miss ?_
      cases hv : valueAt vb p.1 with
      | none => rfl
      | some y => rw [hv] at rr; cases rr
    | some y =>
      have e2 : likes ls p = eqV p.2 y := by unfold likes; rw [e]
      rw [e] at rr
      rw [e2]
      obtain ⟨u, hu, ru⟩ := rr.some_of
      have fy : flatV y = true := by
        unfold valV at e
        rw [Option.map_eq_some_iff] at e
        obtain ⟨q, hq, rfl⟩ := e
        exact fb q (List.mem_of_find?_eq_some hq)
      exact .hit hu (eqAt_V h2 ru (hp p List.mem_cons_self) fy) (ih fun q hq => hp q (List.mem_cons_of_mem _ hq))
end
section
variable {X : Cx}
/-- d == e -/
def rEqDB : R2 := fun x y H Q => ∃ a b ks ls, x = .ref a ∧ y = .ref b ∧ H a = some (.dK ks) ∧ H b = some (.dK ls) ∧ (∀ p ∈ ks, flatV p.2 = true) ∧ (∀ p ∈ ls, flatV p.2 = true) ∧ Q (.bl (ks.length == ls.length && ks.all (likes ls))) H
theorem op_eqDB (hu : X.A.units < cLine) : OpR X (compareOp .Eq) rEqDB := by
  intro pins s σ H x y v u Q I rx ry h
  obtain ⟨a, b, ks, ls, rfl, rfl, ea, eb, fa, fb, q⟩ := h
  cases (show v = Value.ref a from rx)
  cases (show u = Value.ref b from ry)
  obtain ⟨_, ya, va, ra, da⟩ := (show ObjOk X.prog X.w H s.heap a (.dK ks) from I.hok a _ ea)
  obtain ⟨_, yb, vb, rb, db⟩ := (show ObjOk X.prog X.w H s.heap b (.dK ls) from I.hok b _ eb)
  have la : va.length = ks.length := ra.length.symm
  have lb : vb.length = ls.length := rb.length.symm
  refine PySem.W.keq_eq (knd := mixKind X.prog X.w) (r := ks.all (likes ls)) ya yb da db hu (fun _ => hits_any rb fb ra fa) (fin_bl I q ?_)
  rw [la, lb]
theorem mi_str {P : Program} {w : World} {v : Value} {S : PySem.Spec} (hs : ∀ (A : Around) (R : Result → Shared → Prop) (s : Shared), S A R s → wpAny (model P w) A.in1 (Builtin.Str.strOf v) (fun r s' => R (.ok (.ret r)) s') (fun e s' => R (.error e) s') s) :
    MeetsIn P w (Builtin.«str.__new__» ⟨[.type "str", v], []⟩) S := MeetsIn.of_wp fun A R s h => by
  rw [str_new_tree v]
  exact wpAny_bind (wpAny_pure (wpAny_bind (wpAny_of_eq isSubtype_str_str (wpAny_bind (wpAny_mono (hs A R s h) (fun r s' h' => wpAny_pure ⟨_, rfl, h'⟩) fun _ _ e => e)))))
/-- str(o) by an own __str__ -/
def rStrO (C : Addr) (sp : Sp) (E : XK) : List V → Hp → VK → Prop := fun xs H Q => ∃ a dx fs, xs = [.ref a] ∧ H a = some (.ins C dx fs) ∧ sp [.ref a] H (fun v H' => ∃ y : Str, v = .str y ∧ Q (.str y) H') E
theorem call_strO {CX : CXT} {C f : Addr} {fd : FuncData} {ps : List Str} {sp : Sp} {E : XK} {n : Nat} (G : FnOk X.prog X.w X.K X.mg X.base CX n f fd ps sp) (hs : PySem.W.findIn X.K (.ref C) "__str__" = some (some (.ref f)))
    (hf : PySem.W.isFn X.K (.ref f) = true) (hb : Binds X.K fd ps []) (hx : Passes CX X E) (hr : Room (n + 2) X.A) : CallR X (.type "str") (rStrO C sp E) := by
  intro pins s σ H xs us Q I r h
  obtain ⟨a, dx, fs, rfl, ha, hsp⟩ := h
  obtain ⟨u, rfl, rx⟩ := vals1 r
  cases rx
  obtain ⟨mA, J, _⟩ := ins_get I.hok ha
  obtain ⟨od, J, _⟩ := J.look
  obtain ⟨m, hF⟩ := I.fr
  have hin : Room (n + 1) X.A.in1 := hr.in1
  have h1 : Room n X.A.in1.in1 := hin.in1
  refine callType_newIn (T := "str") (S := fun A' R s' => wpAny (model X.prog X.w) A'.in1 (Builtin.Str.strOf (.ref a)) (fun r s' => R (.ok (.ret r)) s') (fun e s' => R (.error e) s') s') F.called_str (by decide) (F.typeCall_str_1 _) (F.newCall_str_1 _) (fun obj => F.args_object_init_2 obj _) F.entry_str_new
    (mi_str fun A' R s' h => h) ?_
  show wpAny _ X.A.in1.in1 (Builtin.Str.strOf (.ref a)) _ _ s
  unfold Builtin.Str.strOf
  refine wpAny_bind (m := cRoomFor "str" _) (wpAny_cRoomFor h1.units0 ?_)
  refine wpAny_bind (m := callSpecial? (.ref a) (PySem.Str.ofString "__str__")) (PySem.W.special_fn I.kIn J hs (beq_iff_eq.mp hf) ?_)
  have e0 : Env0 X.prog X.w X.K X.mg X.base X.A.in1.in1 X.stack s H := by
    have e := I.env0
    exact ⟨e.frames, e.mod, e.bs, e.bsz, e.funs, e.frf, e.hok, e.bare⟩
  have hl := G.len _ _ _ _ hsp
  refine wpAny_call (codeAny_mono (G.run X.A.in1.in1 X.stack s H ⟨[.ref a], []⟩ [.ref a] [.ref a] _ E h1 e0 (by
    have := hb s [.ref a] I.kIn (by simpa using hl)
    simpa using this) (.cons rfl .nil) hsp) fun r s' hq => ?_)
  cases r with
  | error e => exact hx pins σ H s e s' I hq
  | ok fl =>
    cases fl with
    | ret u =>
      obtain ⟨z, H', I', rz, y, ez, q⟩ := I.after hq
      subst ez
      obtain ⟨t, rfl⟩ := rz
      refine wpAny_bind (wpAny_pure ?_)
      exact wpAny_pure ⟨typeIs_str _ _ _, .str y, H', I', ⟨t, rfl⟩, q⟩
    | next => exact False.elim hq
    | brk => exact False.elim hq
    | cont => exact False.elim hq
end
end TQ

set_option maxHeartbeats 2000000
/-! Lambdas that are kept, handed on and called. -/
namespace TLC
open PySem PySem.Spec PyProof.Rows L2 LamX NdefX
/-- the object at f is the lambda F with this body -/
def LamO (f : Addr) (F : NF) (b : Expr) : HO := .ext fun h => ∃ pm ctv, h.get? f = some (PySem.W.kla_obj F.name F.qual F.params b F.scope F.cl pm F.c ctv)
theorem lamO_tbl {f : Addr} {F : NF} {b : Expr} (ps : Array Value) : LamO f F b ≠ .tbl ps := fun z => by
  unfold LamO at z
  cases z
theorem lamO_get {P : Program} {w : World} {H : Hp} {h : Heap} {f : Addr} {F : NF} {b : Expr} (k : HOk P w H h) (e : H f = some (LamO f F b)) : ∃ pm ctv, h.get? f = some (PySem.W.kla_obj F.name F.qual F.params b F.scope F.cl pm F.c ctv) := (k f _ e).1
section
variable {X : Cx} {pins : List (Addr × Obj)} {σ : L2.St} {H : Hp} {s : Shared}
/-- known as soon as it is laid -/
theorem inv_lam {h' : Heap} {t' : Nat} {F : NF} {b : Expr} {pm ctv : Value} (I : Inv X pins σ H { s with heap := h', toks := t' }) :
    Inv X pins σ (upd H h'.objs.size (LamO h'.objs.size F b)) { s with heap := h'.push (PySem.W.kla_obj F.name F.qual F.params b F.scope F.cl pm F.c ctv), toks := t' } := by
  have e := Heap.get?_push_size h' (o := PySem.W.kla_obj F.name F.qual F.params b F.scope F.cl pm F.c ctv) rfl
  exact I.laid (h' := h'.push (PySem.W.kla_obj F.name F.qual F.params b F.scope F.cl pm F.c ctv)) (t' := t') (fun c u z => Heap.get?_push_of_some _ z) (Nat.le_refl _) ⟨⟨pm, ctv, e⟩, ⟨_, e⟩, fun g1 g2 ⟨p, c, z⟩ k => ⟨p, c, k _ z⟩⟩
end
/-- what one more code object leaves of the tables -/
theorem tabs_more {T : List (Addr × Str)} {H : Hp} {P c : Addr} {q : Str} {pos : Pos} {ps : Array Value} (hT : Tabs T H) (hu : ∀ p ∈ T, p.1 = P → p.2 = q) (hP : H P = some (.tbl ps)) (tr : TriplesOk ps.toList)
    (al : ∀ (pos : Pos) (cv : Value), codeAmong pos ps.toList = some cv → ∃ c, cv = .ref c ∧ H c = some (CodeO c q)) (nC : H c = none) :
    ExtN H (upd (upd H P (.tbl (ps ++ #[rawInt pos.line, rawInt pos.col, .ref c]))) c (CodeO c q)) ∧ Tabs T (upd (upd H P (.tbl (ps ++ #[rawInt pos.line, rawInt pos.col, .ref c]))) c (CodeO c q)) := by
  have ne : P ≠ c := ne_of_none hP nC
  have ex : ExtN H (upd (upd H P (.tbl (ps ++ #[rawInt pos.line, rawInt pos.col, .ref c]))) c (CodeO c q)) := by
    intro a o e n
    have h1 : a ≠ c := ne_of_none e nC
    have h2 : a ≠ P := by
      rintro rfl
      rw [hP] at e
      exact n _ (Option.some.inj e).symm
    rw [upd_ne h1, upd_ne h2, e]
  refine ⟨ex, fun p hp => ?_⟩
  by_cases hb : p.1 = P
  · have l : (ps ++ #[rawInt pos.line, rawInt pos.col, .ref c]).toList = ps.toList ++ [rawInt pos.line, rawInt pos.col, .ref c] := by simp
    rw [hb, hu p hp hb]
    refine ⟨ps ++ #[rawInt pos.line, rawInt pos.col, .ref c], ?_, ?_, ?_⟩
    · rw [upd_ne ne, upd_same]
    · rw [l]
      exact TriplesOk_snoc _ _ _ _ tr
    · intro pos' cv e
      rw [l] at e
      cases among_app _ tr e with
      | inl z =>
        obtain ⟨c0, k1, k2⟩ := al _ _ z
        exact ⟨c0, k1, ex _ _ k2 codeO_ne⟩
      | inr z => exact ⟨c, z, upd_same⟩
  · obtain ⟨qs, k1, k2, k3⟩ := hT p hp
    refine ⟨qs, ?_, k2, fun pos' cv e => ?_⟩
    · rw [upd_ne (ne_of_none k1 nC), upd_ne hb, k1]
    · obtain ⟨c0, j1, j2⟩ := k3 pos' cv e
      exact ⟨c0, j1, ex _ _ j2 codeO_ne⟩
/-- a lambda as a value -/
def tLamV (T : List (Addr × Str)) (mk : Addr → NF) (b : Expr) : TE := fun σ H Q => Tabs T H ∧ ∀ (f c : Addr) (H1 : Hp), ExtN H H1 → (∀ a, H1 a = none → H a = none) → Tabs T H1 → H f = none → H1 f = some (LamO f (mk c) b) → H1 c = some (CodeO c (mk c).qual) → Q (.ref f) H1
section
variable {X : Cx}
theorem pe_lamV {T : List (Addr × Str)} {c P : Addr} {params : Arguments} {body : Expr} {scope : Scope} {pos : Pos} (TB : TabB X.base X.mg c P) (hcode : X.env.code = .ref c) (hm : (P, X.env.qual ++ "<lambda>") ∈ T) (hu : ∀ p ∈ T, p.1 = P → p.2 = X.env.qual ++ "<lambda>")
    (L : LamS X.env.scope scope) (hdef : defaultsOf params X.env = ([], [])) :
    PE X (.Lambda params body scope pos) (tLamV T (fun c => ⟨"<lambda>", X.env.qual ++ "<lambda>", params, [], scope, cloFrom X.env.cells scope.names [], c⟩) body) := by
  refine ⟨fun pins s σ H Q I ⟨hT, h⟩ => PySem.W.kla_eval hdef ?_⟩
  obtain ⟨ps, hP, tr, al⟩ := hT _ hm
  have tab : s.heap.get? P = some { cls := .none, data := .fields ps } := I.hok P _ hP
  have clo := closure_ok (env := X.env) (L.has I.ok)
  cases among : codeAmong pos ps.toList with
  | some cv =>
    obtain ⟨c1, rfl, e1⟩ := al _ _ among
    refine PySem.W.kla_makeFunctionHit (mg := X.mg) (c := c) (P := P) (ps := ps) clo I.ok.glob (I.mod.glob.keeps I.bk) hcode (TB.code.keeps I.bk) tab tr among (TB.bm.keeps I.bk) fun ctv h' tk keep _ => ?_
    have I1 : Inv X pins σ H { s with heap := h', toks := tk } := I.kept keep
    have nF : H h'.objs.size = none := I1.hok.fresh (Nat.le_refl _)
    refine ⟨.ref h'.objs.size, _, inv_lam (F := ⟨"<lambda>", X.env.qual ++ "<lambda>", params, [], scope, cloFrom X.env.cells scope.names [], c1⟩) (b := body) I1, rfl, h _ c1 _ ?_ (fun a => upd_none) ?_ nF upd_same ?_⟩
    · intro a o e _
      rw [upd_ne (ne_of_none e nF), e]
    · exact hT.ext fun a o e => by rw [upd_ne (ne_of_none e nF), e]
    · rw [upd_ne (ne_of_none e1 nF), e1]
  | none =>
    refine PySem.W.kla_makeFunction (mg := X.mg) (c := c) (P := P) (ps := ps) clo I.ok.glob (I.mod.glob.keeps I.bk) hcode (TB.code.keeps I.bk) tab tr among TB.gP (TB.bm.keeps I.bk) fun c1 ctv h' tk but lo hi rec_ tab' => ?_
    obtain ⟨_, oc, vs, t, e2, g1, g2, g3⟩ := rec_
    cases e2
    have nC : H c1 = none := I.hok.fresh lo
    obtain ⟨ex, T1⟩ := tabs_more (pos := pos) hT hu hP tr al nC
    have I1 := inv_table (t' := tk) (more := #[rawInt pos.line, rawInt pos.col, .ref c1]) (h' := h') I hP (fun a o n e => but a o n e) tab' lo ⟨oc, vs, t, g1, g2, g3⟩
    have e1 : upd (upd H P (.tbl (ps ++ #[rawInt pos.line, rawInt pos.col, .ref c1]))) c1 (CodeO c1 (X.env.qual ++ "<lambda>")) c1 = some (CodeO c1 (X.env.qual ++ "<lambda>")) := upd_same
    have fr : H h'.objs.size = none := I.hok.fresh (Nat.le_trans lo (Nat.le_of_lt hi))
    have back : ∀ a, upd (upd H P (.tbl (ps ++ #[rawInt pos.line, rawInt pos.col, .ref c1]))) c1 (CodeO c1 (X.env.qual ++ "<lambda>")) a = none → H a = none := fun a z => upd_none (upd_none z)
    generalize upd (upd H P (.tbl (ps ++ #[rawInt pos.line, rawInt pos.col, .ref c1]))) c1 (CodeO c1 (X.env.qual ++ "<lambda>")) = H1 at ex T1 I1 e1 back
    have nF : H1 h'.objs.size = none := I1.hok.fresh (Nat.le_refl _)
    refine ⟨.ref h'.objs.size, _, inv_lam (F := ⟨"<lambda>", X.env.qual ++ "<lambda>", params, [], scope, cloFrom X.env.cells scope.names [], c1⟩) (b := body) I1, rfl, h _ c1 _ ?_ (fun a z => back a (upd_none z)) ?_ fr upd_same ?_⟩
    · intro a o e n
      have := ex _ _ e n
      rw [upd_ne (ne_of_none this nF), this]
    · exact T1.ext fun a o e => by rw [upd_ne (ne_of_none e nF), e]
    · rw [upd_ne (ne_of_none e1 nF), e1]
end
end TLC

set_option maxHeartbeats 2000000
namespace TLC
open PySem PySem.Spec PyProof.Rows L2 LamX NdefX
/-- what the cells hold they hold later, where the frames above are not theirs -/
theorem cells_un {cl : List (Str × Addr)} {fr : List Str} {ws : List (Option V)} {fs ex : List Addr} {H H' : Hp} {h h' : Heap} (C : CellsAt cl fr ws h H) (u : Un fs ex H H' h h') (hx : ∀ y c, cl.lookup y = some c → c ∉ ex) : CellsAt cl fr ws h' H' := by
  have mv : ∀ y c, cl.lookup y = some c → ∀ v, h.IsCell c v → h'.IsCell c v := by
    rintro y c e v ⟨o, ho, hd⟩
    obtain ⟨sl, z⟩ := u.any ho (C.all y c e).1 (hx y c e)
    exact ⟨_, z, hd⟩
  constructor
  · exact C.len
  · intro y c e
    obtain ⟨n, v, k⟩ := C.all y c e
    exact ⟨u.free c k.choose k.choose_spec.1 n (hx y c e), v, mv y c e v k⟩
  · exact C.inj
  · intro i y e
    obtain ⟨c, hc, hv⟩ := C.has i y e
    refine ⟨c, hc, fun v ev => ?_⟩
    obtain ⟨u', r, k⟩ := hv v ev
    exact ⟨u', r, mv y c hc _ k⟩
/-- the promise of a lambda: what it asks of what its cells hold, of the heap, of the two ends -/
abbrev LSp := List (Option V) → Hp → VK → XK → Prop
structure LOk (P : Program) (w : World) (K : PySem.W.Frag) (mg : Str → Option Value) (base : Heap) (CX : CXT) (k : Nat) (f : Addr) (F : NF) (b : Expr) (fr : List Str) (sp : LSp) : Prop where
  run : ∀ (A : Around) (outer : List Env) (s : Shared) (H : Hp) (ws : List (Option V)) (Q : VK) (E : XK), Room k A → Env0 P w K mg base A outer s H → H f = some (LamO f F b) → H F.c = some (CodeO F.c F.qual) → CellsAt F.cl fr ws s.heap H → sp ws H Q E →
    codeAny (model P w) A (.call (.ref f) ⟨[], []⟩) (CR CX outer P w H s Q E) s
section
variable {CX : CXT} {P : Program} {w : World} {K : PySem.W.Frag} {mg : Str → Option Value} {base : Heap} {N fr : List Str} {F : NF} {f : Addr} {k j : Nat} {b : Expr} {sp : LSp}
/-- a lambda by its body -/
theorem lok_of (S : NScope N [] fr F.scope) (hb : ∀ pm ctv : Value, bindArgs (PySem.W.kla_fn F.name F.qual F.params b F.scope F.cl pm (.ref F.c) ctv) ⟨[], []⟩ = pure [])
    (body : ∀ (A : Around) (outer : List Env) (s : Shared) (H : Hp) (ws : List (Option V)) (Q : VK) (E : XK), Room k (A.deeper (envF F f s.heap.objs.size)) → ws.length = fr.length → sp ws H Q E → ∃ t, PE (ncx CX P w K mg base N F f A outer s H E) b t ∧ t (startF N [] ws) H Q) :
    LOk P w K mg base CX (k + 1) f F b fr sp := by
  refine ⟨fun A outer s H ws Q E hr e0 hf hc C h => ?_⟩
  obtain ⟨pm, ctv, ob⟩ := lamO_get e0.hok hf
  refine PySem.W.kla_callFunE hr.depth ob rfl S.co S.gen rfl (codeO_at e0.hok hc) ?_
  rw [hb pm ctv]
  have lim : s.heap.NoLimit := e0.mod.nolimit.keeps fun a o e => (e0.bs a o e).1
  refine wpAny_pure (wpAny_newFunctionEnv S.nocell (fun y hy => absurd hy (by simp)) (fun g ns sb => ⟨lim.fresh _ sb, ?_⟩) S.kind)
  show codeAny (model P w) A (.expr b (envF F f s.heap.objs.size)) _ _
  obtain ⟨t, ht, q⟩ := body A outer s H ws Q E (hr.deeper _) C.len h
  have J : Inv (ncx CX P w K mg base N F f A outer s H E) [] (startF N [] ws) H { s with heap := g, toks := s.toks + ([] : List (Str × Value)).length } :=
    inv_startN (us := []) S hr.hd e0 rfl .nil C ns fun a o e => sb.extBut a o (Nat.ne_of_lt (Heap.lt_size e)) (Heap.get?_push_of_some _ e)
  refine PySem.W.kla_codeExpr (wpAny_mono (ht.run [] _ _ H Q J q) (fun u s' hq => ?_) fun _ _ z => z)
  obtain ⟨v, H', J', r, q'⟩ := hq
  exact ⟨v, H', J'.os, J'.bare, J'.base, J'.hok, r, q'⟩
theorem LOk.mono (o : LOk P w K mg base CX j f F b fr sp) (h : j ≤ k) : LOk P w K mg base CX k f F b fr sp := ⟨fun A outer s H ws Q E hr => o.run A outer s H ws Q E (hr.mono h)⟩
end
/-- x(), x the parameter that holds the lambda: C tells the cells as they were at the frame's beginning -/
def tLamCall (i : Nat) (f : Addr) (F : NF) (b : Expr) (ws : List (Option V)) (sp : LSp) (E : XK) : TE := fun σ H Q => σ[i]? = some (some (.ref f)) ∧ H f = some (LamO f F b) ∧ H F.c = some (CodeO F.c F.qual) ∧ sp ws H Q E
section
variable {X : Cx} {CX : CXT} {k i : Nat} {f : Addr} {F : NF} {b : Expr} {fr : List Str} {ws : List (Option V)} {sp : LSp} {E : XK} {x : Str} {p pos : Pos}
theorem lam_at {pins : List (Addr × Obj)} {σ : L2.St} {H : Hp} {s : Shared} (I : Inv X pins σ H s) (e : H f = some (LamO f F b)) : PySem.W.FnAt f s.heap := by
  obtain ⟨pm, ctv, z⟩ := lamO_get I.hok e
  exact ⟨_, _, _, _, z⟩
theorem pe_lamCall (O : LOk X.prog X.w X.K X.mg X.base CX k f F b fr sp) (C : CellsAt F.cl fr ws X.s_0.heap X.H_0) (hex : ∀ y c, F.cl.lookup y = some c → c ∉ X.ex) (hr : Room k X.A) (hx : Passes CX X E) (hN : X.N[i]? = some x) (hv : Vis X.env.scope x)
    (hd : (x == ("__debug__" : Str)) = false := by decide) (hcd : (x == ("__classdict__" : Str)) = false := by decide) : PE X (.Call (.Name x p) [] [] pos) (tLamCall i f F b ws sp E) := by
  refine ⟨fun pins s σ H Q I ⟨h1, h2, h3, h4⟩ => ?_⟩
  refine wpAny_Call_Name_kw (thn ((pe_var (pos := p) hN hv hd hcd).run pins s σ H (fun v H1 => v = .ref f ∧ H1 = H) I ⟨.ref f, h1, rfl, rfl⟩) fun u s1 ⟨v, H1, I1, r1, q1⟩ => ?_)
  obtain ⟨rfl, rfl⟩ := q1
  obtain rfl : u = Value.ref f := r1
  refine PySem.W.callWith_F0 (first := []) (lam_at I1 h2) (wpAny_call (codeAny_mono (O.run X.A X.stack s1 H1 ws Q E hr I1.env0 h2 h3 (cells_un C I1.base hex) h4) fun r s' hq => ?_))
  match r, hq with
  | .error e, hq => exact hx pins σ H1 s1 e s' I1 hq
  | .ok (.ret u), hq => exact I1.after hq
end
/-- a def that calls the lambda that it got: lw is what the lambda asks -/
structure COk (P : Program) (w : World) (K : PySem.W.Frag) (mg : Str → Option Value) (base : Heap) (k j : Nat) (g : Addr) (csp : (Hp → VK → XK → Prop) → Hp → VK → Prop) : Prop where
  run : ∀ (A : Around) (outer : List Env) (s : Shared) (H : Hp) (f : Addr) (F : NF) (b : Expr) (fr : List Str) (ws : List (Option V)) (sp : LSp) (Q : VK), Room k A → Env0 P w K mg base A outer s H → LOk P w K mg base (L2.CX P w) j f F b fr sp →
    H f = some (LamO f F b) → H F.c = some (CodeO F.c F.qual) → CellsAt F.cl fr ws s.heap H → csp (sp ws) H Q → codeAny (model P w) A (.call (.ref g) ⟨[.ref f], []⟩) (CR L2.CX0 outer P w H s Q L2.E0) s
/-- g(e), e a lambda: kn is what is known of cells there -/
def tCallC (P : Program) (w : World) (K : PySem.W.Frag) (mg : Str → Option Value) (base : Heap) (j : Nat) (kn : L2.St → List (Str × Addr) → List Str → List (Option V) → Prop) (csp : (Hp → VK → XK → Prop) → Hp → VK → Prop) (te : TE) : TE := fun σ H Q =>
  te σ H fun v H1 => ∃ f F b fr ws sp, v = .ref f ∧ H1 f = some (LamO f F b) ∧ H1 F.c = some (CodeO F.c F.qual) ∧ LOk P w K mg base (L2.CX P w) j f F b fr sp ∧ kn σ F.cl fr ws ∧ csp (sp ws) H1 Q
section
variable {X : Cx} {k j : Nat} {g : Addr} {csp : (Hp → VK → XK → Prop) → Hp → VK → Prop} {kn : L2.St → List (Str × Addr) → List Str → List (Option V) → Prop} {x : Str} {p pos : Pos} {e : Expr} {te : TE}
theorem pe_callC (G : COk X.prog X.w X.K X.mg X.base k j g csp) (hk : ∀ pins s σ H, Inv X pins σ H s → ∀ cl fr ws, kn σ cl fr ws → CellsAt cl fr ws s.heap H) (hr : Room k X.A) (hg : Gl X x) (hm : X.mg x = some (.ref g)) (hkp : PySem.W.keepIn X.K (.ref g) = true) (he : PE X e te)
    (hdb : (x == ("__debug__" : Str)) = false := by decide) (hst : starEach [e] X.env = (false, eval e X.env) :: starEach [] X.env := by rfl) (hpl : (backTo pos (starEach [] X.env)).any (·.1) = false := by rfl) :
    PE X (.Call (.Name x p) [e] [] pos) (tCallC X.prog X.w X.K X.mg X.base j kn csp te) := by
  refine ⟨fun pins s σ H Q I h => wpAny_Call_Name_kw (ld_glob I hg hm ?_ hdb)⟩
  have one := (pa_cons he pa_nil hst : PA X [e] (tCons te tNil)).run pos pins s σ H (fun vs H1 => match vs with
    | [v] => ∃ f F b fr ws sp, v = .ref f ∧ H1 f = some (LamO f F b) ∧ H1 F.c = some (CodeO F.c F.qual) ∧ LOk X.prog X.w X.K X.mg X.base (L2.CX X.prog X.w) j f F b fr sp ∧ kn σ F.cl fr ws ∧ csp (sp ws) H1 Q
    | _ => False) I h
  refine PySem.W.callWith_K (h₀ := X.base) I.ok.mod.kin hkp (thn one fun us s1 ⟨vs, H1, I1, r, q⟩ => ⟨I1.kIn, ?_⟩) hst hpl
  match vs, r, q with
  | [v], r, q =>
  obtain ⟨f, F, b, fr, ws, sp, rfl, h1, h2, O, kn1, q⟩ := q
  cases r with
  | cons r0 rn =>
    cases rn
    cases r0
    refine wpAny_call (codeAny_mono (G.run X.A X.stack s1 H1 f F b fr ws sp Q hr I1.env0 O h1 h2 (hk _ _ _ _ I1 _ _ _ kn1) q) fun r s' hq => ?_)
    match r, hq with
    | .error _, hq => exact False.elim hq
    | .ok (.ret u), hq => exact I1.after hq
end
end TLC

set_option maxHeartbeats 2000000
/-! [f(x) for x in xs] where what is known of the def's own cells at the block's beginning may be used of the element. -/
namespace TLC
open PySem PySem.Spec PyProof.Rows L2 LamX NdefX
section
variable {X : Cx}
/-- the promise of the element, told how the def stood when the block began -/
def Elt (X : Cx) (scope : Scope) (elt : Expr) (te : L2.St → TE) : Prop :=
  ∀ (pins : List (Addr × Obj)) (σ : L2.St) (s : Shared) (H : Hp) (C : Addr) (cl : List (Str × Addr)) (fp : List Addr), Inv X pins σ H s → (∀ b ∈ fp, ∀ x c, X.env.cells.lookup x = some c → c ≠ b) → PE (X.blk s H scope (compEnvC scope cl C X.env) fp) elt (te σ)
/-- the loop within the block -/
theorem blk_loop {σ : L2.St} {H : Hp} {s s0 : Shared} {elt tg iter : Expr} {scope : Scope} {pos : Pos} {vs : List Nat} {g : TG} {te : TE} {ce : Env} {fp : List Addr} {it D : Addr} {tn : Nat → Heap → Prop} {J : It} {Q : VK} {W : Nat → Nat → Hp → Prop} {R : Result → Shared → Prop} {n : Nat}
    (hc : X.calm = true) (T : Turn X.prog X.w X.K tg J fp it tn) (pg : PG (X.blk s H scope ce fp) tg g) (pe : PE (X.blk s H scope ce fp) elt te)
    (step : ∀ i m H1, W i m H1 → (J.stop i H1 ∧ Q (.ref D) H1) ∨ (J.go i H1 ∧ ∃ Nx : Hp → Prop, (∀ H', Nx H' → ∃ m', m' < m ∧ W (i + 1) m' H') ∧ ∀ x H', J.yld i H1 x H' → g x (wipe σ vs) H' fun σ2 H2 => wipe σ2 vs = wipe σ vs ∧
      te σ2 H2 fun y H4 => ∃ acc, H4 D = some (.lst acc) ∧ acc.length < sizeLine ∧ Nx (upd H4 D (.lst (acc ++ [y])))))
    (out : ∀ s' H', Inv (X.blk s H scope ce fp) [] (wipe σ vs) H' s' → Q (.ref D) H' → R (.ok .next) s')
    (start : Inv (X.blk s H scope ce fp) [] (wipe σ vs) H s0 ∧ tn 0 s0.heap ∧ (∀ b ∈ fp, H b = none) ∧ W 0 n H) :
    codeAny (model X.prog X.w) X.A (.compLoop (.ListComp elt [⟨tg, iter, [], 0⟩] scope pos) 0 (.ref it) (.ref D) ce) R s0 := by
  -- an iterator's objects stand apart from all that the block knows
  have apart : ∀ {σ' H' s'}, Inv (X.blk s H scope ce fp) [] σ' H' s' → (∀ b ∈ fp, H' b = none) → ∀ b ∈ fp, FpOk (X.blk s H scope ce fp) [] H' b := by
    intro σ' H' s' I' no b hb
    obtain ⟨k1, k2⟩ := I'.ok.exf b hb
    exact ⟨no b hb, k1, I'.ok.exfs b hb, .inl hb, k2, fun p hp => absurd (show p ∈ ([] : List (Addr × Obj)) ++ [] from hp) (by simp)⟩
  refine compLoop_any (fun m s' => ∃ i H', (Inv (X.blk s H scope ce fp) [] (wipe σ vs) H' s' ∧ tn i s'.heap ∧ ∀ b ∈ fp, H' b = none) ∧ W i m H') ?_ n ⟨0, H, ⟨start.1, start.2.1, start.2.2.1⟩, start.2.2.2⟩
  rintro m s1 ⟨i, H1, ⟨I1, t1, no1⟩, w1⟩
  cases step i m H1 w1 with
  | inl e =>
    refine thnF (T.done (X.blk s H scope ce fp) rfl rfl rfl hc i [] s1 (wipe σ vs) H1 (fun _ _ => False) I1 (apart I1 no1) t1 e.1) ?_
    rintro r s2 ⟨rfl, I2⟩
    exact out s2 H1 I2 e.2
  | inr e =>
    obtain ⟨go, Nx, nx, each⟩ := e
    refine thnF (T.item (X.blk s H scope ce fp) rfl rfl rfl hc i [] s1 (wipe σ vs) H1 (fun _ _ => False) I1 (apart I1 no1) t1 go) ?_
    rintro r s2 ⟨u, rfl, k2⟩
    refine thnF k2 ?_
    rintro _ s3 ⟨x, H3, I3, r3, y3, t3, no3⟩
    have P3 := I3.pinned (apart I3 no3) (T.obj _ _ t3)
    refine thnF (pg.run _ s3 _ H3 x u _ P3 r3 (each x H3 y3)) ?_
    rintro _ s4 ⟨σ4, H4, P4, same, q4⟩
    refine wpAny_tests_nil ?_
    rw [if_pos rfl]
    refine thnF (pe.run _ s4 σ4 H4 _ P4 q4) ?_
    rintro z s5 ⟨y, H5, P5, r5, acc, hD, hz, n5⟩
    refine app_ok (X := X.blk s H scope ce fp) P5 hD hz r5 fun s6 P6 => ?_
    obtain ⟨m', lt, w6⟩ := nx _ n5
    have kept : ∀ b ∈ fp, ∀ o, s3.heap.get? b = some o → s6.heap.get? b = some o ∧ (upd H5 D (.lst (acc ++ [y]))) b = none := fun b hb o e =>
      have k := P6.pin (b, o) (List.mem_append_right _ (List.mem_append_right _ (mem_pinsAt hb e)))
      ⟨k.1, k.2.1⟩
    have len : (wipe σ vs).length = σ4.length := by rw [← same, wipe_length]
    refine ⟨m', lt, i + 1, _, ⟨(P6.unpinned (pins := [])).weak len fun j v e => ?_, T.keep _ _ _ t3 fun b hb o e => (kept b hb o e).1, fun b hb => ?_⟩, w6⟩
    · rw [← same] at e
      exact (wipe_some e).1
    · obtain ⟨o, e, _⟩ := T.obj _ _ t3 b hb
      exact (kept b hb o e).2
theorem pe_lcW {elt tg iter : Expr} {scope : Scope} {own : List (Str × Nat)} {pos : Pos} {wi : TI} {g : TG} {te : L2.St → TE} (hc : X.calm = true) (hN : X.N.Nodup) (hi : PI X tg iter wi) (ok : BlkOk X.N X.env.scope scope own)
    (hg : ∀ (s : Shared) (H : Hp) (C : Addr) (cl : List (Str × Addr)) (fp : List Addr), PG (X.blk s H scope (compEnvC scope cl C X.env) fp) tg g) (he : Elt X scope elt te) (hs : ∀ x, foldedSetIterable iter X.env x = pure x := by intro _; rfl) :
    PE X (.ListComp elt [⟨tg, iter, [], 0⟩] scope pos) (fun σ H Q => tLc wi g tYes (te σ) (own.map (·.2)) σ H Q) := by
  refine ⟨fun pins s σ H Q I h => ?_⟩
  have cap : ∀ y ∈ scope.names, y.2 = .free → ∃ c, X.env.cells.lookup y.1 = some c := fun y hy e => I.ok.has _ (ok.free y hy e)
  rw [eval_ListComp]
  refine wpAny_comprehension_free (use := none) rfl hs (closure_ok cap) ok.kind (fun y hy e => e ▸ ok.uniq y hy) (thn (hi.run pins s σ H _ I h) fun _ _ k => thn k ?_)
  rintro _ s2 ⟨it, fp, tn, J, H2, rfl, I2, T, t2, f2, q⟩
  refine wpAny_newObj_type (newEnv_comp ?_) (Nat.zero_le _)
  have nD : H2 s2.heap.objs.size = none := I2.hok.fresh (Nat.le_refl _)
  obtain ⟨W, ⟨n, w0⟩, step⟩ := q _ nD
  generalize eD : s2.heap.objs.size = D at nD w0 step ⊢
  -- the new list
  obtain ⟨s3, e3⟩ : ∃ s3 : Shared, s3 = { s2 with heap := s2.heap.push { cls := .type "list", data := .seq ([] : List Value).toArray } } := ⟨_, rfl⟩
  have old : ∀ b o, s2.heap.get? b = some o → s3.heap.get? b = some o := fun b o e => by rw [e3]; exact Heap.get?_push_of_some _ e
  have I3 : Inv X pins σ (upd H2 D (.lst [])) s3 := by
    have lay : s3.heap.get? D = some { cls := .type "list", data := .seq ([] : List Value).toArray } := by rw [e3, ← eD]; exact Heap.get?_push_size _ rfl
    have z := I2.laid (a := D) (o := .lst []) (t' := s2.toks) old (Nat.le_of_eq eD) ⟨Nat.zero_le _, [], 0, .nil, lay⟩
    rw [e3] at z ⊢
    exact z
  have t3 : tn 0 s3.heap := T.keep _ _ _ t2 fun b _ o e => old b o e
  have f3 : ∀ b ∈ fp, FpOk X pins (upd H2 D (.lst [])) b ∧ b < s3.heap.objs.size := fun b hb => by
    obtain ⟨o, e, _⟩ := T.obj _ _ t2 b hb
    have lt := Heap.lt_size e
    have ne : b ≠ D := by rw [← eD]; exact Nat.ne_of_lt lt
    exact ⟨⟨by rw [upd_ne ne]; exact (f2 b hb).1, (f2 b hb).2⟩, Heap.lt_size (old b o e)⟩
  rw [← e3]
  generalize upd H2 D (.lst []) = H3 at I3 f3 w0
  have J0 := block_start I3 ok hN f3
  have sz : (s3.heap.push { cls := .type "dict", data := .dict #[] }).objs.size = s3.heap.objs.size + 1 := Heap.size_push ..
  show codeAny _ _ (.compStart (.ListComp elt [⟨tg, iter, [], 0⟩] scope pos) 0 (.ref it) (.ref D) (compEnvC scope (cellsFrom (s3.heap.objs.size + 1) scope.names (cloFrom X.env.cells scope.names [])) s3.heap.objs.size X.env)) _ _
  have pg := hg s3 H3 s3.heap.objs.size (cellsFrom (s3.heap.objs.size + 1) scope.names (cloFrom X.env.cells scope.names [])) fp
  have pe := he pins σ s3 H3 s3.heap.objs.size (cellsFrom (s3.heap.objs.size + 1) scope.names (cloFrom X.env.cells scope.names [])) fp I3 fun b hb x c e => (f3 b hb).1.2.2.2.2.1 x c e
  have loc : (compEnvC scope (cellsFrom (s3.heap.objs.size + 1) scope.names (cloFrom X.env.cells scope.names [])) s3.heap.objs.size X.env).locals = s3.heap.objs.size := rfl
  generalize compEnvC scope (cellsFrom (s3.heap.objs.size + 1) scope.names (cloFrom X.env.cells scope.names [])) s3.heap.objs.size X.env = ce at J0 pg pe loc ⊢
  have t4 : tn 0 (pushCells (s3.heap.push { cls := .type "dict", data := .dict #[] }) scope.names) := T.keep _ _ _ t3 fun b _ o e => pushCells_keeps _ _ _ _ (Heap.get?_push_of_some _ e)
  have run : codeAny (model X.prog X.w) X.A (.compLoop (.ListComp elt [⟨tg, iter, [], 0⟩] scope pos) 0 (.ref it) (.ref D) ce) (compPost (model X.prog X.w) X.A X.xe none (EP X pins σ Q) (.ref D) s3.heap.objs.size) { s3 with heap := pushCells (s3.heap.push { cls := .type "dict", data := .dict #[] }) scope.names } := by
    refine blk_loop (Q := Q) (W := W) (n := n) (vs := own.map (·.2)) hc T pg pe (fun i m H1 w1 => ?_) (fun s' H' I' qq => ?_) ⟨J0, t4, fun b hb => (f3 b hb).1.1, w0⟩
    · rcases step i m H1 w1 with z | ⟨go, Nx, hn, each⟩
      · exact .inl z
      · exact .inr ⟨go, Nx, hn, fun x H' y => each x H' y⟩
    · obtain ⟨m, hm, _⟩ := I'.loc
      have no : H' s3.heap.objs.size = none := loc ▸ I'.free
      have K := I3.call' (ch := fp) I'.os I'.base I'.hok I'.bare fun b hb => ⟨(f3 b hb).1.2.2.2.1, (f3 b hb).1.2.1, (f3 b hb).1.2.2.2.2.1, (f3 b hb).1.2.2.2.2.2⟩
      obtain ⟨_, k1, _, k3, k4, k5⟩ := I3.fpOk (H' := H') (Nat.le_refl _) no
      have hm : s'.heap.Ns ce.locals m := hm
      rw [loc] at hm
      exact ⟨m, hm, fun h' sb => ⟨.ref D, H', K.turned (t' := s'.toks) (fun b o hb e => (sb.2 b hb).trans e) no k1 k3 k4 k5, rfl, qq⟩⟩
  exact codeAny_compStart_list run (T.self X.A 0 _ _ _ t4 run)
/-- what is known, in the def itself, of the cells that a lambda took -/
def Kn (X : Cx) (σ : L2.St) (cl : List (Str × Addr)) (fr : List Str) (ws : List (Option V)) : Prop := ∃ js, (X.Ok → Caps X cl fr js) ∧ ws = js.map (slotAt σ)
theorem kn_here : ∀ (pins : List (Addr × Obj)) (s : Shared) (σ : L2.St) (H : Hp), Inv X pins σ H s → ∀ cl fr ws, Kn X σ cl fr ws → CellsAt cl fr ws s.heap H := by
  rintro pins s σ H I cl fr ws ⟨js, c, rfl⟩
  exact cells_of I (c I.ok)
/-- .. and within a block -/
theorem kn_blk {pins : List (Addr × Obj)} {σ : L2.St} {s : Shared} {H : Hp} {scope : Scope} {ce : Env} {fp : List Addr} (I : Inv X pins σ H s) (nf : ∀ b ∈ fp, ∀ x c, X.env.cells.lookup x = some c → c ≠ b) :
    ∀ (pins' : List (Addr × Obj)) (s' : Shared) (σ' : L2.St) (H' : Hp), Inv (X.blk s H scope ce fp) pins' σ' H' s' → ∀ cl fr ws, Kn X σ cl fr ws → CellsAt cl fr ws s'.heap H' := by
  rintro pins' s' σ' H' I' cl fr ws ⟨js, c, rfl⟩
  exact cells_un (cells_of I (c I.ok)) I'.base fun y a e hb => nf a hb y a ((c I.ok).sub y a e) rfl
end
end TLC

set_option maxHeartbeats 2000000
namespace TLC
open PySem PySem.Spec PyProof.Rows L2 LamX NdefX
section
variable {X : Cx} {CX : CXT} {k i : Nat} {f : Addr} {F : NF} {b : Expr} {fr : List Str} {ws : List (Option V)} {sp : LSp} {E : L2.St → XK} {x : Str} {p pos : Pos}
/-- x() within a try: what is let out may speak of the slots -/
theorem pe_lamCallS (O : LOk X.prog X.w X.K X.mg X.base CX k f F b fr sp) (C : CellsAt F.cl fr ws X.s_0.heap X.H_0) (hex : ∀ y c, F.cl.lookup y = some c → c ∉ X.ex) (hr : Room k X.A) (hx : ∀ σ, PassesAt CX X σ (E σ)) (hN : X.N[i]? = some x) (hv : Vis X.env.scope x)
    (hd : (x == ("__debug__" : Str)) = false := by decide) (hcd : (x == ("__classdict__" : Str)) = false := by decide) : PE X (.Call (.Name x p) [] [] pos) (fun σ H Q => tLamCall i f F b ws sp (E σ) σ H Q) := by
  refine ⟨fun pins s σ H Q I ⟨h1, h2, h3, h4⟩ => ?_⟩
  refine wpAny_Call_Name_kw (thn ((pe_var (pos := p) hN hv hd hcd).run pins s σ H (fun v H1 => v = .ref f ∧ H1 = H) I ⟨.ref f, h1, rfl, rfl⟩) fun u s1 ⟨v, H1, I1, r1, q1⟩ => ?_)
  obtain ⟨rfl, rfl⟩ := q1
  obtain rfl : u = Value.ref f := r1
  refine PySem.W.callWith_F0 (first := []) (lam_at I1 h2) (wpAny_call (codeAny_mono (O.run X.A X.stack s1 H1 ws Q (E σ) hr I1.env0 h2 h3 (cells_un C I1.base hex) h4) fun r s' hq => ?_))
  match r, hq with
  | .error e, hq => exact hx σ pins H1 s1 e s' I1 hq
  | .ok (.ret u), hq => exact I1.after hq
end
/-- a def that calls the lambda handed in, by its body -/
theorem cok_of {P : Program} {w : World} {K : PySem.W.Frag} {mg : Str → Option Value} {base : Heap} {k j : Nat} {g : Addr} {gd : FuncData} {x a : Str} {st : Stmt} {N : List Str} {csp : (Hp → VK → XK → Prop) → Hp → VK → Prop} (G : TX.Fn K mg x st [a] g gd) (S : FnScope N [a] (defScope st))
    (body : ∀ (cdv : Value) (A : Around) (outer : List Env) (s : Shared) (H : Hp) (f : Addr) (F : NF) (b : Expr) (fr : List Str) (ws : List (Option V)) (sp : LSp) (Q : VK), Room k (A.deeper (envOfC x (defScope st) s.heap.objs.size g cdv)) → LOk P w K mg base (L2.CX P w) j f F b fr sp →
      CellsAt F.cl fr ws s.heap H → H f = some (LamO f F b) → H F.c = some (CodeO F.c F.qual) → csp (sp ws) H Q →
      ∃ t, PSs (cxOf L2.CX0 P w K mg base N x (defScope st) g cdv A outer s H L2.E0).nox (defBody st) t ∧ t { nx := fun _ H' => Q .non H', rt := Q } (L2.start N [.ref f]) H) :
    COk P w K mg base (k + 1) j g csp := by
  obtain ⟨oc, od, kV, doc, pm, an, cdv, ct, osl, e, lk, hcd⟩ := G.F.ex
  subst e
  refine ⟨fun A outer s H f F b fr ws sp Q hr e0 O hf hc C h => ?_⟩
  have kin : K.In s.heap := e0.mod.kin.keeps fun a o e => (e0.bs a o e).1
  refine run_ofS (N := N) (ps := [a]) (us := [.ref f]) (vs := [.ref f]) lk hcd S hr e0 (G.b s [.ref f] kin rfl) (.cons rfl .nil) rfl fun hr' => ?_
  obtain ⟨t, ht, q⟩ := body cdv A outer s H f F b fr ws sp Q hr' O C hf hc h
  exact ⟨t, ht.nox, q⟩
end TLC
namespace TLC
open PySem PySem.Spec PyProof.Rows L2 LamX NdefX
/-- a def whose code object is known -/
structure FunC (K : PySem.W.Frag) (x qual : Str) (st : Stmt) (f : Addr) (fd : FuncData) (c : Addr) : Prop where
  ex : ∃ (oc : Value) (od : Option Addr) (kV doc pm : Value) (an : Option Addr) (ct : Value) (osl : Array (Option Value)),
    fd = PySem.W.fnOf x qual (defArgs st) (defBody st) (defScope st) .none kV doc pm an (.ref c) ct ∧ K.lookup f = some ⟨oc, od, .func fd, osl⟩ ∧ PySem.W.codeIn K (.ref c) qual = true
  kp : PySem.W.keepIn K (.ref f) = true
theorem FunC.ok {P : Program} {w : World} {K : PySem.W.Frag} {mg : Str → Option Value} {base : Heap} {x qual : Str} {st : Stmt} {f c : Addr} {fd : FuncData} {N ps : List Str} {k : Nat} {sp : Sp} (F : FunC K x qual st f fd c) (S : FnScope N ps (defScope st)) (len : ∀ vs H Q E, sp vs H Q E → vs.length = ps.length)
    (hbody : ∀ (A : Around) (outer : List Env) (s : Shared) (H : Hp) (vs : List V) (Q : VK) (E : XK), Room k (A.deeper (envOfC qual (defScope st) s.heap.objs.size f (.ref c))) → sp vs H Q E →
      ∃ t, PSs (cxOf L2.CX0 P w K mg base N qual (defScope st) f (.ref c) A outer s H E).nox (defBody st) t ∧ t { nx := fun _ H' => Q .non H', rt := Q } (L2.start N vs) H) : FnOk P w K mg base L2.CX0 (k + 1) f fd ps sp := by
  obtain ⟨oc, od, kV, doc, pm, an, ct, osl, e, lk, hcd⟩ := F.ex
  subst e
  refine fn_of lk hcd S len fun A outer s H vs Q E hr hsp => ?_
  obtain ⟨t, h, q⟩ := hbody A outer s H vs Q E hr hsp
  exact ⟨t, h.nox, q⟩
/-- such a def of the module, ready to be called -/
structure FnC (K : PySem.W.Frag) (mg : Str → Option Value) (x : Str) (st : Stmt) (ps : List Str) (f : Addr) (fd : FuncData) (c : Addr) : Prop where
  F : FunC K x x st f fd c
  g : mg x = some (.ref f)
  b : Binds K fd ps []
end TLC

set_option maxHeartbeats 2000000
namespace T33
open PySem L2 PyProof.Rows TX TY TW TD TB TG TUD TE TK
/-! Whatever may be handed in, seen from the heap; what stands but at the well and in instances, stays. -/
def Kp (W : Addr) (H H' : Hp) : Prop := ∀ a o, a ≠ W → (∀ C dx fs, o ≠ .ins C dx fs) → (∀ ps, o ≠ .tbl ps) → H a = some o → H' a = some o
theorem Kp.sm {W : Addr} {H H' : Hp} (s : Sm W H H') : Kp W H H' := fun a o n _ _ e => s a o n e
theorem Kp.of {W : Addr} {H H' : Hp} (s : Same H H') : Kp W H H' := fun a o _ _ _ e => s a o e
theorem Kp.ext {W : Addr} {H H' : Hp} (s : LamX.ExtN H H') : Kp W H H' := fun a o _ _ t e => s a o e t
theorem Kp.but {W : Addr} {H H' : Hp} {p C dx : Addr} {fs : List (Str × V)} (hp : H p = some (.ins C dx fs)) (k : ∀ b o, b ≠ p → H b = some o → H' b = some o) : Kp W H H' := fun a o _ no _ e =>
  k a o (fun z => by rw [z, hp] at e; exact no C dx fs (Option.some.inj e).symm) e
inductive Lf (W : Addr) (H : Hp) : V → Prop
  | non : Lf W H .non
  | bl (b : Bool) : Lf W H (.bl b)
  | int (i : Int) : Lf W H (.int i)
  | str (x : Str) (h : x.length ≤ 100) : Lf W H (.str x)
  | tup {a : Addr} {xs : List V} (n : a ≠ W) (h : H a = some (.tup xs)) : Lf W H (.ref a)
  | lst {a : Addr} {xs : List V} (n : a ≠ W) (h : H a = some (.lst xs)) : Lf W H (.ref a)
  | dK {a : Addr} {kvs : List (Key × V)} (n : a ≠ W) (h : H a = some (.dK kvs)) : Lf W H (.ref a)
theorem Lf.kp {W : Addr} {H H' : Hp} {v : V} (h : Lf W H v) (s : Kp W H H') : Lf W H' v := by
  cases h with
  | non => exact .non
  | bl b => exact .bl b
  | int i => exact .int i
  | str x h => exact .str x h
  | tup n h => exact .tup n (s _ _ n (fun _ _ _ z => by cases z) (fun _ z => by cases z) h)
  | lst n h => exact .lst n (s _ _ n (fun _ _ _ z => by cases z) (fun _ z => by cases z) h)
  | dK n h => exact .dK n (s _ _ n (fun _ _ _ z => by cases z) (fun _ z => by cases z) h)
def isS : V → Bool
  | .str _ => true
  | _ => false
theorem Lf.ty {K : PySem.W.Frag} {W : Addr} {H : Hp} {v : V} (h : Lf W H v) : ∃ t, TyX K H v (.type t) ∧ kitB t "str" = some (isS v) ∧ kitB t "int" = some (numV v) ∧ kitB t "bool" = some (truthV v) := by
  cases h with
  | non => exact ⟨_, .base .non, by decide +kernel, by decide +kernel, by decide +kernel⟩
  | bl b => exact ⟨_, .base (.bl b), (show kitB "bool" "str" = some false by decide +kernel), (show kitB "bool" "int" = some true by decide +kernel), (show kitB "bool" "bool" = some true by decide +kernel)⟩
  | int i => exact ⟨_, .base (.int i), (show kitB "int" "str" = some false by decide +kernel), (show kitB "int" "int" = some true by decide +kernel), (show kitB "int" "bool" = some false by decide +kernel)⟩
  | str x _ => exact ⟨_, .base (.str x), (show kitB "str" "str" = some true by decide +kernel), (show kitB "str" "int" = some false by decide +kernel), (show kitB "str" "bool" = some false by decide +kernel)⟩
  | tup _ h => exact ⟨_, .base (.tup h), (show kitB "tuple" "str" = some false by decide +kernel), (show kitB "tuple" "int" = some false by decide +kernel), (show kitB "tuple" "bool" = some false by decide +kernel)⟩
  | lst _ h => exact ⟨_, .base (.lst h), (show kitB "list" "str" = some false by decide +kernel), (show kitB "list" "int" = some false by decide +kernel), (show kitB "list" "bool" = some false by decide +kernel)⟩
  | dK _ h => exact ⟨_, .base (.dK h), (show kitB "dict" "str" = some false by decide +kernel), (show kitB "dict" "int" = some false by decide +kernel), (show kitB "dict" "bool" = some false by decide +kernel)⟩
/-- what is neither list nor tuple -/
inductive Ob (W : Addr) (H : Hp) : V → Prop
  | int (i : Int) : Ob W H (.int i)
  | str (x : Str) : Ob W H (.str x)
  | dK {a : Addr} {kvs : List (Key × V)} (n : a ≠ W) (h : H a = some (.dK kvs)) : Ob W H (.ref a)
theorem Ob.kp {W : Addr} {H H' : Hp} {v : V} (h : Ob W H v) (s : Kp W H H') : Ob W H' v := by
  cases h with
  | int i => exact .int i
  | str x => exact .str x
  | dK n h => exact .dK n (s _ _ n (fun _ _ _ z => by cases z) (fun _ z => by cases z) h)
/-- what may be a row: its values, where it is a tuple -/
def RowT (W : Addr) (H : Hp) (v : V) (d : Option (List V)) : Prop := (∃ a ys, v = .ref a ∧ a ≠ W ∧ H a = some (.tup ys) ∧ ys.length ≤ 20 ∧ (∀ y ∈ ys, Lf W H y) ∧ d = some ys) ∨ (d = none ∧ (v = .non ∨ (∃ a xs, v = .ref a ∧ a ≠ W ∧ H a = some (.lst xs)) ∨ Ob W H v))
theorem RowT.kp {W : Addr} {H H' : Hp} {v : V} {d : Option (List V)} (h : RowT W H v d) (s : Kp W H H') : RowT W H' v d := by
  rcases h with ⟨a, ys, e, n, h1, h2, h3, h4⟩ | ⟨e, h | ⟨a, xs, h, n, h1⟩ | h⟩
  · exact .inl ⟨a, ys, e, n, s _ _ n (fun _ _ _ z => by cases z) (fun _ z => by cases z) h1, h2, fun y hy => (h3 y hy).kp s, h4⟩
  · exact .inr ⟨e, .inl h⟩
  · exact .inr ⟨e, .inr (.inl ⟨a, xs, h, n, s _ _ n (fun _ _ _ z => by cases z) (fun _ z => by cases z) h1⟩)⟩
  · exact .inr ⟨e, .inr (.inr (h.kp s))⟩
theorem RowT.ty {K : PySem.W.Frag} {W : Addr} {H : Hp} {v : V} {d : Option (List V)} (h : RowT W H v d) : ∃ t, TyX K H v (.type t) ∧ kitB t "tuple" = some d.isSome := by
  rcases h with ⟨a, ys, rfl, n, h1, h2, h3, rfl⟩ | ⟨rfl, rfl | ⟨a, xs, rfl, n, h1⟩ | h⟩
  · exact ⟨_, .base (.tup h1), (show kitB "tuple" "tuple" = some true by decide +kernel)⟩
  · exact ⟨_, .base .non, (show kitB "NoneType" "tuple" = some false by decide +kernel)⟩
  · exact ⟨_, .base (.lst h1), (show kitB "list" "tuple" = some false by decide +kernel)⟩
  · cases h with
    | int i => exact ⟨_, .base (.int i), (show kitB "int" "tuple" = some false by decide +kernel)⟩
    | str x => exact ⟨_, .base (.str x), (show kitB "str" "tuple" = some false by decide +kernel)⟩
    | dK n h => exact ⟨_, .base (.dK h), (show kitB "dict" "tuple" = some false by decide +kernel)⟩
/-- what may be rows -/
def RowsT (W : Addr) (H : Hp) (v : V) (o : Option (List (Option (List V)))) : Prop := (∃ L xs ds, v = .ref L ∧ L ≠ W ∧ H L = some (.lst xs) ∧ Paired (RowT W H) xs ds ∧ xs.length ≤ 20 ∧ o = some ds) ∨ (o = none ∧ ((∃ a xs, v = .ref a ∧ a ≠ W ∧ H a = some (.tup xs)) ∨ Ob W H v))
theorem RowsT.kp {W : Addr} {H H' : Hp} {v : V} {o : Option (List (Option (List V)))} (h : RowsT W H v o) (s : Kp W H H') : RowsT W H' v o := by
  rcases h with ⟨L, xs, ds, e, n, h1, h2, h3, h4⟩ | ⟨e, ⟨a, xs, h, n, h1⟩ | h⟩
  · exact .inl ⟨L, xs, ds, e, n, s _ _ n (fun _ _ _ z => by cases z) (fun _ z => by cases z) h1, Paired.mapP h2 fun a d e => e.kp s, h3, h4⟩
  · exact .inr ⟨e, .inl ⟨a, xs, h, n, s _ _ n (fun _ _ _ z => by cases z) (fun _ z => by cases z) h1⟩⟩
  · exact .inr ⟨e, .inr (h.kp s)⟩
theorem RowsT.ty {K : PySem.W.Frag} {W : Addr} {H : Hp} {v : V} {o : Option (List (Option (List V)))} (h : RowsT W H v o) : v ≠ .non ∧ ∃ t, TyX K H v (.type t) ∧ kitB t "list" = some o.isSome := by
  rcases h with ⟨L, xs, ds, rfl, n, h1, h2, h3, rfl⟩ | ⟨rfl, ⟨a, xs, rfl, n, h1⟩ | h⟩
  · exact ⟨(fun z => by cases z), _, .base (.lst h1), (show kitB "list" "list" = some true by decide +kernel)⟩
  · exact ⟨(fun z => by cases z), _, .base (.tup h1), (show kitB "tuple" "list" = some false by decide +kernel)⟩
  · cases h with
    | int i => exact ⟨(fun z => by cases z), _, .base (.int i), (show kitB "int" "list" = some false by decide +kernel)⟩
    | str x => exact ⟨(fun z => by cases z), _, .base (.str x), (show kitB "str" "list" = some false by decide +kernel)⟩
    | dK n h => exact ⟨(fun z => by cases z), _, .base (.dK h), (show kitB "dict" "list" = some false by decide +kernel)⟩
/-- what a name is -/
def okc (c : Nat) : Bool := !decide ([c] < (Str.ofString "a").cps.toList) && !decide ((Str.ofString "z").cps.toList < [c])
theorem okc_iff (c : Nat) : okc c = true ↔ 97 ≤ c ∧ c ≤ 122 := by
  unfold okc
  rw [str_a, str_z, S_cps, S_cps, Bool.and_eq_true, Bool.not_eq_true', Bool.not_eq_true', decide_eq_false_iff_not, decide_eq_false_iff_not, lt_sign, lt_sign]
  omega
def nameB (x : Str) : Bool := decide (1 ≤ x.length) && (decide (x.length ≤ 8) && x.cps.toList.all okc)
theorem nameB_iff (x : Str) : nameB x = true ↔ TM.NameOk x := by
  unfold nameB TM.NameOk
  rw [Bool.and_eq_true, Bool.and_eq_true, decide_eq_true_iff, decide_eq_true_iff, List.all_eq_true]
  constructor
  · rintro ⟨h1, h2, h3⟩
    exact ⟨h1, h2, fun c hc => (okc_iff c).mp (h3 c hc)⟩
  · rintro ⟨h1, h2, h3⟩
    exact ⟨h1, h2, fun c hc => (okc_iff c).mpr (h3 c hc)⟩
def isNm : V → Bool
  | .str x => nameB x
  | _ => false
def colsV (xs : List V) : Bool := decide (xs.length ≤ 8) && (xs.all isNm && decide xs.Nodup)
/-- what may be columns; whether it is -/
def ColsT (W : Addr) (H : Hp) (v : V) (b : Bool) : Prop := (∃ L xs, v = .ref L ∧ L ≠ W ∧ H L = some (.lst xs) ∧ xs.length ≤ 20 ∧ (∀ x ∈ xs, Lf W H x) ∧ b = colsV xs) ∨ (b = false ∧ (v = .non ∨ (∃ a xs, v = .ref a ∧ a ≠ W ∧ H a = some (.tup xs)) ∨ Ob W H v))
theorem ColsT.kp {W : Addr} {H H' : Hp} {v : V} {b : Bool} (h : ColsT W H v b) (s : Kp W H H') : ColsT W H' v b := by
  rcases h with ⟨L, xs, e, n, h1, h2, h3, h4⟩ | ⟨e, h | ⟨a, xs, h, n, h1⟩ | h⟩
  · exact .inl ⟨L, xs, e, n, s _ _ n (fun _ _ _ z => by cases z) (fun _ z => by cases z) h1, h2, fun x hx => (h3 x hx).kp s, h4⟩
  · exact .inr ⟨e, .inl h⟩
  · exact .inr ⟨e, .inr (.inl ⟨a, xs, h, n, s _ _ n (fun _ _ _ z => by cases z) (fun _ z => by cases z) h1⟩)⟩
  · exact .inr ⟨e, .inr (.inr (h.kp s))⟩
theorem all_names {xs : List V} (k : xs.all isNm = true) : ∃ ns : List Str, xs = ns.map V.str ∧ ∀ n ∈ ns, TM.NameOk n := by
  induction xs with
  | nil => exact ⟨[], rfl, fun _ h => nomatch h⟩
  | cons x xs ih =>
    rw [List.all_cons, Bool.and_eq_true] at k
    obtain ⟨ns, e, ok⟩ := ih k.2
    cases x with
    | str s => exact ⟨s :: ns, by rw [List.map_cons, e], fun n hn => (List.mem_cons.mp hn).elim (fun e => e ▸ (nameB_iff s).mp k.1) (ok n)⟩
    | _ => cases k.1
theorem nd_strs {ns : List Str} : (ns.map V.str).Nodup ↔ ns.Nodup := by
  constructor
  · intro h
    exact List.Pairwise.of_map V.str (fun a b hab e => hab (by rw [e])) h
  · intro h
    refine List.pairwise_map.mpr (h.imp fun {a b} hab e => hab (V.str.inj e))
/-! ### rows -/
def okRow (wide : Nat) : Option (List V) → Bool
  | some ys => decide (ys.length = wide) && ys.all wholeV
  | none => false
/-- the first that is no row -/
def firstB (wide : Nat) : List (Option (List V)) → Option Nat
  | [] => none
  | d :: ds => if okRow wide d then (firstB wide ds).map (· + 1) else some 0
def dueR (wide : Nat) : Option (List (Option (List V))) → Option Nat
  | none => some 0
  | some ds => firstB wide ds
theorem firstB_at {wide : Nat} : ∀ {ds : List (Option (List V))} {i : Nat} {d : Option (List V)}, (∀ d' ∈ ds.take i, okRow wide d' = true) → ds[i]? = some d → okRow wide d = false → firstB wide ds = some i := by
  intro ds
  induction ds with
  | nil => intro i d _ h; simp at h
  | cons c ds ih =>
    intro i d ha hd hb
    cases i with
    | zero =>
      have : c = d := by simpa using hd
      subst this
      unfold firstB
      rw [hb]
      rfl
    | succ i =>
      have hc : okRow wide c = true := ha c (by rw [List.take_succ_cons]; exact List.mem_cons_self)
      unfold firstB
      rw [hc, if_pos rfl, ih (fun d' hd' => ha d' (by rw [List.take_succ_cons]; exact List.mem_cons_of_mem _ hd')) (by simpa using hd) hb]
      rfl
theorem firstB_none {wide : Nat} : ∀ {ds : List (Option (List V))}, (∀ d ∈ ds, okRow wide d = true) → firstB wide ds = none := by
  intro ds
  induction ds with
  | nil => intro _; rfl
  | cons c ds ih =>
    intro ha
    unfold firstB
    rw [ha c List.mem_cons_self, if_pos rfl, ih fun d hd => ha d (List.mem_cons_of_mem _ hd)]
    rfl
theorem whole_vals {ys : List V} (h : ys.all wholeV = true) : ∃ r : List Int, ys = r.map V.int := by
  induction ys with
  | nil => exact ⟨[], rfl⟩
  | cons y ys ih =>
    rw [List.all_cons, Bool.and_eq_true] at h
    obtain ⟨r, e⟩ := ih h.2
    cases y with
    | int i => exact ⟨i :: r, by rw [List.map_cons, e]⟩
    | _ => cases h.1
/-- rows that are all right, as they stand -/
theorem rows_of {W : Addr} {H : Hp} {wide : Nat} {xs : List V} {ds : List (Option (List V))} (h : Paired (RowT W H) xs ds) (ok : ∀ d ∈ ds, okRow wide d = true) : ∃ (as : List Addr) (rs : List (List Int)), xs = as.map V.ref ∧ RowsAt H as rs ∧ (∀ r ∈ rs, r.length = wide) ∧ rs.length = xs.length := by
  induction h with
  | nil => exact ⟨[], [], rfl, .nil, (fun _ h => nomatch h), rfl⟩
  | cons x _ ih =>
    obtain ⟨as, rs, e, h1, h2, h3⟩ := ih fun d hd => ok d (List.mem_cons_of_mem _ hd)
    have k := ok _ List.mem_cons_self
    rcases x with ⟨a, ys, rfl, n, e1, _, _, rfl⟩ | ⟨rfl, _⟩
    · unfold okRow at k
      rw [Bool.and_eq_true, decide_eq_true_iff] at k
      obtain ⟨r, rfl⟩ := whole_vals k.2
      refine ⟨a :: as, r :: rs, by rw [List.map_cons, e], .cons e1 h1, fun q hq => ?_, by rw [List.length_cons, List.length_cons, h3]⟩
      rcases List.mem_cons.mp hq with e | hq
      · rw [e]
        simpa using k.1
      · exact h2 q hq
    · cases k
def optI : Option Nat → V
  | none => .non
  | some k => .int k
end T33

set_option maxHeartbeats 2000000
namespace T33
open PySem L2 PyProof.Rows TX TY TW TD TB TG TUD TE TK
section
variable {P : Program} {w : World} {K : PySem.W.Frag} {mg : Str → Option Value} {base : Heap}
/-- the constants of the module -/
structure Cn (mg : Str → Option Value) : Prop where
  longest : ∃ t, mg "LONGEST_NAME" = some (.int 8 t)
  most : ∃ t, mg "MOST_COLUMNS" = some (.int 8 t)
theorem sc_is_name : FnScope ["thing", "sign"] ["thing"] (defScope s_is_name) := ⟨rfl, rfl, rfl, by decide +kernel, rfl, by decide +kernel, by decide +kernel⟩
def sp_is_name : Sp := fun vs H Q _ => ∃ (W : Addr) (v : V), vs = [v] ∧ Lf W H v ∧ ∀ H', Same H H' → Q (.bl (isNm v)) H'
theorem ok_is_name {f : Addr} {fd : FuncData} (F : Fn K mg "is_name" s_is_name ["thing"] f fd) (B : Bn mg) (C : Cn mg) : FnOk P w K mg base CX0 1 f fd ["thing"] sp_is_name := by
  refine F.F.ok sc_is_name (fun vs H Q E h => ?_) (fun cdv A outer s H vs Q E hr h => ?_)
  · obtain ⟨W, x, rfl, _⟩ := h
    rfl
  · obtain ⟨W, v, rfl, hv, q⟩ := h
    have hu := hu_of hr
    obtain ⟨tl, hlg⟩ := C.longest
    refine ⟨_, pss_cons (ps_if (PW.pt (pw_or (pt_not (pt_val (pe_callB call_isi (by rfl) B.isi boot_isinstance (pa_cons (pv 0) (pa_cons (pe_bltn (v := .ty "str") (by rfl) B.str boot_str rfl) pa_nil)))))
        (pw_or1 (pt_not (pt_chain op_le op_le pe_int (pe_callB call_len_str (by rfl) B.len PySem.boot_len (pa_cons (pv 0) pa_nil)) (pe_glob (v := .int 8) (by rfl) hlg ⟨_, rfl⟩)))))) (pss_one (ps_ret pe_bl)) pss_nil)
      (pss_one (ps_ret (pe_callB (cr_all rfl) (by rfl) B.all boot_all (pa_cons (pe_lc (own := [("sign", 1)]) (g := gName 1) (tt := tYes) rfl sc_is_name.nd (pi_str (pv 0)) (blkOk_by (N := ["thing", "sign"]) (sc := defScope s_is_name) (by decide +kernel))
          (fun _ _ _ _ _ => pg_name (i := 1) sc_is_name.nd rfl (Or.inl rfl)) (fun _ _ _ _ _ => pts_nil)
          (fun _ _ _ _ _ => pe_chain op_le_str op_le_str pe_str (pv 1) pe_str)) pa_nil)))), ?_⟩
    obtain ⟨t, ty, hk, _, _⟩ := hv.ty (K := K)
    refine ⟨_, rfl, _, _, _, _, isS v, rfl, .ty _, ty, kit_ty hk, _, rfl, ?_⟩
    have q0 := q H same_rfl
    cases hv with
    | str x hx =>
      have e0 : isNm (.str x) = nameB x := rfl
      rw [e0] at q0
      have q' : ∀ H', Same H H' → Q (.bl (nameB x)) H' := q
      clear q
      by_cases h1 : 1 ≤ x.length
      · by_cases h2 : x.length ≤ 8
        · refine ⟨_, rfl, x, rfl, line100 (by omega), _, _, rfl, rfl, true, ?_, _, _, rfl, rfl, true, ?_, ?_⟩
          · exact congrArg V.bl (decide_eq_true (show (1 : Int) ≤ (x.length : Int) by omega))
          · exact congrArg V.bl (decide_eq_true (show (x.length : Int) ≤ 8 by omega))
          refine ⟨_, rfl, x, rfl, fun L nL => ?_⟩
          refine lc_it walk_str (fun i H' => H' L = some (.lst (((x.cps.toList.take i).map okc).map V.bl)) ∧ Same H H') ⟨upd_same, Same.new nL⟩ (fun _ _ _ _ => trivial) ?_ ?_
          · rintro i v H1 H1' hi ⟨e1, s1⟩ ⟨rfl, c, hc, rfl⟩
            refine ⟨rfl, ?_⟩
            have hc' : x.cps.toList[i]? = some c := by rw [Array.getElem?_toList]; exact hc
            have key : ∀ b : Bool, okc c = b → ∃ xs, H1' L = some (.lst xs) ∧ xs.length < sizeLine ∧ (upd H1' L (.lst (xs ++ [V.bl b])) L = some (.lst (((x.cps.toList.take (i + 1)).map okc).map V.bl)) ∧ Same H (upd H1' L (.lst (xs ++ [V.bl b])))) := by
              intro b hb
              refine ⟨_, e1, ?_, ?_, Same.mut s1 nL⟩
              · rw [List.length_map, List.length_map, List.length_take]
                have : x.cps.toList.length ≤ 8 := by rw [Array.length_toList]; exact h2
                exact line100' (by omega)
              · rw [upd_same, List.take_add_one, hc', List.map_append, List.map_append, ← hb]
                rfl
            refine ⟨_, rfl, _, _, rfl, rfl, !decide ([c] < (Str.ofString "a").cps.toList), rfl, ?_⟩
            cases ha : !decide ([c] < (Str.ofString "a").cps.toList) with
            | true =>
              refine ⟨_, _, rfl, rfl, ?_⟩
              exact key _ (by unfold okc; rw [ha, Bool.true_and])
            | false => exact key false (by unfold okc; rw [ha, Bool.false_and])
          · rintro H1 ⟨e1, s1⟩
            rw [show x.cps.size = x.cps.toList.length by rw [Array.length_toList], List.take_length] at e1
            refine ⟨L, x.cps.toList.map okc, rfl, .of e1, ?_⟩
            have e2 : (x.cps.toList.map okc).all id = nameB x := by
              unfold nameB
              rw [decide_eq_true h1, decide_eq_true h2, Bool.true_and, Bool.true_and, List.all_map]
              rfl
            rw [e2]
            exact q' _ s1
        · have e1 : nameB x = false := by unfold nameB; rw [decide_eq_false h2, Bool.false_and, Bool.and_false]
          rw [e1] at q0
          refine ⟨_, rfl, x, rfl, line100 (by omega), _, _, rfl, rfl, true, ?_, _, _, rfl, rfl, false, ?_, ?_⟩
          · exact congrArg V.bl (decide_eq_true (show (1 : Int) ≤ (x.length : Int) by omega))
          · exact congrArg V.bl (decide_eq_false (show ¬ (x.length : Int) ≤ 8 by omega))
          exact q0
      · have e1 : nameB x = false := by unfold nameB; rw [decide_eq_false h1, Bool.false_and]
        rw [e1] at q0
        refine ⟨_, rfl, x, rfl, line100 (by omega), _, _, rfl, rfl, false, ?_, false, rfl, ?_⟩
        · exact congrArg V.bl (decide_eq_false (show ¬ (1 : Int) ≤ (x.length : Int) by omega))
        exact q0
    | _ => exact q0
/-- the defs of the program that are called -/
structure Kt (K : PySem.W.Frag) (mg : Str → Option Value) (fW fN fA fR fK fS : Addr) (dW dN dA dR dK dS : FuncData) : Prop where
  B : Bn mg
  C : Cn mg
  set : mg "set" = none
  bool : mg "bool" = none
  whole : Fn K mg "is_whole" s_is_whole ["thing"] fW dW
  isn : Fn K mg "is_name" s_is_name ["thing"] fN dN
  are : Fn K mg "are_columns" s_are ["thing"] fA dA
  row : Fn K mg "is_row" s_is_row ["thing", "many"] fR dR
  chk : Fn K mg "_check_columns" s_cc ["columns"] fK dK
  srt : Fn K mg "_sorted_rows" s_sorted ["rows", "many"] fS dS
variable {fW fN fA fR fK fS : Addr} {dW dN dA dR dK dS : FuncData}
theorem sc_is_whole : FnScope ["thing"] ["thing"] (defScope s_is_whole) := ⟨rfl, rfl, rfl, by decide +kernel, rfl, by decide +kernel, by decide +kernel⟩
def sp_is_whole : Sp := fun vs H Q _ => ∃ (W : Addr) (v : V), vs = [v] ∧ Lf W H v ∧ Q (.bl (wholeV v)) H
theorem ok_is_whole (T : Kt K mg fW fN fA fR fK fS dW dN dA dR dK dS) : FnOk P w K mg base CX0 1 fW dW ["thing"] sp_is_whole := by
  have B := T.B
  refine T.whole.F.ok sc_is_whole (fun vs H Q E h => ?_) (fun cdv A outer s H vs Q E hr h => ?_)
  · obtain ⟨W, v, rfl, _⟩ := h
    rfl
  · obtain ⟨W, v, rfl, hv, q⟩ := h
    refine ⟨_, pss_one (ps_ret (pe_and (pe_callB call_isi (by rfl) B.isi boot_isinstance (pa_cons (pv 0) (pa_cons (pe_bltn (v := .ty "int") (by rfl) B.int boot_int rfl) pa_nil)))
      (pe_one (pe_not (pe_callB call_isi (by rfl) B.isi boot_isinstance (pa_cons (pv 0) (pa_cons (pe_bltn (v := .ty "bool") (by rfl) T.bool boot_bool rfl) pa_nil))))))), ?_⟩
    obtain ⟨t, h1, _, h2, h3⟩ := hv.ty (K := K)
    refine ⟨_, rfl, _, _, _, _, _, rfl, .ty _, h1, kit_ty h2, _, rfl, ?_⟩
    rw [whole_num] at q
    cases hn : numV v with
    | false =>
      rw [hn] at q
      exact q
    | true =>
      rw [hn] at q
      refine ⟨_, rfl, _, _, _, _, _, rfl, .ty _, h1, kit_ty h3, _, rfl, ?_⟩
      simpa using q
theorem sc_is_row : FnScope ["thing", "many", "value"] ["thing", "many"] (defScope s_is_row) := ⟨rfl, rfl, rfl, by decide +kernel, rfl, by decide +kernel, by decide +kernel⟩
def sp_is_row : Sp := fun vs H Q _ => ∃ (W : Addr) (v : V) (d : Option (List V)) (many : Nat), vs = [v, .int many] ∧ RowT W H v d ∧ ∀ H', Same H H' → Q (.bl (okRow many d)) H'
theorem ok_is_row (T : Kt K mg fW fN fA fR fK fS dW dN dA dR dK dS) : FnOk P w K mg base CX0 2 fR dR ["thing", "many"] sp_is_row := by
  have B := T.B
  have GW : FnOk P w K mg base CX0 1 fW dW ["thing"] sp_is_whole := ok_is_whole T
  refine T.row.F.ok sc_is_row (fun vs H Q E h => ?_) (fun cdv A outer s H vs Q E hr h => ?_)
  · obtain ⟨W, v, d, many, rfl, _⟩ := h
    rfl
  · obtain ⟨W, v, d, many, rfl, hd, q⟩ := h
    have nd := sc_is_row.nd
    refine ⟨_, pss_cons (ps_if (PW.pt (pw_or (pt_not (pt_val (pe_callB call_isi (by rfl) B.isi boot_isinstance (pa_cons (pv 0) (pa_cons (pe_bltn (v := .ty "tuple") (by rfl) B.tuple boot_tuple rfl) pa_nil)))))
        (pw_or1 (pt_cmpR op_ne (pe_callB call_len_seq (by rfl) B.len PySem.boot_len (pa_cons (pv 0) pa_nil)) (pv 1) (nomark _))))) (pss_one (ps_ret pe_bl)) pss_nil)
      (pss_one (ps_ret (pe_callB (cr_all rfl) (by rfl) B.all boot_all (pa_cons (pe_lc (own := [("value", 2)]) (g := gName 2) (tt := tYes) (te := tCall sp_is_whole [] E0 (tCons (tVar 2) tNil)) rfl nd (pi_tup (pv 0)) (blkOk_by (N := ["thing", "many", "value"]) (sc := defScope s_is_row) (by decide +kernel))
          (fun _ _ _ _ _ => pg_name (i := 2) nd rfl (Or.inl rfl)) (fun _ _ _ _ _ => pts_nil)
          (fun _ _ _ _ _ => pe_call GW hr rfl T.whole.g T.whole.F.kp T.whole.b .nil pass0 (pa_cons (pv 2) pa_nil))) pa_nil)))), ?_⟩
    obtain ⟨t, h1, h2⟩ := hd.ty (K := K)
    refine ⟨_, rfl, _, _, _, _, _, rfl, .ty _, h1, kit_ty h2, _, rfl, ?_⟩
    rcases hd with ⟨a, ys, rfl, n, ha, hl, hy, rfl⟩ | ⟨rfl, _⟩
    · refine ⟨_, rfl, a, _, rfl, .inr (.of ha), _, rfl, rfl, _, rfl, ?_⟩
      by_cases hlen : ys.length = many
      · rw [decide_eq_true (show V.int (ys.length : Int) = V.int (many : Int) by rw [hlen])]
        refine ⟨_, rfl, a, rfl, ⟨_, .of ha⟩, fun L nL => ?_⟩
        refine lc_it (walk_tup (xs := ys)) (fun i h => h L = some (.lst (((ys.take i).map wholeV).map V.bl)) ∧ Same H h)
          ⟨upd_same, Same.new nL⟩ (fun i h _ ⟨_, s⟩ => .of (s _ _ ha)) ?_ ?_
        · rintro i x h h' hi ⟨e4, s4⟩ ⟨rfl, hx⟩
          refine ⟨rfl, ?_⟩
          refine ⟨_, rfl, W, _, rfl, (hy x (List.mem_of_getElem? hx)).kp (.of s4), ?_⟩
          refine ⟨_, e4, ?_, ?_, Same.mut s4 nL⟩
          · rw [List.length_map, List.length_map, List.length_take]
            exact line100' (by omega)
          · rw [upd_same, List.take_add_one, hx, List.map_append, List.map_append]
            rfl
        · rintro h ⟨e4, s4⟩
          rw [List.take_length] at e4
          refine ⟨L, ys.map wholeV, rfl, .of e4, ?_⟩
          have e : (ys.map wholeV).all id = okRow many (some ys) := by
            show _ = (decide (ys.length = many) && ys.all wholeV)
            rw [decide_eq_true hlen, Bool.true_and, List.all_map]
            rfl
          rw [e]
          exact q h s4
      · rw [decide_eq_false (show ¬ V.int (ys.length : Int) = V.int (many : Int) by intro z; injection z with z; omega)]
        have e : okRow many (some ys) = false := by
          show (decide (ys.length = many) && ys.all wholeV) = false
          rw [decide_eq_false hlen, Bool.false_and]
        have q' := q H same_rfl
        rw [e] at q'
        exact q'
    · exact q H same_rfl
theorem sc_are : FnScope ["thing", "name"] ["thing"] (defScope s_are) := ⟨rfl, rfl, rfl, by decide +kernel, rfl, by decide +kernel, by decide +kernel⟩
theorem ColsT.ty {K : PySem.W.Frag} {W : Addr} {H : Hp} {v : V} {b : Bool} (h : ColsT W H v b) : (∃ L xs, v = .ref L ∧ L ≠ W ∧ H L = some (.lst xs) ∧ xs.length ≤ 20 ∧ (∀ x ∈ xs, Lf W H x) ∧ b = colsV xs) ∨ (b = false ∧ ∃ t, TyX K H v (.type t) ∧ kitB t "list" = some false) := by
  rcases h with h | ⟨rfl, rfl | ⟨a, xs, rfl, n, h1⟩ | h⟩
  · exact .inl h
  · exact .inr ⟨rfl, _, .base .non, (show kitB "NoneType" "list" = some false by decide +kernel)⟩
  · exact .inr ⟨rfl, _, .base (.tup h1), (show kitB "tuple" "list" = some false by decide +kernel)⟩
  · cases h with
    | int i => exact .inr ⟨rfl, _, .base (.int i), (show kitB "int" "list" = some false by decide +kernel)⟩
    | str x => exact .inr ⟨rfl, _, .base (.str x), (show kitB "str" "list" = some false by decide +kernel)⟩
    | dK n h => exact .inr ⟨rfl, _, .base (.dK h), (show kitB "dict" "list" = some false by decide +kernel)⟩
def sp_are : Sp := fun vs H Q _ => ∃ (W : Addr) (v : V) (b : Bool), vs = [v] ∧ ColsT W H v b ∧ ∀ H', Same H H' → Q (.bl b) H'
theorem ok_are (T : Kt K mg fW fN fA fR fK fS dW dN dA dR dK dS) : FnOk P w K mg base CX0 2 fA dA ["thing"] sp_are := by
  have B := T.B
  have GN : FnOk P w K mg base CX0 1 fN dN ["thing"] sp_is_name := ok_is_name T.isn B T.C
  refine T.are.F.ok sc_are (fun vs H Q E h => ?_) (fun cdv A outer s H vs Q E hr h => ?_)
  · obtain ⟨W, v, b, rfl, _⟩ := h
    rfl
  · obtain ⟨W, v, b, rfl, hv, q⟩ := h
    obtain ⟨tl, hmo⟩ := T.C.most
    refine ⟨_, pss_cons (ps_if (PW.pt (pw_or (pt_not (pt_val (pe_callB call_isi (by rfl) B.isi boot_isinstance (pa_cons (pv 0) (pa_cons (pe_bltn (v := .ty "list") (by rfl) B.list boot_list rfl) pa_nil)))))
        (pw_or1 (pt_cmpR op_gt (pe_callB call_len_seq (by rfl) B.len PySem.boot_len (pa_cons (pv 0) pa_nil)) (pe_glob (v := .int 8) (by rfl) hmo ⟨_, rfl⟩) (nomark _))))) (pss_one (ps_ret pe_bl)) pss_nil)
      (pss_one (ps_ret (pe_and (pe_callB (cr_all rfl) (by rfl) B.all boot_all (pa_cons (pe_lc (own := [("name", 1)]) (g := gName 1) (tt := tYes) (te := tCall sp_is_name [] E0 (tCons (tVar 1) tNil)) rfl sc_are.nd (pi_list (pv 0))
            (blkOk_by (N := ["thing", "name"]) (sc := defScope s_are) (by decide +kernel)) (fun _ _ _ _ _ => pg_name (i := 1) sc_are.nd rfl (Or.inl rfl)) (fun _ _ _ _ _ => pts_nil)
            (fun _ _ _ _ _ => pe_call GN hr rfl T.isn.g T.isn.F.kp T.isn.b .nil pass0 (pa_cons (pv 1) pa_nil))) pa_nil))
        (pe_one (pe_cmpR op_eq (pe_lenD rfl (by rfl) B.len (by rfl) T.set (pv 0)) (pe_callB call_len_seq (by rfl) B.len PySem.boot_len (pa_cons (pv 0) pa_nil)) (nomark _)))))), ?_⟩
    rcases hv.ty (K := K) with ⟨L, xs, rfl, n, hL, hle, hxs, hb⟩ | ⟨rfl, t, h1, h2⟩
    · refine ⟨_, rfl, _, _, _, _, true, rfl, .ty _, .base (.lst hL), kit_ty (by decide +kernel), _, rfl, ?_⟩
      refine ⟨_, rfl, L, _, rfl, .inl (.of hL), _, _, rfl, rfl, _, rfl, ite2 (fun hf => ?_) (fun hf => ?_)⟩
      · have := of_decide_eq_true hf
        have hb' : b = false := by
          rw [hb]
          unfold colsV
          rw [decide_eq_false (by omega)]
          rfl
        exact hb' ▸ q H same_rfl
      have h8 : xs.length ≤ 8 := by
        have : ¬ (8 : Int) < (xs.length : Int) := fun z => hf (decide_eq_true z)
        omega
      dsimp only [tNext, tRet, tAndV, tCB, tCons, List.map]
      refine lc_all (K := K) (s := [some (.ref L), none]) (ti := tVar 0) (i := 1) (tt := tYes) (te := tCall sp_is_name [] E0 (tCons (tVar 1) tNil)) (l := L) (xs := xs) (g := fun v => V.bl (isNm v)) (p := fun _ => true) ⟨_, rfl, rfl, same_rfl⟩ mono_var (.of hL) (by omega) (fun v hv h5 s5 => et_yes) ?_ ?_
      · intro v hv _ h8 s8 h9 s9 Q6 q6
        exact ⟨_, rfl, W, v, rfl, (hxs v hv).kp (.of (s8.trans s9)), fun h10 s10 => q6 h10 s10⟩
      · intro La h8' s8 nLa eLa
        refine ⟨La, xs.map isNm, rfl, .of (by rw [eLa, filter_yes, List.map_map]; rfl), ?_⟩
        have eall : (xs.map isNm).all id = xs.all isNm := by rw [List.all_map]; rfl
        rw [eall]
        refine ⟨_, rfl, ?_⟩
        cases ha : xs.all isNm with
        | false =>
          have hb' : b = false := by
            rw [hb]
            unfold colsV
            rw [ha]
            simp
          rw [if_neg Bool.false_ne_true]
          exact hb' ▸ q h8' s8
        | true =>
          rw [if_pos rfl]
          obtain ⟨ns, rfl, ok⟩ := all_names ha
          rw [List.length_map] at h8 hle
          refine ⟨_, rfl, L, ns, rfl, .of (s8 _ _ hL), by omega, _, rfl, L, _, rfl, .inl (.of (s8 _ _ hL)), rfl, ?_⟩
          have e : decide (V.int (unl ns : Int) = V.int ((ns.map V.str).length : Int)) = b := by
            rw [hb]
            unfold colsV
            rw [ha, List.length_map, decide_eq_true h8, Bool.true_and, Bool.true_and]
            refine decide_eq_decide.mpr ?_
            rw [nd_strs, ← unl_eq]
            constructor
            · intro z
              injection z with z
              omega
            · intro z
              rw [z]
          rw [e]
          exact q h8' s8
    · exact ⟨_, rfl, _, _, _, _, false, rfl, .ty _, h1, kit_ty h2, _, rfl, q H same_rfl⟩
theorem sc_cc : FnScope ["columns"] ["columns"] (defScope s_cc) := ⟨rfl, rfl, rfl, by decide +kernel, rfl, by decide +kernel, by decide +kernel⟩
def sp_cc (Cn : Addr) : Sp := fun vs H Q E => ∃ (W : Addr) (v : V) (b : Bool), vs = [v] ∧ ColsT W H v b ∧ (b = false → ∀ H', Same H H' → E (.ref Cn) none H') ∧ (b = true → ∀ H', Same H H' → Q .non H')
theorem ok_cc {Cn : Addr} (T : Kt K mg fW fN fA fR fK fS dW dN dA dR dK dS) (N : Ec K mg "NoColumns" Cn) : FnOk P w K mg base (L2.CX P w) 3 fK dK ["columns"] (sp_cc Cn) := by
  have GA : FnOk P w K mg base CX0 2 fA dA ["thing"] sp_are := ok_are T
  refine T.chk.F.okX sc_cc (fun vs H Q E h => ?_) (fun cdv A outer s H vs Q E hr h => ?_)
  · obtain ⟨W, v, b, rfl, _⟩ := h
    rfl
  · obtain ⟨W, v, b, rfl, hv, q0, q1⟩ := h
    refine ⟨_, pss_one (ps_if (pt_not (pt_val (pe_call GA hr rfl T.are.g T.are.F.kp T.are.b .nil pass0 (pa_cons (pv 0) pa_nil)))) (pss_one (ps_raise rfl (takes_of rfl rfl rfl rfl) (pmk_own PySem.F.excBase_ValueError N.ex N.g N.k (raises_own N.b N.t) (by exact rfl)))) pss_nil), ?_⟩
    refine ⟨_, rfl, W, v, b, rfl, hv, fun H1 s1 => ⟨b, rfl, ?_⟩⟩
    cases b with
    | false => exact q0 rfl H1 s1
    | true => exact q1 rfl H1 s1
end
end T33

set_option maxHeartbeats 2000000
namespace T33
open PySem L2 PyProof.Rows TX TY TW TD TB TG TUD TE TK
theorem line100 {n : Nat} (h : n ≤ 5000) : n ≤ sizeLine := by rw [sizeLine_eq]; omega
theorem line100' {n : Nat} (h : n ≤ 5000) : n < sizeLine := by rw [sizeLine_eq]; omega
def rTu (K : PySem.W.Frag) : List V → Hp → VK → Prop := fun xs H Q => ∃ p ys, xs = [.ref p] ∧ ((SqL K H p ys ∧ ∀ l, H l = none → Q (.ref l) (upd H l (.tup ys))) ∨ (SqT K H p ys ∧ Q (.ref p) H))
theorem call_tu {X : Cx} : CallR X (.type "tuple") (rTu X.K) := call_tuple_of
section
variable {P : Program} {w : World} {K : PySem.W.Frag} {mg : Str → Option Value} {base : Heap}
variable {fW fN fA fR fK fS : Addr} {dW dN dA dR dK dS : FuncData}
/-- columns and rows that are right, as the general words see them -/
theorem cols_ok {ns : List Str} (h : Cs ns) : colsV (ns.map V.str) = true := by
  unfold colsV
  rw [decide_eq_true (show (ns.map V.str).length ≤ 8 by rw [List.length_map]; exact h.le), decide_eq_true (nd_strs.mpr h.nd)]
  have : (ns.map V.str).all isNm = true := by
    rw [List.all_eq_true]
    intro v hv
    obtain ⟨n, hn, rfl⟩ := List.mem_map.mp hv
    exact (nameB_iff n).mpr (h.ok n hn)
  rw [this]
  rfl
theorem colsT_ok {H : Hp} {L : Addr} {ns : List Str} (h : Cs ns) (e : H L = some (.lst (ns.map V.str))) : ColsT (L + 1) H (.ref L) true :=
  .inl ⟨L, _, rfl, Nat.ne_of_lt (Nat.lt_succ_self L), e, by rw [List.length_map]; have := h.le; omega, fun v hv => by obtain ⟨n, hn, rfl⟩ := List.mem_map.mp hv; exact .str n (by have := (h.ok n hn).2.1; omega), (cols_ok h).symm⟩
theorem rowT_int {H : Hp} {a : Addr} {r : List Int} (h : H a = some (.tup (r.map V.int))) (hl : r.length ≤ 20) : RowT (a + 1) H (.ref a) (some (r.map V.int)) :=
  .inl ⟨a, _, rfl, Nat.ne_of_lt (Nat.lt_succ_self a), h, by rw [List.length_map]; exact hl, fun y hy => by obtain ⟨n, hn, rfl⟩ := List.mem_map.mp hy; exact .int n, rfl⟩
theorem okRow_int {n : Nat} {r : List Int} (h : r.length = n) : okRow n (some (r.map V.int)) = true := by
  show (decide ((r.map V.int).length = n) && (r.map V.int).all wholeV) = true
  rw [List.length_map, decide_eq_true h, Bool.true_and]
  exact whole_ints r
theorem sc_cc' : FnScope ["columns"] ["columns"] (defScope s_cc) := sc_cc
def sp_ccV : Sp := fun vs H Q _ => ∃ (L : Addr) (cs : List Str), vs = [.ref L] ∧ H L = some (.lst (cs.map V.str)) ∧ Cs cs ∧ ∀ H', Same H H' → Q .non H'
theorem ok_ccV (T : Kt K mg fW fN fA fR fK fS dW dN dA dR dK dS) : FnOk P w K mg base CX0 3 fK dK ["columns"] sp_ccV := by
  have GA : FnOk P w K mg base CX0 2 fA dA ["thing"] sp_are := ok_are T
  refine T.chk.F.ok sc_cc (fun vs H Q E h => ?_) (fun cdv A outer s H vs Q E hr h => ?_)
  · obtain ⟨L, cs, rfl, _⟩ := h
    rfl
  · obtain ⟨L, cs, rfl, hL, hc, q⟩ := h
    refine ⟨_, pss_one (ps_if (pt_not (pt_val (pe_call GA hr rfl T.are.g T.are.F.kp T.are.b .nil pass0 (pa_cons (pv 0) pa_nil)))) (pss_one ps_never) pss_nil), ?_⟩
    exact ⟨_, rfl, L + 1, _, true, rfl, colsT_ok hc hL, fun H1 s1 => ⟨true, rfl, q H1 s1⟩⟩
/-- rows, or nothing -/
def RowsV (H : Hp) (v : V) (as : List Addr) (rs : List (List Int)) : Prop := (v = .non ∧ as = [] ∧ rs = []) ∨ ∃ L, v = .ref L ∧ H L = some (.lst (as.map V.ref)) ∧ RowsAt H as rs
/-- rows that may be handed in -/
structure Rs (n : Nat) (rs : List (List Int)) : Prop where
  len : ∀ r ∈ rs, r.length = n
  few : rs.length ≤ 1900
theorem sc_sorted : FnScope ["rows", "many", "at", "row"] ["rows", "many"] (defScope s_sorted) := ⟨rfl, rfl, rfl, by decide +kernel, rfl, by decide +kernel, by decide +kernel⟩
def sp_sorted : Sp := fun vs H Q _ => ∃ (v : V) (as : List Addr) (rs : List (List Int)) (many : Nat), vs = [v, .int many] ∧ RowsV H v as rs ∧ (∀ r ∈ rs, r.length = many) ∧ many ≤ 20 ∧ rs.length ≤ 1900 ∧
  ∀ H' p as', Same H H' → H p = none → H' p = some (.lst (as'.map V.ref)) → RowsAt H' as' (norm rs) → Q (.ref p) H'
theorem ok_sorted (T : Kt K mg fW fN fA fR fK fS dW dN dA dR dK dS) : FnOk P w K mg base CX0 3 fS dS ["rows", "many"] sp_sorted := by
  have B := T.B
  have GR : FnOk P w K mg base CX0 2 fR dR ["thing", "many"] sp_is_row := ok_is_row T
  refine T.srt.F.ok sc_sorted (fun vs H Q E h => ?_) (fun cdv A outer s H vs Q E hr h => ?_)
  · obtain ⟨v, as, rs, many, rfl, _⟩ := h
    rfl
  · obtain ⟨v, as, rs, many, rfl, hv, hm, hm8, h60, q⟩ := h
    have hu := hr.units
    have nd := sc_sorted.nd
    refine ⟨_, pss_cons (ps_if (pt_cmp (pc_isN (pv 0))) (pss_one (ps_ret (pe_lst pa_nil))) pss_nil)
      (pss_cons (ps_if (pt_not (pt_val (pe_callB call_isi (by rfl) B.isi boot_isinstance (pa_cons (pv 0) (pa_cons (pe_bltn (v := .ty "list") (by rfl) B.list boot_list rfl) pa_nil))))) (pss_one ps_never) pss_nil)
      (pss_cons (ps_for PassesOwn.never rfl (pi_enum rfl B.enum (pa_cons (pv 0) pa_nil)) (pg_tup rfl (pgs_cons (pg_name (i := 2) nd rfl (Or.inl rfl)) (pgs_cons (pg_name (i := 3) nd rfl (Or.inl rfl)) pgs_nil)))
        (pss_one (ps_if (pt_not (pt_val (pe_call GR hr rfl T.row.g T.row.F.kp T.row.b .nil pass0 (pa_cons (pv 3) (pa_cons (pv 1) pa_nil))))) (pss_one ps_never) pss_nil)))
      (pss_one (ps_ret (pe_callB (TBH.cr_sortB rfl) (by rfl) B.sorted boot_sorted (pa_cons (TBH.pe_scK (TBH.khI K P w) (own := [("row", 3)]) (g := gName 3) (tt := tYes) (te := tCB (rTu K) (tCons (tVar 3) tNil)) (Nat.lt_of_le_of_lt (Nat.add_le_add_left (by decide : 24 ≤ 64) _) hu) rfl nd (pi_list (pv 0)) (blkOk_by (N := ["rows", "many", "at", "row"]) (sc := defScope s_sorted) (by decide +kernel))
          (fun _ _ _ _ _ => pg_name (i := 3) nd rfl (Or.inl rfl)) (fun _ _ _ _ _ => pts_nil) (fun _ _ _ _ _ => pe_callTy call_tu (by rfl) B.tuple boot_tuple (pa_cons (pv 3) pa_nil))) pa_nil)))))), ?_⟩
    rcases hv with ⟨rfl, rfl, rfl⟩ | ⟨L, rfl, hL, hR⟩
    · refine ⟨_, rfl, _, rfl, by show 0 ≤ sizeLine; decide, fun p np => ?_⟩
      exact q _ p [] (Same.new np) np upd_same .nil
    have hal := hR.len
    refine ⟨_, rfl, _, rfl, ?_⟩
    refine ⟨_, rfl, _, _, _, _, true, rfl, .ty _, .base (.lst hL), kit_ty (by decide +kernel), _, rfl, ?_⟩
    refine ⟨_, rfl, L, _, rfl, .of hL, ?_⟩
    refine for_it (walk_enum (xs := as.map V.ref)) (fun i σ h => ∃ v2 v3 : Option V, σ = [some (.ref L), some (.int many), v2, v3] ∧ Same H h)
      ⟨none, none, rfl, same_rfl⟩ (fun i σ h _ ⟨_, _, _, s⟩ => .of (s _ _ hL)) ?_ ?_
    · rintro i x σ h h' hi ⟨v2, v3, rfl, s1⟩ ⟨T', x1, x2, rfl, nT, rfl, hx1, hx2⟩
      rw [List.length_map] at hi
      obtain rfl : V.int (i : Int) = x1 := Option.some.inj hx1
      obtain ⟨a, ha, rfl⟩ : ∃ a, as[i]? = some a ∧ x2 = V.ref a := by
        have h2 : (as.map V.ref)[i]? = some x2 := hx2
        rw [List.getElem?_map, List.getElem?_eq_getElem hi] at h2
        exact ⟨_, List.getElem?_eq_getElem hi, (Option.some.inj h2).symm⟩
      obtain ⟨r, hr', hta⟩ := pr_at hR ha
      have sT : Same H (upd h T' (.tup [.int (i : Int), .ref a])) := s1.trans (Same.new nT)
      refine ⟨T', _, rfl, .of upd_same, rfl, _, _, rfl, _, _, rfl, rfl, ?_⟩
      generalize upd h T' (.tup [.int (i : Int), .ref a]) = h2 at sT ⊢
      refine ⟨_, rfl, _, rfl, a + 1, .ref a, some (r.map V.int), many, rfl, rowT_int (sT _ _ hta) (by rw [hm r (List.mem_of_getElem? hr')]; exact hm8), fun h3 s3 => ⟨_, rfl, ?_⟩⟩
      rw [okRow_int (hm r (List.mem_of_getElem? hr'))]
      exact ⟨_, _, rfl, sT.trans s3⟩
    · rintro σ h0 ⟨v2, v3, rfl, s0⟩
      have hL0 := s0 _ _ hL
      have hR0 := hR.same s0
      refine ⟨_, rfl, L, rfl, ⟨_, .of hL0⟩, fun D nD => ?_⟩
      obtain ⟨zs, hzs⟩ : ∃ zs, zs = as.zip rs := ⟨_, rfl⟩
      have zl : zs.length = as.length := by rw [hzs, List.length_zip]; omega
      have z1 := (zip_fst hal).1
      have z2 := (zip_fst hal).2
      rw [← hzs] at z1 z2
      have zr : ∀ p ∈ zs, h0 p.1 = some (.tup (p.2.map V.int)) := by rw [hzs]; exact pr_zip hR0
      refine TBH.sc_walkK (TBH.khI K P w) (walk_list (xs := as.map V.ref)) (fun i h => ∃ Ls : List (Addr × List Int), h D = some (TBH.SetKO (TBH.kdI P w) D Ls) ∧ (∀ p ∈ Ls, p ∈ zs.take i) ∧ (∀ p ∈ zs.take i, p.2 ∈ Ls.map (·.2)) ∧ Ls.length ≤ i ∧ Same h0 h)
        ⟨[], upd_same, (fun _ h => nomatch h), (fun _ h => by simp at h), Nat.le_refl _, Same.new nD⟩ (fun i h _ ⟨_, _, _, _, _, s⟩ => .of (s _ _ hL0)) ?_ ?_
      · rintro i x h h' hi ⟨Ls, e1, i1, i2, i3, s1⟩ ⟨rfl, hx⟩
        rw [List.length_map] at hi
        have hz : i < zs.length := by omega
        obtain ⟨pr, hpr⟩ : ∃ pr, zs[i]? = some pr := ⟨_, List.getElem?_eq_getElem hz⟩
        have hmem : pr ∈ zs := List.mem_of_getElem? hpr
        have hxa : x = V.ref pr.1 := by
          have e2 : as[i]? = some pr.1 := by rw [← z1, List.getElem?_map, hpr]; rfl
          rw [List.getElem?_map, e2] at hx
          exact (Option.some.inj hx).symm
        subst hxa
        have htk : zs.take (i + 1) = zs.take i ++ [pr] := by rw [List.take_add_one, hpr]; rfl
        have ea := s1 _ _ (zr pr hmem)
        refine ⟨rfl, ?_⟩
        refine ⟨_, rfl, pr.1, _, rfl, .inr ⟨.of ea, pr.1, pr.2, Ls, rfl, .of ea, e1, fun p hp => .of (s1 _ _ (zr p (List.mem_of_mem_take (i1 p hp)))), by omega, fun L' h1 h2 => ?_⟩⟩
        refine ⟨L', upd_same, ?_⟩
        by_cases hin : pr.2 ∈ Ls.map (·.2)
        · rw [h1 hin]
          refine ⟨fun p hp => by rw [htk]; exact List.mem_append_left _ (i1 p hp), fun p hp => ?_, by omega, Same.mut s1 nD⟩
          rw [htk] at hp
          rcases List.mem_append.mp hp with hp | hp
          · exact i2 p hp
          · rw [List.mem_singleton.mp hp]
            exact hin
        · have pm := h2 hin
          refine ⟨fun p hp => ?_, fun p hp => ?_, by rw [pm.length_eq, List.length_cons]; omega, Same.mut s1 nD⟩
          · rw [htk]
            rcases List.mem_cons.mp (pm.mem_iff.mp hp) with e | hp
            · rw [e]
              exact List.mem_append_right _ (List.mem_singleton.mpr rfl)
            · exact List.mem_append_left _ (i1 p hp)
          · rw [htk] at hp
            refine (pm.map (·.2)).mem_iff.mpr ?_
            rw [List.map_cons]
            rcases List.mem_append.mp hp with hp | hp
            · exact List.mem_cons_of_mem _ (i2 p hp)
            · rw [List.mem_singleton.mp hp]
              exact List.mem_cons_self
      · rintro h ⟨Ls, e1, i1, i2, i3, s1⟩
        rw [List.length_map, ← zl, List.take_length] at i1 i2
        have lsr : ∀ p ∈ Ls, h p.1 = some (.tup (p.2.map V.int)) := fun p hp => s1 _ _ (zr p (i1 p hp))
        have inr : ∀ p ∈ zs, p.2 ∈ rs := fun p hp => z2 ▸ List.mem_map.mpr ⟨p, hp, rfl⟩
        refine ⟨D, Ls, many, rfl, e1, fun p hp => .of (lsr p hp), fun p hp => hm _ (inr p (i1 p hp)), fun L' p pm ndL few pw np => ?_⟩
        have sp : Same h (upd h p (.lst (L'.map fun q => V.ref q.1))) := Same.new np
        refine q _ p (L'.map (·.1)) ((s0.trans s1).trans sp) ((s0.trans s1).free np) ?_ ?_
        · rw [upd_same, List.map_map]
          rfl
        · have en : L'.map (·.2) = norm rs := by
            refine norm_of (rise_of ndL (List.pairwise_map.mpr pw)) fun x => ?_
            constructor
            · intro hx
              obtain ⟨pq, hp, rfl⟩ := List.mem_map.mp hx
              exact inr _ (i1 _ (pm.mem_iff.mp hp))
            · intro hx
              rw [← z2] at hx
              obtain ⟨pq, hp, rfl⟩ := List.mem_map.mp hx
              exact (pm.map (·.2)).mem_iff.mpr (i2 pq hp)
          rw [← en]
          exact of_zip fun pq hp => sp _ _ (lsr pq (pm.mem_iff.mp hp))
/-- a table whose own parts are new since H0 -/
def TabN (C : Addr) (H0 H : Hp) (p : Addr) (cs : List Str) (rs : List (List Int)) : Prop := ∃ dx l r as, H p = some (.ins C dx (bflds l r)) ∧ H l = some (.lst (cs.map V.str)) ∧ H r = some (.lst (as.map V.ref)) ∧ RowsAt H as rs ∧ H0 l = none ∧ H0 r = none
theorem TabN.tab {C : Addr} {H0 H : Hp} {p : Addr} {cs : List Str} {rs : List (List Int)} (t : TabN C H0 H p cs rs) : TabAt C H p cs rs := by
  obtain ⟨dx, l, r, as, h1, h2, h3, h4, _⟩ := t
  exact ⟨dx, l, r, as, h1, h2, h3, h4⟩
theorem TabN.put {C : Addr} {H0 H : Hp} {p a : Addr} {cs : List Str} {rs : List (List Int)} {o : HO} {xs ys : List V} (t : TabN C H0 H p cs rs) (e0 : H0 a = some o) (e : H a = some (.lst xs)) : TabN C H0 (upd H a (.lst ys)) p cs rs := by
  obtain ⟨dx, l, r, as, h1, h2, h3, h4, h5, h6⟩ := t
  exact ⟨dx, l, r, as, by rw [upd_ne (ne_of h1 e (by intro z; cases z))]; exact h1, by rw [upd_ne (ne_of_none e0 h5).symm]; exact h2, by rw [upd_ne (ne_of_none e0 h6).symm]; exact h3, RowsAt.put h4 e, h5, h6⟩
theorem TabN.same {C : Addr} {H0 H H' : Hp} {p : Addr} {cs : List Str} {rs : List (List Int)} (t : TabN C H0 H p cs rs) (s : Same H H') : TabN C H0 H' p cs rs := by
  obtain ⟨dx, l, r, as, h1, h2, h3, h4, h5, h6⟩ := t
  exact ⟨dx, l, r, as, s _ _ h1, s _ _ h2, s _ _ h3, h4.same s, h5, h6⟩
theorem TabN.back {C : Addr} {G0 H0 H : Hp} {p : Addr} {cs : List Str} {rs : List (List Int)} (t : TabN C H0 H p cs rs) (s : Same G0 H0) : TabN C G0 H p cs rs := by
  obtain ⟨dx, l, r, as, h1, h2, h3, h4, h5, h6⟩ := t
  exact ⟨dx, l, r, as, h1, h2, h3, h4, s.free h5, s.free h6⟩
theorem sc_binit : FnScope ["self", "columns", "rows"] ["self", "columns", "rows"] (defScope s_binit) := ⟨rfl, rfl, rfl, by decide +kernel, rfl, by decide +kernel, by decide +kernel⟩
def sp_binit (C : Addr) : Sp := fun vs H Q _ => ∃ (p L dx : Addr) (v : V) (cs : List Str) (as : List Addr) (rs : List (List Int)), vs = [.ref p, .ref L, v] ∧ H p = some (.ins C dx []) ∧ H L = some (.lst (cs.map V.str)) ∧ Cs cs ∧ RowsV H v as rs ∧ Rs cs.length rs ∧
  ∀ H', TabN C H H' p cs (norm rs) → (∀ b o, b ≠ p → H b = some o → H' b = some o) → Q .non H'
theorem ok_binit {C fi : Addr} {di : FuncData} (F : FunD K "__init__" "Table.__init__" (defArgs s_binit) (defBody s_binit) (defScope s_binit) [.non] [] fi di) (T : Kt K mg fW fN fA fR fK fS dW dN dA dR dK dS) (c : Bc K mg C) :
    FnOk P w K mg base CX0 4 fi di ["self", "columns", "rows"] (sp_binit C) := by
  have B := T.B
  have GK : FnOk P w K mg base CX0 3 fK dK ["columns"] sp_ccV := ok_ccV T
  have GS : FnOk P w K mg base CX0 3 fS dS ["rows", "many"] sp_sorted := ok_sorted T
  refine F.ok sc_binit (fun vs H Q E h => ?_) (fun cdv A outer s H vs Q E hr h => ?_)
  · obtain ⟨p, L, dx, v, cs, as, rs, rfl, _⟩ := h
    rfl
  · obtain ⟨p, L, dx, v, cs, as, rs, rfl, hp, hL, hc, hv, rok, q⟩ := h
    refine ⟨_, pss_cons (ps_expr (pe_call GK hr rfl T.chk.g T.chk.F.kp T.chk.b .nil pass0 (pa_cons (pv 1) pa_nil)))
      (pss_cons (ps_fld (pv 0) (pe_callTy call_list_of (by rfl) B.list boot_list (pa_cons (pv 1) pa_nil)) rfl)
      (pss_one (ps_fld (pv 0) (pe_call GS hr rfl T.srt.g T.srt.F.kp T.srt.b .nil pass0 (pa_cons (pv 2) (pa_cons (pe_callB call_len_seq (by rfl) B.len PySem.boot_len (pa_cons (pv 1) pa_nil)) pa_nil))) rfl))), ?_⟩
    refine ⟨_, rfl, L, cs, rfl, hL, hc, fun H1 s1 => ?_⟩
    refine ⟨_, rfl, L, _, rfl, .inl (.of (s1 _ _ hL)), fun l nl => ?_⟩
    have hp1 := s1 _ _ hp
    have pl : p ≠ l := ne_of_none hp1 nl
    have hL1 := s1 _ _ hL
    have pL : L ≠ p := fun z => by rw [z, hp1] at hL1; cases hL1
    refine ⟨_, rfl, p, C, dx, [], rfl, by rw [upd_ne pl]; exact hp1, c.cl, c.nC, by show 0 < 1000; decide, ?_⟩
    have keep : ∀ b o, b ≠ p → H b = some o → upd (upd H1 l (.lst (cs.map V.str))) p (.ins C dx (putF "_columns" (.ref l) [])) b = some o := fun b o hb e => by
      have e1 := s1 _ _ e
      rw [upd_ne hb, upd_ne (ne_of_none e1 nl)]
      exact e1
    have ep : upd (upd H1 l (.lst (cs.map V.str))) p (.ins C dx (putF "_columns" (.ref l) [])) p = some (.ins C dx (putF "_columns" (.ref l) [])) := upd_same
    have el : upd (upd H1 l (.lst (cs.map V.str))) p (.ins C dx (putF "_columns" (.ref l) [])) l = some (.lst (cs.map V.str)) := by rw [upd_ne pl.symm, upd_same]
    generalize upd (upd H1 l (.lst (cs.map V.str))) p (.ins C dx (putF "_columns" (.ref l) [])) = H2 at keep ep el ⊢
    have hv2 : RowsV H2 v as rs := by
      rcases hv with h | ⟨R, e1, e2, e3⟩
      · exact .inl h
      · exact .inr ⟨R, e1, keep R _ (fun z => by rw [z, hp] at e2; cases e2) e2, Paired.mapP e3 fun a r e => keep a _ (fun z => by rw [z, hp] at e; cases e) e⟩
    refine ⟨_, rfl, _, rfl, L, _, rfl, .inl (.of (keep _ _ pL hL)), v, as, rs, cs.length, ?_, hv2, rok.len, by have := hc.le; omega, rok.few, fun H3 r as' s3 nr er hr' => ?_⟩
    · rw [List.length_map]
      rfl
    refine ⟨_, rfl, p, C, dx, _, rfl, s3 _ _ ep, c.cl, c.nR, by show 1 < 1000; decide, ?_⟩
    have el3 := s3 _ _ el
    have lp : l ≠ p := pl.symm
    have rp : r ≠ p := fun z => by rw [z, ep] at nr; cases nr
    refine q _ ⟨dx, l, r, as', upd_same, by rw [upd_ne lp]; exact el3, by rw [upd_ne rp]; exact er, ?_, s1.free nl, ?_⟩ fun b o hb e => by rw [upd_ne hb]; exact s3 _ _ (keep b o hb e)
    rotate_left
    · cases e : H r with
      | none => rfl
      | some o =>
        rw [keep r o rp e] at nr
        cases nr
    exact Paired.mapP hr' fun a r' e => by rw [upd_ne (fun z => by rw [z, s3 _ _ ep] at e; cases e)]; exact e
theorem sc_bcolumns : FnScope ["self"] ["self"] (defScope s_bcolumns) := ⟨rfl, rfl, rfl, by decide +kernel, rfl, by decide +kernel, by decide +kernel⟩
def sp_bcolumns (C : Addr) : Sp := fun vs H Q _ => ∃ (p : Addr) (cs : List Str) (rs : List (List Int)), vs = [.ref p] ∧ TabAt C H p cs rs ∧ ∀ H' L, Same H H' → H L = none → H' L = some (.lst (cs.map V.str)) → Q (.ref L) H'
theorem ok_bcolumns {C f : Addr} {fd : FuncData} (F : Fun K "columns" "Table.columns" s_bcolumns f fd) (B : Bn mg) (c : Bc K mg C) : FnOk P w K mg base CX0 1 f fd ["self"] (sp_bcolumns C) := by
  refine F.ok sc_bcolumns (fun vs H Q E h => ?_) (fun cdv A outer s H vs Q E hr h => ?_)
  · obtain ⟨p, cs, rs, rfl, _⟩ := h
    rfl
  · obtain ⟨p, cs, rs, rfl, ⟨dx, l, r, as, h1, h2, h3, h4⟩, q⟩ := h
    refine ⟨_, pss_one (ps_ret (pe_callTy call_list_of (by rfl) B.list boot_list (pa_cons (pe_fld (pv 0) rfl) pa_nil))), ?_⟩
    exact ⟨_, rfl, p, C, dx, _, _, rfl, h1, c.cl, c.nC, bflds_col _ _, l, _, rfl, .inl (.of h2), fun L nL => q _ L (Same.new nL) nL upd_same⟩
theorem sc_brows : FnScope ["self"] ["self"] (defScope s_brows) := ⟨rfl, rfl, rfl, by decide +kernel, rfl, by decide +kernel, by decide +kernel⟩
def sp_brows (C : Addr) : Sp := fun vs H Q _ => ∃ (p : Addr) (cs : List Str) (rs : List (List Int)), vs = [.ref p] ∧ TabAt C H p cs rs ∧ ∀ H' L as, Same H H' → H L = none → H' L = some (.lst (as.map V.ref)) → RowsAt H' as rs → Q (.ref L) H'
theorem ok_brows {C f : Addr} {fd : FuncData} (F : Fun K "rows" "Table.rows" s_brows f fd) (B : Bn mg) (c : Bc K mg C) : FnOk P w K mg base CX0 1 f fd ["self"] (sp_brows C) := by
  refine F.ok sc_brows (fun vs H Q E h => ?_) (fun cdv A outer s H vs Q E hr h => ?_)
  · obtain ⟨p, cs, rs, rfl, _⟩ := h
    rfl
  · obtain ⟨p, cs, rs, rfl, ⟨dx, l, r, as, h1, h2, h3, h4⟩, q⟩ := h
    refine ⟨_, pss_one (ps_ret (pe_callTy call_list_of (by rfl) B.list boot_list (pa_cons (pe_fld (pv 0) rfl) pa_nil))), ?_⟩
    exact ⟨_, rfl, p, C, dx, _, _, rfl, h1, c.cl, c.nR, bflds_rows _ _, r, _, rfl, .inl (.of h3), fun L nL => q _ L as (Same.new nL) nL upd_same (h4.same (Same.new nL))⟩
theorem sc_blen : FnScope ["self"] ["self"] (defScope s_blen) := ⟨rfl, rfl, rfl, by decide +kernel, rfl, by decide +kernel, by decide +kernel⟩
def sp_blen (C : Addr) : Sp := fun vs H Q _ => ∃ (p : Addr) (cs : List Str) (rs : List (List Int)), vs = [.ref p] ∧ TabAt C H p cs rs ∧ Q (.int rs.length) H
theorem ok_blen {C f : Addr} {fd : FuncData} (F : Fun K "__len__" "Table.__len__" s_blen f fd) (B : Bn mg) (c : Bc K mg C) : FnOk P w K mg base CX0 1 f fd ["self"] (sp_blen C) := by
  refine F.ok sc_blen (fun vs H Q E h => ?_) (fun cdv A outer s H vs Q E hr h => ?_)
  · obtain ⟨p, cs, rs, rfl, _⟩ := h
    rfl
  · obtain ⟨p, cs, rs, rfl, ⟨dx, l, r, as, h1, h2, h3, h4⟩, q⟩ := h
    refine ⟨_, pss_one (ps_ret (pe_callB call_len_seq (by rfl) B.len PySem.boot_len (pa_cons (pe_fld (pv 0) rfl) pa_nil))), ?_⟩
    refine ⟨_, rfl, p, C, dx, _, _, rfl, h1, c.cl, c.nR, bflds_rows _ _, r, _, rfl, .inl (.of h3), ?_⟩
    rw [List.length_map, h4.len]
    exact q
theorem sc_beq : FnScope ["self", "other"] ["self", "other"] (defScope s_beq) := ⟨rfl, rfl, rfl, by decide +kernel, rfl, by decide +kernel, by decide +kernel⟩
def sp_beq (C : Addr) : Sp := fun vs H Q _ => ∃ (a b : Addr) (cs cs' : List Str) (rs rs' : List (List Int)), vs = [.ref a, .ref b] ∧ TabAt C H a cs rs ∧ TabAt C H b cs' rs' ∧ (∀ x ∈ cs, TM.NameOk x) ∧ (∀ x ∈ cs', TM.NameOk x) ∧ ∀ H', Same H H' → Q (.bl (decide (cs = cs') && decide (rs = rs'))) H'
theorem ok_beq {C f : Addr} {fd : FuncData} (F : Fun K "__eq__" "Table.__eq__" s_beq f fd) (B : Bn mg) (c : Bc K mg C) : FnOk P w K mg base CX0 1 f fd ["self", "other"] (sp_beq C) := by
  refine F.ok sc_beq (fun vs H Q E h => ?_) (fun cdv A outer s H vs Q E hr h => ?_)
  · obtain ⟨a, b, cs, cs', rs, rs', rfl, _⟩ := h
    rfl
  · obtain ⟨a, b, cs, cs', rs, rs', rfl, ⟨dx, l, r, as, h1, h2, h3, h4⟩, ⟨dx', l', r', as', h1', h2', h3', h4'⟩, ok, ok', q⟩ := h
    have hu64 := hr.units
    refine ⟨_, pss_one (ps_ret (pe_and (pe_callB call_isi (by rfl) B.isi boot_isinstance (pa_cons (pv 1) (pa_cons (pe_glob (v := .ref C) (by rfl) c.g rfl) pa_nil)))
      (pe_and (pe_cmpR (op_eqD hu64) (pe_fld (pv 0) rfl) (pe_fld (pv 1) rfl) (nomark _)) (pe_one (pe_cmpR (op_eqD hu64) (pe_fld (pv 0) rfl) (pe_fld (pv 1) rfl) (nomark _)))))), ?_⟩
    refine ⟨_, rfl, _, _, _, _, true, rfl, .own C, .base (.ins h1' c.cl c.ins.ha c.ins.hn c.ins.htk c.ins.hm), c.ins.me, true, rfl, ?_⟩
    refine ⟨_, rfl, a, C, dx, _, _, rfl, h1, c.cl, c.nC, bflds_col _ _, _, rfl, b, C, dx', _, _, rfl, h1', c.cl, c.nC, bflds_col _ _, _, _, DpS h2, DpS h2', shS ok, shS ok', _, rfl, ?_⟩
    rw [eqv_dS]
    by_cases hn : cs = cs'
    · rw [decide_eq_true hn]
      refine ⟨_, rfl, a, C, dx, _, _, rfl, h1, c.cl, c.nR, bflds_rows _ _, _, rfl, b, C, dx', _, _, rfl, h1', c.cl, c.nR, bflds_rows _ _, _, _, DpRows h3 h4, DpRows h3' h4', shRows rs, shRows rs', ?_⟩
      rw [eqv_dR]
      have := q H same_rfl
      rwa [decide_eq_true hn, Bool.true_and] at this
    · rw [decide_eq_false hn]
      have := q H same_rfl
      rwa [decide_eq_false hn, Bool.false_and] at this
end
end T33

set_option maxHeartbeats 2000000
local macro_rules | `(tactic| walk_at "z") => `(tactic| ((try dsimp only); first | assumption | omega | decide | (simp only [List.length_cons, List.length_nil]; first | decide | omega)))
namespace T33
open PySem L2 PyProof.Rows TX TY TW TD TB TG TUD TE TK
section
variable {P : Program} {w : World} {K : PySem.W.Frag} {mg : Str → Option Value} {base : Heap}
theorem sc_well : FnScope ["_law_cell"] ["_law_cell"] (defScope s_well) := ⟨rfl, rfl, rfl, by decide +kernel, rfl, by decide +kernel, by decide +kernel⟩
def sp_well : Sp := fun vs H Q _ => ∃ (cell : Int), vs = [.int cell] ∧ ∀ H' p, Same H H' → H p = none → WellAt 1000000 H' p → Q (.ref p) H'
theorem ok_well {f : Addr} {fd : FuncData} (F : Fn K mg "_law_well" s_well ["_law_cell"] f fd) (B : Bn mg) : FnOk P w K mg base CX0 1 f fd ["_law_cell"] sp_well := by
  refine F.F.ok sc_well (fun vs H Q E h => ?_) (fun cdv A outer s H vs Q E hr h => ?_)
  · obtain ⟨cell, rfl, _⟩ := h
    rfl
  · obtain ⟨cell, rfl, q⟩ := h
    refine ⟨_, pss_one (ps_ret (pe_lst (pa_cons (pe_op op_mul (pv 0) (pe_callTy call_int1 (by rfl) B.int boot_int (pa_cons (pe_cmpR op_ge (pv 0) (pe_op op_pow pe_int pe_int) (nomark _)) pa_nil)))
      (pa_cons (pe_op op_mod (pv 0) pe_int) (pa_cons pe_int pa_nil))))), ?_⟩
    refine ⟨_, rfl, _, rfl, _, _, rfl, rfl, ⟨by decide, by decide, by decide⟩, _, _, rfl, rfl, .inr ⟨_, rfl, _, _, rfl, rfl, .inr (by split <;> decide), ?_⟩⟩
    refine ⟨_, rfl, _, _, rfl, rfl, by walk_at "z", by walk_at "z", fun p hp => ?_⟩
    refine q _ p (Same.new hp) hp ⟨_, _, _, upd_same, ?_, ?_, by decide, by decide⟩
    · exact Int.emod_nonneg _ (by decide)
    · have := Int.emod_lt_of_pos cell (show (0 : Int) < 2147483647 by decide)
      omega
abbrev N_draw : List Str := ["_law_well_here", "_law_many", "_law_digit", "_law_number"]
abbrev P_draw : List Str := ["_law_well_here", "_law_many"]
theorem sc_draw : FnScope N_draw P_draw (defScope s_draw) := ⟨rfl, rfl, rfl, by decide +kernel, rfl, by decide +kernel, by decide +kernel⟩
/-- a draw: one below the number; the well may be drawn from once less -/
def sp_draw : Sp := fun vs H Q _ => ∃ (W : Addr) (t n : Nat), vs = [.ref W, .int t] ∧ 0 < t ∧ t < 1073741824 ∧ WellAt (n + 1) H W ∧ ∀ (H' : Hp) (r : Nat), r < t → Sm W H H' → WellAt n H' W → Q (.int r) H'
theorem ok_draw {f : Addr} {fd : FuncData} (F : Fn K mg "_law_draw" s_draw P_draw f fd) : FnOk P w K mg base CX0 1 f fd P_draw sp_draw := by
  refine F.F.ok sc_draw (fun vs H Q E h => ?_) (fun cdv A outer s H vs Q E hr h => ?_)
  · obtain ⟨W, t, n, rfl, _⟩ := h
    rfl
  · obtain ⟨W, t, n, rfl, h0, h1, ⟨a, b, c, hW, b0, b1, c0, c1⟩, q⟩ := h
    have hu := hu_of hr
    have t0 : (0 : Int) < (t : Int) := by omega
    have aI0 : ∀ x y z : V, atI [x, y, z] (0 : Int) = some x := fun _ _ _ => rfl
    have aI1 : ∀ x y z : V, atI [x, y, z] (1 : Int) = some y := fun _ _ _ => rfl
    have aI2 : ∀ x y z : V, atI [x, y, z] (2 : Int) = some z := fun _ _ _ => rfl
    refine ⟨_, pss_cons (ps_if (pt_cmpR op_gt (pe_ix ix_list (pv 0) pe_int (fun _ _ => rfl)) pe_int (nomark _))
        (pss_cons (ps_set (i := 2) sc_draw.nd rfl (Or.inl rfl) (pe_op op_mod (pe_ix ix_list (pv 0) pe_int (fun _ _ => rfl)) (pv 1)))
        (pss_cons (ps_asg (pe_op op_fdiv (pe_ix ix_list (pv 0) pe_int (fun _ _ => rfl)) (pv 1)) (pg_sub (pv 0) pe_int set_list))
        (pss_one (ps_ret (pv 2))))) pss_nil)
      (pss_cons (ps_asg (pe_op op_add (pe_ix ix_list (pv 0) pe_int (fun _ _ => rfl)) pe_int) (pg_sub (pv 0) pe_int set_list))
      (pss_cons (ps_set (i := 3) sc_draw.nd rfl (Or.inl rfl) (pe_op op_mod (pe_op op_pow (pe_op op_add (pe_op op_add (pe_ix ix_list (pv 0) pe_int (fun _ _ => rfl)) (pe_op op_mul pe_int (pe_ix ix_list (pv 0) pe_int (fun _ _ => rfl)))) pe_int) pe_int) pe_int))
      (pss_cons (ps_set (i := 3) sc_draw.nd rfl (Or.inl rfl) (pe_op op_mod (pe_op op_mul (pv 3) (pe_op op_add (pe_op op_fdiv (pv 3) pe_int) pe_int)) pe_int))
      (pss_one (ps_ret (pe_op op_mod (pe_op op_fdiv (pe_op op_mod (pe_op op_mul (pv 3) (pe_op op_add (pe_op op_add (pe_op op_fdiv (pv 3) pe_int) pe_int) (pe_ix ix_list (pv 0) pe_int (fun _ _ => rfl)))) pe_int) pe_int) (pv 1))))))), ?_⟩
    refine ⟨_, rfl, W, _, _, _, rfl, rfl, .of hW, aI0 _ _ _, _, _, rfl, rfl, _, rfl, ite2 (fun ha => ?_) (fun ha => ?_)⟩
    · refine ⟨_, rfl, W, _, _, _, rfl, rfl, .of hW, aI0 _ _ _, _, rfl, _, _, rfl, rfl, by walk_at "z", ?_⟩
      refine ⟨_, rfl, W, _, _, _, rfl, rfl, .of hW, aI0 _ _ _, _, rfl, _, _, rfl, rfl, by constructor <;> omega, ?_⟩
      refine ⟨_, rfl, W, _, _, 0, rfl, rfl, hW, rfl, _, rfl, ?_⟩
      have hm := Int.emod_nonneg a (show (t : Int) ≠ 0 by omega)
      have hl := Int.emod_lt_of_pos a t0
      have e : a % (t : Int) = ((a % (t : Int)).toNat : Int) := by omega
      show Q (.int (a % (t : Int))) _
      rw [e]
      exact q _ _ (by omega) (Sm.put .rfl') ⟨_, _, _, upd_same, b0, b1, c0, by omega⟩
    · refine ⟨_, rfl, W, _, _, _, rfl, rfl, .of hW, aI2 _ _ _, _, _, rfl, rfl, ?_⟩
      refine ⟨_, rfl, W, _, _, 2, rfl, rfl, hW, rfl, ?_⟩
      have hW1 : upd H W (.lst [.int a, .int b, .int (c + 1)]) W = some (.lst [.int a, .int b, .int (c + 1)]) := upd_same
      refine ⟨_, rfl, W, _, _, _, rfl, rfl, .of hW1, aI1 _ _ _, _, rfl, W, _, _, _, rfl, rfl, .of hW1, aI2 _ _ _, _, _, rfl, rfl, .inl (by decide), ?_⟩
      refine ⟨_, _, rfl, rfl, _, _, rfl, rfl, _, _, rfl, rfl, ⟨by decide, by decide, by omega⟩, _, _, rfl, rfl, by walk_at "z", ?_⟩
      dsimp only
      generalize hx : (b + 7919 * (c + 1) + 1) ^ Int.toNat 3 % 2147483629 = x
      have x0 : 0 ≤ x := by rw [← hx]; exact Int.emod_nonneg _ (by omega)
      have x1 : x < 2147483629 := by rw [← hx]; exact Int.emod_lt_of_pos _ (by omega)
      refine ⟨_, rfl, _, rfl, _, _, rfl, rfl, ⟨by decide, by decide⟩, _, _, rfl, rfl, _, _, rfl, rfl, .inl ⟨by omega, by omega⟩, _, _, rfl, rfl, by walk_at "z", ?_⟩
      dsimp only
      generalize hy : x * (x / 1009 + 69621) % 2147483587 = y
      have y0 : 0 ≤ y := by rw [← hy]; exact Int.emod_nonneg _ (by omega)
      have y1 : y < 2147483587 := by rw [← hy]; exact Int.emod_lt_of_pos _ (by omega)
      refine ⟨_, rfl, _, rfl, _, _, rfl, rfl, ⟨by decide, by decide⟩, _, _, rfl, rfl, _, rfl, W, _, _, _, rfl, rfl, .of hW1, aI2 _ _ _, _, _, rfl, rfl, _, _, rfl, rfl, .inl ⟨by omega, by omega⟩, _, _, rfl, rfl, by walk_at "z", _, _, rfl, rfl, ⟨by decide, by decide⟩, _, rfl, _, _, rfl, rfl, by walk_at "z", ?_⟩
      dsimp only
      generalize y * (y / 2003 + 40692 + (c + 1)) % 2147483579 / 7 = z
      have hm := Int.emod_nonneg z (show (t : Int) ≠ 0 by omega)
      have hl := Int.emod_lt_of_pos z t0
      have e : z % (t : Int) = ((z % (t : Int)).toNat : Int) := by omega
      show Q (.int (z % (t : Int))) _
      rw [e]
      exact q _ _ (by omega) (Sm.put .rfl') ⟨_, _, _, hW1, b0, b1, by omega, by omega⟩
theorem sc_one : FnScope ["_law_well_here", "_law_some"] ["_law_well_here", "_law_some"] (defScope s_one) := ⟨rfl, rfl, rfl, by decide +kernel, rfl, by decide +kernel, by decide +kernel⟩
def sp_one : Sp := fun vs H Q _ => ∃ (W L : Addr) (xs : List V) (n : Nat), vs = [.ref W, .ref L] ∧ H L = some (.lst xs) ∧ L ≠ W ∧ 0 < xs.length ∧ xs.length < 1073741824 ∧ WellAt (n + 1) H W ∧ ∀ (H' : Hp) (r : Nat) (v : V), xs[r]? = some v → Sm W H H' → WellAt n H' W → Q v H'
theorem ok_one {f fD : Addr} {fd dD : FuncData} (F : Fn K mg "_law_one" s_one ["_law_well_here", "_law_some"] f fd) (B : Bn mg) (D : Fn K mg "_law_draw" s_draw P_draw fD dD) : FnOk P w K mg base CX0 2 f fd ["_law_well_here", "_law_some"] sp_one := by
  have GD : FnOk P w K mg base CX0 1 fD dD P_draw sp_draw := ok_draw D
  refine F.F.ok sc_one (fun vs H Q E h => ?_) (fun cdv A outer s H vs Q E hr h => ?_)
  · obtain ⟨W, L, xs, n, rfl, _⟩ := h
    rfl
  · obtain ⟨W, L, xs, n, rfl, hL, LW, h0, h1, hW, q⟩ := h
    refine ⟨_, pss_one (ps_ret (pe_ix ix_list (pv 1) (pe_call GD hr rfl D.g D.F.kp D.b .nil pass0 (pa_cons (pv 0) (pa_cons (pe_callB call_len_seq (by rfl) B.len PySem.boot_len (pa_cons (pv 1) pa_nil)) pa_nil))) (fun _ _ => rfl))), ?_⟩
    refine ⟨_, rfl, _, rfl, _, rfl, L, _, rfl, .inl (.of hL), W, xs.length, n, rfl, h0, h1, hW, fun H1 r hr' s1 w1 => ?_⟩
    obtain ⟨v, hv⟩ : ∃ v, xs[r]? = some v := ⟨_, List.getElem?_eq_getElem hr'⟩
    exact ⟨L, xs, (r : Int), v, rfl, rfl, .of (s1 _ _ LW hL), atI_nat hv, q H1 r v hv s1 w1⟩
theorem sc_cell : FnScope ["_law_script", "_law_k"] ["_law_script", "_law_k"] (defScope s_cell) := ⟨rfl, rfl, rfl, by decide +kernel, rfl, by decide +kernel, by decide +kernel⟩
def sp_cell (K : PySem.W.Frag) : Sp := fun vs H Q _ => ∃ (a : Addr) (ns : List Int) (k : Nat), vs = [.ref a, .int k] ∧ SqL K H a (ns.map V.int) ∧ ∀ c : Int, Q (.int c) H
theorem ok_cell {f : Addr} {fd : FuncData} (F : Fn K mg "_law_cell_at" s_cell ["_law_script", "_law_k"] f fd) (B : Bn mg) : FnOk P w K mg base CX0 1 f fd ["_law_script", "_law_k"] (sp_cell K) := by
  refine F.F.ok sc_cell (fun vs H Q E h => ?_) (fun cdv A outer s H vs Q E hr h => ?_)
  · obtain ⟨a, ns, k, rfl, _⟩ := h
    rfl
  · obtain ⟨a, ns, k, rfl, hS, q⟩ := h
    refine ⟨_, pss_cons (ps_if (pt_cmpR op_lt (pv 1) (pe_callB call_len_seq (by rfl) B.len PySem.boot_len (pa_cons (pv 0) pa_nil)) (nomark _)) (pss_one (ps_ret (pe_ix ix_seq (pv 0) (pv 1) fun _ _ => rfl))) pss_nil) (pss_one (ps_ret pe_int)), ?_⟩
    refine ⟨_, rfl, _, rfl, a, _, rfl, .inl hS, _, _, rfl, rfl, _, rfl, ite2 (fun hc => ?_) (fun hc => ?_)⟩
    · have hk := of_decide_eq_true hc
      rw [List.length_map] at hk
      have hk : k < ns.length := by omega
      exact ⟨_, rfl, _, rfl, .inl ⟨a, _, _, _, rfl, rfl, hS, atI_nat (by rw [List.getElem?_map, List.getElem?_eq_getElem hk]; rfl), q _⟩⟩
    · exact q 0
end
end T33

set_option maxHeartbeats 2000000
namespace TNN
open PySem L2 PyProof.Rows TX TY
section
variable {X : Cx}
/-- a list != [] -/
def rNeNil (K : PySem.W.Frag) : R2 := fun x y H Q => ∃ a b xs, x = .ref a ∧ y = .ref b ∧ SqL K H a xs ∧ SqL K H b [] ∧ Q (.bl (!xs.isEmpty)) H
theorem op_neNil (hu : X.A.units < cLine) : OpR X (compareOp .NotEq) (rNeNil X.K) := by
  intro pins s σ H x y v u Q I rx ry h
  obtain ⟨a, b, xs, rfl, rfl, ha, hb, q⟩ := h
  cases rx
  cases ry
  obtain ⟨its, r, hl, _⟩ := I.list ha
  obtain ⟨its2, r2, hl2, _⟩ := I.list hb
  have h2 : its2 = [] := by
    cases r2
    rfl
  subst h2
  cases xs with
  | nil =>
    cases r
    have z := SeqAt.RcNeAt.lists (e := fun _ => true) hl.isList hl2.isList rfl hu (fun j h1 h2 => absurd h1 (by simp))
    exact z X.prog X.w X.xe _ ⟨.bl false, H, I, rfl, q⟩
  | cons z zs =>
    have hsz : (its.toArray.size != ([] : List Value).toArray.size) = true := by
      have : its.length = (z :: zs).length := r.length.symm
      simp [this]
    have z := SeqAt.RcNeAt.lists_lengths hl.isList hl2.isList hsz hu
    exact z X.prog X.w X.xe _ ⟨.bl true, H, I, rfl, q⟩
end
end TNN

set_option maxHeartbeats 4000000
namespace T33
open PySem L2 PyProof.Rows TX TY TW TD TB TG TUD TE TK TNN
/-! ### names -/
/-- what a name is: a stem, and a letter that tells its place -/
def Nm (bg j : Nat) (m : List Nat) : Prop := ∃ st : List Nat, m = st ++ [97 + (bg + 3 * j) % 26] ∧ st.length ≤ 7 ∧ ∀ c ∈ st, 97 ≤ c ∧ c ≤ 122
theorem Nm.ok {bg j : Nat} {m : List Nat} (h : Nm bg j m) : TM.NameOk (S m) := by
  obtain ⟨st, rfl, h1, h2⟩ := h
  refine ⟨?_, ?_, fun c hc => ?_⟩
  · rw [S_len, List.length_append, List.length_singleton]; omega
  · rw [S_len, List.length_append, List.length_singleton]; omega
  · have hc : c ∈ st ++ [97 + (bg + 3 * j) % 26] := hc
    rcases List.mem_append.mp hc with hc | hc
    · exact h2 c hc
    · rw [List.mem_singleton.mp hc]
      have := Nat.mod_lt (bg + 3 * j) (show 26 > 0 by decide)
      omega
theorem Nm.inj {bg i j : Nat} {m : List Nat} (h : Nm bg i m) (k : Nm bg j m) (hi : i < 26) (hj : j < 26) : i = j := by
  obtain ⟨s, e, _⟩ := h
  obtain ⟨t, e2, _⟩ := k
  have := (List.append_inj' (e.symm.trans e2) rfl).2
  have : 97 + (bg + 3 * i) % 26 = 97 + (bg + 3 * j) % 26 := by simpa using this
  omega
theorem nms_nodup {bg : Nat} {ms : List (List Nat)} (h : ∀ j m, ms[j]? = some m → Nm bg j m) (hl : ms.length ≤ 26) : (ms.map S).Nodup := by
  rw [List.nodup_iff_pairwise_ne, List.pairwise_iff_getElem]
  intro i j hi hj hij e
  rw [List.length_map] at hi hj
  rw [List.getElem_map, List.getElem_map] at e
  have e := S_inj e
  have a := h i _ (List.getElem?_eq_getElem hi)
  have b := h j _ (List.getElem?_eq_getElem hj)
  rw [← e] at b
  have := a.inj b (by omega) (by omega)
  omega
abbrev teL : TE := tOp (fun x y H Q => ∃ i j, x = V.str i ∧ y = V.str j ∧ i.length + j.length ≤ sizeLine ∧ Q (V.str (i ++ j)) H) (tVar 5) (tOp rIxS (tC (.str (Str.ofString "abcdefghijklmnopqrstuvwxyz"))) (tCall sp_draw [] E0 (tCons (tVar 0) (tCons (tC (.int 26)) tNil))))
abbrev tiS : TI := iRng1 (tCons (tCall sp_one [] E0 (tCons (tVar 0) (tCons (tLst (tCons (tC (.int 0)) (tCons (tC (.int 0)) (tCons (tC (.int 1)) (tCons (tC (.int 3)) (tCons (tC (.int 7)) tNil)))))) tNil))) tNil)
section
variable {P : Program} {w : World} {K : PySem.W.Frag} {mg : Str → Option Value} {base : Heap}
abbrev N_names : List Str := ["_law_well_here", "_law_many", "_law_names_here", "_law_first", "_law_k", "_law_stem", "_law_j"]
abbrev P_names : List Str := ["_law_well_here", "_law_many"]
theorem sc_names : FnScope N_names P_names (defScope s_names) := ⟨rfl, rfl, rfl, by decide +kernel, rfl, by decide +kernel, by decide +kernel⟩
def sp_names : Sp := fun vs H Q _ => ∃ (W : Addr) (t n : Nat), vs = [.ref W, .int t] ∧ t ≤ 26 ∧ WellAt (n + 10 * t + 1) H W ∧
  ∀ (H' : Hp) (p : Addr) (ns : List Str), Sm W H H' → WellAt n H' W → H p = none → p ≠ W → H' p = some (.lst (ns.map V.str)) → ns.length = t → ns.Nodup → (∀ s ∈ ns, TM.NameOk s) → Q (.ref p) H'
theorem ok_names {f fD fO : Addr} {fd dD dO : FuncData} (F : Fn K mg "_law_names" s_names P_names f fd) (B : Bn mg) (D : Fn K mg "_law_draw" s_draw P_draw fD dD) (FO : Fn K mg "_law_one" s_one ["_law_well_here", "_law_some"] fO dO) :
    FnOk P w K mg base CX0 3 f fd P_names sp_names := by
  have GD : FnOk P w K mg base CX0 1 fD dD P_draw sp_draw := ok_draw D
  have GO : FnOk P w K mg base CX0 2 fO dO ["_law_well_here", "_law_some"] sp_one := ok_one FO B D
  refine F.F.ok sc_names (fun vs H Q E h => ?_) (fun cdv A outer s H vs Q E hr h => ?_)
  · obtain ⟨W, t, n, rfl, _⟩ := h
    rfl
  · obtain ⟨W, t, n, rfl, t26, hW, q⟩ := h
    have nd := sc_names.nd
    have hu1 := hr.units0
    have r1 : Room 1 _ := hr.mono (by decide)
    have r2 : Room 2 _ := hr.mono (by decide)
    refine ⟨_, pss_cons (ps_set (i := 2) nd rfl (Or.inl rfl) (pe_lst pa_nil))
      (pss_cons (ps_set (i := 3) nd rfl (Or.inl rfl) (pe_call GD r1 rfl D.g D.F.kp D.b .nil pass0 (pa_cons (pv 0) (pa_cons pe_int pa_nil))))
      (pss_cons (ps_for PassesOwn.never rfl (pi_range1 rfl B.range (pa_cons (pv 1) pa_nil)) (pg_name (i := 4) nd rfl (Or.inl rfl))
        (pss_cons (ps_set (i := 5) nd rfl (Or.inl rfl) pe_str)
        (C8.pss_cut (ps_if (PW.pt (pw_and (pt_cmpR (op_neNil hu1) (pv 2) (pe_lst pa_nil) (nomark _)) (pw_and1 (pt_cmpR op_eq (pe_call GD r1 rfl D.g D.F.kp D.b .nil pass0 (pa_cons (pv 0) (pa_cons pe_int pa_nil))) pe_int (nomark _)))))
          (pss_one (ps_set (i := 5) nd rfl (Or.inl rfl) (pe_slice sl_str (pe_call GO r2 rfl FO.g FO.F.kp FO.b .nil pass0 (pa_cons (pv 0) (pa_cons (pv 2) pa_nil))) po_none (po_some pe_int))))
          (pss_one (ps_for PassesOwn.never rfl (pi_range1 rfl B.range (pa_cons (pe_call GO r2 rfl FO.g FO.F.kp FO.b .nil pass0 (pa_cons (pv 0) (pa_cons (pe_lst (pa_cons pe_int (pa_cons pe_int (pa_cons pe_int (pa_cons pe_int (pa_cons pe_int pa_nil)))))) pa_nil))) pa_nil)) (pg_name (i := 6) nd rfl (Or.inl rfl))
            (pss_one (ps_set (i := 5) nd rfl (Or.inl rfl) (pe_op op_add_str (pv 5) (pe_ix ix_str pe_str (pe_call GD r1 rfl D.g D.F.kp D.b .nil pass0 (pa_cons (pv 0) (pa_cons pe_int pa_nil))) (fun _ _ => rfl))))))))
        (pss_one (ps_expr (pe_bm PySem.F.plainAttrs_list PySem.F.slot_list_append PySem.F.type_list_append mt_append (pv 2)
          (pa_cons (pe_op op_add_str (pv 5) (pe_ix ix_str pe_str (pe_op op_mod (pe_op op_add (pv 3) (pe_op op_mul pe_int (pv 4))) pe_int) (fun _ _ => rfl))) pa_nil)))))))
      (pss_one (ps_ret (pv 2))))), ?_⟩
    refine ⟨by show 0 ≤ sizeLine; decide, fun p np => ?_⟩
    have pW : p ≠ W := (hW.ne np).symm
    refine ⟨_, rfl, W, 26, n + 10 * t, rfl, by decide, by decide, hW.new np, fun H1 bg hbg s1 w1 => ?_⟩
    have ep := s1 _ _ pW upd_same
    have m1 : Sm W H H1 := (Sm.of (Same.new np)).trans s1
    refine ⟨_, rfl, (t : Int), rfl, by omega, by omega, ?_⟩
    refine for_range (lo := 0) (n := (t : Int).toNat) (fun i σ h => ∃ (ms : List (List Nat)) (v4 v5 v6 : Option V), σ = [some (.ref W), some (.int t), some (.ref p), some (.int bg), v4, v5, v6] ∧ h p = some (.lst ((ms.map S).map V.str)) ∧ ms.length = i ∧ (∀ j m, ms[j]? = some m → Nm bg j m) ∧ Sm W H h ∧ WellAt (n + 10 * (t - i)) h W)
      ⟨[], none, none, none, rfl, ep, rfl, (fun j m h => by simp at h), m1, w1⟩ ?_ ?_
    · rintro i σ G0 hi ⟨ms, v4, v5, v6, rfl, eP, lm, hm, m0, w0⟩
      have hi' : i < t := by simpa using hi
      have LS : ∀ ms' : List (List Nat), (ms'.map S).map V.str = ms'.map fun m => V.str (S m) := fun ms' => by rw [List.map_map]; rfl
      refine ⟨fun σ h => ∃ (st : List Nat) (v6 : Option V), σ = [some (.ref W), some (.int t), some (.ref p), some (.int bg), some (.int (0 + (i : Int))), some (.str (S st)), v6] ∧ st.length ≤ 7 ∧ (∀ c ∈ st, 97 ≤ c ∧ c ≤ 122) ∧ h p = some (.lst ((ms.map S).map V.str)) ∧ Sm W H h ∧ WellAt (n + 10 * (t - (i + 1))) h W, ?_, ?_⟩
      · have other : ∀ (D : Ends) (h2 : Hp), Sm W H h2 → h2 p = some (.lst ((ms.map S).map V.str)) → WellAt (n + 10 * (t - (i + 1)) + 8) h2 W →
            (∀ (st : List Nat) (v6 : Option V) (h : Hp), st.length ≤ 7 → (∀ c ∈ st, 97 ≤ c ∧ c ≤ 122) → h p = some (.lst ((ms.map S).map V.str)) → Sm W H h → WellAt (n + 10 * (t - (i + 1))) h W → D.nx [some (.ref W), some (.int t), some (.ref p), some (.int bg), some (.int (0 + (i : Int))), some (.str (S st)), v6] h) →
            tFor tiS (gName 6) (tAsg teL (gName 5)) D [some (.ref W), some (.int t), some (.ref p), some (.int bg), some (.int (0 + (i : Int))), some (.str (S [])), v6] h2 := by
          intro D h2 m2 e2 w2 fin
          refine ⟨_, rfl, by show 5 ≤ sizeLine; decide, fun L nL => ?_⟩
          have LW : L ≠ W := (w2.ne nL).symm
          refine ⟨W, L, _, n + 10 * (t - (i + 1)) + 7, rfl, upd_same, LW, by decide, by decide, (w2.new nL).mono (by omega), fun h3 r v hv s3 w3 => ?_⟩
          obtain ⟨c, hc, c7⟩ : ∃ c : Nat, v = V.int (c : Int) ∧ c ≤ 7 := by
            have hr5 : r < 5 := (List.getElem?_eq_some_iff.mp hv).1
            have : r = 0 ∨ r = 1 ∨ r = 2 ∨ r = 3 ∨ r = 4 := by omega
            rcases this with e | e | e | e | e <;> subst e
            · exact ⟨0, (Option.some.inj hv).symm, by decide⟩
            · exact ⟨0, (Option.some.inj hv).symm, by decide⟩
            · exact ⟨1, (Option.some.inj hv).symm, by decide⟩
            · exact ⟨3, (Option.some.inj hv).symm, by decide⟩
            · exact ⟨7, (Option.some.inj hv).symm, by decide⟩
          subst hc
          have m3 := (m2.trans (.of (Same.new nL))).trans s3
          have e3 := s3 _ _ pW ((Same.new nL) _ _ e2)
          refine ⟨(c : Int), rfl, by omega, by omega, ?_⟩
          refine for_range (lo := 0) (n := (c : Int).toNat) (fun k σ h => ∃ (st : List Nat) (v6 : Option V), σ = [some (.ref W), some (.int t), some (.ref p), some (.int bg), some (.int (0 + (i : Int))), some (.str (S st)), v6] ∧ st.length = k ∧ (∀ c ∈ st, 97 ≤ c ∧ c ≤ 122) ∧ h p = some (.lst ((ms.map S).map V.str)) ∧ Sm W H h ∧ WellAt (n + 10 * (t - (i + 1)) + (7 - k)) h W)
            ⟨[], v6, rfl, rfl, (fun _ h => nomatch h), e3, m3, w3.mono (by omega)⟩ ?_ ?_
          · rintro k σ h hk ⟨st, v6, rfl, ls, lt, e4, m4, w4⟩
            have hk' : k < c := by simpa using hk
            refine ⟨_, rfl, _, rfl, W, 26, n + 10 * (t - (i + 1)) + (7 - (k + 1)), rfl, by decide, by decide, w4.mono (by omega), fun h5 x hx s5 w5 => ?_⟩
            refine ⟨_, _, _, rfl, rfl, abc_len, abc_at hx, ?_⟩
            refine ⟨_, _, rfl, rfl, by rw [S_len]; exact line100 (by show _ + 1 ≤ 5000; omega), ?_⟩
            refine ⟨st ++ [97 + x], some (.int (0 + (k : Int))), ?_, by rw [List.length_append, ls]; rfl, fun c hc => ?_, s5 _ _ pW e4, m4.trans s5, w5⟩
            · rw [← S_app]
              rfl
            · rcases List.mem_append.mp hc with hc | hc
              · exact lt c hc
              · rw [List.mem_singleton.mp hc]
                omega
          · rintro σ h ⟨st, v6, rfl, ls, lt, e4, m4, w4⟩
            exact fin st v6 h (by omega) lt e4 m4 (w4.mono (by omega))
        refine ⟨_, rfl, by show 0 ≤ sizeLine; decide, fun Z nZ => ?_⟩
        have sZ : Same G0 (upd G0 Z (.lst [])) := Same.new nZ
        have eZ := sZ _ _ eP
        refine ⟨p, Z, _, rfl, rfl, .of eZ, .of upd_same, _, rfl, ?_⟩
        have wZ := w0.same sZ
        have mZ := m0.trans (.of sZ)
        generalize upd G0 Z (.lst []) = G1 at eZ wZ mZ ⊢
        by_cases hms : ms = []
        · subst hms
          rw [show (!(([] : List (List Nat)).map S |>.map V.str).isEmpty) = false from rfl]
          refine other _ G1 mZ eZ (wZ.mono (by omega)) fun st v6 h a b c d e => ⟨st, v6, rfl, a, b, c, d, e⟩
        · have e0 : (!((ms.map S).map V.str).isEmpty) = true := by
            cases ms with
            | nil => exact absurd rfl hms
            | cons _ _ => rfl
          rw [e0]
          refine ⟨_, rfl, W, 4, n + 10 * (t - (i + 1)) + 9, rfl, by decide, by decide, wZ.mono (by omega), fun G2 d hd s2 w2 => ?_⟩
          have e2 := s2 _ _ pW eZ
          have m2 := mZ.trans s2
          refine ⟨rfl, _, rfl, ite2 (fun hc => ?_) (fun hc => ?_)⟩
          · refine ⟨_, rfl, _, rfl, W, p, _, n + 10 * (t - (i + 1)) + 8, rfl, e2, pW, ?_, ?_, w2, fun G3 r v hv s3 w3 => ?_⟩
            · rw [List.length_map, List.length_map, lm]
              cases ms with
              | nil => exact absurd rfl hms
              | cons _ _ => rw [← lm]; exact Nat.succ_pos _
            · rw [List.length_map, List.length_map, lm]; omega
            rw [LS, List.getElem?_map] at hv
            obtain ⟨m, hmm, rfl⟩ := Option.map_eq_some_iff.mp hv
            have hnm := hm r m hmm
            have m8 : m.length ≤ 8 := by
              obtain ⟨st, rfl, h1, _⟩ := hnm
              rw [List.length_append, List.length_singleton]
              omega
            have mlet : ∀ c ∈ m, 97 ≤ c ∧ c ≤ 122 := hnm.ok.2.2
            have ecut : cutS (S m) none (some 7) = S (m.take 7) := by
              rw [cutS_S, HT.sIx_none, show (some (7 : Int)) = some ((7 : Nat) : Int) from rfl, HT.sIx_nat, List.drop_zero, Nat.sub_zero]
              congr 1
              by_cases z : 7 ≤ m.length
              · rw [Nat.min_eq_left z]
              · rw [Nat.min_eq_right (by omega), List.take_of_length_le (Nat.le_refl _), List.take_of_length_le (by omega)]
            refine ⟨_, rfl, _, rfl, by rw [S_len]; exact line100 (by omega), ?_⟩
            rw [ecut]
            exact ⟨m.take 7, v6, rfl, by rw [List.length_take]; omega, fun c hc => mlet c (List.mem_of_mem_take hc), s3 _ _ pW e2, m2.trans s3, w3.mono (by omega)⟩
          · exact other _ G2 m2 e2 (w2.mono (by omega)) fun st v6 h a b c d e => ⟨st, v6, rfl, a, b, c, d, e⟩
      · rintro σ h ⟨st, v6, rfl, l7, lst, e1, m2, w2⟩
        have hm26 := Nat.mod_lt (bg + 3 * i) (show 26 > 0 by decide)
        have ez : ((bg : Int) + 3 * (0 + (i : Int))) % 26 = (((bg + 3 * i) % 26 : Nat) : Int) := by rw [Int.zero_add]; omega
        refine ⟨_, rfl, .inl ⟨rfl, _, .inl (.inl e1)⟩, _, rfl, _, rfl, _, rfl, _, _, rfl, rfl, .inl ⟨by omega, by omega⟩, _, _, rfl, rfl, _, _, rfl, rfl, by omega, ?_⟩
        refine ⟨_, _, _, rfl, rfl, abc_len, by rw [ez]; exact abc_at hm26, ?_⟩
        refine ⟨_, _, rfl, rfl, by rw [S_len]; exact line100 (by show _ + 1 ≤ 5000; omega), ?_⟩
        refine ⟨p, _, _, rfl, rfl, e1, by rw [List.length_map, List.length_map]; exact line100' (by omega), ?_⟩
        refine ⟨ms ++ [st ++ [97 + (bg + 3 * i) % 26]], _, _, _, rfl, ?_, by rw [List.length_append, lm]; rfl, fun j m hj => ?_, Sm.mut m2 np, w2.upd pW.symm⟩
        · rw [upd_same, List.map_append, List.map_append]
          show _ = some (HO.lst (_ ++ [V.str (S (st ++ [97 + (bg + 3 * i) % 26]))]))
          rw [← S_app]
          rfl
        · rcases Nat.lt_or_ge j ms.length with z | z
          · rw [List.getElem?_append_left z] at hj
            exact hm j m hj
          · rw [List.getElem?_append_right z] at hj
            have : j - ms.length = 0 := by
              have := (List.getElem?_eq_some_iff.mp hj).1
              rw [List.length_singleton] at this
              omega
            rw [this] at hj
            have hj := Option.some.inj hj
            have ej : j = i := by omega
            rw [← hj, ej]
            exact ⟨st, rfl, l7, lst⟩
    · rintro σ h ⟨ms, v4, v5, v6, rfl, eP, lm, hm, m0, w0⟩
      have e : (t : Int).toNat = t := by omega
      rw [e] at lm w0
      refine ⟨_, rfl, q h p (ms.map S) m0 (w0.mono (by omega)) np pW eP (by rw [List.length_map]; exact lm) (nms_nodup hm (by omega)) fun s hs => ?_⟩
      obtain ⟨m, hm', rfl⟩ := List.mem_map.mp hs
      obtain ⟨j, hj⟩ := List.mem_iff_getElem?.mp hm'
      exact (hm j m hj).ok
end
end T33

set_option maxHeartbeats 4000000
namespace T33
open PySem L2 PyProof.Rows TX TY TW TD TB TG TUD TE TK TNN
theorem cut_nat {xs : List V} (a b : Nat) : cutV xs (some (a : Int)) (some (b : Int)) = (xs.drop (min a xs.length)).take (min b xs.length - min a xs.length) := by
  unfold cutV
  rw [HT.sIx_nat, HT.sIx_nat]
theorem cut_to {xs : List V} (b : Nat) : cutV xs none (some (b : Int)) = xs.take b := by
  unfold cutV
  rw [HT.sIx_none, HT.sIx_nat, List.drop_zero, Nat.sub_zero]
  by_cases z : b ≤ xs.length
  · rw [Nat.min_eq_left z]
  · rw [Nat.min_eq_right (by omega), List.take_of_length_le (Nat.le_refl _), List.take_of_length_le (by omega)]
section
variable {P : Program} {w : World} {K : PySem.W.Frag} {mg : Str → Option Value} {base : Heap}
abbrev N_pairs : List Str := ["_law_well_here", "_law_many", "_law_names_here", "_law_pairs_here", "_law_at", "_law_name"]
abbrev P_pairs : List Str := ["_law_well_here", "_law_many"]
theorem sc_pairs : FnScope N_pairs P_pairs (defScope s_pairs) := ⟨rfl, rfl, rfl, by decide +kernel, rfl, by decide +kernel, by decide +kernel⟩
def sp_pairs : Sp := fun vs H Q _ => ∃ (W : Addr) (t n : Nat), vs = [.ref W, .int t] ∧ t ≤ 26 ∧ WellAt (n + 11 * t + 1) H W ∧
  ∀ (H' : Hp) (p : Addr) (ps : List TM.Pr), Sm W H H' → WellAt n H' W → H p = none → p ≠ W → PairsAt H' p ps → ps.length = t → TM.Valid [] ps → (∀ x ∈ ps.map Prod.fst, TM.NameOk x) → Q (.ref p) H'
theorem ok_pairs {f fD fO fN : Addr} {fd dD dO dN : FuncData} (F : Fn K mg "_law_pairs" s_pairs P_pairs f fd) (B : Bn mg) (hmax : mg "max" = none) (D : Fn K mg "_law_draw" s_draw P_draw fD dD) (FO : Fn K mg "_law_one" s_one ["_law_well_here", "_law_some"] fO dO) (FN : Fn K mg "_law_names" s_names P_names fN dN) :
    FnOk P w K mg base CX0 4 f fd P_pairs sp_pairs := by
  have GD : FnOk P w K mg base CX0 1 fD dD P_draw sp_draw := ok_draw D
  have GN : FnOk P w K mg base CX0 3 fN dN P_names sp_names := ok_names FN B D FO
  refine F.F.ok sc_pairs (fun vs H Q E h => ?_) (fun cdv A outer s H vs Q E hr h => ?_)
  · obtain ⟨W, t, n, rfl, _⟩ := h
    rfl
  · obtain ⟨W, t, n, rfl, t26, hW0, q⟩ := h
    have nd := sc_pairs.nd
    have r1 : Room 1 _ := hr.mono (by decide)
    refine ⟨_, pss_cons (ps_set (i := 2) nd rfl (Or.inl rfl) (pe_call GN hr rfl FN.g FN.F.kp FN.b .nil pass0 (pa_cons (pv 0) (pa_cons (pv 1) pa_nil))))
      (pss_cons (ps_set (i := 3) nd rfl (Or.inl rfl) (pe_lst pa_nil))
      (pss_cons (ps_for PassesOwn.never rfl (pi_enum rfl B.enum (pa_cons (pv 2) pa_nil)) (pg_tup rfl (pgs_cons (pg_name (i := 4) nd rfl (Or.inl rfl)) (pgs_cons (pg_name (i := 5) nd rfl (Or.inl rfl)) pgs_nil)))
        (pss_one (ps_expr (pe_bm PySem.F.plainAttrs_list PySem.F.slot_list_append PySem.F.type_list_append mt_append (pv 3)
          (pa_cons (pe_tup (pa_cons (pv 5) (pa_cons (pe_ix ix_list (pe_op op_cat (pe_op op_cat (pe_lst (pa_cons pe_non pa_nil)) (pe_slice sl_list (pv 2) po_none (po_some (pv 4)))) (pe_slice sl_list (pv 2) (po_some (pe_callB (call_max2 rfl) (by rfl) hmax boot_max (pa_cons pe_int (pa_cons (pe_op op_sub (pv 4) pe_int) pa_nil)))) (po_some (pv 4))))
            (pe_call GD r1 rfl D.g D.F.kp D.b .nil pass0 (pa_cons (pv 0) (pa_cons (pe_op op_add (pe_op op_add (pv 4) pe_int) (pe_callTy call_int1 (by rfl) B.int boot_int (pa_cons (pe_cmpR op_gt (pv 4) pe_int (nomark _)) pa_nil))) pa_nil))) (fun _ _ => rfl)) pa_nil))) pa_nil)))))
      (pss_one (ps_ret (pv 3))))), ?_⟩
    refine ⟨_, rfl, _, rfl, W, t, n + t, rfl, t26, hW0.mono (by omega), fun H0 Nn ns s0 hW nNn hNW hN lns hnd hok => ?_⟩
    refine ⟨by show 0 ≤ sizeLine; decide, fun p np => ?_⟩
    have npH : H p = none := s0.free hW0 np ⟨_, hW⟩
    have pW : p ≠ W := (hW.ne np).symm
    have npN : Nn ≠ p := ne_of_none hN np
    refine ⟨_, rfl, Nn, ns.map V.str, rfl, .of (by rw [upd_ne npN]; exact hN), ?_⟩
    refine for_it (walk_enum (xs := ns.map V.str)) (fun i σ H' => ∃ (ps : List TM.Pr) (as : List Addr) (v1 v2 : Option V), σ = [some (.ref W), some (.int t), some (.ref Nn), some (.ref p), v1, v2] ∧
        H' p = some (.lst (as.map V.ref)) ∧ TupsAt H' as ps ∧ ps.map Prod.fst = ns.take i ∧ TM.Valid [] ps ∧ Sm W H0 H' ∧ WellAt (n + (ns.length - i)) H' W)
      ⟨[], [], none, none, rfl, upd_same, .nil, rfl, trivial, Sm.new .rfl' np, (hW.new np).mono (by omega)⟩ ?_ ?_ ?_
    · rintro i σ H1 hi ⟨ps, as, v1, v2, rfl, e1, t1, m1, va, s1, w1⟩
      exact .of (s1 _ _ hNW hN)
    · rintro i x σ H1 H1' hi ⟨ps, as, v1, v2, rfl, e1, t1, m1, va, s1, w1⟩ ⟨T, x1, x2, rfl, nT, rfl, hx1, hx2⟩
      rw [List.length_map] at hi
      obtain rfl : V.int (i : Int) = x1 := Option.some.inj hx1
      obtain ⟨nm, hnm, rfl⟩ : ∃ nm, ns[i]? = some nm ∧ x2 = V.str nm := by
        have h2 : (ns.map V.str)[i]? = some x2 := hx2
        rw [List.getElem?_map, List.getElem?_eq_getElem hi] at h2
        exact ⟨ns[i], List.getElem?_eq_getElem hi, (Option.some.inj h2).symm⟩
      refine ⟨T, _, rfl, .of upd_same, rfl, ?_⟩
      have sT : Same H1 (upd H1 T (.tup [.int (i : Int), .str nm])) := Same.new nT
      have mT := s1.trans (.of sT)
      have wT := w1.same sT
      have eT := sT _ _ e1
      have tT := t1.same sT
      generalize upd H1 T (.tup [.int (i : Int), .str nm]) = H2 at sT mT wT eT tT ⊢
      refine ⟨_, _, rfl, _, _, rfl, rfl, ?_⟩
      refine ⟨_, rfl, .inl ⟨rfl, _, .inl (.inl eT)⟩, _, rfl, ?_⟩
      -- None, and the names told ahead
      refine ⟨by show 1 ≤ sizeLine; decide, fun a na => ?_⟩
      have sa : Same H2 (upd H2 a (.lst [.non])) := Same.new na
      have ea : upd H2 a (.lst [.non]) a = some (.lst [.non]) := upd_same
      generalize upd H2 a (.lst [.non]) = H3 at sa ea ⊢
      refine ⟨_, rfl, _, rfl, _, rfl, Nn, _, rfl, .of (sa _ _ (mT _ _ hNW hN)), fun b nb => ?_⟩
      rw [cut_to, ← List.map_take]
      have sb : Same H3 (upd H3 b (.lst ((ns.take i).map V.str))) := Same.new (by exact nb)
      have eb : upd H3 b (.lst ((ns.take i).map V.str)) b = some (.lst ((ns.take i).map V.str)) := upd_same
      have ea2 := sb _ _ ea
      generalize upd H3 b (.lst ((ns.take i).map V.str)) = H4 at sb eb ea2 ⊢
      refine ⟨a, b, _, _, rfl, rfl, ea2, eb, by rw [List.length_map, List.length_take]; exact line100 (by show 1 + _ ≤ 5000; omega), fun c nc => ?_⟩
      have sc : Same H4 (upd H4 c (.lst ([.non] ++ (ns.take i).map V.str))) := Same.new nc
      have ec : upd H4 c (.lst ([.non] ++ (ns.take i).map V.str)) c = some (.lst ([.non] ++ (ns.take i).map V.str)) := upd_same
      have s24 := (sa.trans sb).trans sc
      generalize upd H4 c (.lst ([.non] ++ (ns.take i).map V.str)) = H5 at sc ec s24 ⊢
      refine ⟨_, rfl, _, rfl, _, _, rfl, rfl, _, _, rfl, ?_⟩
      have lo : (if (i : Int) - 1 > 0 then (i : Int) - 1 else 0) = ((i - 1 : Nat) : Int) := by
        by_cases z : (i : Int) - 1 > 0
        · rw [if_pos z]; omega
        · rw [if_neg z]; omega
      dsimp -proj only
      rw [lo]
      refine ⟨_, rfl, _, rfl, _, rfl, Nn, _, rfl, .of (s24 _ _ (mT _ _ hNW hN)), fun d nd2 => ?_⟩
      have ecut : cutV (ns.map V.str) (some ((i - 1 : Nat) : Int)) (some (i : Int)) = ((ns.drop (i - 1)).take (i - (i - 1))).map V.str := by
        rw [cut_nat, List.length_map, Nat.min_eq_left (by omega), Nat.min_eq_left (by omega), List.map_take, List.map_drop]
      rw [ecut]
      have sd : Same H5 (upd H5 d (.lst (((ns.drop (i - 1)).take (i - (i - 1))).map V.str))) := Same.new (by exact nd2)
      have ed : upd H5 d (.lst (((ns.drop (i - 1)).take (i - (i - 1))).map V.str)) d = some (.lst (((ns.drop (i - 1)).take (i - (i - 1))).map V.str)) := upd_same
      have ec2 := sd _ _ ec
      generalize upd H5 d (.lst (((ns.drop (i - 1)).take (i - (i - 1))).map V.str)) = H6 at sd ed ec2 ⊢
      refine ⟨c, d, _, _, rfl, rfl, ec2, ed, ?_, fun r nr => ?_⟩
      · rw [List.length_append, List.length_map, List.length_map, List.length_take, List.length_take, List.length_drop]
        exact line100 (by show 1 + _ + _ ≤ 5000; omega)
      have sr : Same H6 (upd H6 r (.lst ([.non] ++ (ns.take i).map V.str ++ ((ns.drop (i - 1)).take (i - (i - 1))).map V.str))) := Same.new nr
      have er : upd H6 r (.lst ([.non] ++ (ns.take i).map V.str ++ ((ns.drop (i - 1)).take (i - (i - 1))).map V.str)) r = some (.lst ([.non] ++ (ns.take i).map V.str ++ ((ns.drop (i - 1)).take (i - (i - 1))).map V.str)) := upd_same
      have s27 := (s24.trans sd).trans sr
      generalize upd H6 r (.lst ([.non] ++ (ns.take i).map V.str ++ ((ns.drop (i - 1)).take (i - (i - 1))).map V.str)) = H7 at sr er s27 ⊢
      have w7 := wT.same s27
      have m7 := mT.trans (.of s27)
      have e7 := s27 _ _ eT
      have t7 := tT.same s27
      clear sa sb sc sd sr s24 ea eb ec ed ea2 ec2 nb nc nd2 nr na sT wT mT eT tT s27
      have rW : r ≠ W := fun z => by
        obtain ⟨x', y', z', ew, _⟩ := w7
        rw [z, ew] at er
        cases er
      refine ⟨_, rfl, _, rfl, _, _, rfl, rfl, _, rfl, _, _, rfl, rfl, .inr ⟨_, rfl, _, _, rfl, rfl, ?_⟩⟩
      obtain ⟨tp, htp, tp0, tp1⟩ : ∃ tp : Nat, ((i : Int) + 1 + (if (decide ((0 : Int) < (i : Int))) = true then 1 else 0)) = (tp : Int) ∧ 0 < tp ∧ tp = ([V.non] ++ (ns.take i).map V.str ++ ((ns.drop (i - 1)).take (i - (i - 1))).map V.str).length := by
        rw [List.length_append, List.length_append, List.length_map, List.length_map, List.length_take, List.length_take, List.length_drop, List.length_singleton]
        by_cases z : (0 : Int) < (i : Int)
        · exact ⟨i + 2, by rw [decide_eq_true z, if_pos rfl]; omega, by omega, by omega⟩
        · exact ⟨i + 1, by rw [decide_eq_false z, if_neg Bool.false_ne_true]; omega, by omega, by omega⟩
      dsimp -proj only
      rw [htp]
      refine ⟨W, tp, n + (ns.length - (i + 1)), rfl, tp0, ?_, w7.mono (by omega), fun H8 k hk s8 w8 => ?_⟩
      · rw [tp1, List.length_append, List.length_append, List.length_map, List.length_map, List.length_take, List.length_take, List.length_drop, List.length_singleton]
        omega
      have e8 := s8 _ _ rW er
      have ep8 := s8 _ _ pW e7
      have t8 := t7.sm s8 ⟨_, w7⟩
      have m8 := m7.trans s8
      clear s8 w7 er e7 t7 m7
      obtain ⟨o, ho, hov⟩ : ∃ o : Option Str, ([V.non] ++ (ns.take i).map V.str ++ ((ns.drop (i - 1)).take (i - (i - 1))).map V.str)[k]? = some (optV o) ∧ ∀ x, o = some x → x ∈ ns.take i := by
        rw [tp1] at hk
        have hm := List.getElem?_eq_getElem hk
        have hin := List.getElem_mem hk
        generalize ([V.non] ++ (ns.take i).map V.str ++ ((ns.drop (i - 1)).take (i - (i - 1))).map V.str)[k] = v at hm hin
        rw [List.append_assoc] at hin
        rcases List.mem_append.mp hin with h | h
        · rw [List.mem_singleton.mp h] at hm
          exact ⟨none, hm, fun x e => nomatch e⟩
        · rcases List.mem_append.mp h with h | h
          · obtain ⟨x, hx, rfl⟩ := List.mem_map.mp h
            exact ⟨some x, hm, fun y e => by cases e; exact hx⟩
          · obtain ⟨x, hx, rfl⟩ := List.mem_map.mp h
            refine ⟨some x, hm, fun y e => ?_⟩
            cases e
            obtain ⟨j, hj⟩ := List.mem_iff_getElem?.mp hx
            rw [List.getElem?_take, List.getElem?_drop] at hj
            split at hj
            · rename_i hj1
              refine List.mem_of_getElem? (i := i - 1 + j) ?_
              rw [List.getElem?_take, if_pos (by omega)]
              exact hj
            · cases hj
      refine ⟨r, _, (k : Int), _, rfl, rfl, .of e8, atI_nat ho, two_le, fun y ny => ?_⟩
      have ey : ∀ o, (upd H8 y o) p = some (.lst (as.map V.ref)) := fun o => by rw [upd_ne (ne_of_none ep8 ny)]; exact ep8
      have hal : as.length = ps.length := t8.len
      have hpl : ps.length = i := by
        have := congrArg List.length m1
        rw [List.length_map, List.length_take] at this
        omega
      refine ⟨p, _, _, rfl, rfl, ey _, by rw [List.length_map]; exact line100' (by omega), ps ++ [(nm, o)], as ++ [y], _, _, rfl, ?_, ?_, ?_, ?_, ?_, ?_⟩
      · rw [upd_same, List.map_append]
        rfl
      · exact ((t8.same (Same.new ny)).snoc (q := (nm, o)) upd_same).put (ey _)
      · rw [List.map_append, m1, List.take_add_one, hnm]
        rfl
      · refine TM.valid_app va ?_
        rw [List.nil_append, m1]
        refine ⟨fun hc => ?_, hov, trivial⟩
        rw [List.mem_take_iff_getElem] at hc
        obtain ⟨j, hj, ej⟩ := hc
        have e4 : ns[i] = nm := by
          rw [List.getElem?_eq_getElem hi] at hnm
          exact Option.some.inj hnm
        have := (List.getElem_inj hnd (i := j) (j := i)).mp (ej.trans e4.symm)
        omega
      · exact (m8.new ny).mut np
      · exact (w8.new ny).upd pW.symm
    · rintro σ H1 ⟨ps, as, v1, v2, rfl, e1, t1, m1, va, s1, w1⟩
      rw [List.length_map] at m1 w1
      rw [List.take_length] at m1
      refine ⟨_, rfl, q H1 p ps (s0.trans s1) (w1.mono (by omega)) npH pW ⟨as, e1, t1⟩ (by have := congrArg List.length m1; rw [List.length_map] at this; omega) va (by rw [m1]; exact hok)⟩
end
end T33

/-! The text of a forest. -/
namespace TT
open PySem L2 PyProof.Rows TX TM
def cm : Str := ","
def word (c : Str) (ws : List Str) : Str := if ws = [] then c else c ++ ("(" ++ Txt.join cm ws ++ ")")
def txts : Fo → List Str
  | .nil => []
  | .cons c k r => word c (txts k) :: txts r
theorem s_assoc (a b c : Str) : a ++ b ++ c = a ++ (b ++ c) := by
  rw [S_eta a, S_eta b, S_eta c, S_app, S_app, S_app, S_app, List.append_assoc]
theorem word_some {c : Str} {ws : List Str} (h : ws ≠ []) : word c ws = Str.empty ++ c ++ "(" ++ Txt.join cm ws ++ ")" := by
  have e0 : Str.empty ++ c = c := by
    have : Str.empty = S [] := rfl
    rw [this, S_eta c, S_app, List.nil_append]
  unfold word
  rw [if_neg h, e0, s_assoc, s_assoc, s_assoc]
theorem jn (ws : List Str) : Txt.join cm ws = Str.join cm ws := by
  show Builtin.Str.glued cm ws = _
  rw [StrLaws.glued_eq_join]
theorem join_len : ∀ ws : List Str, (Txt.join cm ws).length ≤ (ws.map (·.length)).sum + ws.length := by
  intro ws
  rw [jn]
  induction ws with
  | nil => exact Nat.zero_le _
  | cons x r ih =>
    cases r with
    | nil =>
      show x.length ≤ _
      rw [List.map_cons, List.sum_cons]
      omega
    | cons y t =>
      show (x ++ cm ++ Str.join cm (y :: t)).length ≤ _
      rw [sapp_len, sapp_len, List.map_cons, List.sum_cons, List.length_cons]
      have : cm.length = 1 := by decide +kernel
      omega
theorem join_pos {x : Str} {ws : List Str} (h : 1 ≤ x.length) : 1 ≤ (Txt.join cm (x :: ws)).length := by
  rw [jn]
  cases ws with
  | nil => exact h
  | cons y t =>
    show 1 ≤ (x ++ cm ++ Str.join cm (y :: t)).length
    rw [sapp_len, sapp_len]
    omega
theorem word_ge (c : Str) (ws : List Str) : c.length ≤ (word c ws).length := by
  unfold word
  split
  · exact Nat.le_refl _
  · rw [sapp_len]
    omega
theorem brak_len (z : Str) : ("(" ++ z ++ ")" : Str).length = z.length + 2 := by
  rw [sapp_len, sapp_len]
  have h1 : ("(" : Str).length = 1 := by decide +kernel
  have h2 : (")" : Str).length = 1 := by decide +kernel
  omega
/-- all words of a forest are short -/
theorem txts_len : ∀ (f : Fo), (∀ x ∈ names f, x.length ≤ 8) → ((txts f).map (·.length)).sum + (txts f).length ≤ 12 * (names f).length
  | .nil, _ => Nat.le_refl _
  | .cons c k r, h => by
    have e0 : names (.cons c k r) = c :: (names k ++ names r) := rfl
    rw [e0] at h ⊢
    have hk := txts_len k fun x hx => h x (List.mem_cons_of_mem _ (List.mem_append_left _ hx))
    have hr := txts_len r fun x hx => h x (List.mem_cons_of_mem _ (List.mem_append_right _ hx))
    have hc := h c List.mem_cons_self
    show ((word c (txts k) :: txts r).map (·.length)).sum + (word c (txts k) :: txts r).length ≤ _
    rw [List.map_cons, List.sum_cons, List.length_cons, List.length_cons, List.length_append]
    have hw : (word c (txts k)).length ≤ c.length + 2 + (((txts k).map (·.length)).sum + (txts k).length) := by
      unfold word
      split
      · omega
      · rw [sapp_len, brak_len]
        have := join_len (txts k)
        omega
    omega
theorem txts_nil {f : Fo} : txts f = [] ↔ names f = [] := by
  cases f with
  | nil => exact ⟨fun _ => rfl, fun _ => rfl⟩
  | cons c k r => exact ⟨fun h => (nomatch h), fun h => (nomatch h)⟩
theorem txts_pos {f : Fo} (h : ∀ x ∈ names f, 1 ≤ x.length) (hn : txts f ≠ []) : 1 ≤ (Txt.join cm (txts f)).length := by
  cases f with
  | nil => exact absurd rfl hn
  | cons c k r =>
    show 1 ≤ (Txt.join cm (word c (txts k) :: txts r)).length
    exact join_pos (Nat.le_trans (h c List.mem_cons_self) (word_ge _ _))
/-- the part beneath a top -/
def kid (f : Fo) (c : Str) : Fo := match loc f c with
  | some (_, q) => q
  | none => .nil
theorem txts_tops : ∀ {f : Fo}, (names f).Nodup → txts f = (tops f).map fun c => word c (txts (kid f c))
  | .nil, _ => rfl
  | .cons d k r, hn => by
    obtain ⟨n1, n2, n3, n4, n5⟩ := nd_parts hn
    show word d (txts k) :: txts r = (d :: tops r).map _
    rw [List.map_cons]
    have e1 : kid (.cons d k r) d = k := by unfold kid; rw [loc_here]
    rw [e1, txts_tops n4]
    congr 1
    apply List.map_congr_left
    intro x hx
    have hx' := (tops_sub r).subset hx
    have : kid (.cons d k r) x = kid r x := by
      unfold kid
      rw [loc_by (fun (z : d = x) => n2 (z ▸ hx')) (loc_none fun z => n5 _ z hx')]
    rw [this]
/-- as the pairs tell it -/
def wstep (ps : List Pr) (u : Option Str) (p : Pr) : List Str := if p.2 = u then [word p.1 (txts (mk ps (some p.1)))] else []
theorem txts_suffix {ps : List Pr} (va : Valid [] ps) (u : Option Str) : ∀ (t pre : List Pr), ps = pre ++ t → txts (mk t u) = t.flatMap (wstep ps u)
  | [], _, _ => rfl
  | (c, o) :: r, pre, e => by
    have hi : ps[pre.length]? = some (c, o) := by rw [e]; simp
    have h2 := ahead_at va hi
    have e4 : ps.take (pre.length + 1) = pre ++ [(c, o)] := by
      rw [e, show pre ++ (c, o) :: r = (pre ++ [(c, o)]) ++ r by simp, List.take_append_of_le_length (by simp), List.take_of_length_le (by simp)]
    have h1 : mk ps (some c) = mk r (some c) := by
      have e2 : ps = ps.take (pre.length + 1) ++ r := by rw [e4, e]; simp
      rw [e2, mk_skip h2]
    have ih := txts_suffix va u r (pre ++ [(c, o)]) (by rw [e]; simp)
    rw [List.flatMap_cons, ← ih]
    unfold wstep
    rw [h1]
    by_cases ho : o = u
    · have e5 : mk ((c, o) :: r) u = .cons c (mk r (some c)) (mk r u) := if_pos ho
      rw [e5]
      simp only [ho, if_true]
      rfl
    · have e5 : mk ((c, o) :: r) u = mk r u := if_neg ho
      rw [e5]
      simp [ho]
theorem txts_flat {ps : List Pr} (va : Valid [] ps) (u : Option Str) : txts (mk ps u) = ps.flatMap (wstep ps u) := txts_suffix va u ps [] rfl
theorem wtake {ps : List Pr} {u : Option Str} {i : Nat} {q : Pr} (h : ps[i]? = some q) : (ps.take (i + 1)).flatMap (wstep ps u) = (ps.take i).flatMap (wstep ps u) ++ wstep ps u q := by
  rw [List.take_add_one, h, List.flatMap_append]
  show _ ++ (wstep ps u q ++ []) = _
  rw [List.append_nil]
end TT

set_option maxHeartbeats 4000000
namespace T33
open PySem L2 PyProof.Rows TX TY TW TD TB TG TUD TE TK TNN
section
variable {P : Program} {w : World} {K : PySem.W.Frag} {mg : Str → Option Value} {base : Heap}
abbrev N_above : List Str := ["_law_pairs_here", "_law_column", "_law_overs", "_law_found"]
theorem sc_labove : FnScope N_above ["_law_pairs_here", "_law_column"] (defScope s_labove) := ⟨rfl, rfl, rfl, by decide +kernel, rfl, by decide +kernel, by decide +kernel⟩
def sp_labove : Sp := fun vs H Q _ => ∃ (L : Addr) (ps : List TM.Pr) (x : Str) (a : List Str) (k : TM.Fo), vs = [.ref L, .str x] ∧ PairsAt H L ps ∧ TM.Valid [] ps ∧ ps.length ≤ 8 ∧ (∀ x ∈ ps.map Prod.fst, TM.NameOk x) ∧ TM.loc (TM.mk ps none) x = some (a, k) ∧
  ∀ H' p, Same H H' → H p = none → H' p = some (.lst (a.map V.str)) → Q (.ref p) H'
theorem ok_labove {f : Addr} {fd : FuncData} (F : Fn K mg "_law_above" s_labove ["_law_pairs_here", "_law_column"] f fd) (B : Bn mg) : FnOk P w K mg base CX0 1 f fd ["_law_pairs_here", "_law_column"] sp_labove := by
  refine F.F.ok sc_labove (fun vs H Q E h => ?_) (fun cdv A outer s H vs Q E hr h => ?_)
  · obtain ⟨L, ps, x, a, k, rfl, _⟩ := h
    rfl
  · obtain ⟨L, ps, x, a, k, rfl, ⟨as, eL, ta⟩, va, l8, okn, hx, q⟩ := h
    have hu := hu_of hr
    have nd := sc_labove.nd
    have fo := foOk_mk va l8 okn
    have nod := TM.valid_nodup va
    have get : ∀ {c : Str} {a1 : List Str} {k1 : TM.Fo}, TM.loc (TM.mk ps none) c = some (a1, k1) → valV (kvsOf ps) (Sum.inr c : Key) = some (optV (TM.lastOr a1 none)) := fun h => kvs_some nod (TM.mk_sub (TM.loc_flat none h))
    refine ⟨_, pss_cons (ps_set (i := 2) nd rfl (Or.inl rfl) (pe_callTy (call_dP rfl) (by rfl) B.dict boot_dict (pa_cons (pv 0) pa_nil)))
      (pss_cons (ps_set (i := 3) nd rfl (Or.inl rfl) (pe_lst pa_nil))
      (pss_cons (ps_while PassesOwn.never (pt_cmp (pc_notN (pe_dget hu (pv 2) (pv 1) (fun _ _ => rfl))))
        (pss_cons (ps_set (i := 1) nd rfl (Or.inl rfl) (pe_dget hu (pv 2) (pv 1) (fun _ _ => rfl)))
        (pss_one (ps_set (i := 3) nd rfl (Or.inl rfl) (pe_op op_cat (pe_lst (pa_cons (pv 1) pa_nil)) (pv 3))))))
      (pss_one (ps_ret (pv 3))))), ?_⟩
    have hal : a.length ≤ 8 := by
      have := (TM.loc_sub hx).length_le
      have h8 := fo.le
      rw [List.length_append] at this
      omega
    refine ⟨_, rfl, L, as, kvsOf ps, rfl, .of eL, pairs_es ta, fun d ndd => ?_⟩
    refine ⟨by decide, fun p np => ?_⟩
    have ed : upd (upd H d (.dK (mergeK [] (kvsOf ps)))) p (.lst []) d = some (.dK (kvsOf ps)) := by rw [upd_ne (ne_of_none upd_same np), upd_same, merge_nil nod]
    have s0 : Same H (upd (upd H d (.dK (mergeK [] (kvsOf ps)))) p (.lst [])) := (Same.new ndd).trans (Same.new np)
    have npH : H p = none := (Same.new ndd).free np
    have e0 : upd (upd H d (.dK (mergeK [] (kvsOf ps)))) p (.lst []) p = some (.lst []) := upd_same
    generalize upd (upd H d (.dK (mergeK [] (kvsOf ps)))) p (.lst []) = H0 at ed s0 e0 ⊢
    refine ⟨fun m σ H' => ∃ (r b : List Str) (c : Str) (kc : TM.Fo) (p' : Addr), r.length = m ∧ a = r ++ b ∧ TM.loc (TM.mk ps none) c = some (r, kc) ∧ σ = [some (.ref L), some (.str c), some (.ref d), some (.ref p')] ∧ H' p' = some (.lst (b.map V.str)) ∧ H p' = none ∧ Same H0 H',
      ⟨a.length, a, [], x, k, p, rfl, by simp, hx, rfl, e0, npH, same_rfl⟩, ?_⟩
    rintro m σ H2 ⟨r, b, c, kc, p', rfl, eab, hc, rfl, e2, np', s3⟩
    have hbl : b.length ≤ 8 := by
      have := congrArg List.length eab
      rw [List.length_append] at this
      omega
    refine ⟨_, rfl, _, rfl, d, _, rfl, .inl ⟨_, Sum.inr c, .inl (s3 _ _ ed), rfl, (get hc).symm⟩, _, rfl, ?_⟩
    rcases List.eq_nil_or_concat r with rfl | ⟨r', u, rfl⟩
    · have e3 : optV (TM.lastOr [] none) = V.non := rfl
      rw [e3]
      refine ⟨_, rfl, ?_⟩
      exact q H2 p' (s0.trans s3) np' (by rw [e2, eab]; rfl)
    · have e3 : optV (TM.lastOr (r'.concat u) none) = V.str u := by rw [List.concat_eq_append, TM.lastOr_snoc]; rfl
      have gc := get hc
      rw [e3] at gc ⊢
      have ea : a = r' ++ u :: b := by rw [eab, List.concat_eq_append]; simp
      obtain ⟨q1, hu1, _⟩ := TM.loc_up fo.nd hx r' b u ea
      refine ⟨fun σ' H' => ∃ (r b : List Str) (c : Str) (kc : TM.Fo) (p' : Addr), r.length = r'.length ∧ a = r ++ b ∧ TM.loc (TM.mk ps none) c = some (r, kc) ∧ σ' = [some (.ref L), some (.str c), some (.ref d), some (.ref p')] ∧ H' p' = some (.lst (b.map V.str)) ∧ H p' = none ∧ Same H0 H',
        fun σ' H' z => ⟨r'.length, by simp, z⟩, ?_⟩
      refine ⟨_, rfl, _, rfl, d, _, rfl, .inl ⟨_, Sum.inr c, .inl (s3 _ _ ed), rfl, gc.symm⟩, ?_⟩
      refine ⟨_, rfl, by show 1 ≤ sizeLine; decide, fun p2 np2 => ?_⟩
      refine ⟨_, rfl, p2, p', _, _, rfl, rfl, upd_same, (Same.new np2) _ _ e2, ?_, fun p3 np3 => ?_⟩
      · rw [List.length_map]
        show 1 + _ ≤ sizeLine
        exact line100 (by omega)
      have s4 : Same H0 (upd (upd H2 p2 (.lst [.str u])) p3 (.lst ([V.str u] ++ b.map V.str))) := (s3.trans (Same.new np2)).trans (Same.new np3)
      refine ⟨r', u :: b, u, q1, p3, rfl, ea, hu1, rfl, upd_same, ?_, s4⟩
      exact (s0.trans (s3.trans (Same.new np2))).free np3
/-! ### beneath -/
theorem scal_opt (o u : Option Str) : scal (optV o) (optV u) = true := by cases o <;> cases u <;> rfl
def headL : Option Str → List Str
  | none => []
  | some c => [c]
abbrev N_ben : List Str := ["_law_pairs_here", "_law_column", "_law_found", "_law_name", "_law_over"]
abbrev P_ben : List Str := ["_law_pairs_here", "_law_column"]
theorem sc_ben : FnScope N_ben P_ben (defScope s_lbeneath) := ⟨rfl, rfl, rfl, by decide +kernel, rfl, by decide +kernel, by decide +kernel⟩
/-- a column and what lies beneath it, or all, in order -/
def sp_ben (n : Nat) : Sp := fun vs H Q _ => ∃ (L : Addr) (ps : List TM.Pr) (u : Option Str), vs = [.ref L, optV u] ∧ PairsAt H L ps ∧ TM.Valid [] ps ∧ ps.length ≤ 8 ∧ TM.Below ps u n ∧
  ∀ H' p, Same H H' → H p = none → H' p = some (.lst ((headL u ++ TM.ord ps u).map V.str)) → Q (.ref p) H'
theorem lenB {n : Nat} {vs : List V} {H : Hp} {Q : VK} {E : XK} (h : sp_ben n vs H Q E) : vs.length = 2 := by
  obtain ⟨L, ps, u, rfl, _⟩ := h
  rfl
theorem ok_ben {f : Addr} {fd : FuncData} (F : Fn K mg "_law_beneath" s_lbeneath P_ben f fd) (B : Bn mg) : ∀ n : Nat, FnOk P w K mg base CX0 n f fd P_ben (sp_ben n)
  | 0 => ⟨fun vs H Q E h => lenB h, fun A outer s H args us vs Q E hr e b r h => by
      obtain ⟨L, ps, u, rfl, _, _, _, ⟨pre, t, _, hlt, _⟩, _⟩ := h
      exact absurd hlt (Nat.not_lt_zero _)⟩
  | n + 1 => by
    have G := ok_ben F B n
    refine F.F.ok sc_ben (fun vs H Q E h => lenB h) (fun cdv A outer s H vs Q E hr h => ?_)
    obtain ⟨L, ps, u, rfl, hP, va, hl8, hb, q⟩ := h
    have hu := hu_of hr
    have nd := sc_ben.nd
    refine ⟨_, pss_cons (ps_set (i := 2) nd rfl (Or.inl rfl) (pe_op op_rep (pe_lst (pa_cons (pv 1) pa_nil)) (pe_callTy call_int1 (by rfl) B.int boot_int (pa_cons (pe_cmp (pc_notN (pv 1))) pa_nil))))
      (pss_cons (ps_for PassesOwn.never rfl (pi_list (pv 0)) (pg_tup rfl (pgs_cons (pg_name (i := 3) nd rfl (Or.inl rfl)) (pgs_cons (pg_name (i := 4) nd rfl (Or.inl rfl)) pgs_nil)))
        (pss_one (ps_if (pt_cmpR op_eq (pv 4) (pv 1) (nomark _))
          (pss_one (ps_set (i := 2) nd rfl (Or.inl rfl) (pe_op op_cat (pv 2) (pe_call G hr rfl F.g F.F.kp F.b .nil pass0 (pa_cons (pv 0) (pa_cons (pv 3) pa_nil)))))) pss_nil)))
      (pss_one (ps_ret (pv 2)))), ?_⟩
    obtain ⟨as, eL, ta⟩ := id hP
    have hal := ta.len
    refine ⟨_, rfl, by show 1 ≤ sizeLine; decide, fun p0 np0 => ?_⟩
    have s00 : Same H (upd H p0 (.lst [optV u])) := Same.new np0
    have e00 : upd H p0 (.lst [optV u]) p0 = some (.lst [optV u]) := upd_same
    generalize upd H p0 (.lst [optV u]) = H0 at s00 e00 ⊢
    refine ⟨_, rfl, .inr ⟨_, rfl, ?_⟩⟩
    obtain ⟨ku, hku, hk1, hrep⟩ : ∃ ku : Nat, (if (!decide (optV u = V.non)) = true then (1 : Int) else 0) = (ku : Int) ∧ ku ≤ 1 ∧ (List.replicate ku [optV u]).flatten = (headL u).map V.str := by
      cases u with
      | none => exact ⟨0, by rw [decide_eq_true (show optV none = V.non from rfl)]; rfl, by decide, rfl⟩
      | some c => exact ⟨1, by rw [decide_eq_false (show ¬ optV (some c) = V.non from fun z => nomatch z)]; rfl, by decide, rfl⟩
    rw [hku]
    refine ⟨p0, (ku : Int), _, rfl, rfl, e00, by omega, by omega, ?_, fun p np => ?_⟩
    · show 1 * ((ku : Int)).toNat ≤ sizeLine
      exact line100 (by omega)
    have ekn : ((ku : Int)).toNat = ku := by omega
    rw [ekn, hrep]
    have npH : H p = none := s00.free np
    have s0 : Same H (upd H0 p (.lst ((headL u).map V.str))) := s00.trans (Same.new (by exact np))
    have e0 : upd H0 p (.lst ((headL u).map V.str)) p = some (.lst ((headL u).map V.str)) := upd_same
    generalize upd H0 p (.lst ((headL u).map V.str)) = H1 at s0 e0 ⊢
    have hd1 : (headL u).length ≤ 1 := by cases u <;> simp [headL]
    refine ⟨_, rfl, L, rfl, ⟨_, .of (s0 _ _ eL)⟩, ?_⟩
    refine for_it (walk_list (xs := as.map V.ref)) (fun i σ h => ∃ (p' : Addr) (v3 v4 : Option V), σ = [some (.ref L), some (optV u), some (.ref p'), v3, v4] ∧ h p' = some (.lst ((headL u ++ (ps.take i).flatMap (TM.step ps u)).map V.str)) ∧ H p' = none ∧ Same H h)
      ⟨p, none, none, rfl, by rw [List.take_zero, List.flatMap_nil, List.append_nil]; exact e0, npH, s0⟩ (fun i σ h _ ⟨_, _, _, _, _, _, s⟩ => .of (s _ _ eL)) ?_ ?_
    · rintro i x σ h h' hi ⟨p', v3, v4, rfl, e1, np', s1⟩ ⟨rfl, hx⟩
      rw [List.length_map] at hi
      obtain ⟨a, ha, rfl⟩ : ∃ a, as[i]? = some a ∧ x = V.ref a := by
        rw [List.getElem?_map, List.getElem?_eq_getElem hi] at hx
        exact ⟨as[i], List.getElem?_eq_getElem hi, (Option.some.inj hx).symm⟩
      obtain ⟨⟨c, o⟩, hq, hta⟩ := ta.get ha
      have hf : ((ps.take i).flatMap (TM.step ps u)).length ≤ 9 * (ps.take i).length := TM.flat_le fun q _ => by
        unfold TM.step
        split
        · have := TM.ord_le va (some q.1)
          rw [List.length_cons]
          omega
        · exact Nat.zero_le _
      rw [List.length_take] at hf
      refine ⟨a, _, rfl, .of (s1 _ _ hta), rfl, _, _, rfl, _, _, rfl, rfl, ?_⟩
      refine ⟨_, rfl, _, rfl, scal_opt _ _, _, rfl, ite2 (fun he => ?_) (fun he => ?_)⟩
      · have ho : o = u := optV_inj (of_decide_eq_true he)
        have hb2 : TM.Below ps (some c) n := TM.below_at va hq (ho ▸ hb)
        refine ⟨_, rfl, _, rfl, _, rfl, L, ps, some c, rfl, hP.same s1, va, hl8, hb2, fun H3 r s3 nr er => ?_⟩
        have hol : (TM.ord ps (some c)).length ≤ 8 := Nat.le_trans (TM.ord_le va _) hl8
        refine ⟨p', r, _, _, rfl, rfl, s3 _ _ e1, er, ?_, fun p4 np4 => ?_⟩
        · rw [List.length_map, List.length_map, List.length_append, List.length_append]
          exact line100 (by show _ + (1 + _) ≤ 5000; omega)
        have s4 := s1.trans s3
        refine ⟨p4, _, _, rfl, ?_, s4.free np4, s4.trans (Same.new np4)⟩
        rw [upd_same, TM.ord_take hq]
        have : TM.step ps u (c, o) = c :: TM.ord ps (some c) := if_pos ho
        rw [this, ← List.map_append, List.append_assoc]
        rfl
      · have ho : ¬ o = u := fun z => he (decide_eq_true (congrArg optV z))
        refine ⟨p', _, _, rfl, ?_, np', s1⟩
        rw [TM.ord_take hq]
        have : TM.step ps u (c, o) = [] := if_neg ho
        rw [this, List.append_nil]
        exact e1
    · rintro σ h ⟨p', v3, v4, rfl, e1, np', s1⟩
      rw [List.length_map, hal, List.take_length] at e1
      refine ⟨_, rfl, q h p' s1 np' ?_⟩
      rw [e1, TM.ord_flat va u]
end
end T33

set_option maxHeartbeats 4000000
namespace T33
open PySem L2 PyProof.Rows TX TY TW TD TB TG TUD TE TK TNN
section
variable {P : Program} {w : World} {K : PySem.W.Frag} {mg : Str → Option Value} {base : Heap}
abbrev rLenSeq (K : PySem.W.Frag) : List V → Hp → VK → Prop := fun xs H Q => ∃ p ys, xs = [.ref p] ∧ (SqL K H p ys ∨ SqT K H p ys) ∧ Q (.int ys.length) H
abbrev P_one : List Str := ["_law_well_here", "_law_some"]
/-! ### values -/
theorem sc_values : FnScope ["_law_well_here", "_law_some"] ["_law_well_here"] (defScope s_values) := ⟨rfl, rfl, rfl, by decide +kernel, rfl, by decide +kernel, by decide +kernel⟩
def sp_values : Sp := fun vs H Q _ => ∃ (W : Addr) (n : Nat), vs = [.ref W] ∧ WellAt (n + 3) H W ∧ ∀ (H' : Hp) (p : Addr) (xs : List Int), Sm W H H' → WellAt n H' W → H p = none → p ≠ W → H' p = some (.lst (xs.map V.int)) → 1 ≤ xs.length → xs.length ≤ 4 → Q (.ref p) H'
theorem ok_values {f fD fO : Addr} {fd dD dO : FuncData} (F : Fn K mg "_law_values" s_values ["_law_well_here"] f fd) (B : Bn mg) (D : Fn K mg "_law_draw" s_draw P_draw fD dD) (FO : Fn K mg "_law_one" s_one P_one fO dO) : FnOk P w K mg base CX0 3 f fd ["_law_well_here"] sp_values := by
  have GD : FnOk P w K mg base CX0 1 fD dD P_draw sp_draw := ok_draw D
  have GO : FnOk P w K mg base CX0 2 fO dO P_one sp_one := ok_one FO B D
  refine F.F.ok sc_values (fun vs H Q E h => ?_) (fun cdv A outer s H vs Q E hr h => ?_)
  · obtain ⟨W, n, rfl, _⟩ := h
    rfl
  · obtain ⟨W, n, rfl, hW, q⟩ := h
    have nd := sc_values.nd
    have r1 : Room 1 _ := hr.mono (by decide)
    refine ⟨_, pss_cons (ps_set (i := 1) nd rfl (Or.inl rfl) (pe_lst (pa_cons pe_int (pa_cons pe_int (pa_cons pe_int (pa_cons (pe_call GO hr rfl FO.g FO.F.kp FO.b .nil pass0 (pa_cons (pv 0) (pa_cons (pe_lst (pa_cons (pe_un un_neg pe_int) (pa_cons pe_int (pa_cons (pe_un un_neg (pe_op op_pow pe_int pe_int)) (pa_cons (pe_op op_mul pe_int (pe_op op_pow pe_int pe_int)) pa_nil))))) pa_nil))) pa_nil))))))
      (pss_one (ps_ret (pe_slice sl_list (pv 1) (po_some (pe_call GD r1 rfl D.g D.F.kp D.b .nil pass0 (pa_cons (pv 0) (pa_cons pe_int pa_nil)))) (po_some (pe_op op_add pe_int (pe_call GD r1 rfl D.g D.F.kp D.b .nil pass0 (pa_cons (pv 0) (pa_cons pe_int pa_nil)))))))), ?_⟩
    refine ⟨_, rfl, _, rfl, _, _, rfl, rfl, ⟨by decide, by decide, by decide⟩, _, rfl, _, _, rfl, rfl, ⟨by decide, by decide, by decide⟩, _, _, rfl, rfl, .inl ⟨by decide, by decide⟩, by show 4 ≤ sizeLine; decide, fun L nL => ?_⟩
    have LW : L ≠ W := (hW.ne nL).symm
    refine ⟨W, L, _, n + 2, rfl, upd_same, LW, by decide, by decide, hW.new nL, fun H1 r v hv s1 w1 => ?_⟩
    obtain ⟨x, rfl⟩ : ∃ x : Int, v = V.int x := by
      have hr4 : r < 4 := (List.getElem?_eq_some_iff.mp hv).1
      have : r = 0 ∨ r = 1 ∨ r = 2 ∨ r = 3 := by omega
      rcases this with e | e | e | e <;> subst e
      · exact ⟨_, (Option.some.inj hv).symm⟩
      · exact ⟨_, (Option.some.inj hv).symm⟩
      · exact ⟨_, (Option.some.inj hv).symm⟩
      · exact ⟨_, (Option.some.inj hv).symm⟩
    have m1 : Sm W H H1 := (Sm.of (Same.new nL)).trans s1
    refine ⟨by show 4 ≤ sizeLine; decide, fun S nS => ?_⟩
    have SW : S ≠ W := (w1.ne nS).symm
    have eS : upd H1 S (.lst [.int 0, .int 1, .int 2, .int x]) S = some (.lst (([0, 1, 2, x] : List Int).map V.int)) := upd_same
    have w2 := w1.new (o := .lst [.int 0, .int 1, .int 2, .int x]) nS
    have m2 := m1.new (o := .lst [.int 0, .int 1, .int 2, .int x]) nS
    generalize upd H1 S (.lst [.int 0, .int 1, .int 2, .int x]) = H2 at eS w2 m2 ⊢
    refine ⟨_, rfl, _, rfl, W, 2, n + 1, rfl, by decide, by decide, w2, fun H3 a ha s3 w3 => ?_⟩
    refine ⟨_, rfl, _, rfl, W, 3, n, rfl, by decide, by decide, w3, fun H4 c hc s4 w4 => ?_⟩
    have eS4 := s4 _ _ SW (s3 _ _ SW eS)
    have m4 := (m2.trans s3).trans s4
    have ck : (2 : Int) + (c : Int) = ((2 + c : Nat) : Int) := by omega
    refine ⟨_, _, rfl, rfl, ?_⟩
    dsimp -proj only
    rw [ck]
    refine ⟨_, rfl, S, _, rfl, .of eS4, fun p np => ?_⟩
    have npH : H p = none := m4.free hW np ⟨_, w4⟩
    have pW : p ≠ W := (w4.ne np).symm
    have ecut : cutV (([0, 1, 2, x] : List Int).map V.int) (some (a : Int)) (some ((2 + c : Nat) : Int)) = ((([0, 1, 2, x] : List Int).drop a).take (2 + c - a)).map V.int := by
      rw [cut_nat, List.map_take, List.map_drop]
      show List.take (min (2 + c) 4 - min a 4) (List.drop (min a 4) _) = _
      rw [Nat.min_eq_left (by omega), Nat.min_eq_left (by omega)]
    refine q _ p _ (m4.new np) (w4.new np) npH pW (by rw [upd_same, ecut]) ?_ ?_
    · rw [List.length_take, List.length_drop]
      show 1 ≤ min _ (4 - a)
      omega
    · rw [List.length_take, List.length_drop]
      show min _ (4 - a) ≤ 4
      omega
theorem seq_at {n j : Nat} (h : j < n) : seqIndex? (j : Int) n = some j := by
  unfold seqIndex?
  split <;> first | omega | (split <;> first | omega | (congr 1; omega) | rfl) | skip
  all_goals first | (congr 1; omega) | rfl | simp_all
/-! ### in another order -/
abbrev N_mix : List Str := ["_law_well_here", "_law_some", "_law_left", "_law_k"]
theorem sc_mix : FnScope N_mix P_one (defScope s_mixed) := ⟨rfl, rfl, rfl, by decide +kernel, rfl, by decide +kernel, by decide +kernel⟩
/-- the same things in another order -/
def sp_mix : Sp := fun vs H Q _ => ∃ (W L : Addr) (xs : List V) (n : Nat), vs = [.ref W, .ref L] ∧ H L = some (.lst xs) ∧ L ≠ W ∧ xs.length ≤ 26 ∧ WellAt (n + xs.length) H W ∧
  ∀ (H' : Hp) (p : Addr) (ys : List V), Sm W H H' → WellAt n H' W → H p = none → p ≠ W → H' p = some (.lst ys) → ys.Perm xs → Q (.ref p) H'
theorem ok_mix {f fD : Addr} {fd dD : FuncData} (F : Fn K mg "_law_mixed_up" s_mixed P_one f fd) (B : Bn mg) (D : Fn K mg "_law_draw" s_draw P_draw fD dD) : FnOk P w K mg base CX0 2 f fd P_one sp_mix := by
  have GD : FnOk P w K mg base CX0 1 fD dD P_draw sp_draw := ok_draw D
  refine F.F.ok sc_mix (fun vs H Q E h => ?_) (fun cdv A outer s H vs Q E hr h => ?_)
  · obtain ⟨W, L, xs, n, rfl, _⟩ := h
    rfl
  · obtain ⟨W, L, xs, n, rfl, hL, LW, l26, hW, q⟩ := h
    have nd := sc_mix.nd
    refine ⟨_, pss_cons (ps_set (i := 2) nd rfl (Or.inr rfl) (pe_callTy call_list_of (by rfl) B.list boot_list (pa_cons (pv 1) pa_nil)))
      (pss_one (ps_ret (pe_lc (own := [("_law_k", 3)]) (g := gName 3) (tt := tYes) (te := tBM K "list" (rPopAt) (tVar 2) (tCons (tCall sp_draw [] E0 (tCons (tVar 0) (tCons (tCB (rLenSeq K) (tCons (tVar 2) tNil)) tNil))) tNil)) rfl nd (pi_range1 rfl B.range (pa_cons (pe_callB call_len_seq (by rfl) B.len PySem.boot_len (pa_cons (pv 1) pa_nil)) pa_nil)) (blkOk_by (N := N_mix) (sc := defScope s_mixed) (by decide +kernel))
        (fun _ _ _ _ _ => pg_name (i := 3) nd rfl (Or.inl rfl)) (fun _ _ _ _ _ => pts_nil) (fun _ _ _ _ _ => pe_bm PySem.F.plainAttrs_list PySem.F.slot_list_pop PySem.F.type_list_pop mt_popAt (pv 2) (pa_cons (pe_call GD hr rfl D.g D.F.kp D.b .nil pass0 (pa_cons (pv 0) (pa_cons (pe_callB call_len_seq (by rfl) B.len PySem.boot_len (pa_cons (pv 2) pa_nil)) pa_nil))) pa_nil))))), ?_⟩
    refine ⟨_, rfl, L, _, rfl, .inl (.of hL), fun Lf nLf => ?_⟩
    have LfW : Lf ≠ W := (hW.ne nLf).symm
    have eL0 := (Same.new (o := .lst xs) nLf) _ _ hL
    have eLf0 : upd H Lf (.lst xs) Lf = some (.lst xs) := upd_same
    have w0 := hW.new (o := .lst xs) nLf
    refine ⟨_, rfl, L, _, rfl, .inl (.of eL0), (xs.length : Int), rfl, by omega, by omega, fun Dn nDn => ?_⟩
    have DW : Dn ≠ W := (w0.ne nDn).symm
    have DL : Dn ≠ Lf := fun z => by rw [z, upd_same] at nDn; cases nDn
    have nDnH : H Dn = none := (Same.new nLf).free nDn
    refine lc_it (walk_range (lo := 0) (n := (xs.length : Int).toNat)) (fun i h => ∃ (ls fs : List V), h Lf = some (.lst ls) ∧ h Dn = some (.lst fs) ∧ (fs ++ ls).Perm xs ∧ fs.length = i ∧ Sm W H h ∧ WellAt (n + (xs.length - i)) h W)
      ⟨xs, [], by rw [upd_ne DL.symm]; exact eLf0, upd_same, List.Perm.refl _, rfl, .of ((Same.new nLf).trans (Same.new nDn)), w0.new nDn⟩ (fun _ _ _ _ => trivial) ?_ ?_
    · rintro i x h h' hi ⟨ls, fs, eL, eF, pm, lf, s1, w1⟩ ⟨rfl, rfl⟩
      have hi' : i < xs.length := by simpa using hi
      have pl := pm.length_eq
      rw [List.length_append] at pl
      refine ⟨rfl, ?_⟩
      refine ⟨_, rfl, .inl ⟨rfl, _, .inl (.inl eL)⟩, _, rfl, _, rfl, Lf, _, rfl, .inl (.of eL), W, ls.length, n + (xs.length - (i + 1)), rfl, by omega, by omega, w1.mono (by omega), fun h2 j hj s2 w2 => ?_⟩
      have eL2 := s2 _ _ LfW eL
      have eF2 := s2 _ _ DW eF
      refine ⟨Lf, ls, (j : Int), j, ls[j], rfl, rfl, eL2, by omega, by omega, seq_at hj, List.getElem?_eq_getElem hj, ?_⟩
      refine ⟨fs, by rw [upd_ne DL]; exact eF2, line100' (by omega), ls.eraseIdx j, fs ++ [ls[j]], ?_, upd_same, ?_, ?_, ?_, ?_⟩
      · rw [upd_ne DL.symm, upd_same]
      · refine List.Perm.trans ?_ pm
        rw [List.append_assoc]
        refine List.Perm.append_left fs ?_
        rw [List.eraseIdx_eq_take_drop_succ]
        refine (List.perm_middle (a := ls[j]) (l₁ := ls.take j) (l₂ := ls.drop (j + 1))).symm.trans ?_
        rw [← List.drop_eq_getElem_cons hj, List.take_append_drop]
      · rw [List.length_append, List.length_singleton, lf]
      · exact ((s1.trans s2).mut nLf).mut nDnH
      · exact (w2.upd LfW.symm).upd DW.symm
    · rintro h ⟨ls, fs, eL, eF, pm, lf, s1, w1⟩
      have e : (xs.length : Int).toNat = xs.length := by omega
      rw [e] at lf w1
      have pl := pm.length_eq
      rw [List.length_append] at pl
      have : ls = [] := List.length_eq_zero_iff.mp (by omega)
      subst this
      rw [List.append_nil] at pm
      exact q h Dn fs s1 (w1.mono (by omega)) nDnH DW eF pm
end
end T33

set_option maxHeartbeats 4000000
namespace T33
open PySem L2 PyProof.Rows TX TY TW TD TB TG TUD TE TK TNN
section
variable {P : Program} {w : World} {K : PySem.W.Frag} {mg : Str → Option Value} {base : Heap}
abbrev N_rows : List Str := ["_law_well_here", "_law_wide", "_law_values_here", "_law_many", "_law_j", "_law_k"]
abbrev P_rows : List Str := ["_law_well_here", "_law_wide", "_law_values_here"]
theorem sc_rows : FnScope N_rows P_rows (defScope s_rows) := ⟨rfl, rfl, rfl, by decide +kernel, rfl, by decide +kernel, by decide +kernel⟩
abbrev scRows : Scope := { kind := .function, names := [((".0" : Str), NameKind.local), ("_law_j", .local), ("tuple", .globalImplicit), ("range", .globalImplicit), ("_law_values_here", .cell), ("_law_well_here", .cell), ("_law_wide", .cell)], isGenerator := false, isCoroutine := false }
def sp_rows : Sp := fun vs H Q _ => ∃ (W Vl : Addr) (wide n : Nat) (xs : List Int), vs = [.ref W, .int wide, .ref Vl] ∧ H Vl = some (.lst (xs.map V.int)) ∧ Vl ≠ W ∧ 1 ≤ xs.length ∧ xs.length ≤ 26 ∧ wide ≤ 8 ∧ WellAt (n + 100) H W ∧
  ∀ (H' : Hp) (p : Addr) (as : List Addr) (rs : List (List Int)), Sm W H H' → WellAt n H' W → H p = none → p ≠ W → H' p = some (.lst (as.map V.ref)) → RowsAt H' as rs → (∀ r ∈ rs, r.length = wide ∧ ∀ v ∈ r, v ∈ xs) → rs.length ≤ 12 → Q (.ref p) H'
/-- one row -/
theorem rd_row {H : Hp} {W Vl : Addr} {m wide : Nat} {xs : List Int} {v3 v4 : Option V} {Q : VK} (hl : wide ≤ 8) (hW : WellAt (m + wide) H W) (eV : H Vl = some (.lst (xs.map V.int))) (VW : Vl ≠ W) (x1 : 1 ≤ xs.length) (x2 : xs.length ≤ 26)
    (q : ∀ H' D (r : List Int), Sm W H H' → WellAt m H' W → H D = none → H' D = some (.lst (r.map V.int)) → r.length = wide → (∀ v ∈ r, v ∈ xs) → Q (.ref D) H') :
    tLc (iRng1 (tCons (tVar 1) tNil)) (gName 5) tYes (tCall sp_one [] E0 (tCons (tVar 0) (tCons (tVar 2) tNil))) [5] [some (.ref W), some (.int wide), some (.ref Vl), v3, v4, none] H Q := by
  refine ⟨_, rfl, (wide : Int), rfl, by omega, by omega, fun Dn nDn => ?_⟩
  have DW : Dn ≠ W := (hW.ne nDn).symm
  refine lc_it (walk_range (lo := 0) (n := (wide : Int).toNat)) (fun i h => ∃ r : List Int, h Dn = some (.lst (r.map V.int)) ∧ r.length = i ∧ (∀ v ∈ r, v ∈ xs) ∧ Sm W H h ∧ WellAt (m + (wide - i)) h W)
    ⟨[], upd_same, rfl, (fun _ h => nomatch h), Sm.new .rfl' nDn, hW.new nDn⟩ (fun _ _ _ _ => trivial) ?_ ?_
  · rintro i x h h' hi ⟨r, e4, lr, vr, s4, w4⟩ ⟨rfl, rfl⟩
    have hi' : i < wide := by simpa using hi
    refine ⟨rfl, ?_⟩
    refine ⟨_, rfl, _, rfl, W, Vl, _, m + (wide - (i + 1)), rfl, s4 _ _ VW eV, VW, by rw [List.length_map]; omega, by rw [List.length_map]; omega, w4.mono (by omega), fun h5 k v hv s5 w5 => ?_⟩
    rw [List.getElem?_map] at hv
    obtain ⟨y, hy, rfl⟩ := Option.map_eq_some_iff.mp hv
    refine ⟨_, s5 _ _ DW e4, by rw [List.length_map]; exact line100' (by omega), r ++ [y], ?_, ?_, fun v hv => ?_, (s4.trans s5).mut nDn, w5.upd DW.symm⟩
    · rw [upd_same, List.map_append]
      rfl
    · rw [List.length_append, List.length_singleton, lr]
    · rcases List.mem_append.mp hv with hv | hv
      · exact vr v hv
      · rw [List.mem_singleton.mp hv]
        exact List.mem_of_getElem? hy
  · rintro h ⟨r, e4, lr, vr, s4, w4⟩
    have e : (wide : Int).toNat = wide := by omega
    rw [e] at lr w4
    exact q h Dn r s4 (w4.mono (by omega)) nDn e4 lr vr
/-- a row that is kept -/
def RowW (n : Nat) (xs : List Int) (D W : Addr) (h : Hp) (a : Addr) (r : List Int) : Prop := h a = some (.tup (r.map V.int)) ∧ a ≠ D ∧ a ≠ W ∧ r.length = n ∧ ∀ v ∈ r, v ∈ xs
theorem RowW.sm {n : Nat} {xs : List Int} {D W : Addr} {h h' : Hp} {a : Addr} {r : List Int} (x : RowW n xs D W h a r) (s : Sm W h h') : RowW n xs D W h' a r := ⟨s _ _ x.2.2.1 x.1, x.2⟩
theorem RowW.put {n : Nat} {xs : List Int} {D W : Addr} {h : Hp} {a : Addr} {r : List Int} {o : HO} (x : RowW n xs D W h a r) : RowW n xs D W (upd h D o) a r := ⟨by rw [upd_ne x.2.1]; exact x.1, x.2⟩
theorem rowW_all {n : Nat} {xs : List Int} {D W : Addr} {h : Hp} : ∀ {as rs}, Paired (RowW n xs D W h) as rs → ∀ r ∈ rs, r.length = n ∧ ∀ v ∈ r, v ∈ xs := by
  intro as rs hp
  induction hp with
  | nil => intro r hr; cases hr
  | cons x _ ih =>
    intro r hr
    rcases List.mem_cons.mp hr with e | hr
    · rw [e]
      exact x.2.2.2
    · exact ih r hr
theorem ok_rows {f fD fO : Addr} {fd dD dO : FuncData} (F : Fn K mg "_law_rows" s_rows P_rows f fd) (B : Bn mg) (D : Fn K mg "_law_draw" s_draw P_draw fD dD) (FO : Fn K mg "_law_one" s_one P_one fO dO) : FnOk P w K mg base CX0 3 f fd P_rows sp_rows := by
  have GO : FnOk P w K mg base CX0 2 fO dO P_one sp_one := ok_one FO B D
  refine F.F.ok sc_rows (fun vs H Q E h => ?_) (fun cdv A outer s H vs Q E hr h => ?_)
  · obtain ⟨W, Vl, wide, n, xs, rfl, _⟩ := h
    rfl
  · obtain ⟨W, Vl, wide, n, xs, rfl, eV, VW, x1, x2, w8, hW, q⟩ := h
    have nd := sc_rows.nd
    refine ⟨_, pss_cons (ps_set (i := 3) nd rfl (Or.inl rfl) (pe_call GO hr rfl FO.g FO.F.kp FO.b .nil pass0 (pa_cons (pv 0) (pa_cons (pe_lst (pa_cons pe_int (pa_cons pe_int (pa_cons pe_int (pa_cons pe_int (pa_cons pe_int (pa_cons pe_int (pa_cons pe_int (pa_cons pe_int (pa_cons pe_int pa_nil)))))))))) pa_nil))))
      (pss_one (ps_ret (pe_lc (own := [("_law_j", 4)]) (g := gName 4) (tt := tYes) (te := tCB (rTu K) (tCons (tLc (iRng1 (tCons (tVar 1) tNil)) (gName 5) tYes (tCall sp_one [] E0 (tCons (tVar 0) (tCons (tVar 2) tNil))) [5]) tNil)) rfl nd (pi_range1 rfl B.range (pa_cons (pv 3) pa_nil)) (blkOk_by (N := N_rows) (sc := defScope s_rows) (by decide +kernel))
        (fun _ _ _ _ _ => pg_name (i := 4) nd rfl (Or.inl rfl)) (fun _ _ _ _ _ => pts_nil)
        (fun _ _ _ _ _ => pe_callTy call_tu (by rfl) B.tuple boot_tuple (pa_cons (pe_lc (own := [("_law_k", 5)]) (g := gName 5) (tt := tYes) (te := tCall sp_one [] E0 (tCons (tVar 0) (tCons (tVar 2) tNil))) rfl nd (pi_range1 rfl B.range (pa_cons (pv 1) pa_nil)) (blkOk_by (N := N_rows) (sc := scRows) (by decide +kernel)) (fun _ _ _ _ _ => pg_name (i := 5) nd rfl (Or.inl rfl)) (fun _ _ _ _ _ => pts_nil)
          (fun _ _ _ _ _ => pe_call GO hr rfl FO.g FO.F.kp FO.b .nil pass0 (pa_cons (pv 0) (pa_cons (pv 2) pa_nil)))) pa_nil))))), ?_⟩
    refine ⟨_, rfl, by show 9 ≤ sizeLine; decide, fun L nL => ?_⟩
    have LW : L ≠ W := (hW.ne nL).symm
    refine ⟨W, L, _, n + 99, rfl, upd_same, LW, by decide, by decide, hW.new nL, fun H1 k v hv s1 w1 => ?_⟩
    obtain ⟨c, rfl, c12⟩ : ∃ c : Nat, v = V.int (c : Int) ∧ c ≤ 12 := by
      have hk : k < 9 := (List.getElem?_eq_some_iff.mp hv).1
      have : k = 0 ∨ k = 1 ∨ k = 2 ∨ k = 3 ∨ k = 4 ∨ k = 5 ∨ k = 6 ∨ k = 7 ∨ k = 8 := by omega
      rcases this with e | e | e | e | e | e | e | e | e <;> subst e
      · exact ⟨6, (Option.some.inj hv).symm, by decide⟩
      · exact ⟨4, (Option.some.inj hv).symm, by decide⟩
      · exact ⟨9, (Option.some.inj hv).symm, by decide⟩
      · exact ⟨12, (Option.some.inj hv).symm, by decide⟩
      · exact ⟨7, (Option.some.inj hv).symm, by decide⟩
      · exact ⟨2, (Option.some.inj hv).symm, by decide⟩
      · exact ⟨5, (Option.some.inj hv).symm, by decide⟩
      · exact ⟨0, (Option.some.inj hv).symm, by decide⟩
      · exact ⟨8, (Option.some.inj hv).symm, by decide⟩
    have m1 : Sm W H H1 := (Sm.of (Same.new nL)).trans s1
    have eV1 := m1 _ _ VW eV
    refine ⟨_, rfl, (c : Int), rfl, by omega, by omega, fun Dn nDn => ?_⟩
    have DW : Dn ≠ W := (w1.ne nDn).symm
    have nDH : H Dn = none := m1.free hW nDn ⟨_, w1⟩
    refine lc_it (walk_range (lo := 0) (n := (c : Int).toNat)) (fun i h => ∃ as rs, h Dn = some (.lst (as.map V.ref)) ∧ Paired (RowW wide xs Dn W h) as rs ∧ as.length = i ∧ Sm W H1 h ∧ WellAt (n + 8 * (c - i)) h W)
      ⟨[], [], upd_same, .nil, rfl, Sm.new .rfl' nDn, (w1.new nDn).mono (by omega)⟩ (fun _ _ _ _ => trivial) ?_ ?_
    · rintro i x h h' hi ⟨as, rs, e4, t4, l4, s4, w4⟩ ⟨rfl, rfl⟩
      have hi' : i < c := by simpa using hi
      refine ⟨rfl, ?_⟩
      dsimp only [tYes]
      rw [if_pos rfl]
      dsimp only [tCB, tCons]
      refine rd_row (m := n + 8 * (c - (i + 1))) w8 (w4.mono (by omega)) (s4 _ _ VW eV1) VW x1 x2 fun h5 L' r s5 w5 nL' eL lr vr => ?_
      have e5 := s5 _ _ DW e4
      refine ⟨L', r.map V.int, rfl, .inl ⟨.of eL, fun T nT => ?_⟩⟩
      have e6 : upd h5 T (.tup (r.map V.int)) Dn = some (.lst (as.map V.ref)) := by rw [upd_ne (ne_of_none e5 nT)]; exact e5
      have TD : T ≠ Dn := (ne_of_none e5 nT).symm
      have TW : T ≠ W := (w5.ne nT).symm
      refine ⟨_, e6, ?_, as ++ [T], rs ++ [r], ?_, ?_, ?_, ?_, ?_⟩
      · rw [List.length_map]
        exact line100' (by omega)
      · rw [upd_same, List.map_append]
        rfl
      · exact pr_snoc (Paired.mapP t4 fun a x e => ((e.sm s5).sm (.of (Same.new nT))).put) (RowW.put ⟨upd_same, TD, TW, lr, vr⟩)
      · rw [List.length_append, List.length_singleton, l4]
      · exact ((s4.trans s5).new nT).mut nDn
      · exact (w5.new nT).upd DW.symm
    · rintro h ⟨as, rs, e4, t4, l4, s4, w4⟩
      have e : (c : Int).toNat = c := by omega
      rw [e] at l4 w4
      exact q h Dn as rs (m1.trans s4) (w4.mono (by omega)) nDH DW e4 (Paired.mapP t4 fun a r x => x.1) (rowW_all t4) (by have := Paired.length t4; omega)
end
end T33

/-! A rule of our own: len(set(xs)) of unlike texts. -/
namespace TU
open PySem PySem.Spec PyProof.Rows SS
section
variable {prog : Program} {w : World} {A : Around} {R : Result → Shared → Prop} {I : Addr} {fp wr : List Addr} {G : Array GenState → Array GenState → Prop} {n : Nat} {P : Nat → Value → Prop} {St : Nat → Shared → Prop}
/-- the texts met ahead of the i-th -/
def met (ks : Nat → Str) (i : Nat) (k : Str) : Bool := ((List.range i).map ks).any (· == k)
theorem met_new {ks : Nat → Str} {i : Nat} (hd : ∀ j, j < i → ks j ≠ ks i) : met ks i (ks i) = false := by
  unfold met
  rw [List.any_eq_false]
  intro y hy
  obtain ⟨j, hj, rfl⟩ := List.mem_map.mp hy
  simpa using hd j (List.mem_range.mp hj)
theorem met_next {ks : Nat → Str} {i : Nat} (k : Str) : (met ks i k || decide (k = ks i)) = met ks (i + 1) k := by
  unfold met
  rw [List.range_succ, List.map_append, List.any_append]
  have e : decide (k = ks i) = ([i].map ks).any (· == k) := by
    by_cases h : k = ks i
    · rw [decide_eq_true h, h]
      simp
    · rw [decide_eq_false h]
      have : (ks i == k) = false := by simpa using fun z => h z.symm
      simp [this]
  rw [e]
theorem loopD (Wk : WalksS prog w A.in1 I fp wr G n P St) (S : Addr) (nS : S ∉ fp) (ks : Nat → Str) (hd : ∀ i j, j < i → i < n → ks j ≠ ks i) (hb : n + 1 < scanBound) (hv : ∀ i v, P i v → ∃ t, v = .str (ks i) t) :
    ∀ (m i : Nat) (s : Shared), n - i = m → i ≤ n → St i s → s.heap.SetOf (PySem.strKind prog w) S (met ks i) i →
      (∀ s', Moved (S :: wr) G s s' → s'.heap.SetOf (PySem.strKind prog w) S (met ks n) n → R (.ok (.ret .none)) s') → codeAny (model prog w) A (.builtin "set.update.loop" ⟨[.ref S, .ref I], []⟩) R s := by
  have nW : S ∉ wr := fun z => nS (Wk.sub _ z)
  have up : ∀ b ∈ wr, b ∈ S :: wr := fun b z => List.mem_cons_of_mem _ z
  have keep : ∀ {s s' : Shared} {i : Nat}, Moved wr G s s' → s.heap.SetOf (PySem.strKind prog w) S (met ks i) i → s'.heap.SetOf (PySem.strKind prog w) S (met ks i) i := fun mv h => by
    obtain ⟨o, es, ep, t, ho, r⟩ := h
    exact ⟨o, es, ep, t, mv.heap S _ nW ho, r⟩
  intro m
  induction m with
  | zero =>
    intro i s hm hi hst hS hR
    obtain rfl : i = n := by omega
    refine codeAny_builtin PyProof.Rows.F.entry_set_update_loop ?_
    rw [Around.under_plainId PyProof.Rows.F.plain_set_update_loop _]
    show wpAny _ A.in1 (pyNext (.ref I) >>= _) _ _ s
    refine wpAny_bind (Wk.done s _ _ hst fun s' mv => ?_)
    show wpAny _ A.in1 (ret Value.none) _ _ s'
    exact wpAny_pure (hR s' (mv.mono up) (keep mv hS))
  | succ m ih =>
    intro i s hm hi hst hS hR
    have hlt : i < n := by omega
    refine codeAny_builtin PyProof.Rows.F.entry_set_update_loop ?_
    rw [Around.under_plainId PyProof.Rows.F.plain_set_update_loop _]
    show wpAny _ A.in1 (pyNext (.ref I) >>= _) _ _ s
    refine wpAny_bind (Wk.item i s _ _ hlt hst fun v s' hP hst' mv => ?_)
    obtain ⟨t, rfl⟩ := hv i v hP
    have h1 := keep mv hS
    show wpAny _ A.in1 (holding [Value.str (ks i) t] (setAdd S (.str (ks i) t)) >>= _) _ _ s'
    refine wpAny_bind (wpAny_holding ?_)
    unfold setAdd
    refine wpAny_holding ?_
    refine wpAny_bind ((PySem.strKind prog w).pyHash (k := ks i) (strKind_is _ _ _ _) ?_)
    refine wpAny_setAddHashed_of (knd := PySem.strKind prog w) (s := { s' with toks := s'.toks + 1 }) (strKind_is _ _ _ _) rfl h1 (by omega) fun h' hsb h2 => ?_
    have h3 : h'.SetOf (PySem.strKind prog w) S (met ks (i + 1)) (i + 1) := SetOf_congr h2 (fun k => met_next k) (by rw [met_new (fun j hj => hd i j hj hlt)]; rfl)
    refine wpAny_pure ⟨plainId_quiet PyProof.Rows.F.plain_set_update_loop _, ih (i + 1) _ (by omega) hlt (Wk.frame _ s' _ _ hst' (Nat.le_succ _) fun b hb o e => ?_) h3 fun s2 m2 h4 => ?_⟩
    · exact (hsb.2 b fun z => nS (z ▸ hb)).trans e
    · exact hR s2 (Moved.trans Wk.gtrans ((mv.mono up).then_heap (Nat.le_succ _) fun b o hb e => (hsb.2 b fun z => hb (by rw [z]; exact List.mem_cons_self)).trans e) m2) h4
end
section
variable {prog : Program} {w : World} {A : Around} {E : Value → Shared → Prop} {s : Shared}
/-- a set that was just begun -/
abbrev bare (led : Bool) : Obj := { cls := .type "set", dict := none, data := .set #[] 0 (.fresh 0 0 led) }
set_option maxHeartbeats 3200000 in
theorem set_unlike {l : Addr} {items : Array Value} {xs : List Str} {Q : Value → Shared → Prop} (hh : A.handled = none) (hl : s.heap.IsList l items) (hi : PyProof.Rows.StrsAre items.toList xs) (hd : xs.Nodup) (h64 : xs.length < 64)
    (h : ∀ (h' : Heap) (tk : Nat), h'.SetOf (PySem.strKind prog w) s.heap.objs.size (met (fun i => xs.getD i Str.empty) items.size) items.size → (∀ b o, b < s.heap.objs.size → s.heap.get? b = some o → h'.get? b = some o) → Q (.ref s.heap.objs.size) { s with heap := h', toks := tk }) :
    wpAny (model prog w) A (call (.type "set") [.ref l]) Q E s := by
  obtain ⟨c, tl, hmro⟩ := PySem.F.called_set.mro
  have g1 := PySem.F.called_set.made
  have g2 := PySem.F.called_set.sub
  have g3 := PySem.F.called_set.notType
  have g4 := PySem.F.called_set.canCreate
  have g5 := PySem.F.typeCall_set_1 (.ref l)
  refine wpAny_call (codeAny_of_tree ?_)
  show wpAny _ _ (callAny (.type "set") _) _ _ _
  refine wpAny_pure ⟨Code.quiet_builtin _ (by decide +kernel), codeAny_builtin PySem.F.entry_type_call ?_⟩
  rw [Around.under_plain (weight_type_call_type "set" [.ref l] []) rfl]
  repeat (any_goals (first | assumption | wp_step))
  refine codeAny_mono (code_set_new_1 (.ref l) (E := E) (Q₁ := fun u s1 => ∃ led : Bool, u = .ref s.heap.objs.size ∧ s1 = { s with heap := s.heap.push (bare led) }) fun led => ⟨led, rfl, rfl⟩) fun r s1 hr => ?_
  cases r with
  | error e => exact hr
  | ok fl =>
   cases fl with
   | ret u =>
    obtain ⟨led, rfl, rfl⟩ := hr
    have at0 : (s.heap.push (bare led)).get? s.heap.objs.size = some (bare led) := Heap.get?_push_size _ rfl
    have ty0 : Shared.TypeIs { s with heap := s.heap.push (bare led) } (.ref s.heap.objs.size) "set" := ⟨_, at0, rfl⟩
    have g6 := PySem.F.called_set.init.lookup
    have g7 := PySem.F.called_set.init.bind (.ref s.heap.objs.size)
    repeat (any_goals (first | assumption | wp_step))
    refine codeAny_mono (codeAny_call_builtin (R := wants (fun r s2 => r = .none ∧ ∃ h' tk, s2 = { s with heap := h', toks := tk } ∧ h'.SetOf (PySem.strKind prog w) s.heap.objs.size (met (fun i => xs.getD i Str.empty) items.size) items.size ∧
        (∀ b o, b < s.heap.objs.size → s.heap.get? b = some o → h'.get? b = some o)) E) PySem.F.called_set.init.plain PySem.F.entry_set_init (check_set_init_1 ty0 ?_)) fun r2 s2 hr2 => ?_
    · obtain ⟨ol, hol, hcl, nl, hdl⟩ := hl
      obtain ⟨oc, od, odata, osl⟩ := ol
      simp only at hcl hdl
      subst hcl hdl
      have at1 : (s.heap.push (bare led)).get? l = some { cls := .type "list", dict := od, data := .seq items nl, slots := osl } := Heap.get?_push_of_some _ hol
      have g8 := PySem.F.sub_list_set
      have g9 := PySem.F.sub_list_frozenset
      have g10 : (Value.type "list" == Value.type "dict") = false := by decide
      have il : (s.heap.push (bare led)).IsList l items := ⟨_, at1, rfl, nl, rfl⟩
      unfold Builtin.«set.__init__» noKeywords Builtin.Frozenset.updateFrom
      generalize hPI : pyIter = PI
      wp_walk
      subst hPI
      refine wpAny_pyIter_list il ?_
      refine wpAny_bind (wpAny_runValue ?_)
      have lS : l < s.heap.objs.size := Heap.lt_size hol
      have sz : (s.heap.push (bare led)).objs.size = s.heap.objs.size + 1 := Heap.size_push _ _
      have hn3 : A.in1.in1.in1.handled = none := by simp [hh]
      have lI : l ≠ (s.heap.push (bare led)).objs.size := by
        rw [sz]
        exact Nat.ne_of_lt (Nat.lt_succ_of_lt lS)
      have nS : s.heap.objs.size ∉ [(s.heap.push (bare led)).objs.size, l] := by
        rw [sz]
        simp only [List.mem_cons, List.not_mem_nil, or_false, not_or]
        exact ⟨Nat.ne_of_lt (Nat.lt_succ_self _), Nat.ne_of_gt lS⟩
      have hsz : xs.length = items.size := by rw [← StrsAre.len_eq hi, Array.length_toList]
      have hv : ∀ (i : Nat) (v : Value), items[i]? = some v → ∃ t, v = .str (xs.getD i Str.empty) t := fun i v e => strs_at hi i v (by rw [Array.getElem?_toList]; exact e)
      have hu : ∀ i j, j < i → i < items.size → xs.getD j Str.empty ≠ xs.getD i Str.empty := fun i j h1 h2 z => by
        have k1 : j < xs.length := by omega
        have k2 : i < xs.length := by omega
        rw [List.getD_eq_getElem?_getD, List.getD_eq_getElem?_getD, List.getElem?_eq_getElem k1, List.getElem?_eq_getElem k2] at z
        have := (List.getElem_inj hd).mp z
        omega
      refine loopD ((Walks.list hn3 _ l lI items).toS) s.heap.objs.size nS (fun i => xs.getD i Str.empty) hu (by unfold scanBound; omega) hv (items.size - 0) 0 _ (by omega) (Nat.zero_le _) ⟨⟨_, Heap.get?_push_size _ rfl, rfl, rfl⟩, (il.push _)⟩ ?begun ?ended
      case begun =>
        have at2 : ((s.heap.push (bare led)).push { cls := .type "list_iterator", data := .fields #[.ref l, .int 0 0] }).get? s.heap.objs.size = some (bare led) := Heap.get?_push_of_some _ at0
        exact PyProof.Rows.SetOf_congr ((PyProof.Rows.setObjOf_fresh (knd := PySem.strKind prog w) led).setOf at2 (by unfold scanBound; omega)) (fun _ => rfl) rfl
      case ended =>
        intro s3 mv hS3
        obtain ⟨h', g', d', tk', os'⟩ := s3
        obtain rfl : g' = s.gens := mv.gens
        obtain rfl : d' = s.drawn := mv.drawn
        obtain rfl : os' = s.os := mv.os
        show wpAny _ _ _ _ _ _
        refine wpAny_pure ?_
        show wpAny _ _ (ret Value.none) _ _ _
        refine wpAny_pure ⟨rfl, h', tk', rfl, hS3, fun b o hb e => ?_⟩
        refine mv.heap b o ?_ (Heap.get?_push_of_some _ (Heap.get?_push_of_some _ e))
        rw [sz]
        simp only [List.mem_cons, List.not_mem_nil, or_false, not_or]
        exact ⟨Nat.ne_of_lt hb, Nat.ne_of_lt (Nat.lt_succ_of_lt hb)⟩
    · cases r2 with
      | error e => exact hr2
      | ok f2 =>
        cases f2 with
        | ret r =>
          obtain ⟨rfl, h', tk, rfl, h1, h2⟩ := hr2
          repeat (any_goals (first | assumption | wp_step))
          exact h _ _ h1 h2
        | _ => exact hr2.elim
   | _ => exact hr.elim
end
end TU

set_option maxHeartbeats 2000000
namespace TU
open PySem L2 PyProof.Rows TX TY
section
variable {X : Cx}
/-- len(set(xs)), xs unlike texts -/
def tLenU (K : PySem.W.Frag) (ta : TE) : TE := fun σ H Q => ta σ H fun x H1 => ∃ (l : Addr) (xs : List Str), x = .ref l ∧ SqL K H1 l (xs.map V.str) ∧ xs.Nodup ∧ xs.length < 64 ∧ Q (.int xs.length) H1
theorem strs_vals : ∀ {xs : List Str} {us : List Value}, Vals (xs.map V.str) us → StrsAre us xs
  | [], _, h => by
    cases h
    exact .nil
  | x :: r, _, h => by
    cases h with
    | cons h t =>
      obtain ⟨k, e⟩ := (show ∃ k, _ = Value.str x k from h)
      subst e
      exact .cons x k (strs_vals t)
theorem pe_lenU {a : Expr} {ta : TE} {p p2 q pos : Pos} (hc : X.calm = true) (hg : Gl X "len") (hm : X.mg "len" = none) (hg2 : Gl X "set") (hm2 : X.mg "set" = none) (ha : PE X a ta)
    (na : starEach [a] X.env = (false, eval a X.env) :: starEach [] X.env := by rfl) : PE X (.Call (.Name "len" p) [.Call (.Name "set" p2) [a] [] q] [] pos) (tLenU X.K ta) := by
  refine ⟨fun pins s σ H Q I h => ?_⟩
  refine Call_ (ld_blt I hg hm boot_len (PyProof.Rows.callWith_builtin1 (PyProof.Rows.args_cons ?_ rfl) rfl rfl))
  refine Call_ (ld_blt I hg2 hm2 boot_set (PyProof.Rows.callWith_type1 (PyProof.Rows.args_cons (thn (ha.run pins s σ H _ I h) fun v s1 ⟨x, H1, I1, r1, q1⟩ => PyProof.Rows.args_nil ?_) na) na rfl))
  obtain ⟨l, xs, rfl, hq, hd, h64, q2⟩ := q1
  cases r1
  obtain ⟨its, r, pl, hz⟩ := I1.list hq
  have hl : its.toArray.size = xs.length := by rw [List.size_toArray, ← r.length, List.length_map]
  refine set_unlike (I1.ok.hd hc) pl.isList (by simpa using strs_vals r) hd h64 fun h' tk hS hk => ?_
  refine PyProof.Rows.args_nil ?_
  rw [hl] at hS
  obtain ⟨o, es, ep, t, ho, hex, hd', _, _, _, hf, hn⟩ := hS
  have I2 : Inv X pins σ H1 { s1 with heap := h', toks := tk } := I1.kept fun b o e => hk b o (Heap.lt_size e) e
  exact call_len_set ho hex hd' hf (by rw [hn]; omega) ⟨.int xs.length, H1, I2.tok _, ⟨_, by rw [hn]⟩, q2⟩
end
end TU

namespace T33T
open PySem L2
def top (i : Nat) : Stmt := PySem.Challenge.pw_foldbough_k33_what_parts_hang_on.main.body.getD i (.Pass ⟨0, 0, 0, 0⟩)
abbrev s_norow : Stmt := inClass (top 4) 0
abbrev s_notree : Stmt := inClass (top 5) 0
abbrev s_nocol : Stmt := inClass (top 6) 0
abbrev s_nofit : Stmt := inClass (top 7) 0
abbrev s_is_whole : Stmt := top 11
abbrev s_is_name : Stmt := top 12
abbrev s_is_name_in : Stmt := top 13
abbrev s_are : Stmt := top 14
abbrev s_is_row : Stmt := top 15
abbrev s_along : Stmt := top 17
abbrev s_tinit : Stmt := inClass (top 19) 0
abbrev s_tcolumns : Stmt := inClass (top 19) 1
abbrev s_tpairs : Stmt := inClass (top 19) 2
abbrev s_tover : Stmt := inClass (top 19) 3
abbrev s_tabove : Stmt := inClass (top 19) 4
abbrev s_tbeneath : Stmt := inClass (top 19) 5
abbrev s_tchildren : Stmt := inClass (top 19) 6
abbrev s_tisabove : Stmt := inClass (top 19) 7
abbrev s_tcheck : Stmt := inClass (top 19) 8
abbrev s_tlen : Stmt := inClass (top 19) 9
abbrev s_teq : Stmt := inClass (top 19) 10
abbrev s_fits : Stmt := top 20
abbrev s_told : Stmt := top 21
abbrev s_is_pair : Stmt := top 22
abbrev s_in_order : Stmt := top 23
abbrev s_ccin : Stmt := top 25
abbrev s_chk : Stmt := top 25
abbrev s_apart : Stmt := top 26
abbrev s_keysof : Stmt := top 28
abbrev s_checkfit : Stmt := top 29
abbrev s_binit : Stmt := inClass (top 31) 0
abbrev s_bcolumns : Stmt := inClass (top 31) 1
abbrev s_brows : Stmt := inClass (top 31) 2
abbrev s_bhas : Stmt := inClass (top 31) 3
abbrev s_bof : Stmt := inClass (top 31) 6
abbrev s_bcheck : Stmt := inClass (top 31) 7
abbrev s_blen : Stmt := inClass (top 31) 8
abbrev s_beq : Stmt := inClass (top 31) 9
abbrev s_cc : Stmt := top 32
abbrev s_sorted : Stmt := top 33
abbrev s_places : Stmt := top 34
abbrev s_picked : Stmt := top 35
abbrev s_cell : Stmt := top 37
abbrev s_well : Stmt := top 38
abbrev s_draw : Stmt := top 39
abbrev s_one : Stmt := top 40
abbrev s_names : Stmt := top 41
abbrev s_pairs : Stmt := top 42
abbrev s_labove : Stmt := top 43
abbrev s_lbeneath : Stmt := top 44
abbrev s_values : Stmt := top 45
abbrev s_rows : Stmt := top 46
abbrev s_mixed : Stmt := top 47
abbrev s_tables : Stmt := top 48
abbrev s_plain : Stmt := top 49
abbrev s_made : Stmt := top 50
abbrev s_due : Stmt := top 51
abbrev s_exch : Stmt := top 52
abbrev s_law : Stmt := top 53
end T33T

set_option maxHeartbeats 1000000
local macro_rules | `(tactic| walk_at "z") => `(tactic| ((try dsimp only); first | assumption | omega | decide | (simp only [List.length_cons, List.length_nil]; first | decide | omega)))
namespace T33T
open PySem L2 PyProof.Rows TX
section
variable {P : Program} {w : World} {K : PySem.W.Frag} {mg : Str → Option Value} {base : Heap}
/-- the constants of the module -/
structure Cn (mg : Str → Option Value) : Prop where
  longest : ∃ t, mg "LONGEST_NAME" = some (.int 8 t)
  most : ∃ t, mg "MOST_COLUMNS" = some (.int 8 t)
theorem sc_is_name : FnScope ["thing", "sign"] ["thing"] (defScope s_is_name) := ⟨rfl, rfl, rfl, by decide +kernel, rfl, by decide +kernel, by decide +kernel⟩
def sp_is_name : Sp := fun vs H Q _ => ∃ (x : Str), vs = [.str x] ∧ TM.NameOk x ∧ ∀ H', Same H H' → Q (.bl true) H'
theorem ok_is_name {f : Addr} {fd : FuncData} (F : Fn K mg "is_name" s_is_name ["thing"] f fd) (B : Bn mg) (C : Cn mg) : FnOk P w K mg base CX0 1 f fd ["thing"] sp_is_name := by
  refine F.F.ok sc_is_name (fun vs H Q E h => ?_) (fun cdv A outer s H vs Q E hr h => ?_)
  · obtain ⟨x, rfl, _⟩ := h
    rfl
  · obtain ⟨x, rfl, ⟨n1, n2, n3⟩, q⟩ := h
    have hu := hu_of hr
    obtain ⟨tl, hlg⟩ := C.longest
    refine ⟨_, pss_cons (ps_if (PW.pt (pw_or (pt_not (pt_val (pe_callB call_isi (by rfl) B.isi boot_isinstance (pa_cons (pv 0) (pa_cons (pe_bltn (v := .ty "str") (by rfl) B.str boot_str rfl) pa_nil)))))
        (pw_or1 (pt_not (pt_chain op_le op_le pe_int (pe_callB call_len_str (by rfl) B.len PySem.boot_len (pa_cons (pv 0) pa_nil)) (pe_glob (v := .int 8) (by rfl) hlg ⟨_, rfl⟩)))))) (pss_one (ps_ret pe_bl)) pss_nil)
      (pss_one (ps_ret (pe_callB (cr_all rfl) (by rfl) B.all boot_all (pa_cons (pe_lc (own := [("sign", 1)]) (g := gName 1) (tt := tYes) rfl sc_is_name.nd (pi_str (pv 0)) (blkOk_by (N := ["thing", "sign"]) (sc := defScope s_is_name) (by decide +kernel))
          (fun _ _ _ _ _ => pg_name (i := 1) sc_is_name.nd rfl (Or.inl rfl)) (fun _ _ _ _ _ => pts_nil)
          (fun _ _ _ _ _ => pe_chain op_le_str op_le_str pe_str (pv 1) pe_str)) pa_nil)))), ?_⟩
    refine ⟨_, rfl, _, _, _, _, true, rfl, .ty _, .base (.str _), kit_ty (by decide +kernel), _, rfl, ?_⟩
    refine ⟨_, rfl, x, rfl, line100 (by omega), _, _, rfl, rfl, true, ?_, _, _, rfl, rfl, true, ?_, ?_⟩
    · exact congrArg V.bl (decide_eq_true (show (1 : Int) ≤ (x.length : Int) by omega))
    · exact congrArg V.bl (decide_eq_true (show (x.length : Int) ≤ 8 by omega))
    refine ⟨_, rfl, x, rfl, fun L nL => ?_⟩
    refine lc_it walk_str (fun i H' => H' L = some (.lst (List.replicate i (V.bl true))) ∧ Same H H') ⟨upd_same, Same.new nL⟩ (fun _ _ _ _ => trivial) ?_ ?_
    · rintro i v H1 H1' hi ⟨e1, s1⟩ ⟨rfl, c, hc, rfl⟩
      have hcm : c ∈ x.cps.toList := by
        rw [Array.mem_toList_iff]
        exact Array.mem_of_getElem? hc
      obtain ⟨c1, c2⟩ := n3 c hcm
      refine ⟨rfl, ?_⟩
      have l1 : ¬ ([c] < (Str.ofString "a").cps.toList) := by
        rw [str_a, S_cps, lt_sign]
        omega
      have l2 : ¬ ((Str.ofString "z").cps.toList < [c]) := by
        rw [str_z, S_cps, lt_sign]
        omega
      refine ⟨_, rfl, _, _, rfl, rfl, true, ?_, _, _, rfl, rfl, ?_⟩
      · show V.bl (!decide ([c] < (Str.ofString "a").cps.toList)) = V.bl true
        rw [decide_eq_false l1]
        rfl
      · refine ⟨_, e1, ?_, ?_, Same.mut s1 nL⟩
        · rw [List.length_replicate]
          have : x.cps.size ≤ 8 := n2
          exact line100' (by omega)
        · rw [upd_same, List.replicate_succ']
          show some (HO.lst (List.replicate i (V.bl true) ++ [V.bl (!decide ((Str.ofString "z").cps.toList < [c]))])) = _
          rw [decide_eq_false l2]
          rfl
    · rintro H1 ⟨e1, s1⟩
      refine ⟨L, List.replicate x.cps.size true, rfl, .of (by rw [e1, List.map_replicate]), ?_⟩
      have : (List.replicate x.cps.size true).all id = true := by
        rw [List.all_eq_true]
        intro b hb
        rw [List.eq_of_mem_replicate hb]
        rfl
      rw [this]
      exact q _ s1
/-- is_name_in asked of a dict of names -/
theorem sc_is_name_in : FnScope ["thing", "names"] ["thing", "names"] (defScope s_is_name_in) := ⟨rfl, rfl, rfl, by decide +kernel, rfl, by decide +kernel, by decide +kernel⟩
def sp_is_name_inD : Sp := fun vs H Q _ => ∃ (x : Str) (d : Addr) (kvs : List (Key × V)), vs = [.str x, .ref d] ∧ TM.NameOk x ∧ H d = some (.dK kvs) ∧ ∀ H', Same H H' → Q (.bl (valV kvs (Sum.inr x : Key)).isSome) H'
theorem ok_is_name_inD {f fN : Addr} {fd fdN : FuncData} (F : Fn K mg "is_name_in" s_is_name_in ["thing", "names"] f fd) (B : Bn mg) (C : Cn mg) (FN : Fn K mg "is_name" s_is_name ["thing"] fN fdN) : FnOk P w K mg base CX0 2 f fd ["thing", "names"] sp_is_name_inD := by
  have GN : FnOk P w K mg base CX0 1 fN fdN ["thing"] sp_is_name := ok_is_name FN B C
  refine F.F.ok sc_is_name_in (fun vs H Q E h => ?_) (fun cdv A outer s H vs Q E hr h => ?_)
  · obtain ⟨x, d, kvs, rfl, _⟩ := h
    rfl
  · obtain ⟨x, d, kvs, rfl, hx, hd, q⟩ := h
    have hu := hu_of hr
    refine ⟨_, pss_one (ps_ret (pe_and (pe_call GN hr rfl FN.g FN.F.kp FN.b .nil pass0 (pa_cons (pv 0) pa_nil)) (pe_one (pe_cmp (pc_din hu (pv 0) (pv 1)))))), ?_⟩
    refine ⟨_, rfl, x, rfl, hx, fun H1 s1 => ⟨true, rfl, ?_⟩⟩
    exact ⟨_, rfl, _, rfl, d, _, rfl, DGet.k (k := Sum.inr x) (s1 _ _ hd), q H1 s1⟩
/-- a pair that may stand behind those told -/
theorem sc_is_pair : FnScope ["thing", "overs", "column", "upper"] ["thing", "overs"] (defScope s_is_pair) := ⟨rfl, rfl, rfl, by decide +kernel, rfl, by decide +kernel, by decide +kernel⟩
def sp_is_pair : Sp := fun vs H Q _ => ∃ (a d : Addr) (c : Str) (o : Option Str) (ps : List TM.Pr), vs = [.ref a, .ref d] ∧ H a = some (.tup [.str c, optV o]) ∧ H d = some (.dK (kvsOf ps)) ∧ (ps.map Prod.fst).Nodup ∧ TM.NameOk c ∧ c ∉ ps.map Prod.fst ∧
  (∀ x, o = some x → x ∈ ps.map Prod.fst ∧ TM.NameOk x) ∧ ∀ H', Same H H' → Q (.bl true) H'
theorem ok_is_pair {f fN fC : Addr} {fd fdN fdC : FuncData} (F : Fn K mg "_is_pair" s_is_pair ["thing", "overs"] f fd) (B : Bn mg) (C : Cn mg) (FN : Fn K mg "is_name" s_is_name ["thing"] fN fdN) (FC : Fn K mg "is_name_in" s_is_name_in ["thing", "names"] fC fdC) :
    FnOk P w K mg base CX0 3 f fd ["thing", "overs"] sp_is_pair := by
  have GN : FnOk P w K mg base CX0 1 fN fdN ["thing"] sp_is_name := ok_is_name FN B C
  have GC : FnOk P w K mg base CX0 2 fC fdC ["thing", "names"] sp_is_name_inD := ok_is_name_inD FC B C FN
  refine F.F.ok sc_is_pair (fun vs H Q E h => ?_) (fun cdv A outer s H vs Q E hr h => ?_)
  · obtain ⟨a, d, c, o, ps, rfl, _⟩ := h
    rfl
  · obtain ⟨a, d, c, o, ps, rfl, ha, hd, hnd, hc, hcn, ho, q⟩ := h
    have hu := hu_of hr
    have hr1 : Room 1 _ := hr.mono (by decide)
    refine ⟨_, pss_cons (ps_if (PW.pt (pw_or (pt_not (pt_val (pe_callB call_isi (by rfl) B.isi boot_isinstance (pa_cons (pv 0) (pa_cons (pe_bltn (v := .ty "tuple") (by rfl) B.tuple boot_tuple rfl) pa_nil)))))
        (pw_or1 (pt_cmpR op_ne (pe_callB call_len_seq (by rfl) B.len PySem.boot_len (pa_cons (pv 0) pa_nil)) pe_int (nomark _))))) (pss_one (ps_ret pe_bl)) pss_nil)
      (pss_cons (ps_asg (pv 0) (pg_tup rfl (pgs_cons (pg_name (i := 2) sc_is_pair.nd rfl (Or.inl rfl)) (pgs_cons (pg_name (i := 3) sc_is_pair.nd rfl (Or.inl rfl)) pgs_nil))))
      (pss_cons (ps_if (PW.pt (pw_or (pt_not (pt_val (pe_call GN hr1 rfl FN.g FN.F.kp FN.b .nil pass0 (pa_cons (pv 2) pa_nil)))) (pw_or1 (pt_cmp (pc_din hu (pv 2) (pv 1)))))) (pss_one (ps_ret pe_bl)) pss_nil)
      (pss_one (ps_ret (pe_or (pe_cmp (pc_isN (pv 3))) (pe_one (pe_call GC hr rfl FC.g FC.F.kp FC.b .nil pass0 (pa_cons (pv 3) (pa_cons (pv 1) pa_nil))))))))), ?_⟩
    refine ⟨_, rfl, _, _, _, _, true, rfl, .ty _, .base (.tup ha), kit_ty (by decide +kernel), _, rfl, ?_⟩
    refine ⟨_, rfl, a, _, rfl, .inr (.of ha), rfl, _, rfl, ?_⟩
    refine ⟨_, rfl, a, _, rfl, .of ha, rfl, _, _, rfl, _, _, rfl, rfl, ?_⟩
    refine ⟨_, rfl, c, rfl, hc, fun H1 s1 => ⟨true, rfl, ?_⟩⟩
    refine ⟨_, rfl, _, rfl, d, _, rfl, DGet.k (k := Sum.inr c) (s1 _ _ hd), _, rfl, ?_⟩
    rw [kvs_none hcn]
    cases o with
    | none => exact ⟨_, rfl, true, rfl, q H1 s1⟩
    | some x =>
      obtain ⟨hx, nx⟩ := ho x rfl
      refine ⟨_, rfl, false, rfl, ?_⟩
      refine ⟨_, rfl, _, rfl, x, d, _, rfl, nx, s1 _ _ hd, fun H2 s2 => ?_⟩
      obtain ⟨⟨x', o'⟩, hm, rfl⟩ := List.mem_map.mp hx
      rw [kvs_some hnd hm]
      exact q H2 (s1.trans s2)
end
end T33T

set_option maxHeartbeats 1000000
namespace T33T
open PySem L2 PyProof.Rows TX
section
variable {P : Program} {w : World} {K : PySem.W.Frag} {mg : Str → Option Value} {base : Heap}
/-- the defs of the program that all trees' proofs call -/
structure Kd (K : PySem.W.Frag) (mg : Str → Option Value) (fN fC fP fT fO : Addr) (dN dC dP dT dO : FuncData) : Prop where
  B : Bn mg
  C : Cn mg
  isn : Fn K mg "is_name" s_is_name ["thing"] fN dN
  isc : Fn K mg "is_name_in" s_is_name_in ["thing", "names"] fC dC
  isp : Fn K mg "_is_pair" s_is_pair ["thing", "overs"] fP dP
  told : Fn K mg "_told_overs" s_told ["pairs"] fT dT
  ord : Fn K mg "_in_order" s_in_order ["overs", "upper"] fO dO
variable {fN fC fP fT fO : Addr} {dN dC dP dT dO : FuncData}
theorem sc_told : FnScope ["pairs", "overs", "at", "pair"] ["pairs"] (defScope s_told) := ⟨rfl, rfl, rfl, by decide +kernel, rfl, by decide +kernel, by decide +kernel⟩
def sp_told : Sp := fun vs H Q _ => ∃ (L : Addr) (ps : List TM.Pr), vs = [.ref L] ∧ PairsAt H L ps ∧ TM.Valid [] ps ∧ ps.length ≤ 8 ∧ (∀ x ∈ ps.map Prod.fst, TM.NameOk x) ∧
  ∀ H' d, Same H H' → H d = none → H' d = some (.dK (kvsOf ps)) → Q (.ref d) H'
theorem ok_told (T : Kd K mg fN fC fP fT fO dN dC dP dT dO) : FnOk P w K mg base CX0 4 fT dT ["pairs"] sp_told := by
  have GP : FnOk P w K mg base CX0 3 fP dP ["thing", "overs"] sp_is_pair := ok_is_pair T.isp T.B T.C T.isn T.isc
  refine T.told.F.ok sc_told (fun vs H Q E h => ?_) (fun cdv A outer s H vs Q E hr h => ?_)
  · obtain ⟨L, ps, rfl, _⟩ := h
    rfl
  · obtain ⟨L, ps, rfl, ⟨as, hL, ht⟩, va, hl8, hnm, q⟩ := h
    have hu := hu_of hr
    have B := T.B
    obtain ⟨tl, hmo⟩ := T.C.most
    have hal := ht.len
    have hnd := TM.valid_nodup va
    refine ⟨_, pss_cons (ps_if (pt_not (pt_val (pe_callB call_isi (by rfl) B.isi boot_isinstance (pa_cons (pv 0) (pa_cons (pe_bltn (v := .ty "list") (by rfl) B.list boot_list rfl) pa_nil))))) (pss_one ps_never) pss_nil)
      (pss_cons (ps_set (i := 1) sc_told.nd rfl (Or.inl rfl) pe_dnewK)
      (pss_cons (ps_for PassesOwn.never rfl (pi_enum rfl B.enum (pa_cons (pv 0) pa_nil)) (pg_tup rfl (pgs_cons (pg_name (i := 2) sc_told.nd rfl (Or.inl rfl)) (pgs_cons (pg_name (i := 3) sc_told.nd rfl (Or.inl rfl)) pgs_nil)))
        (pss_cons (ps_if (PW.pt (pw_or (pt_cmpR op_ge (pv 2) (pe_glob (v := .int 8) (by rfl) hmo ⟨_, rfl⟩) (nomark _)) (pw_or1 (pt_not (pt_val (pe_call GP hr rfl T.isp.g T.isp.F.kp T.isp.b .nil pass0 (pa_cons (pv 3) (pa_cons (pv 1) pa_nil)))))))) (pss_one ps_never) pss_nil)
        (pss_one (ps_dput hu (pv 1) (pe_ix ix_tup (pv 3) pe_int (fun _ _ => rfl)) (pe_ix ix_tup (pv 3) pe_int (fun _ _ => rfl)) rfl))))
      (pss_one (ps_ret (pv 1))))), ?_⟩
    refine ⟨_, rfl, _, _, _, _, true, rfl, .ty _, .base (.lst hL), kit_ty (by decide +kernel), _, rfl, ?_⟩
    intro d nd
    have hLd : L ≠ d := ne_of_none hL nd
    refine ⟨_, rfl, L, as.map V.ref, rfl, .of (by rw [upd_ne hLd]; exact hL), ?_⟩
    refine for_it (walk_enum (xs := as.map V.ref)) (fun i σ H' => ∃ v1 v2 : Option V, σ = [some (.ref L), some (.ref d), v1, v2] ∧ H' d = some (.dK (kvsOf (ps.take i))) ∧ Same H H')
      ⟨none, none, rfl, upd_same, Same.new nd⟩ (fun i σ H1 hi ⟨_, _, _, _, s1⟩ => .of (s1 _ _ hL)) ?_ ?_
    · rintro i x σ H1 H1' hi ⟨v1, v2, rfl, e1, s1⟩ ⟨T', x1, x2, rfl, nT, rfl, hx1, hx2⟩
      rw [List.length_map] at hi
      obtain rfl : V.int (i : Int) = x1 := Option.some.inj hx1
      have hi' : i < ps.length := by omega
      obtain ⟨a, ha, rfl⟩ : ∃ a, as[i]? = some a ∧ x2 = V.ref a := by
        have h2 : (as.map V.ref)[i]? = some x2 := hx2
        rw [List.getElem?_map, List.getElem?_eq_getElem hi] at h2
        exact ⟨as[i], List.getElem?_eq_getElem hi, (Option.some.inj h2).symm⟩
      obtain ⟨⟨c, o⟩, hq, hta⟩ := ht.get ha
      obtain ⟨hc, ho⟩ := TM.valid_at va hq
      rw [List.nil_append] at hc ho
      have sT : Same H (upd H1 T' (.tup [.int (i : Int), .ref a])) := s1.trans (Same.new nT)
      have e1' : upd H1 T' (.tup [.int (i : Int), .ref a]) d = some (.dK (kvsOf (ps.take i))) := by rw [upd_ne (ne_of_none e1 nT)]; exact e1
      have hcm : c ∈ ps.map Prod.fst := List.mem_map.mpr ⟨(c, o), List.mem_of_getElem? hq, rfl⟩
      have hsub : ∀ x, x ∈ (ps.take i).map Prod.fst → x ∈ ps.map Prod.fst := fun x hx => by
        rw [List.map_take] at hx
        exact List.mem_of_mem_take hx
      have hndi : ((ps.take i).map Prod.fst).Nodup := TM.valid_nodup (TM.valid_take i va)
      refine ⟨T', _, rfl, .of upd_same, rfl, _, _, rfl, _, _, rfl, rfl, ?_⟩
      refine ⟨_, rfl, _, _, rfl, rfl, _, rfl, ite2 (fun hge => ?_) (fun _ => ?_)⟩
      · have := of_decide_eq_true hge
        omega
      refine ⟨_, rfl, _, rfl, a, d, c, o, ps.take i, rfl, sT _ _ hta, e1', hndi, hnm c hcm, hc, fun x hx => ⟨ho x hx, hnm x (hsub x (ho x hx))⟩, fun H2 s2 => ⟨true, rfl, ?_⟩⟩
      have sa2 : H2 a = some (.tup [.str c, optV o]) := s2 _ _ (sT _ _ hta)
      have sd2 := s2 _ _ e1'
      refine ⟨_, rfl, a, _, _, _, rfl, rfl, .of sa2, atI_nat (j := 1) rfl, _, rfl, _, rfl, a, _, _, _, rfl, rfl, .of sa2, atI_nat (j := 0) rfl, d, _, rfl, DPut.k (k := Sum.inr c) sd2 ?_, _, _, rfl, ?_, ?_⟩
      · rw [kvs_len, List.length_take]
        exact line100' (by omega)
      · rw [upd_same, kvs_put hc, List.take_add_one, hq]
        rfl
      · exact Same.mut (sT.trans s2) nd
    · rintro σ H1 ⟨v1, v2, rfl, e1, s1⟩
      rw [List.length_map, hal, List.take_length] at e1
      exact ⟨_, rfl, q H1 d s1 nd e1⟩
end
end T33T

set_option maxHeartbeats 1000000
namespace T33T
open PySem L2 PyProof.Rows TX
section
variable {P : Program} {w : World} {K : PySem.W.Frag} {mg : Str → Option Value} {base : Heap}
variable {fN fC fP fT fO : Addr} {dN dC dP dT dO : FuncData}
theorem sc_in_order : FnScope ["overs", "upper", "found", "column"] ["overs", "upper"] (defScope s_in_order) := ⟨rfl, rfl, rfl, by decide +kernel, rfl, by decide +kernel, by decide +kernel⟩
def sp_in_order (n : Nat) : Sp := fun vs H Q _ => ∃ (d : Addr) (od : Obj) (ps : List TM.Pr) (u : Option Str), vs = [.ref d, optV u] ∧ H d = some (.frz od (.dK (kvsOf ps))) ∧ TM.Valid [] ps ∧ ps.length ≤ 8 ∧ TM.Below ps u n ∧
  ∀ H' p, Same H H' → H p = none → H' p = some (.lst ((TM.ord ps u).map V.str)) → Q (.ref p) H'
theorem len2 {n : Nat} {vs : List V} {H : Hp} {Q : VK} {E : XK} (h : sp_in_order n vs H Q E) : vs.length = 2 := by
  obtain ⟨d, od, ps, u, rfl, _⟩ := h
  rfl
theorem ok_in_order (T : Kd K mg fN fC fP fT fO dN dC dP dT dO) : ∀ n : Nat, FnOk P w K mg base CX0 n fO dO ["overs", "upper"] (sp_in_order n)
  | 0 => ⟨fun vs H Q E h => len2 h, fun A outer s H args us vs Q E hr e b r h => by
      obtain ⟨d, od, ps, u, rfl, _, _, _, ⟨pre, t, _, hlt, _⟩, _⟩ := h
      exact absurd hlt (Nat.not_lt_zero _)⟩
  | n + 1 => by
    have G := ok_in_order T n
    refine T.ord.F.ok sc_in_order (fun vs H Q E h => len2 h) (fun cdv A outer s H vs Q E hr h => ?_)
    obtain ⟨d, od, ps, u, rfl, hd, va, hl8, hb, q⟩ := h
    have hu := hu_of hr
    refine ⟨_, pss_cons (ps_set (i := 2) sc_in_order.nd rfl (Or.inl rfl) (pe_lst pa_nil))
      (pss_cons (ps_for PassesOwn.never rfl (pi_keys (pv 0)) (pg_name (i := 3) sc_in_order.nd rfl (Or.inl rfl))
        (pss_one (ps_if (pt_cmpR op_eq (pe_dget hu (pv 0) (pv 3) (fun _ _ => rfl)) (pv 1) (nomark _))
          (pss_one (ps_expr (pe_bm PySem.F.plainAttrs_list PySem.F.slot_list_extend PySem.F.type_list_extend mt_extend (pv 2)
            (pa_cons (pe_op op_cat (pe_lst (pa_cons (pv 3) pa_nil)) (pe_call G hr rfl T.ord.g T.ord.F.kp T.ord.b .nil pass0 (pa_cons (pv 0) (pa_cons (pv 3) pa_nil)))) pa_nil)))) pss_nil)))
      (pss_one (ps_ret (pv 2)))), ?_⟩
    refine ⟨by decide, fun p np => ?_⟩
    have hdp : d ≠ p := ne_of_none hd np
    refine ⟨_, rfl, d, od, rfl, .inl ⟨_, by rw [upd_ne hdp]; exact hd, ?_⟩⟩
    refine for_it (walk_keys (kvs := kvsOf ps)) (fun i σ H' => ∃ v : Option V, σ = [some (.ref d), some (optV u), some (.ref p), v] ∧ H' p = some (.lst (((ps.take i).flatMap (TM.step ps u)).map V.str)) ∧ Same H H')
      ⟨none, rfl, upd_same, Same.new np⟩ (fun i σ H1 _ ⟨_, _, _, s1⟩ => s1 _ _ hd) ?_ ?_
    · rintro i x σ H0 H1 hi ⟨v, rfl, e1, s1⟩ ⟨rfl, k, y, hk, rfl⟩
      rw [kvs_len] at hi
      obtain ⟨⟨c, o⟩, hq⟩ : ∃ q, ps[i]? = some q := ⟨ps[i], List.getElem?_eq_getElem hi⟩
      rw [kvs_get, hq] at hk
      obtain ⟨rfl, rfl⟩ := Prod.mk.inj (Option.some.inj hk)
      have hnd := TM.valid_nodup va
      have hv : valV (kvsOf ps) (Sum.inr c : Key) = some (optV o) := kvs_some hnd (List.mem_of_getElem? hq)
      refine ⟨_, rfl, _, rfl, d, optV o, rfl, .inl ⟨_, Sum.inr c, .inr ⟨od, s1 _ _ hd⟩, rfl, hv.symm⟩, _, rfl, ?_, _, rfl, ite2 (fun he => ?_) (fun he => ?_)⟩
      · cases o <;> cases u <;> rfl
      · have ho : o = u := optV_inj (of_decide_eq_true he)
        have hb2 : TM.Below ps (some c) n := TM.below_at va hq (ho ▸ hb)
        refine ⟨_, rfl, .inl ⟨rfl, _, .inl (.inl e1)⟩, _, rfl, by show 1 ≤ sizeLine; decide, fun c1 nc1 => ?_⟩
        have sc1 : Same H1 (upd H1 c1 (.lst [.str c])) := Same.new nc1
        refine ⟨_, rfl, _, rfl, d, od, ps, some c, rfl, sc1 _ _ (s1 _ _ hd), va, hl8, hb2, fun H2 r s2 nr er => ?_⟩
        have ep2 : H2 p = some (.lst (((ps.take i).flatMap (TM.step ps u)).map V.str)) := s2 _ _ (sc1 _ _ e1)
        have ec1 : H2 c1 = some (.lst [.str c]) := s2 _ _ upd_same
        have hol : (TM.ord ps (some c)).length ≤ 8 := Nat.le_trans (TM.ord_le va _) hl8
        refine ⟨c1, r, _, _, rfl, rfl, ec1, er, ?_, fun r2 nr2 => ?_⟩
        · show 1 + _ ≤ sizeLine
          rw [List.length_map]
          exact line100 (by omega)
        have ep3 : ∀ o, (upd H2 r2 o) p = some (.lst (((ps.take i).flatMap (TM.step ps u)).map V.str)) := fun o => by rw [upd_ne (ne_of_none ep2 nr2)]; exact ep2
        refine ⟨p, r2, _, _, rfl, rfl, ep3 _, upd_same, ?_, _, rfl, ?_, ?_⟩
        · have hf : ((ps.take i).flatMap (TM.step ps u)).length ≤ 9 * (ps.take i).length := TM.flat_le fun q _ => by
            unfold TM.step
            split
            · have := TM.ord_le va (some q.1)
              rw [List.length_cons]
              omega
            · exact Nat.zero_le _
          rw [List.length_take] at hf
          rw [List.length_map, List.length_append, List.length_map]
          exact line100 (by show _ + (1 + _) ≤ 1000; omega)
        · rw [upd_same, TM.ord_take hq]
          have : TM.step ps u (c, o) = c :: TM.ord ps (some c) := if_pos ho
          rw [this, List.map_append]
          rfl
        · exact Same.mut (((s1.trans sc1).trans s2).trans (Same.new nr2)) np
      · have ho : ¬ o = u := fun z => he (decide_eq_true (congrArg optV z))
        refine ⟨_, rfl, ?_, s1⟩
        rw [TM.ord_take hq]
        have : TM.step ps u (c, o) = [] := if_neg ho
        rw [this, List.append_nil]
        exact e1
    · rintro σ H1 ⟨v, rfl, e1, s1⟩
      refine ⟨_, rfl, q H1 p s1 np ?_⟩
      rw [kvs_len, List.take_length] at e1
      rw [e1, TM.ord_flat va u]
end
end T33T

set_option maxHeartbeats 1000000
namespace T33T
open PySem L2 PyProof.Rows TX
section
variable {P : Program} {w : World} {K : PySem.W.Frag} {mg : Str → Option Value} {base : Heap}
variable {fN fC fP fT fO : Addr} {dN dC dP dT dO : FuncData}
theorem sc_tinit : FnScope ["self", "pairs", "told", "column"] ["self", "pairs"] (defScope s_tinit) := ⟨rfl, rfl, rfl, by decide +kernel, rfl, by decide +kernel, by decide +kernel⟩
def sp_tinit (C : Addr) : Sp := fun vs H Q _ => ∃ (p L dx : Addr) (ps : List TM.Pr), vs = [.ref p, .ref L] ∧ H p = some (.ins C dx []) ∧ PairsAt H L ps ∧ TM.Valid [] ps ∧ ps.length ≤ 8 ∧ (∀ x ∈ ps.map Prod.fst, TM.NameOk x) ∧
  ∀ H', TreeAt C H' p (TM.mk ps none) → (∀ b o, b ≠ p → H b = some o → H' b = some o) → Q .non H'
theorem ok_tinit {f C : Addr} {fd : FuncData} (F : Fun K "__init__" "Tree.__init__" s_tinit f fd) (T : Kd K mg fN fC fP fT fO dN dC dP dT dO) (c : Tc K mg C) : FnOk P w K mg base CX0 10 f fd ["self", "pairs"] (sp_tinit C) := by
  have GT : FnOk P w K mg base CX0 4 fT dT ["pairs"] sp_told := ok_told T
  have GO : FnOk P w K mg base CX0 9 fO dO ["overs", "upper"] (sp_in_order 9) := ok_in_order T 9
  refine F.ok sc_tinit (fun vs H Q E h => ?_) (fun cdv A outer s H vs Q E hr h => ?_)
  · obtain ⟨p, L, dx, ps, rfl, _⟩ := h
    rfl
  · obtain ⟨p, L, dx, ps, rfl, hp, hL, va, hl8, hnm, q⟩ := h
    have hu := hu_of hr
    have hr4 : Room 4 _ := hr.mono (by decide)
    refine ⟨_, pss_cons (ps_set (i := 2) sc_tinit.nd rfl (Or.inr rfl) (pe_call GT hr4 rfl T.told.g T.told.F.kp T.told.b .nil pass0 (pa_cons (pv 1) pa_nil)))
      (pss_cons (ps_lock (ps_fld (pv 0) (pe_call GO hr rfl T.ord.g T.ord.F.kp T.ord.b .nil pass0 (pa_cons (pv 2) (pa_cons pe_non pa_nil))) rfl))
      (pss_one (ps_fld (pv 0) (pe_dc (own := [("column", 3)]) (g := gName 3) (tt := tYes) rfl sc_tinit.nd (pi_list (pe_fld (pv 0) rfl)) (blkOk_by (N := ["self", "pairs", "told", "column"]) (sc := defScope s_tinit) (by decide +kernel))
        (fun _ _ _ _ _ => pg_name (i := 3) sc_tinit.nd rfl (Or.inl rfl)) (fun _ _ _ _ _ => pts_nil) (fun _ _ _ _ _ => pv 3) (fun _ _ _ _ _ => pe_dget hu (pv 2) (pv 3) (fun _ _ => rfl))) rfl))), ?_⟩
    refine ⟨_, rfl, L, ps, rfl, hL, va, hl8, hnm, fun H1 d s1 nd ed => ?_⟩
    have ndp : p ≠ d := ne_of_none hp nd
    refine ⟨d, _, ed, trivial, fun od => ?_⟩
    have sf : ∀ b o, b ≠ d → H1 b = some o → upd H1 d (.frz od (.dK (kvsOf ps))) b = some o := fun b o hb e => by rw [upd_ne hb]; exact e
    refine ⟨_, rfl, d, od, ps, none, rfl, upd_same, va, hl8, TM.below_top ps (by omega), fun H2 l s2 nl el => ?_⟩
    have ep1 : H1 p = some (.ins C dx []) := s1 _ _ hp
    have ep2 : H2 p = some (.ins C dx []) := s2 _ _ (sf _ _ ndp ep1)
    have ed2 : H2 d = some (.frz od (.dK (kvsOf ps))) := s2 _ _ upd_same
    have nld : l ≠ d := fun z => by rw [z, upd_same] at nl; cases nl
    have nlp : l ≠ p := fun z => by rw [z, sf _ _ ndp ep1] at nl; cases nl
    refine ⟨_, rfl, p, C, dx, [], rfl, ep2, c.cl, c.nC, by show 0 < 1000; decide, by rw [upd_ne ndp.symm]; exact ed2, ?_⟩
    generalize hH3 : upd (upd H2 p (.ins C dx (putF "_columns" (.ref l) []))) d (.dK (kvsOf ps)) = H3
    have e3p : H3 p = some (.ins C dx (putF "_columns" (.ref l) [])) := by rw [← hH3, upd_ne ndp, upd_same]
    have e3d : H3 d = some (.dK (kvsOf ps)) := by rw [← hH3, upd_same]
    have e3l : H3 l = some (.lst ((TM.ord ps none).map V.str)) := by rw [← hH3, upd_ne nld, upd_ne nlp]; exact el
    have s3 : ∀ b o, b ≠ p → H b = some o → H3 b = some o := fun b o hb e => by
      have hbd : b ≠ d := ne_of_none e nd
      rw [← hH3, upd_ne hbd, upd_ne hb]
      exact s2 _ _ (sf _ _ hbd (s1 _ _ e))
    have lk : (putF "_columns" (V.ref l) [] : List (Str × V)).lookup ("_columns" : Str) = some (.ref l) := by rw [lookup_putF, if_pos rfl]
    refine ⟨_, rfl, p, C, dx, _, _, rfl, e3p, c.cl, c.nC, lk, l, rfl, ⟨_, .of e3l⟩, fun Dn nDn => ?_⟩
    have F := foOk_mk va hl8 hnm
    have hfn : (TM.flat (TM.mk ps none) none).map Prod.fst = TM.ord ps none := TM.flat_names _ _
    have hnd := TM.valid_nodup va
    refine dc_walk (walk_list (xs := (TM.ord ps none).map V.str)) (fun i h => h Dn = some (.dK (kvsOf ((TM.flat (TM.mk ps none) none).take i))) ∧ Same H3 h)
      ⟨upd_same, Same.new nDn⟩ (fun i h _ ⟨_, s⟩ => .of (s _ _ e3l)) ?_ ?_
    · rintro i x h h' hi ⟨e4, s4⟩ ⟨rfl, hx⟩
      rw [List.length_map] at hi
      have hfl : (TM.flat (TM.mk ps none) none).length = (TM.ord ps none).length := by rw [← hfn, List.length_map]
      obtain ⟨⟨cn, o⟩, hq⟩ : ∃ q, (TM.flat (TM.mk ps none) none)[i]? = some q := ⟨_, List.getElem?_eq_getElem (by omega)⟩
      have hxn : x = V.str cn := by
        rw [← hfn, List.getElem?_map, List.getElem?_map, hq] at hx
        exact (Option.some.inj hx).symm
      subst hxn
      have hv := kvs_some hnd (TM.mk_sub (List.mem_of_getElem? hq))
      refine ⟨rfl, ?_⟩
      refine ⟨_, rfl, _, rfl, _, rfl, d, optV o, rfl, .inl ⟨_, Sum.inr cn, .inl (s4 _ _ e3d), rfl, hv.symm⟩, _, Sum.inr cn, rfl, e4, ?_, ?_, ?_⟩
      · rw [kvs_len, List.length_take]
        have := F.le
        have e5 : (TM.names (TM.mk ps none)) = TM.ord ps none := rfl
        rw [e5] at this
        exact line100' (by omega)
      · have hc : cn ∉ ((TM.flat (TM.mk ps none) none).take i).map Prod.fst := by
          intro hm
          rw [List.map_take, hfn, List.mem_take_iff_getElem] at hm
          obtain ⟨j, hj, ej⟩ := hm
          have ei : (TM.ord ps none)[i] = cn := by
            have h1 : (TM.ord ps none)[i]? = some cn := by rw [← hfn, List.getElem?_map, hq]; rfl
            rw [List.getElem?_eq_getElem hi] at h1
            exact Option.some.inj h1
          have := (List.getElem_inj (TM.ord_nodup va) (i := j) (j := i)).mp (ej.trans ei.symm)
          omega
        rw [upd_same, kvs_put hc, List.take_add_one, hq]
        rfl
      · exact Same.mut s4 nDn
    · rintro h ⟨e4, s4⟩
      rw [List.length_map] at e4
      have hfl : (TM.flat (TM.mk ps none) none).length = (TM.ord ps none).length := by rw [← hfn, List.length_map]
      rw [← hfl, List.take_length] at e4
      refine ⟨_, rfl, p, C, dx, _, rfl, s4 _ _ e3p, c.cl, c.nO, by show 1 < 1000; decide, ?_⟩
      have nDp : Dn ≠ p := fun z => by rw [z, e3p] at nDn; cases nDn
      have nlD : l ≠ Dn := fun z => by rw [← z, e3l] at nDn; cases nDn
      refine q _ ⟨dx, l, Dn, upd_same, ?_, ?_⟩ fun b o hb e => ?_
      · rw [upd_ne nlp]
        exact s4 _ _ e3l
      · rw [upd_ne nDp]
        exact e4
      · rw [upd_ne hb]
        exact s4 _ _ (s3 b o hb e)
end
end T33T

set_option maxHeartbeats 1000000
namespace T33T
open PySem L2 PyProof.Rows TX
section
variable {P : Program} {w : World} {K : PySem.W.Frag} {mg : Str → Option Value} {base : Heap}
theorem sc_tcolumns : FnScope ["self"] ["self"] (defScope s_tcolumns) := ⟨rfl, rfl, rfl, by decide +kernel, rfl, by decide +kernel, by decide +kernel⟩
def sp_tcolumns (C : Addr) : Sp := fun vs H Q _ => ∃ (p : Addr) (f : TM.Fo), vs = [.ref p] ∧ TreeAt C H p f ∧ ∀ H' L, Same H H' → H L = none → H' L = some (.lst ((TM.names f).map V.str)) → Q (.ref L) H'
theorem ok_tcolumns {f C : Addr} {fd : FuncData} (F : Fun K "columns" "Tree.columns" s_tcolumns f fd) (B : Bn mg) (c : Tc K mg C) : FnOk P w K mg base CX0 1 f fd ["self"] (sp_tcolumns C) := by
  refine F.ok sc_tcolumns (fun vs H Q E h => ?_) (fun cdv A outer s H vs Q E hr h => ?_)
  · obtain ⟨p, g, rfl, _⟩ := h
    rfl
  · obtain ⟨p, g, rfl, ⟨dx, l, d, h1, h2, h3⟩, q⟩ := h
    refine ⟨_, pss_one (ps_ret (pe_callTy call_list_of (by rfl) B.list boot_list (pa_cons (pe_fld (pv 0) rfl) pa_nil))), ?_⟩
    exact ⟨_, rfl, p, C, dx, _, _, rfl, h1, c.cl, c.nC, tflds_col _ _, l, _, rfl, .inl (.of h2), fun L nL => q _ L (Same.new nL) nL upd_same⟩
theorem sc_tpairs : FnScope ["self", "column"] ["self"] (defScope s_tpairs) := ⟨rfl, rfl, rfl, by decide +kernel, rfl, by decide +kernel, by decide +kernel⟩
def sp_tpairs (C : Addr) : Sp := fun vs H Q _ => ∃ (p : Addr) (f : TM.Fo), vs = [.ref p] ∧ TreeAt C H p f ∧ FoOk f ∧ ∀ H' L, Same H H' → H L = none → PairsAt H' L (TM.flat f none) → Q (.ref L) H'
theorem ok_tpairs {f C : Addr} {fd : FuncData} (F : Fun K "pairs" "Tree.pairs" s_tpairs f fd) (B : Bn mg) (c : Tc K mg C) : FnOk P w K mg base CX0 1 f fd ["self"] (sp_tpairs C) := by
  refine F.ok sc_tpairs (fun vs H Q E h => ?_) (fun cdv A outer s H vs Q E hr h => ?_)
  · obtain ⟨p, g, rfl, _⟩ := h
    rfl
  · obtain ⟨p, g, rfl, ⟨dx, l, d, h1, h2, h3⟩, ok, q⟩ := h
    have hu := hu_of hr
    have hfn : (TM.flat g none).map Prod.fst = TM.names g := TM.flat_names _ _
    have hfl : (TM.flat g none).length = (TM.names g).length := by rw [← hfn, List.length_map]
    have hle := ok.le
    refine ⟨_, pss_one (ps_ret (pe_lc (own := [("column", 1)]) (g := gName 1) (tt := tYes) (te := tTup (tCons (tVar 1) (tCons (tDGet (tFld K (tVar 0) "_over") (tVar 1)) tNil))) rfl sc_tpairs.nd (pi_list (pe_fld (pv 0) rfl)) (blkOk_by (N := ["self", "column"]) (sc := defScope s_tpairs) (by decide +kernel))
        (fun _ _ _ _ _ => pg_name (i := 1) sc_tpairs.nd rfl (Or.inl rfl)) (fun _ _ _ _ _ => pts_nil)
        (fun _ _ _ _ _ => pe_tup (pa_cons (pv 1) (pa_cons (pe_dget hu (pe_fld (pv 0) rfl) (pv 1) (fun _ _ => rfl)) pa_nil))))), ?_⟩
    refine ⟨_, rfl, p, C, dx, _, _, rfl, h1, c.cl, c.nC, tflds_col _ _, l, rfl, ⟨_, .of h2⟩, fun L nL => ?_⟩
    refine lc_it (walk_list (xs := (TM.names g).map V.str)) (fun i h => ∃ as, h L = some (.lst (as.map V.ref)) ∧ TupsAt h as ((TM.flat g none).take i) ∧ Same H h)
      ⟨[], upd_same, .nil, Same.new nL⟩ (fun i h _ ⟨_, _, _, s⟩ => .of (s _ _ h2)) ?_ ?_
    · rintro i x h h' hi ⟨as, e4, t4, s4⟩ ⟨rfl, hx⟩
      rw [List.length_map] at hi
      obtain ⟨⟨cn, o⟩, hq⟩ : ∃ q, (TM.flat g none)[i]? = some q := ⟨_, List.getElem?_eq_getElem (by omega)⟩
      have hxn : x = V.str cn := by
        rw [← hfn, List.getElem?_map, List.getElem?_map, hq] at hx
        exact (Option.some.inj hx).symm
      subst hxn
      have hv : valV (kvsOf (TM.flat g none)) (Sum.inr cn : Key) = some (optV o) := kvs_some (by rw [hfn]; exact ok.nd) (List.mem_of_getElem? hq)
      refine ⟨rfl, ?_⟩
      refine ⟨_, rfl, _, rfl, p, C, dx, _, _, rfl, s4 _ _ h1, c.cl, c.nO, tflds_over _ _, _, rfl, d, optV o, rfl, .inl ⟨_, Sum.inr cn, .inl (s4 _ _ h3), rfl, hv.symm⟩, two_le, fun y ny => ?_⟩
      have e5 : ∀ o, upd h' y o L = some (.lst (as.map V.ref)) := fun o => by rw [upd_ne (ne_of_none e4 ny)]; exact e4
      refine ⟨_, e5 _, ?_, as ++ [y], ?_, ?_, ?_⟩
      · rw [List.length_map, t4.len, List.length_take]
        exact line100' (by omega)
      · rw [upd_same, List.map_append]
        rfl
      · rw [List.take_add_one, hq]
        exact ((t4.same (Same.new ny)).snoc (q := (cn, o)) upd_same).put (e5 _)
      · exact Same.mut (s4.trans (Same.new ny)) nL
    · rintro h ⟨as, e4, t4, s4⟩
      rw [List.length_map, ← hfl, List.take_length] at t4
      exact q h L s4 nL ⟨as, e4, t4⟩
theorem sc_tlen : FnScope ["self"] ["self"] (defScope s_tlen) := ⟨rfl, rfl, rfl, by decide +kernel, rfl, by decide +kernel, by decide +kernel⟩
def sp_tlen (C : Addr) : Sp := fun vs H Q _ => ∃ (p : Addr) (f : TM.Fo), vs = [.ref p] ∧ TreeAt C H p f ∧ Q (.int (TM.names f).length) H
theorem ok_tlen {f C : Addr} {fd : FuncData} (F : Fun K "__len__" "Tree.__len__" s_tlen f fd) (B : Bn mg) (c : Tc K mg C) : FnOk P w K mg base CX0 1 f fd ["self"] (sp_tlen C) := by
  refine F.ok sc_tlen (fun vs H Q E h => ?_) (fun cdv A outer s H vs Q E hr h => ?_)
  · obtain ⟨p, g, rfl, _⟩ := h
    rfl
  · obtain ⟨p, g, rfl, ⟨dx, l, d, h1, h2, h3⟩, q⟩ := h
    refine ⟨_, pss_one (ps_ret (pe_callB call_len_seq (by rfl) B.len PySem.boot_len (pa_cons (pe_fld (pv 0) rfl) pa_nil))), ?_⟩
    refine ⟨_, rfl, p, C, dx, _, _, rfl, h1, c.cl, c.nC, tflds_col _ _, l, _, rfl, .inl (.of h2), ?_⟩
    rw [List.length_map]
    exact q
theorem sc_teq : FnScope ["self", "other"] ["self", "other"] (defScope s_teq) := ⟨rfl, rfl, rfl, by decide +kernel, rfl, by decide +kernel, by decide +kernel⟩
/-- two trees of one forest -/
def SameTree (C : Addr) : Addr → Addr → Hp → Prop := fun a b H => ∃ f, TreeAt C H a f ∧ TreeAt C H b f ∧ FoOk f
theorem ok_teq {f C : Addr} {fd : FuncData} (F : Fun K "__eq__" "Tree.__eq__" s_teq f fd) (B : Bn mg) (c : Tc K mg C) : FnOk P w K mg base CX0 1 f fd ["self", "other"] (spEq (SameTree C)) := by
  refine F.ok sc_teq (fun vs H Q E h => ?_) (fun cdv A outer s H vs Q E hr h => ?_)
  · obtain ⟨a, b, rfl, _⟩ := h
    rfl
  · obtain ⟨a, b, rfl, ⟨g, ⟨dx, l, d, h1, h2, h3⟩, ⟨dx', l', d', h1', h2', h3'⟩, ok⟩, q⟩ := h
    have hu := hu_of hr
    have hu0 := hr.units0
    have hu64 := hr.units
    refine ⟨_, pss_one (ps_ret (pe_and (pe_callB call_isi (by rfl) B.isi boot_isinstance (pa_cons (pv 1) (pa_cons (pe_glob (v := .ref C) (by rfl) c.g rfl) pa_nil)))
      (pe_and (pe_cmpR (op_eqD hu64) (pe_fld (pv 0) rfl) (pe_fld (pv 1) rfl) (nomark _)) (pe_one (pe_cmpR (op_eq_dictA hu0) (pe_fld (pv 0) rfl) (pe_fld (pv 1) rfl) (nomark _)))))), ?_⟩
    refine ⟨_, rfl, _, _, _, _, true, rfl, .own C, .base (.ins h1' c.cl c.ins.ha c.ins.hn c.ins.htk c.ins.hm), c.ins.me, true, rfl, ?_⟩
    refine ⟨_, rfl, a, C, dx, _, _, rfl, h1, c.cl, c.nC, tflds_col _ _, _, rfl, b, C, dx', _, _, rfl, h1', c.cl, c.nC, tflds_col _ _, _, _, DpS h2, DpS h2', shS ok.ok, shS ok.ok, true, ?_, ?_⟩
    · rw [eqv_dS, decide_eq_true rfl]
    refine ⟨_, rfl, a, C, dx, _, _, rfl, h1, c.cl, c.nO, tflds_over _ _, _, rfl, b, C, dx', _, _, rfl, h1', c.cl, c.nO, tflds_over _ _, d, d', _, _, rfl, rfl, h3, h3', rfl, ?_, q H fun _ _ h => h⟩
    intro p hp
    obtain ⟨⟨x, o⟩, hm, rfl⟩ := List.mem_map.mp hp
    refine ⟨kvs_some ?_ hm, ?_⟩
    · rw [TM.flat_names]
      exact ok.nd
    · cases o <;> rfl
end
end T33T

set_option maxHeartbeats 1000000
namespace T33T
open PySem L2 PyProof.Rows TX TY
section
variable {P : Program} {w : World} {K : PySem.W.Frag} {mg : Str → Option Value} {base : Heap}
variable {fN fC fP fT fO : Addr} {dN dC dP dT dO : FuncData}
/-- is_name_in asked of a list of names -/
def sp_is_name_inL : Sp := fun vs H Q _ => ∃ (x : Str) (d : Addr) (ns : List Str), vs = [.str x, .ref d] ∧ TM.NameOk x ∧ H d = some (.lst (ns.map V.str)) ∧ ∀ H', Same H H' → Q (.bl (decide (x ∈ ns))) H'
theorem ok_is_name_inL (T : Kd K mg fN fC fP fT fO dN dC dP dT dO) : FnOk P w K mg base CX0 2 fC dC ["thing", "names"] sp_is_name_inL := by
  have GN : FnOk P w K mg base CX0 1 fN dN ["thing"] sp_is_name := ok_is_name T.isn T.B T.C
  refine T.isc.F.ok sc_is_name_in (fun vs H Q E h => ?_) (fun cdv A outer s H vs Q E hr h => ?_)
  · obtain ⟨x, d, ns, rfl, _⟩ := h
    rfl
  · obtain ⟨x, d, ns, rfl, hx, hd, q⟩ := h
    have hu := hu_of hr
    refine ⟨_, pss_one (ps_ret (pe_and (pe_call GN hr rfl T.isn.g T.isn.F.kp T.isn.b .nil pass0 (pa_cons (pv 0) pa_nil)) (pe_one (pe_cmpR op_in_seq (pv 0) (pv 1) rfl)))), ?_⟩
    refine ⟨_, rfl, x, rfl, hx, fun H1 s1 => ⟨true, rfl, ?_⟩⟩
    refine ⟨_, rfl, _, rfl, d, _, rfl, .inl (.of (s1 _ _ hd)), rfl, TX.flat_strs _, ?_⟩
    show Q (.bl (inV (.str x) (ns.map V.str))) H1
    rw [inV_str]
    exact q H1 s1
variable {C fc fv fa fb fk fi : Addr} {dc dv da db dk di : FuncData}
theorem sc_tcheck : FnScope ["self", "column"] ["self", "column"] (defScope s_tcheck) := ⟨rfl, rfl, rfl, by decide +kernel, rfl, by decide +kernel, by decide +kernel⟩
def sp_tcheck (C : Addr) : Sp := fun vs H Q _ => ∃ (p : Addr) (f : TM.Fo) (x : Str), vs = [.ref p, .str x] ∧ TreeAt C H p f ∧ FoOk f ∧ x ∈ TM.names f ∧ ∀ H', Same H H' → Q .non H'
theorem ok_tcheck (F : Fun K "check_column" "Tree.check_column" s_tcheck fc dc) (T : Kd K mg fN fC fP fT fO dN dC dP dT dO) (c : Tc K mg C) : FnOk P w K mg base CX0 3 fc dc ["self", "column"] (sp_tcheck C) := by
  have GC : FnOk P w K mg base CX0 2 fC dC ["thing", "names"] sp_is_name_inL := ok_is_name_inL T
  refine F.ok sc_tcheck (fun vs H Q E h => ?_) (fun cdv A outer s H vs Q E hr h => ?_)
  · obtain ⟨p, g, x, rfl, _⟩ := h
    rfl
  · obtain ⟨p, g, x, rfl, ⟨dx, l, d, h1, h2, h3⟩, ok, hx, q⟩ := h
    refine ⟨_, pss_one (ps_if (pt_not (pt_val (pe_call GC hr rfl T.isc.g T.isc.F.kp T.isc.b .nil pass0 (pa_cons (pv 1) (pa_cons (pe_fld (pv 0) rfl) pa_nil))))) (pss_one ps_never) pss_nil), ?_⟩
    refine ⟨_, rfl, _, rfl, p, C, dx, _, _, rfl, h1, c.cl, c.nC, tflds_col _ _, x, l, TM.names g, rfl, ok.ok x hx, h2, fun H1 s1 => ⟨_, rfl, ?_⟩⟩
    rw [decide_eq_true hx]
    exact q H1 s1
/-- over -/
theorem sc_tover : FnScope ["self", "column"] ["self", "column"] (defScope s_tover) := ⟨rfl, rfl, rfl, by decide +kernel, rfl, by decide +kernel, by decide +kernel⟩
def sp_tover (C : Addr) : Sp := fun vs H Q _ => ∃ (p : Addr) (f : TM.Fo) (x : Str) (a : List Str) (k : TM.Fo), vs = [.ref p, .str x] ∧ TreeAt C H p f ∧ FoOk f ∧ TM.loc f x = some (a, k) ∧ ∀ H', Same H H' → Q (optV (TM.lastOr a none)) H'
theorem nochk (l d : Addr) : (tflds l d).lookup ("check_column" : Str) = none := tflds_no l d (by decide +kernel) (by decide +kernel)
theorem ok_tover (F : Fun K "over" "Tree.over" s_tover fv dv) (M : Mt K C "check_column" "Tree.check_column" s_tcheck ["self", "column"] fc dc) (T : Kd K mg fN fC fP fT fO dN dC dP dT dO) (c : Tc K mg C) : FnOk P w K mg base CX0 4 fv dv ["self", "column"] (sp_tover C) := by
  have GK : FnOk P w K mg base CX0 3 fc dc ["self", "column"] (sp_tcheck C) := ok_tcheck M.F T c
  refine F.ok sc_tover (fun vs H Q E h => ?_) (fun cdv A outer s H vs Q E hr h => ?_)
  · obtain ⟨p, g, x, a, k, rfl, _⟩ := h
    rfl
  · obtain ⟨p, g, x, a, k, rfl, tr, ok, hx, q⟩ := h
    have hu := hu_of hr
    obtain ⟨dx, l, d, h1, h2, h3⟩ := id tr
    refine ⟨_, pss_cons (ps_expr (pe_meth (pv 0) c.cl M.me GK hr M.b .nil pass0 (pa_cons (pv 1) pa_nil))) (pss_one (ps_ret (pe_dget hu (pe_fld (pv 0) rfl) (pv 1) (fun _ _ => rfl)))), ?_⟩
    refine ⟨_, rfl, p, dx, _, rfl, h1, nochk _ _, _, rfl, p, g, x, rfl, tr, ok, TM.loc_mem hx, fun H1 s1 => ?_⟩
    refine ⟨_, rfl, p, C, dx, _, _, rfl, s1 _ _ h1, c.cl, c.nO, tflds_over _ _, _, rfl, d, _, rfl, .inl ⟨_, Sum.inr x, .inl (s1 _ _ h3), rfl, (over_get ok hx).symm⟩, q H1 s1⟩
/-- above -/
theorem sc_tabove : FnScope ["self", "column", "found", "upper"] ["self", "column"] (defScope s_tabove) := ⟨rfl, rfl, rfl, by decide +kernel, rfl, by decide +kernel, by decide +kernel⟩
def sp_tabove (C : Addr) : Sp := fun vs H Q _ => ∃ (p : Addr) (f : TM.Fo) (x : Str) (a : List Str) (k : TM.Fo), vs = [.ref p, .str x] ∧ TreeAt C H p f ∧ FoOk f ∧ TM.loc f x = some (a, k) ∧ ∀ H' L, Same H H' → H L = none → H' L = some (.lst (a.map V.str)) → Q (.ref L) H'
theorem ok_tabove (F : Fun K "above" "Tree.above" s_tabove fa da) (M : Mt K C "check_column" "Tree.check_column" s_tcheck ["self", "column"] fc dc) (T : Kd K mg fN fC fP fT fO dN dC dP dT dO) (c : Tc K mg C) : FnOk P w K mg base CX0 4 fa da ["self", "column"] (sp_tabove C) := by
  have GK : FnOk P w K mg base CX0 3 fc dc ["self", "column"] (sp_tcheck C) := ok_tcheck M.F T c
  refine F.ok sc_tabove (fun vs H Q E h => ?_) (fun cdv A outer s H vs Q E hr h => ?_)
  · obtain ⟨p, g, x, a, k, rfl, _⟩ := h
    rfl
  · obtain ⟨p, g, x, a, k, rfl, tr, ok, hx, q⟩ := h
    have hu := hu_of hr
    obtain ⟨dx, l, d, h1, h2, h3⟩ := id tr
    have nd := sc_tabove.nd
    refine ⟨_, pss_cons (ps_expr (pe_meth (pv 0) c.cl M.me GK hr M.b .nil pass0 (pa_cons (pv 1) pa_nil)))
      (pss_cons (ps_set (i := 2) nd rfl (Or.inl rfl) (pe_lst pa_nil))
      (pss_cons (ps_set (i := 3) nd rfl (Or.inl rfl) (pe_dget hu (pe_fld (pv 0) rfl) (pv 1) (fun _ _ => rfl)))
      (pss_cons (ps_while PassesOwn.never (pt_cmp (pc_notN (pv 3)))
        (pss_cons (ps_expr (pe_bm PySem.F.plainAttrs_list PySem.F.slot_list_append PySem.F.type_list_append mt_append (pv 2) (pa_cons (pv 3) pa_nil)))
        (pss_one (ps_set (i := 3) nd rfl (Or.inl rfl) (pe_dget hu (pe_fld (pv 0) rfl) (pv 3) (fun _ _ => rfl))))))
      (pss_one (ps_ret (pe_revL (pv 2))))))), ?_⟩
    refine ⟨_, rfl, p, dx, _, rfl, h1, nochk _ _, _, rfl, p, g, x, rfl, tr, ok, TM.loc_mem hx, fun H1 s1 => ?_⟩
    refine ⟨by decide, fun L nL => ?_⟩
    have s2 : Same H (upd H1 L (.lst [])) := s1.trans (Same.new nL)
    have nLH : H L = none := s1.free nL
    refine ⟨_, rfl, p, C, dx, _, _, rfl, s2 _ _ h1, c.cl, c.nO, tflds_over _ _, _, rfl, d, _, rfl, .inl ⟨_, Sum.inr x, .inl (s2 _ _ h3), rfl, (over_get ok hx).symm⟩, ?_⟩
    have hal : a.length ≤ 8 := by
      have := (TM.loc_sub hx).length_le
      have h8 := ok.le
      rw [List.length_append] at this
      omega
    refine ⟨fun m σ H' => ∃ r b : List Str, r.length = m ∧ a = r ++ b ∧ σ = [some (.ref p), some (.str x), some (.ref L), some (optV (TM.lastOr r none))] ∧ H' L = some (.lst ((b.reverse).map V.str)) ∧ Same H H',
      ⟨a.length, a, [], rfl, by simp, rfl, upd_same, s2⟩, ?_⟩
    rintro m σ H2 ⟨r, b, rfl, eab, rfl, e2, s3⟩
    refine ⟨_, rfl, _, rfl, ?_⟩
    rcases List.eq_nil_or_concat r with rfl | ⟨r', u, rfl⟩
    · have e0 : optV (TM.lastOr [] none) = V.non := rfl
      rw [e0]
      show _
      refine ⟨_, rfl, L, _, rfl, .of e2, fun L2 nL2 => ?_⟩
      refine q _ L2 (s3.trans (Same.new nL2)) (s3.free nL2) ?_
      rw [upd_same, ← List.map_reverse, List.reverse_reverse, eab]
      rfl
    · have e0 : optV (TM.lastOr (r'.concat u) none) = V.str u := by rw [List.concat_eq_append, TM.lastOr_snoc]; rfl
      rw [e0]
      have ea : a = r' ++ u :: b := by rw [eab, List.concat_eq_append]; simp
      obtain ⟨q1, hu1, _⟩ := TM.loc_up ok.nd hx r' b u ea
      refine ⟨fun σ' H' => ∃ r b : List Str, r.length = r'.length ∧ a = r ++ b ∧ σ' = [some (.ref p), some (.str x), some (.ref L), some (optV (TM.lastOr r none))] ∧ H' L = some (.lst ((b.reverse).map V.str)) ∧ Same H H',
        fun σ' H' z => ⟨r'.length, by simp, z⟩, ?_⟩
      have hbl : b.length ≤ 8 := by
        have := congrArg List.length ea
        rw [List.length_append, List.length_cons] at this
        omega
      refine ⟨_, rfl, .inl ⟨rfl, _, .inl (.inl e2)⟩, _, rfl, L, _, _, rfl, rfl, e2, ?_, ?_⟩
      · rw [List.length_map, List.length_reverse]
        exact line100' (by omega)
      have s4 : Same H (upd H2 L (.lst ((b.reverse).map V.str ++ [.str u]))) := Same.mut s3 nLH
      refine ⟨_, rfl, p, C, dx, _, _, rfl, s4 _ _ h1, c.cl, c.nO, tflds_over _ _, _, rfl, d, _, rfl, .inl ⟨_, Sum.inr u, .inl (s4 _ _ h3), rfl, (over_get ok hu1).symm⟩, ?_⟩
      refine ⟨r', u :: b, rfl, ea, rfl, ?_, s4⟩
      rw [upd_same, List.reverse_cons, List.map_append]
      rfl
/-- beneath -/
theorem sc_tbeneath : FnScope ["self", "column", "name"] ["self", "column"] (defScope s_tbeneath) := ⟨rfl, rfl, rfl, by decide +kernel, rfl, by decide +kernel, by decide +kernel⟩
def sp_tbeneath (C : Addr) : Sp := fun vs H Q _ => ∃ (p : Addr) (f : TM.Fo) (x : Str) (a : List Str) (k : TM.Fo), vs = [.ref p, .str x] ∧ TreeAt C H p f ∧ FoOk f ∧ TM.loc f x = some (a, k) ∧
  ∀ H' L, Same H H' → H L = none → H' L = some (.lst ((x :: TM.names k).map V.str)) → Q (.ref L) H'
theorem noabv (l d : Addr) : (tflds l d).lookup ("above" : Str) = none := tflds_no l d (by decide +kernel) (by decide +kernel)
theorem ok_tbeneath (F : Fun K "beneath" "Tree.beneath" s_tbeneath fb db) (M : Mt K C "check_column" "Tree.check_column" s_tcheck ["self", "column"] fc dc) (MA : Mt K C "above" "Tree.above" s_tabove ["self", "column"] fa da)
    (T : Kd K mg fN fC fP fT fO dN dC dP dT dO) (c : Tc K mg C) : FnOk P w K mg base CX0 5 fb db ["self", "column"] (sp_tbeneath C) := by
  have GK : FnOk P w K mg base CX0 3 fc dc ["self", "column"] (sp_tcheck C) := ok_tcheck M.F T c
  have GA : FnOk P w K mg base CX0 4 fa da ["self", "column"] (sp_tabove C) := ok_tabove MA.F M T c
  refine F.ok sc_tbeneath (fun vs H Q E h => ?_) (fun cdv A outer s H vs Q E hr h => ?_)
  · obtain ⟨p, g, x, a, k, rfl, _⟩ := h
    rfl
  · obtain ⟨p, g, x, a, k, rfl, tr, ok, hx, q⟩ := h
    have hu := hu_of hr
    obtain ⟨dx, l, d, h1, h2, h3⟩ := id tr
    have nd := sc_tbeneath.nd
    have r3 : Room 3 _ := hr.mono (by decide)
    refine ⟨_, pss_cons (ps_expr (pe_meth (pv 0) c.cl M.me GK r3 M.b .nil pass0 (pa_cons (pv 1) pa_nil)))
      (pss_one (ps_ret (pe_lc (own := [("name", 2)]) (g := gName 2) (tt := tOr (tTest (tOp rEq (tVar 2) (tVar 1))) (tTest (tOp (rIn K false) (tVar 1) (tMeth C "above" (sp_tabove C) [] E0 (tVar 0) (tCons (tVar 2) tNil))))) (te := tVar 2) rfl nd (pi_list (pe_fld (pv 0) rfl))
          (blkOk_by (N := ["self", "column", "name"]) (sc := defScope s_tbeneath) (by decide +kernel)) (fun _ _ _ _ _ => pg_name (i := 2) nd rfl (Or.inl rfl))
          (fun _ _ _ _ _ => pts_one (PW.pt (pw_or (pt_cmpR op_eq (pv 2) (pv 1) (nomark _)) (pw_or1 (pt_cmpR op_in_seq (pv 1) (pe_meth (pv 0) c.cl MA.me GA hr MA.b .nil pass0 (pa_cons (pv 2) pa_nil)) rfl))))) (fun _ _ _ _ _ => pv 2)))), ?_⟩
    refine ⟨_, rfl, p, dx, _, rfl, h1, nochk _ _, _, rfl, p, g, x, rfl, tr, ok, TM.loc_mem hx, fun H1 s1 => ?_⟩
    refine ⟨_, rfl, p, C, dx, _, _, rfl, s1 _ _ h1, c.cl, c.nC, tflds_col _ _, l, rfl, ⟨_, .of (s1 _ _ h2)⟩, fun L nL => ?_⟩
    have hle := ok.le
    have fin : ((TM.names g).filter fun n => decide (n ∈ x :: TM.names k)) = x :: TM.names k := TM.filter_mem ok.nd (TM.seg_sub hx)
    refine lc_it (walk_list (xs := (TM.names g).map V.str)) (fun i h => h L = some (.lst ((((TM.names g).take i).filter fun n => decide (n ∈ x :: TM.names k)).map V.str)) ∧ Same H1 h)
      ⟨upd_same, Same.new nL⟩ (fun i h _ ⟨_, s⟩ => .of (s _ _ (s1 _ _ h2))) ?_ ?_
    · rintro i v h h' hi ⟨e4, s4⟩ ⟨rfl, hv⟩
      rw [List.length_map] at hi
      obtain ⟨n, hn, rfl⟩ : ∃ n, (TM.names g)[i]? = some n ∧ v = V.str n := by
        rw [List.getElem?_map, List.getElem?_eq_getElem hi] at hv
        exact ⟨_, List.getElem?_eq_getElem hi, (Option.some.inj hv).symm⟩
      have hnm : n ∈ TM.names g := List.mem_of_getElem? hn
      obtain ⟨an, kn, hln⟩ := TM.loc_names hnm
      have ht : (TM.names g).take (i + 1) = (TM.names g).take i ++ [n] := by rw [List.take_add_one, hn]; rfl
      have hlen : ∀ l : List Str, l = ((TM.names g).take i).filter (fun n => decide (n ∈ x :: TM.names k)) → l.length < sizeLine := by
        intro l e
        rw [e]
        have := List.length_filter_le (fun n => decide (n ∈ x :: TM.names k)) ((TM.names g).take i)
        rw [List.length_take] at this
        exact line100' (by omega)
      have put : ∀ (hh : Hp), n ∈ x :: TM.names k → hh L = some (.lst ((((TM.names g).take i).filter fun n => decide (n ∈ x :: TM.names k)).map V.str)) → Same H1 hh →
          (upd hh L (.lst ((((TM.names g).take i).filter fun n => decide (n ∈ x :: TM.names k)).map V.str ++ [.str n])) L = some (.lst ((((TM.names g).take (i + 1)).filter fun n => decide (n ∈ x :: TM.names k)).map V.str)) ∧ Same H1 (upd hh L (.lst ((((TM.names g).take i).filter fun n => decide (n ∈ x :: TM.names k)).map V.str ++ [.str n])))) := by
        intro hh hm he hs
        refine ⟨?_, Same.mut hs nL⟩
        rw [upd_same, ht, List.filter_append, List.filter_cons_of_pos (p := fun n => decide (n ∈ x :: TM.names k)) (a := n) (l := []) (decide_eq_true hm), List.map_append]
        rfl
      refine ⟨rfl, ?_⟩
      refine ⟨_, rfl, _, rfl, rfl, _, rfl, ?_⟩
      by_cases hxn : n = x
      · rw [decide_eq_true (congrArg V.str hxn)]
        refine ⟨_, rfl, _, e4, ?_, put _ (by rw [hxn]; exact List.mem_cons_self) e4 s4⟩
        rw [List.length_map]
        exact hlen _ rfl
      · rw [decide_eq_false (fun z : V.str n = V.str x => hxn (V.str.inj z))]
        have s5 := s1.trans s4
        refine ⟨_, rfl, _, rfl, p, dx, _, rfl, s5 _ _ h1, noabv _ _, _, rfl, p, g, n, an, kn, rfl, tr.same s5, ok, hln, fun H5 L5 s6 n5 e5 => ?_⟩
        refine ⟨L5, _, rfl, .inl (.of e5), rfl, TX.flat_strs _, _, rfl, ?_⟩
        show if inV (V.str x) (an.map V.str) = true then _ else _
        rw [inV_str]
        have eL5 := s6 _ _ e4
        have hiff : x ∈ an ↔ n ∈ TM.names k := TM.up_down ok.nd hx hln
        by_cases hm : x ∈ an
        · rw [decide_eq_true hm]
          refine ⟨_, rfl, _, eL5, ?_, put _ (List.mem_cons_of_mem _ (hiff.mp hm)) eL5 (s4.trans s6)⟩
          rw [List.length_map]
          exact hlen _ rfl
        · rw [decide_eq_false hm]
          refine ⟨?_, s4.trans s6⟩
          have hno : n ∉ x :: TM.names k := fun z => (List.mem_cons.mp z).elim hxn fun z => hm (hiff.mpr z)
          rw [ht, List.filter_append, List.filter_cons_of_neg (p := fun n => decide (n ∈ x :: TM.names k)) (a := n) (l := []) (fun z => hno (of_decide_eq_true z)), List.filter_nil, List.append_nil]
          exact eL5
    · rintro h ⟨e4, s4⟩
      rw [List.length_map, List.take_length, fin] at e4
      exact q h L (s1.trans s4) (s1.free nL) e4
end
end T33T

set_option maxHeartbeats 1000000
namespace T33T
open PySem L2 PyProof.Rows TX TY
section
variable {P : Program} {w : World} {K : PySem.W.Frag} {mg : Str → Option Value} {base : Heap}
variable {fN fC fP fT fO : Addr} {dN dC dP dT dO : FuncData}
variable {C fc fv fa fb fk fi : Addr} {dc dv da db dk di : FuncData}
/-- is_above -/
theorem sc_tisabove : FnScope ["self", "one", "other"] ["self", "one", "other"] (defScope s_tisabove) := ⟨rfl, rfl, rfl, by decide +kernel, rfl, by decide +kernel, by decide +kernel⟩
def sp_tisabove (C : Addr) : Sp := fun vs H Q _ => ∃ (p : Addr) (f : TM.Fo) (x y : Str) (a : List Str) (k : TM.Fo), vs = [.ref p, .str x, .str y] ∧ TreeAt C H p f ∧ FoOk f ∧ x ∈ TM.names f ∧ TM.loc f y = some (a, k) ∧ ∀ H', Same H H' → Q (.bl (decide (x ∈ a))) H'
theorem ok_tisabove (F : Fun K "is_above" "Tree.is_above" s_tisabove fi di) (M : Mt K C "check_column" "Tree.check_column" s_tcheck ["self", "column"] fc dc) (MA : Mt K C "above" "Tree.above" s_tabove ["self", "column"] fa da)
    (T : Kd K mg fN fC fP fT fO dN dC dP dT dO) (c : Tc K mg C) : FnOk P w K mg base CX0 5 fi di ["self", "one", "other"] (sp_tisabove C) := by
  have GK : FnOk P w K mg base CX0 3 fc dc ["self", "column"] (sp_tcheck C) := ok_tcheck M.F T c
  have GA : FnOk P w K mg base CX0 4 fa da ["self", "column"] (sp_tabove C) := ok_tabove MA.F M T c
  refine F.ok sc_tisabove (fun vs H Q E h => ?_) (fun cdv A outer s H vs Q E hr h => ?_)
  · obtain ⟨p, g, x, y, a, k, rfl, _⟩ := h
    rfl
  · obtain ⟨p, g, x, y, a, k, rfl, tr, ok, hx, hy, q⟩ := h
    obtain ⟨dx, l, d, h1, h2, h3⟩ := id tr
    have r3 : Room 3 _ := hr.mono (by decide)
    refine ⟨_, pss_cons (ps_expr (pe_meth (pv 0) c.cl M.me GK r3 M.b .nil pass0 (pa_cons (pv 1) pa_nil)))
      (pss_one (ps_ret (pe_cmpR op_in_seq (pv 1) (pe_meth (pv 0) c.cl MA.me GA hr MA.b .nil pass0 (pa_cons (pv 2) pa_nil)) rfl))), ?_⟩
    refine ⟨_, rfl, p, dx, _, rfl, h1, nochk _ _, _, rfl, p, g, x, rfl, tr, ok, hx, fun H1 s1 => ?_⟩
    refine ⟨_, rfl, _, rfl, p, dx, _, rfl, s1 _ _ h1, noabv _ _, _, rfl, p, g, y, a, k, rfl, tr.same s1, ok, hy, fun H2 L s2 nL e2 => ?_⟩
    refine ⟨L, _, rfl, .inl (.of e2), rfl, TX.flat_strs _, ?_⟩
    show Q (.bl (inV (.str x) (a.map V.str))) H2
    rw [inV_str]
    exact q H2 (s1.trans s2)
end
end T33T

set_option maxHeartbeats 1000000
namespace T33T
open PySem L2 PyProof.Rows TX TY TU
section
variable {P : Program} {w : World} {K : PySem.W.Frag} {mg : Str → Option Value} {base : Heap}
/-- a table's fields -/
def bflds (l r : Addr) : List (Str × V) := putF "_rows" (.ref r) (putF "_columns" (.ref l) [])
theorem kbc : ¬ (("_columns" : Str) = "_rows") := by decide +kernel
theorem bflds_col (l r : Addr) : (bflds l r).lookup ("_columns" : Str) = some (.ref l) := by
  unfold bflds
  rw [lookup_putF, if_neg kbc, lookup_putF, if_pos rfl]
theorem bflds_no (l r : Addr) {m : Str} (h1 : ¬ m = "_rows") (h2 : ¬ m = "_columns") : (bflds l r).lookup m = none := by
  unfold bflds
  rw [lookup_putF, if_neg h1, lookup_putF, if_neg h2]
  rfl
/-- unlike names, not too many -/
structure Cs (cs : List Str) : Prop where
  nd : cs.Nodup
  le : cs.length ≤ 8
  ok : ∀ x ∈ cs, TM.NameOk x
/-- a table of these columns -/
def TabAt (C : Addr) (H : Hp) (p : Addr) (cs : List Str) : Prop := ∃ dx l r, H p = some (.ins C dx (bflds l r)) ∧ H l = some (.lst (cs.map V.str))
theorem TabAt.same {C : Addr} {H H' : Hp} {p : Addr} {cs : List Str} (t : TabAt C H p cs) (s : Same H H') : TabAt C H' p cs := by
  obtain ⟨dx, l, r, h1, h2⟩ := t
  exact ⟨dx, l, r, s _ _ h1, s _ _ h2⟩
/-- the class of tables -/
structure Bc (K : PySem.W.Frag) (mg : Str → Option Value) (C : Addr) : Prop where
  cl : Cls K C
  nC : NoAttr K C "_columns"
  nR : NoAttr K C "_rows"
  g : mg "Table" = some (.ref C)
/-- what tables call -/
structure Bd (K : PySem.W.Frag) (mg : Str → Option Value) (fA fK fS : Addr) (dA dK dS : FuncData) : Prop where
  set : mg "set" = none
  are : Fn K mg "are_columns" s_are ["thing"] fA dA
  chk : Fn K mg "_check_columns" s_cc ["columns"] fK dK
  srt : Fn K mg "_sorted_rows" s_sorted ["rows", "many"] fS dS
variable {fN fC fP fT fO : Addr} {dN dC dP dT dO : FuncData}
variable {fA fK fS : Addr} {dA dK dS : FuncData}
theorem sc_are : FnScope ["thing", "name"] ["thing"] (defScope s_are) := ⟨rfl, rfl, rfl, by decide +kernel, rfl, by decide +kernel, by decide +kernel⟩
def sp_are : Sp := fun vs H Q _ => ∃ (L : Addr) (cs : List Str), vs = [.ref L] ∧ H L = some (.lst (cs.map V.str)) ∧ Cs cs ∧ ∀ H', Same H H' → Q (.bl true) H'
theorem ok_are (T : Kd K mg fN fC fP fT fO dN dC dP dT dO) (Z : Bd K mg fA fK fS dA dK dS) : FnOk P w K mg base CX0 2 fA dA ["thing"] sp_are := by
  have B := T.B
  have GN : FnOk P w K mg base CX0 1 fN dN ["thing"] sp_is_name := ok_is_name T.isn B T.C
  refine Z.are.F.ok sc_are (fun vs H Q E h => ?_) (fun cdv A outer s H vs Q E hr h => ?_)
  · obtain ⟨L, cs, rfl, _⟩ := h
    rfl
  · obtain ⟨L, cs, rfl, hL, hc, q⟩ := h
    obtain ⟨tl, hmo⟩ := T.C.most
    have hle := hc.le
    refine ⟨_, pss_cons (ps_if (PW.pt (pw_or (pt_not (pt_val (pe_callB call_isi (by rfl) B.isi boot_isinstance (pa_cons (pv 0) (pa_cons (pe_bltn (v := .ty "list") (by rfl) B.list boot_list rfl) pa_nil)))))
        (pw_or1 (pt_cmpR op_gt (pe_callB call_len_seq (by rfl) B.len PySem.boot_len (pa_cons (pv 0) pa_nil)) (pe_glob (v := .int 8) (by rfl) hmo ⟨_, rfl⟩) (nomark _))))) (pss_one (ps_ret pe_bl)) pss_nil)
      (pss_one (ps_ret (pe_and (pe_callB (cr_all rfl) (by rfl) B.all boot_all (pa_cons (pe_lc (own := [("name", 1)]) (g := gName 1) (tt := tYes) (te := tCall sp_is_name [] E0 (tCons (tVar 1) tNil)) rfl sc_are.nd (pi_list (pv 0))
            (blkOk_by (N := ["thing", "name"]) (sc := defScope s_are) (by decide +kernel)) (fun _ _ _ _ _ => pg_name (i := 1) sc_are.nd rfl (Or.inl rfl)) (fun _ _ _ _ _ => pts_nil)
            (fun _ _ _ _ _ => pe_call GN hr rfl T.isn.g T.isn.F.kp T.isn.b .nil pass0 (pa_cons (pv 1) pa_nil))) pa_nil))
        (pe_one (pe_cmpR op_eq (pe_lenU rfl (by rfl) B.len (by rfl) Z.set (pv 0)) (pe_callB call_len_seq (by rfl) B.len PySem.boot_len (pa_cons (pv 0) pa_nil)) (nomark _)))))), ?_⟩
    refine ⟨_, rfl, _, _, _, _, true, rfl, .ty _, .base (.lst hL), kit_ty (by decide +kernel), _, rfl, ?_⟩
    refine ⟨_, rfl, L, _, rfl, .inl (.of hL), _, _, rfl, rfl, _, rfl, ite2 (fun hf => ?_) (fun _ => ?_)⟩
    · exfalso
      have := of_decide_eq_true hf
      rw [List.length_map] at this
      omega
    dsimp only [tNext, tRet, tAndV, tCB, tCons, List.map]
    refine lc_all (K := K) (s := [some (.ref L), none]) (ti := tVar 0) (i := 1) (tt := tYes) (te := tCall sp_is_name [] E0 (tCons (tVar 1) tNil)) (l := L) (xs := cs.map V.str) (g := fun _ => V.bl true) (p := fun _ => true) ⟨_, rfl, rfl, same_rfl⟩ mono_var (.of hL) (by rw [List.length_map]; omega) (fun v hv h5 s5 => et_yes) ?_ ?_
    · intro v hv _ h8 s8 h9 s9 Q6 q6
      obtain ⟨n, hn, rfl⟩ := List.mem_map.mp hv
      exact ⟨_, rfl, n, rfl, hc.ok n hn, fun h10 s10 => q6 h10 s10⟩
    · intro La h8 s8 nLa eLa
      refine ⟨La, cs.map fun _ => true, rfl, .of (by rw [eLa, filter_yes, List.map_map, List.map_map]; rfl), ?_⟩
      have : (cs.map fun _ => true).all id = true := by simp
      rw [this]
      refine ⟨true, rfl, ?_⟩
      refine ⟨_, rfl, L, cs, rfl, .of (s8 _ _ hL), hc.nd, by omega, _, rfl, L, _, rfl, .inl (.of (s8 _ _ hL)), rfl, ?_⟩
      rw [decide_eq_true (show V.int (cs.length : Int) = V.int ((cs.map V.str).length : Int) by rw [List.length_map])]
      exact q h8 s8
theorem sc_cc : FnScope ["columns"] ["columns"] (defScope s_cc) := ⟨rfl, rfl, rfl, by decide +kernel, rfl, by decide +kernel, by decide +kernel⟩
def sp_cc : Sp := fun vs H Q _ => ∃ (L : Addr) (cs : List Str), vs = [.ref L] ∧ H L = some (.lst (cs.map V.str)) ∧ Cs cs ∧ ∀ H', Same H H' → Q .non H'
theorem ok_cc (T : Kd K mg fN fC fP fT fO dN dC dP dT dO) (Z : Bd K mg fA fK fS dA dK dS) : FnOk P w K mg base CX0 3 fK dK ["columns"] sp_cc := by
  have GA : FnOk P w K mg base CX0 2 fA dA ["thing"] sp_are := ok_are T Z
  refine Z.chk.F.ok sc_cc (fun vs H Q E h => ?_) (fun cdv A outer s H vs Q E hr h => ?_)
  · obtain ⟨L, cs, rfl, _⟩ := h
    rfl
  · obtain ⟨L, cs, rfl, hL, hc, q⟩ := h
    refine ⟨_, pss_one (ps_if (pt_not (pt_val (pe_call GA hr rfl Z.are.g Z.are.F.kp Z.are.b .nil pass0 (pa_cons (pv 0) pa_nil)))) (pss_one ps_never) pss_nil), ?_⟩
    exact ⟨_, rfl, L, cs, rfl, hL, hc, fun H1 s1 => ⟨true, rfl, q H1 s1⟩⟩
theorem sc_sorted : FnScope ["rows", "many", "at", "row"] ["rows", "many"] (defScope s_sorted) := ⟨rfl, rfl, rfl, by decide +kernel, rfl, by decide +kernel, by decide +kernel⟩
def sp_sorted : Sp := fun vs H Q _ => ∃ v : V, vs = [.non, v] ∧ ∀ p, H p = none → Q (.ref p) (upd H p (.lst []))
theorem ok_sorted (Z : Bd K mg fA fK fS dA dK dS) : FnOk P w K mg base CX0 1 fS dS ["rows", "many"] sp_sorted := by
  refine Z.srt.F.ok sc_sorted (fun vs H Q E h => ?_) (fun cdv A outer s H vs Q E hr h => ?_)
  · obtain ⟨v, rfl, _⟩ := h
    rfl
  · obtain ⟨v, rfl, q⟩ := h
    refine ⟨_, pss_cons (ps_if (pt_cmp (pc_isN (pv 0))) (pss_one (ps_ret (pe_lst pa_nil))) pss_nil) (pss_cons ps_never (pss_cons ps_never (pss_one ps_never))), ?_⟩
    exact ⟨_, rfl, _, rfl, by decide, fun p np => q p np⟩
theorem sc_binit : FnScope ["self", "columns", "rows"] ["self", "columns", "rows"] (defScope s_binit) := ⟨rfl, rfl, rfl, by decide +kernel, rfl, by decide +kernel, by decide +kernel⟩
def sp_binit (C : Addr) : Sp := fun vs H Q _ => ∃ (p L dx : Addr) (cs : List Str), vs = [.ref p, .ref L, .non] ∧ H p = some (.ins C dx []) ∧ H L = some (.lst (cs.map V.str)) ∧ Cs cs ∧
  ∀ H', (∃ dx l r, H' p = some (.ins C dx (bflds l r)) ∧ H' l = some (.lst (cs.map V.str)) ∧ H l = none) → (∀ b o, b ≠ p → H b = some o → H' b = some o) → Q .non H'
theorem ok_binit {C fi : Addr} {di : FuncData} (F : FunD K "__init__" "Table.__init__" (defArgs s_binit) (defBody s_binit) (defScope s_binit) [.non] [] fi di) (T : Kd K mg fN fC fP fT fO dN dC dP dT dO) (Z : Bd K mg fA fK fS dA dK dS) (c : Bc K mg C) :
    FnOk P w K mg base CX0 4 fi di ["self", "columns", "rows"] (sp_binit C) := by
  have B := T.B
  have GK : FnOk P w K mg base CX0 3 fK dK ["columns"] sp_cc := ok_cc T Z
  have GS : FnOk P w K mg base CX0 1 fS dS ["rows", "many"] sp_sorted := ok_sorted Z
  refine F.ok sc_binit (fun vs H Q E h => ?_) (fun cdv A outer s H vs Q E hr h => ?_)
  · obtain ⟨p, L, dx, cs, rfl, _⟩ := h
    rfl
  · obtain ⟨p, L, dx, cs, rfl, hp, hL, hc, q⟩ := h
    have r1 : Room 1 _ := hr.mono (by decide)
    refine ⟨_, pss_cons (ps_expr (pe_call GK hr rfl Z.chk.g Z.chk.F.kp Z.chk.b .nil pass0 (pa_cons (pv 1) pa_nil)))
      (pss_cons (ps_fld (pv 0) (pe_callTy call_list_of (by rfl) B.list boot_list (pa_cons (pv 1) pa_nil)) rfl)
      (pss_one (ps_fld (pv 0) (pe_call GS r1 rfl Z.srt.g Z.srt.F.kp Z.srt.b .nil pass0 (pa_cons (pv 2) (pa_cons (pe_callB call_len_seq (by rfl) B.len PySem.boot_len (pa_cons (pv 1) pa_nil)) pa_nil))) rfl))), ?_⟩
    refine ⟨_, rfl, L, cs, rfl, hL, hc, fun H1 s1 => ?_⟩
    refine ⟨_, rfl, L, _, rfl, .inl (.of (s1 _ _ hL)), fun l nl => ?_⟩
    have hp1 := s1 _ _ hp
    have pl : p ≠ l := ne_of_none hp1 nl
    have hL1 := s1 _ _ hL
    have pL : L ≠ p := fun z => by rw [z, hp1] at hL1; cases hL1
    refine ⟨_, rfl, p, C, dx, [], rfl, by rw [upd_ne pl]; exact hp1, c.cl, c.nC, by show 0 < 1000; decide, ?_⟩
    refine ⟨_, rfl, _, rfl, L, _, rfl, .inl (.of (by rw [upd_ne pL, upd_ne (ne_of_none hL1 nl)]; exact hL1)), _, rfl, fun r nr => ?_⟩
    have hpr : p ≠ r := fun z => by rw [← z, upd_same] at nr; cases nr
    have hlr : l ≠ r := fun z => by rw [← z, upd_ne pl.symm, upd_same] at nr; cases nr
    refine ⟨_, rfl, p, C, dx, _, rfl, by rw [upd_ne hpr, upd_same], c.cl, c.nR, by show 1 < 1000; decide, ?_⟩
    refine q _ ⟨dx, l, r, upd_same, ?_, s1.free nl⟩ fun b o hb e => ?_
    · rw [upd_ne pl.symm, upd_ne hlr, upd_ne pl.symm, upd_same]
    · have e1 := s1 _ _ e
      have nr' : H1 r = none := by
        rw [upd_ne hpr.symm, upd_ne hlr.symm] at nr
        exact nr
      rw [upd_ne hb, upd_ne (ne_of_none e1 nr'), upd_ne hb, upd_ne (ne_of_none e1 nl)]
      exact e1
theorem sc_bcolumns : FnScope ["self"] ["self"] (defScope s_bcolumns) := ⟨rfl, rfl, rfl, by decide +kernel, rfl, by decide +kernel, by decide +kernel⟩
def sp_bcolumns (C : Addr) : Sp := fun vs H Q _ => ∃ (p : Addr) (cs : List Str), vs = [.ref p] ∧ TabAt C H p cs ∧ ∀ H' L, Same H H' → H L = none → H' L = some (.lst (cs.map V.str)) → Q (.ref L) H'
theorem ok_bcolumns {C f : Addr} {fd : FuncData} (F : Fun K "columns" "Table.columns" s_bcolumns f fd) (B : Bn mg) (c : Bc K mg C) : FnOk P w K mg base CX0 1 f fd ["self"] (sp_bcolumns C) := by
  refine F.ok sc_bcolumns (fun vs H Q E h => ?_) (fun cdv A outer s H vs Q E hr h => ?_)
  · obtain ⟨p, cs, rfl, _⟩ := h
    rfl
  · obtain ⟨p, cs, rfl, ⟨dx, l, r, h1, h2⟩, q⟩ := h
    refine ⟨_, pss_one (ps_ret (pe_callTy call_list_of (by rfl) B.list boot_list (pa_cons (pe_fld (pv 0) rfl) pa_nil))), ?_⟩
    exact ⟨_, rfl, p, C, dx, _, _, rfl, h1, c.cl, c.nC, bflds_col _ _, l, _, rfl, .inl (.of h2), fun L nL => q _ L (Same.new nL) nL upd_same⟩
end
end T33T

set_option maxHeartbeats 2000000
namespace T33T
open PySem L2 PyProof.Rows TX TY TU
/-- an own class over ValueError, read off the written part -/
def oexB (K : PySem.W.Frag) (C : Addr) : Bool := match K.lookup C with
  | some ⟨.type "type", _, .cls cd, sl⟩ => (match cd.mro, sl.toList with
    | .ref D :: bm, [_, _, _, _, some (.builtin n), _] => D == C && (n == "ValueError.__new__" && (!cd.hasDel && (cd.hasDict && PySem.HandSPX.refsVE bm)))
    | _, _ => false)
  | _ => false
theorem oexB_ok {K : PySem.W.Frag} {C : Addr} (q : oexB K C = true) : ∃ nm q N bs bm sn sub ab col dd k0 k1 k2 k3 k5, K.lookup C = some (excClassObj nm q C N bs bm true sn sub ab col dd k0 k1 k2 k3 k5 "ValueError.__new__") ∧ PySem.HandSPX.refsVE bm = true := by
  unfold oexB at q
  split at q
  · rename_i dd cd sl ho
    split at q
    · rename_i D bm k0 k1 k2 k3 n k5 hm hs
      simp only [Bool.and_eq_true, beq_iff_eq, Bool.not_eq_true'] at q
      obtain ⟨rfl, rfl, hdel, hdict, ht⟩ := q
      obtain ⟨nm, bs, mro, ns, qn, hd, sn, sub, ab, col, del⟩ := cd
      dsimp only at hm hdel hdict
      subst hm hdel hdict
      have hsl : sl = #[k0, k1, k2, k3, some (.builtin "ValueError.__new__"), k5] := by
        obtain ⟨l⟩ := sl
        simp only at hs
        rw [hs]
      subst hsl
      exact ⟨nm, qn, ns, bs, bm, sn, sub, ab, col, dd, k0, k1, k2, k3, k5, ho, ht⟩
    · cases q
  · cases q
/-- the first name that the tree hasn't -/
def miss (f : TM.Fo) (cs : List Str) : Option Str := cs.find? fun x => !decide (x ∈ TM.names f)
/-- x above y -/
def upF (f : TM.Fo) (x y : Str) : Bool := match TM.loc f y with
  | some (a, _) => decide (x ∈ a)
  | none => false
def aptF (f : TM.Fo) (x y : Str) : Bool := !upF f x y && !upF f y x
/-- the first two of which neither is above the other -/
def apart (f : TM.Fo) : List Str → Option (Str × Str)
  | [] => none
  | x :: r => match r.find? (aptF f x) with
    | some y => some (x, y)
    | none => apart f r
section
variable {P : Program} {w : World} {K : PySem.W.Frag} {mg : Str → Option Value} {base : Heap}
/-- the class that is raised, with its own field -/
structure Nt (K : PySem.W.Frag) (mg : Str → Option Value) (Ct fi : Addr) (di : FuncData) : Prop where
  T : OexC K Ct
  i : PySem.W.findIn K (.ref Ct) "__init__" = some (some (.ref fi))
  t : PySem.W.typeIn K (.ref fi) = some (.type "function")
  F : Fun K "__init__" "NoColumn.__init__" s_nocol fi di
  b : Binds K di ["self", "name"] []
  g : mg "NoColumn" = some (.ref Ct)
  no : PySem.W.findIn K (.ref Ct) "name" = some none
theorem sc_nocol : FnScope ["self", "name"] ["self", "name"] (defScope s_nocol) := ⟨rfl, rfl, rfl, by decide +kernel, rfl, by decide +kernel, by decide +kernel⟩
def sp_nocol (C : Addr) : Sp := fun vs H Q _ => ∃ (a : Addr) (v : V), vs = [.ref a, v] ∧ H a = some (exo a C none) ∧ ∀ dx, H dx = none → dx ≠ a → Q .non (upd (upd H dx (exd dx [("name", v)])) a (exo a C (some dx)))
theorem ok_nocol {Ct fi : Addr} {di : FuncData} (N : Nt K mg Ct fi di) : FnOk P w K mg base CX0 1 fi di ["self", "name"] (sp_nocol Ct) := by
  refine N.F.ok sc_nocol (fun vs H Q E h => ?_) (fun cdv A outer s H vs Q E hr h => ?_)
  · obtain ⟨a, v, rfl, _⟩ := h
    rfl
  · obtain ⟨a, v, rfl, ha, q⟩ := h
    refine ⟨_, pss_one (ps_ost (pv 0) (pv 1)), ?_⟩
    refine ⟨_, rfl, _, rfl, a, Ct, rfl, N.T, N.no, .inl ⟨ha, fun dx h1 h2 => q dx h1 h2⟩⟩
/-- raise NoColumn(v) -/
theorem rd_nocol {C : Addr} {H : Hp} {v : V} {Q : XK} (q : ∀ H' d, Same H H' → H' d = some (.xd [("name", v)]) → Q (.ref C) (some d) H') : ∀ a, H a = none → sp_nocol C [.ref a, v] (upd H a (exo a C none))
    (fun u H2 => u = .non ∧ ∃ (d : Addr) (fs : List (Str × V)), H2 a = some (exo a C (some d)) ∧ H2 d = some (exd d fs) ∧ H d = none ∧ Q (.ref C) (some d) (upd (del H2 a) d (.xd fs))) (fun _ _ _ => False) := by
  intro a na
  refine ⟨a, v, rfl, upd_same, fun dx nx hne => ⟨rfl, dx, [("name", v)], upd_same, by rw [upd_ne hne, upd_same], ?_, ?_⟩⟩
  · rw [upd_ne hne] at nx
    exact nx
  · rw [upd_ne hne] at nx
    refine q _ dx (fun b o e => ?_) upd_same
    have hb1 : b ≠ dx := ne_of_none e nx
    have hb2 : b ≠ a := ne_of_none e na
    rw [upd_ne hb1, del_ne hb2, upd_ne hb2, upd_ne hb1, upd_ne hb2]
    exact e
variable {fN fC fP fT fO : Addr} {dN dC dP dT dO : FuncData}
variable {C Cb Cl fl fcol fb fi fc fa : Addr} {dl dcol db di dc da : FuncData}
theorem sc_chk : FnScope ["tree", "table", "columns", "column"] ["tree", "table"] (defScope s_chk) := ⟨rfl, rfl, rfl, by decide +kernel, rfl, by decide +kernel, by decide +kernel⟩
def sp_chk (C Cb Cl : Addr) : Sp := fun vs H Q E => ∃ (t b : Addr) (f : TM.Fo) (cs : List Str), vs = [.ref t, .ref b] ∧ TreeAt C H t f ∧ TabAt Cb H b cs ∧ (∀ x, miss f cs = some x → ∀ H' d, Same H H' → H' d = some (.xd [("name", .str x)]) → E (.ref Cl) (some d) H') ∧
  (miss f cs = none → ∀ H', Same H H' → Q .non H')
theorem ok_chk {f : Addr} {fd : FuncData} (F : Fn K mg "_check_columns_in" s_chk ["tree", "table"] f fd) (T : Kd K mg fN fC fP fT fO dN dC dP dT dO) (c : Tc K mg C) (cb : Bc K mg Cb) (N : Nt K mg Cl fl dl)
    (MC : Mt K C "columns" "Tree.columns" s_tcolumns ["self"] fcol dcol) (MB : Mt K Cb "columns" "Table.columns" s_bcolumns ["self"] fb db) : FnOk P w K mg base (L2.CX P w) 3 f fd ["tree", "table"] (sp_chk C Cb Cl) := by
  have B := T.B
  have GN : FnOk P w K mg base CX0 1 fl dl ["self", "name"] (sp_nocol Cl) := ok_nocol N
  have GC : FnOk P w K mg base CX0 1 fcol dcol ["self"] (sp_tcolumns C) := ok_tcolumns MC.F B c
  have GB : FnOk P w K mg base CX0 1 fb db ["self"] (sp_bcolumns Cb) := ok_bcolumns MB.F B cb
  refine F.F.okX sc_chk (fun vs H Q E h => ?_) (fun cdv A outer s H vs Q E hr h => ?_)
  · obtain ⟨t, b, f, cs, rfl, _⟩ := h
    rfl
  · obtain ⟨t, b, f, cs, rfl, ht, hb, qE, qQ⟩ := h
    have r1 : Room 1 _ := hr.mono (by decide)
    have nd := sc_chk.nd
    refine ⟨_, pss_cons (ps_set (i := 2) nd rfl (Or.inl rfl) (pe_meth0 (pv 0) c.cl MC.me GC r1 MC.b .nil pass0))
      (pss_one (ps_for (passes_of rfl) rfl (pi_list (pe_meth0 (pv 1) cb.cl MB.me GB r1 MB.b .nil pass0)) (pg_name (i := 3) nd rfl (Or.inl rfl))
        (pss_one (ps_if (pt_cmpR op_notIn_seq (pv 3) (pv 2) rfl) (pss_one (ps_raise rfl (takes_of rfl rfl rfl rfl) (pmk_oex N.T N.i N.t GN hr N.b .nil pass0 rfl N.g (pa_cons (pv 3) pa_nil)))) pss_nil)))), ?_⟩
    obtain ⟨dx, l, d, h1, h2, h3⟩ := id ht
    obtain ⟨dy, l', r', h4, h5⟩ := id hb
    refine ⟨_, rfl, t, dx, _, rfl, h1, tflds_no _ _ (by decide +kernel) (by decide +kernel), t, f, rfl, ht, fun H1 L1 s1 n1 e1 => ?_⟩
    refine ⟨_, rfl, b, dy, _, rfl, s1 _ _ h4, bflds_no _ _ (by decide +kernel) (by decide +kernel), b, cs, rfl, hb.same s1, fun H2 L2 s2 n2 e2 => ?_⟩
    refine ⟨L2, rfl, ⟨_, .of e2⟩, ?_⟩
    have t2 := s1.trans s2
    refine for_it (walk_list (xs := cs.map V.str)) (fun i σ h => ∃ v3 : Option V, σ = [some (.ref t), some (.ref b), some (.ref L1), v3] ∧ miss f cs = miss f (cs.drop i) ∧ Same H2 h)
      ⟨none, rfl, rfl, same_rfl⟩ (fun i σ h _ ⟨_, _, _, s⟩ => .of (s _ _ e2)) ?_ ?_
    · rintro i v σ h h' hi ⟨v3, rfl, hm, s3⟩ ⟨rfl, hv⟩
      rw [List.length_map] at hi
      rw [List.getElem?_map, List.getElem?_eq_getElem hi] at hv
      have hv' : v = V.str cs[i] := (Option.some.inj hv).symm
      subst hv'
      have t3 := t2.trans s3
      rw [List.drop_eq_getElem_cons hi] at hm
      refine ⟨_, rfl, _, rfl, L1, _, rfl, .inl (.of (s3 _ _ (s2 _ _ e1))), rfl, TX.flat_strs _, _, rfl, ?_⟩
      rw [show (if true = true then !inV (V.str cs[i]) ((TM.names f).map V.str) else inV (V.str cs[i]) ((TM.names f).map V.str)) = !inV (V.str cs[i]) ((TM.names f).map V.str) from rfl, inV_str]
      unfold miss at hm
      rw [List.find?_cons] at hm
      cases hd : decide (cs[i] ∈ TM.names f) with
      | false =>
        rw [hd] at hm
        refine ⟨_, rfl, by show 1 ≤ 1000; decide, ?_⟩
        exact rd_nocol fun H' dd s' e => qE _ hm H' dd (t3.trans s') e
      | true =>
        rw [hd] at hm
        exact ⟨_, rfl, hm, s3⟩
    · rintro σ h ⟨v3, rfl, hm, s3⟩
      rw [List.length_map, List.drop_length] at hm
      exact qQ hm h (t2.trans s3)
abbrev N_apart : List Str := ["tree", "columns", "at", "one", "other"]
theorem sc_apart : FnScope N_apart ["tree", "columns"] (defScope s_apart) := ⟨rfl, rfl, rfl, by decide +kernel, rfl, by decide +kernel, by decide +kernel⟩
def optP : Option (Str × Str) → V → Hp → Prop
  | none, v, _ => v = .non
  | some (x, y), v, H => ∃ T, v = .ref T ∧ H T = some (.tup [.str x, .str y])
def sp_apart (C : Addr) : Sp := fun vs H Q _ => ∃ (t L : Addr) (f : TM.Fo) (cs : List Str), vs = [.ref t, .ref L] ∧ TreeAt C H t f ∧ FoOk f ∧ H L = some (.lst (cs.map V.str)) ∧ cs.length ≤ 8 ∧ (∀ x ∈ cs, x ∈ TM.names f) ∧ ∀ H' v, Same H H' → optP (apart f cs) v H' → Q v H'
theorem ok_apart {f : Addr} {fd : FuncData} (F : Fn K mg "_first_apart" s_apart ["tree", "columns"] f fd) (T : Kd K mg fN fC fP fT fO dN dC dP dT dO) (c : Tc K mg C)
    (MK : Mt K C "check_column" "Tree.check_column" s_tcheck ["self", "column"] fc dc) (MA : Mt K C "above" "Tree.above" s_tabove ["self", "column"] fa da) (MI : Mt K C "is_above" "Tree.is_above" s_tisabove ["self", "one", "other"] fi di) :
    FnOk P w K mg base CX0 6 f fd ["tree", "columns"] (sp_apart C) := by
  have B := T.B
  have GI : FnOk P w K mg base CX0 5 fi di ["self", "one", "other"] (sp_tisabove C) := ok_tisabove MI.F MK MA T c
  refine F.F.ok sc_apart (fun vs H Q E h => ?_) (fun cdv A outer s H vs Q E hr h => ?_)
  · obtain ⟨t, L, f, cs, rfl, _⟩ := h
    rfl
  · obtain ⟨t, L, f, cs, rfl, ht, ok, hL, l8, hin, q⟩ := h
    have nd := sc_apart.nd
    refine ⟨_, pss_cons (ps_for PassesOwn.never rfl (pi_enum rfl B.enum (pa_cons (pv 1) pa_nil)) (pg_tup rfl (pgs_cons (pg_name (i := 2) nd rfl (Or.inl rfl)) (pgs_cons (pg_name (i := 3) nd rfl (Or.inl rfl)) pgs_nil)))
        (pss_one (ps_for PassesOwn.never rfl (pi_list (pe_slice sl_list (pv 1) (po_some (pe_op op_add (pv 2) pe_int)) po_none)) (pg_name (i := 4) nd rfl (Or.inl rfl))
          (pss_one (ps_if (PW.pt (pw_and (pt_not (pt_val (pe_meth (pv 0) c.cl MI.me GI hr MI.b .nil pass0 (pa_cons (pv 3) (pa_cons (pv 4) pa_nil)))))
              (pw_and1 (pt_not (pt_val (pe_meth (pv 0) c.cl MI.me GI hr MI.b .nil pass0 (pa_cons (pv 4) (pa_cons (pv 3) pa_nil)))))))) (pss_one (ps_ret (pe_tup (pa_cons (pv 3) (pa_cons (pv 4) pa_nil))))) pss_nil)))))
      (pss_one (ps_ret pe_non)), ?_⟩
    obtain ⟨dx, l, d, h1, h2, h3⟩ := id ht
    have noi : ∀ l d, (tflds l d).lookup ("is_above" : Str) = none := fun l d => tflds_no l d (by decide +kernel) (by decide +kernel)
    refine ⟨_, rfl, L, cs.map V.str, rfl, .of hL, ?_⟩
    refine for_it (walk_enum (xs := cs.map V.str)) (fun i σ h => ∃ v2 v3 v4 : Option V, σ = [some (.ref t), some (.ref L), v2, v3, v4] ∧ apart f cs = apart f (cs.drop i) ∧ Same H h)
      ⟨none, none, none, rfl, rfl, same_rfl⟩ (fun i σ h _ ⟨_, _, _, _, _, s⟩ => .of (s _ _ hL)) ?_ ?_
    · rintro i x σ h h' hi ⟨v2, v3, v4, rfl, hap, s1⟩ ⟨T', x1, x2, rfl, nT, rfl, hx1, hx2⟩
      rw [List.length_map] at hi
      obtain rfl : V.int (i : Int) = x1 := Option.some.inj hx1
      have hv : (cs.map V.str)[i]? = some x2 := hx2
      rw [List.getElem?_map, List.getElem?_eq_getElem hi] at hv
      have hv' : x2 = V.str cs[i] := (Option.some.inj hv).symm
      subst hv'
      rw [List.drop_eq_getElem_cons hi] at hap
      have sT : Same H (upd h T' (.tup [.int (i : Int), .str cs[i]])) := s1.trans (Same.new nT)
      refine ⟨T', _, rfl, .of upd_same, rfl, _, _, rfl, _, _, rfl, rfl, ?_⟩
      generalize upd h T' (.tup [.int (i : Int), .str cs[i]]) = h2 at sT ⊢
      refine ⟨_, rfl, _, rfl, _, _, rfl, rfl, _, rfl, L, _, rfl, .of (sT _ _ hL), fun p np => ?_⟩
      have ecut : cutV (cs.map V.str) (some ((i : Int) + 1)) none = (cs.drop (i + 1)).map V.str := by
        unfold cutV
        rw [show some ((i : Int) + 1) = some ((i + 1 : Nat) : Int) by simp, HT.sIx_nat, HT.sIx_none, List.length_map, Nat.min_eq_left (by omega), ← List.map_drop]
        rw [List.take_of_length_le (by rw [List.length_map, List.length_drop]; omega)]
      have ep : upd h2 p (.lst (cutV (cs.map V.str) (some ((i : Int) + 1)) none)) p = some (.lst ((cs.drop (i + 1)).map V.str)) := by rw [upd_same, ecut]
      have sp : Same H (upd h2 p (.lst (cutV (cs.map V.str) (some ((i : Int) + 1)) none))) := sT.trans (Same.new np)
      generalize upd h2 p (.lst (cutV (cs.map V.str) (some ((i : Int) + 1)) none)) = h3 at ep sp ⊢
      refine ⟨p, rfl, ⟨_, .of ep⟩, ?_⟩
      refine for_it (walk_list (xs := (cs.drop (i + 1)).map V.str)) (fun j σ h => ∃ v4 : Option V, σ = [some (.ref t), some (.ref L), some (.int (i : Int)), some (.str cs[i]), v4] ∧ (cs.drop (i + 1)).find? (aptF f cs[i]) = ((cs.drop (i + 1)).drop j).find? (aptF f cs[i]) ∧ Same h3 h)
        ⟨v4, rfl, rfl, same_rfl⟩ (fun j σ h _ ⟨_, _, _, s⟩ => .of (s _ _ ep)) ?_ ?_
      · rintro j v σ h4 h4' hj ⟨v4', rfl, hf, s4⟩ ⟨rfl, hv⟩
        rw [List.length_map] at hj
        rw [List.getElem?_map, List.getElem?_eq_getElem hj] at hv
        obtain ⟨y, hy⟩ : ∃ y, y = (cs.drop (i + 1))[j] := ⟨_, rfl⟩
        have hv' : v = V.str y := by rw [hy]; exact (Option.some.inj hv).symm
        subst hv'
        have hym : y ∈ cs := List.mem_of_mem_drop (hy ▸ List.getElem_mem hj)
        have hxm : cs[i] ∈ cs := List.getElem_mem hi
        obtain ⟨ax, kx, hlx⟩ := TM.loc_names (hin _ hxm)
        obtain ⟨ay, ky, hly⟩ := TM.loc_names (hin _ hym)
        have t4 := sp.trans s4
        rw [List.drop_eq_getElem_cons hj, List.find?_cons, ← hy] at hf
        refine ⟨_, rfl, t, dx, _, rfl, t4 _ _ h1, noi _ _, _, rfl, _, rfl, t, f, cs[i], y, ay, ky, rfl, ht.same t4, ok, hin _ hxm, hly, fun h5 s5 => ⟨_, rfl, ?_⟩⟩
        have e1 : upF f cs[i] y = decide (cs[i] ∈ ay) := by unfold upF; rw [hly]
        have e2 : upF f y cs[i] = decide (y ∈ ax) := by unfold upF; rw [hlx]
        have t5 := t4.trans s5
        cases hu : decide (cs[i] ∈ ay) with
        | true =>
          have e3 : aptF f cs[i] y = false := by unfold aptF; rw [e1, hu]; rfl
          rw [e3] at hf
          exact ⟨_, rfl, hf, s4.trans s5⟩
        | false =>
          refine ⟨_, rfl, t, dx, _, rfl, t5 _ _ h1, noi _ _, _, rfl, _, rfl, t, f, y, cs[i], ax, kx, rfl, ht.same t5, ok, hin _ hym, hlx, fun h6 s6 => ⟨_, rfl, ?_⟩⟩
          cases hu2 : decide (y ∈ ax) with
          | true =>
            have e3 : aptF f cs[i] y = false := by unfold aptF; rw [e1, e2, hu, hu2]; rfl
            rw [e3] at hf
            exact ⟨_, rfl, hf, (s4.trans s5).trans s6⟩
          | false =>
            have e3 : aptF f cs[i] y = true := by unfold aptF; rw [e1, e2, hu, hu2]; rfl
            rw [e3] at hf
            refine ⟨_, rfl, _, rfl, two_le, fun T2 nT2 => ?_⟩
            refine q _ _ ((t5.trans s6).trans (Same.new nT2)) ?_
            have e4 : apart f cs = some (cs[i], y) := by
              rw [hap]
              show (match (cs.drop (i + 1)).find? (aptF f cs[i]) with | some y => some (cs[i], y) | none => apart f (cs.drop (i + 1))) = _
              rw [hf]
            rw [e4]
            exact ⟨T2, rfl, upd_same⟩
      · rintro σ h4 ⟨v4', rfl, hf, s4⟩
        rw [List.length_map, List.drop_length] at hf
        refine ⟨_, _, _, rfl, ?_, sp.trans s4⟩
        rw [hap]
        show (match (cs.drop (i + 1)).find? (aptF f cs[i]) with | some y => some (cs[i], y) | none => apart f (cs.drop (i + 1))) = _
        rw [hf]
        rfl
    · rintro σ h ⟨v2, v3, v4, rfl, hap, s1⟩
      rw [List.length_map, List.drop_length] at hap
      refine q h _ s1 ?_
      rw [hap]
      exact rfl
end
end T33T

set_option maxHeartbeats 8000000
namespace T33
open PySem L2 PyProof.Rows TX TY TW TD TB TG TUD TE TK TNN
theorem pr_perm {α β : Type} {R : α → β → Prop} {as as' : List α} {bs : List β} (h : Paired R as bs) (p : as'.Perm as) : ∃ bs', bs'.Perm bs ∧ Paired R as' bs' := by
  induction p generalizing bs with
  | nil => cases h; exact ⟨[], .nil, .nil⟩
  | cons x _ ih =>
    cases h with
    | cons r t =>
      obtain ⟨bs', a, b⟩ := ih t
      exact ⟨_ :: bs', a.cons _, .cons r b⟩
  | swap x y l =>
    cases h with
    | cons r t =>
      cases t with
      | cons r2 t2 => exact ⟨_, List.Perm.swap _ _ _, .cons r2 (.cons r t2)⟩
  | trans _ _ i1 i2 =>
    obtain ⟨b2, p2, h2⟩ := i2 h
    obtain ⟨b1, p1, h1⟩ := i1 h2
    exact ⟨b1, p1.trans p2, h1⟩
theorem pr_mapL {α β : Type} (f : β → α) : ∀ l : List β, Paired (fun v x => v = f x) (l.map f) l
  | [] => .nil
  | _ :: l => .cons rfl (pr_mapL f l)
theorem pr_eq {α β : Type} {f : β → α} {as : List α} {bs : List β} (h : Paired (fun v x => v = f x) as bs) : as = bs.map f := by
  induction h with
  | nil => rfl
  | cons e _ ih => rw [e, ih]; rfl
theorem perm_of_map {α β : Type} {f : β → α} {ys : List α} {l : List β} (p : ys.Perm (l.map f)) : ∃ l' : List β, l'.Perm l ∧ ys = l'.map f := by
  obtain ⟨bs, a, b⟩ := pr_perm (pr_mapL f l) p
  exact ⟨bs, a, pr_eq b⟩
theorem sub_len : ∀ {l m : List Str}, l.Nodup → (∀ x ∈ l, x ∈ m) → l.length ≤ m.length := by
  intro l
  induction l with
  | nil => intro m _ _; exact Nat.zero_le _
  | cons a l ih =>
    intro m n s
    have ha := s a List.mem_cons_self
    rw [List.nodup_cons] at n
    have := ih (m := m.erase a) n.2 fun x hx => (List.mem_erase_of_ne (show x ≠ a from fun e => n.1 (by rw [← e]; exact hx))).mpr (s x (List.mem_cons_of_mem _ hx))
    rw [List.length_erase_of_mem ha] at this
    have : 0 < m.length := List.length_pos_of_mem ha
    rw [List.length_cons]
    omega
theorem sq_asg {te : TE} {g : TG} {B : TS} {D : Ends} {s : L2.St} {H : Hp} (h : te s H fun x H1 => g x s H1 (B D)) : tSeq (tAsg te g) B D s H := h
abbrev LTab := List Str × List (List Int)
theorem well_refs {H : Hp} {W l : Addr} {as : List Addr} (w : ∃ n, WellAt n H W) (h : H l = some (.lst (as.map V.ref))) : l ≠ W := by
  obtain ⟨n, x, y, z, e, _⟩ := w
  rintro rfl
  rw [h] at e
  have e := Option.some.inj e
  injection e with e
  cases as with
  | nil => cases e
  | cons a as => cases e
/-! ### tables made: names and rows -/
/-- a tuple of names and rows -/
def MT (H : Hp) (t : Addr) (p : LTab) : Prop := ∃ s l as, H t = some (.tup [.ref s, .ref l]) ∧ H s = some (.lst (p.1.map V.str)) ∧ H l = some (.lst (as.map V.ref)) ∧ RowsAt H as p.2
theorem MT.same {H H' : Hp} {t : Addr} {p : LTab} (h : MT H t p) (k : Same H H') : MT H' t p := by
  obtain ⟨s, l, as, h1, h2, h3, h4⟩ := h
  exact ⟨s, l, as, k _ _ h1, k _ _ h2, k _ _ h3, h4.same k⟩
theorem MT.sm {W : Addr} {H H' : Hp} {t : Addr} {p : LTab} (h : MT H t p) (k : Sm W H H') (w : ∃ n, WellAt n H W) : MT H' t p := by
  obtain ⟨s, l, as, h1, h2, h3, h4⟩ := h
  exact ⟨s, l, as, tup_sm h1 k w, k _ _ (well_strs w h2) h2, k _ _ (well_refs w h3) h3, h4.sm k w⟩
abbrev MTs (H : Hp) : List Addr → List LTab → Prop := Paired (MT H)
theorem MTs.same {H H' : Hp} {ts : List Addr} {ps : List LTab} (h : MTs H ts ps) (k : Same H H') : MTs H' ts ps := Paired.mapP h fun _ _ x => x.same k
theorem MTs.sm {W : Addr} {H H' : Hp} {ts : List Addr} {ps : List LTab} (h : MTs H ts ps) (k : Sm W H H') (w : ∃ n, WellAt n H W) : MTs H' ts ps := Paired.mapP h fun _ _ x => x.sm k w
/-- the same, apart from a list -/
def MX (F : Addr) (H : Hp) (t : Addr) (p : LTab) : Prop := ∃ s l as, H t = some (.tup [.ref s, .ref l]) ∧ H s = some (.lst (p.1.map V.str)) ∧ H l = some (.lst (as.map V.ref)) ∧ RowsAt H as p.2 ∧ s ≠ F ∧ l ≠ F
theorem MX.mt {F : Addr} {H : Hp} {t : Addr} {p : LTab} (h : MX F H t p) : MT H t p := by
  obtain ⟨s, l, as, h1, h2, h3, h4, _⟩ := h
  exact ⟨s, l, as, h1, h2, h3, h4⟩
theorem MX.sm {F W : Addr} {H H' : Hp} {t : Addr} {p : LTab} (h : MX F H t p) (k : Sm W H H') (w : ∃ n, WellAt n H W) : MX F H' t p := by
  obtain ⟨s, l, as, h1, h2, h3, h4, h5⟩ := h
  exact ⟨s, l, as, tup_sm h1 k w, k _ _ (well_strs w h2) h2, k _ _ (well_refs w h3) h3, h4.sm k w, h5⟩
theorem MX.put {F : Addr} {H : Hp} {t : Addr} {p : LTab} {xs : List V} {o : HO} (h : MX F H t p) (e : H F = some (.lst xs)) : MX F (upd H F o) t p := by
  obtain ⟨s, l, as, h1, h2, h3, h4, h5, h6⟩ := h
  exact ⟨s, l, as, by rw [upd_ne (ne_of h1 e (by intro z; cases z))]; exact h1, by rw [upd_ne h5]; exact h2, by rw [upd_ne h6]; exact h3, RowsAt.put h4 e, h5, h6⟩
/-- one of two is above the other, or they are one -/
def Way (f : TM.Fo) (x y : Str) : Prop := x = y ∨ T33T.upF f x y = true ∨ T33T.upF f y x = true
theorem loc_split {f : TM.Fo} {low : Str} {ab : List Str} {kb : TM.Fo} (nd : (TM.names f).Nodup) (h : TM.loc f low = some (ab, kb)) {r b : List Str} {y : Str} (e : ab ++ [low] = r ++ y :: b) : ∃ q, TM.loc f y = some (r, q) := by
  rcases List.eq_nil_or_concat b with rfl | ⟨b', z, rfl⟩
  · have := List.append_inj' e rfl
    rw [← this.1, ← List.singleton_inj.mp this.2]
    exact ⟨kb, h⟩
  · have e2 : ab ++ [low] = (r ++ y :: b') ++ [z] := by rw [e, List.concat_eq_append]; simp
    obtain ⟨q1, hq, _⟩ := TM.loc_up nd h r b' y (List.append_inj' e2 rfl).1
    exact ⟨q1, hq⟩
theorem up_of {f : TM.Fo} {x y : Str} {r : List Str} {q : TM.Fo} (h : TM.loc f y = some (r, q)) (hx : x ∈ r) : T33T.upF f x y = true := by
  unfold T33T.upF
  rw [h]
  exact decide_eq_true hx
theorem way_of {f : TM.Fo} {low : Str} {ab : List Str} {kb : TM.Fo} (nd : (TM.names f).Nodup) (h : TM.loc f low = some (ab, kb)) : ∀ x ∈ ab ++ [low], ∀ y ∈ ab ++ [low], Way f x y := by
  intro x hx y hy
  obtain ⟨r, b, e⟩ := List.append_of_mem hy
  rw [e] at hx
  rcases List.mem_append.mp hx with hx | hx
  · obtain ⟨q, hq⟩ := loc_split nd h e
    exact .inr (.inl (up_of hq hx))
  · rcases List.mem_cons.mp hx with rfl | hx
    · exact .inl rfl
    · obtain ⟨b1, b2, e2⟩ := List.append_of_mem hx
      have e3 : ab ++ [low] = (r ++ y :: b1) ++ x :: b2 := by rw [e, e2]; simp
      obtain ⟨q, hq⟩ := loc_split nd h e3
      exact .inr (.inr (up_of hq (List.mem_append_right _ List.mem_cons_self)))
structure TOk (f : TM.Fo) (xs : List Int) (p : LTab) : Prop where
  nd : p.1.Nodup
  sub : ∀ x ∈ p.1, x ∈ TM.names f
  way : ∀ x ∈ p.1, ∀ y ∈ p.1, Way f x y
  rows : ∀ r ∈ p.2, r.length = p.1.length ∧ ∀ v ∈ r, v ∈ xs
  few : p.2.length ≤ 12
section
variable {P : Program} {w : World} {K : PySem.W.Frag} {mg : Str → Option Value} {base : Heap}
abbrev N_tables : List Str := ["_law_well_here", "_law_pairs_here", "_law_left", "_law_values_here", "_law_tables_here", "_law_low", "_law_names_here", "_law_rows_here", "_law_name", "_law_over", "_law_table"]
abbrev P_tables : List Str := ["_law_well_here", "_law_pairs_here"]
theorem sc_tables : FnScope N_tables P_tables (defScope s_tables) := ⟨rfl, rfl, rfl, by decide +kernel, rfl, by decide +kernel, by decide +kernel⟩
def sp_tables : Sp := fun vs H Q _ => ∃ (W L : Addr) (ps : List TM.Pr) (n : Nat), vs = [.ref W, .ref L] ∧ PairsAt H L ps ∧ L ≠ W ∧ TM.Valid [] ps ∧ ps.length ≤ 6 ∧ (∀ x ∈ ps.map Prod.fst, TM.NameOk x) ∧ WellAt (n + 2000) H W ∧
  ∀ (H' : Hp) (p : Addr) (ts : List Addr) (tabs : List LTab) (xs : List Int), Sm W H H' → WellAt n H' W → H p = none → p ≠ W → H' p = some (.lst (ts.map V.ref)) → MTs H' ts tabs → (∀ t ∈ tabs, TOk (TM.mk ps none) xs t) → xs.length ≤ 4 → xs.length ≤ 8 - ps.length → tabs.length ≤ 7 →
    (∀ x ∈ TM.names (TM.mk ps none), ∃ t ∈ tabs, x ∈ t.1) → Q (.ref p) H'
theorem ok_tables {f fD fO fV fR fM fA : Addr} {fd dD dO dV dR dM dA : FuncData} (F : Fn K mg "_law_tables" s_tables P_tables f fd) (B : Bn mg) (D : Fn K mg "_law_draw" s_draw P_draw fD dD) (FO : Fn K mg "_law_one" s_one P_one fO dO) (FV : Fn K mg "_law_values" s_values ["_law_well_here"] fV dV)
    (FR : Fn K mg "_law_rows" s_rows P_rows fR dR) (FM : Fn K mg "_law_mixed_up" s_mixed P_one fM dM) (FA : Fn K mg "_law_above" s_labove ["_law_pairs_here", "_law_column"] fA dA) : FnOk P w K mg base CX0 4 f fd P_tables sp_tables := by
  have GD : FnOk P w K mg base CX0 1 fD dD P_draw sp_draw := ok_draw D
  have GO : FnOk P w K mg base CX0 2 fO dO P_one sp_one := ok_one FO B D
  have GV : FnOk P w K mg base CX0 3 fV dV ["_law_well_here"] sp_values := ok_values FV B D FO
  have GR : FnOk P w K mg base CX0 3 fR dR P_rows sp_rows := ok_rows FR B D FO
  have GM : FnOk P w K mg base CX0 2 fM dM P_one sp_mix := ok_mix FM B D
  have GA : FnOk P w K mg base CX0 1 fA dA ["_law_pairs_here", "_law_column"] sp_labove := ok_labove FA B
  refine F.F.ok sc_tables (fun vs H Q E h => ?_) (fun cdv A outer s H vs Q E hr h => ?_)
  · obtain ⟨W, L, ps, n, rfl, _⟩ := h
    rfl
  · obtain ⟨W, L, ps, n, rfl, hP, LW, va, l6, okn, hW, q⟩ := h
    have nd := sc_tables.nd
    have hu1 := hr.units0
    have r1 : Room 1 _ := hr.mono (by decide)
    have r2 : Room 2 _ := hr.mono (by decide)
    refine ⟨_, pss_cons (ps_setLc (i := 2) (own := [("_law_name", 8), ("_law_over", 9)]) (g := gTup K 2 (gCons (gName 8) (gCons (gName 9) gNil))) (tt := tYes) (te := tVar 8) (by rfl) nd rfl rfl (sw_true rfl rfl rfl (by decide +kernel)) (pi_list (pv 1)) (blkOk_by (N := N_tables) (sc := defScope s_tables) (by decide +kernel))
          (fun _ _ _ _ _ => pg_tup rfl (pgs_cons (pg_name (i := 8) nd rfl (Or.inl rfl)) (pgs_cons (pg_name (i := 9) nd rfl (Or.inl rfl)) pgs_nil))) (fun _ _ _ _ _ => pts_nil) (fun _ _ _ _ _ => pv 8))
      (pss_cons (ps_set (i := 3) nd rfl (Or.inl rfl) (pe_slice sl_list (pe_call GV hr rfl FV.g FV.F.kp FV.b .nil pass0 (pa_cons (pv 0) pa_nil)) po_none (po_some (pe_op op_sub pe_int (pe_callB call_len_seq (by rfl) B.len PySem.boot_len (pa_cons (pv 1) pa_nil))))))
      (pss_cons (ps_set (i := 4) nd rfl (Or.inl rfl) (pe_lst pa_nil))
      (pss_cons (ps_while PassesOwn.never (pt_cmpR (op_neNil hu1) (pv 2) (pe_lst pa_nil) (nomark _))
        (pss_cons (ps_set (i := 5) nd rfl (Or.inl rfl) (pe_ix ix_list (pv 2) (pe_un un_neg pe_int) (fun _ _ => rfl)))
        (pss_cons (ps_set (i := 6) nd rfl (Or.inr rfl) (pe_op op_cat (pe_lc (own := [("_law_name", 8)]) (g := gName 8) (tt := tTest (tOp (rI0 fun i j => V.bl (decide (j < i))) (tCall sp_draw [] E0 (tCons (tVar 0) (tCons (tC (.int 3)) tNil))) (tC (.int 0)))) (te := tVar 8) rfl nd (pi_list (pe_call GA r1 rfl FA.g FA.F.kp FA.b .nil pass0 (pa_cons (pv 1) (pa_cons (pv 5) pa_nil)))) (blkOk_by (N := N_tables) (sc := defScope s_tables) (by decide +kernel))
            (fun _ _ _ _ _ => pg_name (i := 8) nd rfl (Or.inl rfl)) (fun _ _ _ _ _ => pts_one (pt_cmpR op_gt (pe_call GD r1 rfl D.g D.F.kp D.b .nil pass0 (pa_cons (pv 0) (pa_cons pe_int pa_nil))) pe_int (nomark _))) (fun _ _ _ _ _ => pv 8)) (pe_lst (pa_cons (pv 5) pa_nil))))
        (pss_cons (ps_expr (pe_bm PySem.F.plainAttrs_list PySem.F.slot_list_append PySem.F.type_list_append mt_append (pv 4) (pa_cons (pe_tup (pa_cons (pe_call GM r2 rfl FM.g FM.F.kp FM.b .nil pass0 (pa_cons (pv 0) (pa_cons (pv 6) pa_nil))) (pa_cons (pe_call GR hr rfl FR.g FR.F.kp FR.b .nil pass0 (pa_cons (pv 0) (pa_cons (pe_callB call_len_seq (by rfl) B.len PySem.boot_len (pa_cons (pv 6) pa_nil)) (pa_cons (pv 3) pa_nil)))) pa_nil))) pa_nil)))
        (pss_one (ps_setLc (i := 2) (own := [("_law_name", 8)]) (g := gName 8) (tt := tTest (tOp (rIn K true) (tVar 8) (tVar 6))) (te := tVar 8) (by rfl) nd rfl rfl (sw_true rfl rfl rfl (by decide +kernel)) (pi_list (pv 2)) (blkOk_by (N := N_tables) (sc := defScope s_tables) (by decide +kernel))
            (fun _ _ _ _ _ => pg_name (i := 8) nd rfl (Or.inl rfl)) (fun _ _ _ _ _ => pts_one (pt_cmpR op_notIn_seq (pv 8) (pv 6) rfl)) (fun _ _ _ _ _ => pv 8)))))))
      (C8.pss_cut (ps_if (PW.pt (pw_and (pt_cmpR op_lt (pe_callB call_len_seq (by rfl) B.len PySem.boot_len (pa_cons (pv 4) pa_nil)) pe_int (nomark _)) (pw_and1 (pt_cmpR op_eq (pe_call GD r1 rfl D.g D.F.kp D.b .nil pass0 (pa_cons (pv 0) (pa_cons pe_int pa_nil))) pe_int (nomark _)))))
          (pss_cons (ps_set (i := 6) nd rfl (Or.inr rfl) (pe_call GO r2 rfl FO.g FO.F.kp FO.b .nil pass0 (pa_cons (pv 0) (pa_cons (pe_op op_cat (pe_lc (own := [("_law_table", 10)]) (g := gName 10) (tt := tYes) (te := tOp (rIxT K) (tVar 10) (tC (.int 0))) rfl nd (pi_list (pv 4)) (blkOk_by (N := N_tables) (sc := defScope s_tables) (by decide +kernel))
            (fun _ _ _ _ _ => pg_name (i := 10) nd rfl (Or.inl rfl)) (fun _ _ _ _ _ => pts_nil) (fun _ _ _ _ _ => pe_ix ix_tup (pv 10) pe_int (fun _ _ => rfl))) (pe_lst (pa_cons (pe_lst pa_nil) pa_nil))) pa_nil))))
          (pss_cons (ps_set (i := 7) nd rfl (Or.inl rfl) (pe_op op_rep (pe_lst (pa_cons (pe_tup pa_nil) pa_nil)) (pe_callTy call_int1 (by rfl) B.int boot_int (pa_cons (pe_cmpR op_gt (pe_call GD r1 rfl D.g D.F.kp D.b .nil pass0 (pa_cons (pv 0) (pa_cons pe_int pa_nil))) pe_int (nomark _)) pa_nil))))
          (C8.pss_cut (ps_if (pt_cmpR (op_neNil hu1) (pv 6) (pe_lst pa_nil) (nomark _)) (pss_one (ps_set (i := 7) nd rfl (Or.inl rfl) (pe_call GR hr rfl FR.g FR.F.kp FR.b .nil pass0 (pa_cons (pv 0) (pa_cons (pe_callB call_len_seq (by rfl) B.len PySem.boot_len (pa_cons (pv 6) pa_nil)) (pa_cons (pv 3) pa_nil)))))) pss_nil)
          (pss_one (ps_expr (pe_bm PySem.F.plainAttrs_list PySem.F.slot_list_append PySem.F.type_list_append mt_append (pv 4) (pa_cons (pe_tup (pa_cons (pv 6) (pa_cons (pv 7) pa_nil))) pa_nil))))))) pss_nil)
      (pss_one (ps_ret (pe_call GM r2 rfl FM.g FM.F.kp FM.b .nil pass0 (pa_cons (pv 0) (pa_cons (pv 4) pa_nil))))))))), ?_⟩
    obtain ⟨as, eL, ta⟩ := id hP
    have hal := ta.len
    have fo := foOk_mk va (by omega) okn
    have nmem : ∀ x, x ∈ TM.names (TM.mk ps none) ↔ x ∈ ps.map Prod.fst := fun x => (TM.ord_perm va).mem_iff
    -- the names
    dsimp only [gName]
    refine sq_asg ?_
    refine ⟨_, rfl, L, rfl, ⟨_, .of eL⟩, fun L0 nL0 => ?_⟩
    refine lc_it (walk_list (xs := as.map V.ref)) (fun i h => h L0 = some (.lst (((ps.take i).map Prod.fst).map V.str)) ∧ Same H h) ⟨upd_same, Same.new nL0⟩ (fun i h _ ⟨_, s⟩ => .of (s _ _ eL)) ?_ ?_
    · rintro i x h h' hi ⟨e4, s4⟩ ⟨rfl, hx⟩
      rw [List.length_map] at hi
      obtain ⟨a, ha, rfl⟩ : ∃ a, as[i]? = some a ∧ x = V.ref a := by
        rw [List.getElem?_map, List.getElem?_eq_getElem hi] at hx
        exact ⟨_, List.getElem?_eq_getElem hi, (Option.some.inj hx).symm⟩
      obtain ⟨⟨c, o⟩, hq, hta⟩ := ta.get ha
      refine ⟨a, _, rfl, .of (s4 _ _ hta), rfl, _, _, rfl, _, _, rfl, rfl, rfl, ?_⟩
      refine ⟨_, rfl, _, e4, ?_, ?_, Same.mut s4 nL0⟩
      · rw [List.length_map, List.length_map, List.length_take]
        exact line100' (by omega)
      · rw [upd_same, List.take_add_one, hq, List.map_append, List.map_append]
        rfl
    rintro H1 ⟨eL0, s1⟩
    rw [List.length_map, hal, List.take_length] at eL0
    have w1 := hW.same s1
    have eL1 := s1 _ _ eL
    have L0W : L0 ≠ W := well_strs ⟨_, w1⟩ eL0
    -- values
    dsimp only [gName]
    refine ⟨_, rfl, W, n + 1997, rfl, w1.mono (by omega), fun H2 V0 ys s2 w2 nV0 V0W eV0 y1 y4 => ?_⟩
    have eL2 := s2 _ _ LW eL1
    have eL02 := s2 _ _ L0W eL0
    have m2 : Sm W H H2 := (Sm.of s1).trans s2
    refine ⟨_, rfl, L, _, rfl, .inl (.of eL2), _, _, rfl, rfl, _, rfl, V0, _, rfl, .of eV0, fun Vl nVl => ?_⟩
    have e8 : (8 : Int) - ((as.map V.ref).length : Int) = ((8 - ps.length : Nat) : Int) := by rw [List.length_map, hal]; omega
    rw [e8, cut_to, ← List.map_take]
    have sV : Same H2 (upd H2 Vl (.lst ((ys.take (8 - ps.length)).map V.int))) := Same.new (by exact nVl)
    have eVl : upd H2 Vl (.lst ((ys.take (8 - ps.length)).map V.int)) Vl = some (.lst ((ys.take (8 - ps.length)).map V.int)) := upd_same
    have w3 := w2.same sV
    have VW : Vl ≠ W := (w2.ne nVl).symm
    have eL3 := sV _ _ eL2
    have eL03 := sV _ _ eL02
    have m3 := m2.trans (.of sV)
    generalize upd H2 Vl (.lst ((ys.take (8 - ps.length)).map V.int)) = H3 at sV eVl w3 eL3 eL03 m3 ⊢
    have x1 : 1 ≤ (ys.take (8 - ps.length)).length := by rw [List.length_take]; omega
    have x4 : (ys.take (8 - ps.length)).length ≤ 4 := by rw [List.length_take]; omega
    have x8 : (ys.take (8 - ps.length)).length ≤ 8 - ps.length := by rw [List.length_take]; omega
    generalize ys.take (8 - ps.length) = xs at eVl x1 x4 x8
    clear sV s2 s1 eL0 eL1 eL2 eL02 eV0 nV0 V0W y1 y4 w1 w2 m2 nVl nL0
    refine ⟨by show 0 ≤ sizeLine; decide, fun T nT => ?_⟩
    have sT : Same H3 (upd H3 T (.lst [])) := Same.new nT
    have eT : upd H3 T (.lst []) T = some (.lst (([] : List Addr).map V.ref)) := upd_same
    have TW : T ≠ W := (w3.ne nT).symm
    have nTH : H T = none := m3.free hW nT ⟨_, w3⟩
    have w4 := w3.same sT
    have eL4 := sT _ _ eL3
    have eL04 := sT _ _ eL03
    have eV4 := sT _ _ eVl
    have hP3 := hP.sm m3 ⟨_, hW⟩ LW
    have TV : Vl ≠ T := ne_of_none eVl nT
    have TL : L ≠ T := ne_of_none eL3 nT
    have TL0 : L0 ≠ T := ne_of_none eL03 nT
    generalize upd H3 T (.lst []) = H4 at sT eT w4 eL4 eL04 eV4 ⊢
    clear eL4 eV4 nTH
    -- the loop
    refine ⟨fun m σ h => ∃ (Lf : Addr) (left : List Str) (ts : List Addr) (tabs : List LTab) (v5 v6 : Option V), left.length = m ∧ σ = [some (.ref W), some (.ref L), some (.ref Lf), some (.ref Vl), some (.ref T), v5, v6, none, none, none, none] ∧
        h Lf = some (.lst (left.map V.str)) ∧ Lf ≠ T ∧ h T = some (.lst (ts.map V.ref)) ∧ Paired (MX T h) ts tabs ∧ (∀ t ∈ tabs, TOk (TM.mk ps none) xs t) ∧ left.Nodup ∧ (∀ x ∈ left, x ∈ ps.map Prod.fst) ∧
        (∀ x ∈ ps.map Prod.fst, x ∈ left ∨ ∃ t ∈ tabs, x ∈ t.1) ∧ tabs.length + left.length ≤ ps.length ∧ Sm W H3 h ∧ WellAt (n + 500 + 120 * left.length) h W,
      ⟨(ps.map Prod.fst).length, L0, ps.map Prod.fst, [], [], none, none, rfl, rfl, eL04, TL0, eT, .nil, (fun _ h => nomatch h), TM.valid_nodup va, fun _ h => h, fun x hx => .inl hx, by rw [List.length_map]; show 0 + _ ≤ _; omega, .of sT, w4.mono (by rw [List.length_map]; omega)⟩, ?_⟩
    rintro m σ h ⟨Lf, left, ts, tabs, v5, v6, rfl, rfl, eLf, LfT, eTt, hT, ok, lnd, lsub, cov, lle, s5, w5⟩
    refine ⟨_, rfl, by show 0 ≤ sizeLine; decide, fun Z nZ => ?_⟩
    have sZ : Same h (upd h Z (.lst [])) := Same.new nZ
    refine ⟨Lf, Z, _, rfl, rfl, .of (sZ _ _ eLf), .of upd_same, _, rfl, ?_⟩
    have eLf' := sZ _ _ eLf
    have eTt' := sZ _ _ eTt
    have w5' := w5.same sZ
    have hT' : Paired (MX T (upd h Z (.lst []))) ts tabs := Paired.mapP hT fun _ _ x => x.sm (.of sZ) ⟨_, w5⟩
    have s5' := s5.trans (.of sZ)
    generalize upd h Z (.lst []) = h1 at eLf' eTt' w5' hT' s5' ⊢
    clear sZ nZ eLf eTt w5 hT s5
    rcases List.eq_nil_or_concat left with rfl | ⟨l', low, rfl⟩
    · rw [show (!(([] : List Str).map V.str).isEmpty) = false from rfl]
      show (if false = true then _ else _)
      rw [if_neg Bool.false_ne_true]
      have cov' : ∀ x ∈ TM.names (TM.mk ps none), ∃ t ∈ tabs, x ∈ t.1 := fun x hx => (cov x ((nmem x).mp hx)).elim (fun h => nomatch h) id
      have lts := Paired.length hT'
      have tl : tabs.length ≤ 6 := by show _; have : tabs.length + 0 ≤ ps.length := lle; omega
      refine ⟨fun σ h => ∃ (Lf : Addr) (ts : List Addr) (tabs : List LTab) (v5 v6 v7 : Option V), σ = [some (.ref W), some (.ref L), some (.ref Lf), some (.ref Vl), some (.ref T), v5, v6, v7, none, none, none] ∧ h T = some (.lst (ts.map V.ref)) ∧ MTs h ts tabs ∧ (∀ t ∈ tabs, TOk (TM.mk ps none) xs t) ∧ tabs.length ≤ 7 ∧
        (∀ x ∈ TM.names (TM.mk ps none), ∃ t ∈ tabs, x ∈ t.1) ∧ Sm W H3 h ∧ WellAt (n + 100) h W, ?_, ?_⟩
      · have stay : ∀ h2, Sm W h1 h2 → WellAt (n + 400) h2 W → ∃ (Lq : Addr) (ts : List Addr) (tabs : List LTab) (v5' v6' v7 : Option V), [some (V.ref W), some (.ref L), some (.ref Lf), some (.ref Vl), some (.ref T), v5, v6, none, none, none, none] = [some (V.ref W), some (.ref L), some (.ref Lq), some (.ref Vl), some (.ref T), v5', v6', v7, none, none, none] ∧ h2 T = some (.lst (ts.map V.ref)) ∧ MTs h2 ts tabs ∧ (∀ t ∈ tabs, TOk (TM.mk ps none) xs t) ∧ tabs.length ≤ 7 ∧
            (∀ x ∈ TM.names (TM.mk ps none), ∃ t ∈ tabs, x ∈ t.1) ∧ Sm W H3 h2 ∧ WellAt (n + 100) h2 W := fun h2 s2 w2 =>
          ⟨Lf, ts, tabs, v5, v6, none, rfl, s2 _ _ TW eTt', Paired.mapP hT' fun _ _ x => (x.sm s2 ⟨_, w5'⟩).mt, ok, by omega, cov', s5'.trans s2, w2.mono (by omega)⟩
        refine ⟨_, rfl, T, _, rfl, .inl (.of eTt'), _, _, rfl, rfl, _, rfl, ?_⟩
        refine ite2 (fun h6 => ?_) (fun h6 => ?_)
        rotate_left
        · obtain ⟨a1, a2, a3, a4, a5, a6, a7, a8⟩ := stay h1 Sm.rfl' (w5'.mono (by omega))
          exact ⟨a1, a2, a3, a4, a5, a6, a7, a8⟩
        refine ⟨_, rfl, W, 3, n + 490, rfl, by decide, by decide, w5'.mono (by omega), fun h2 d hd s2 w2 => ?_⟩
        refine ⟨rfl, _, rfl, ite2 (fun h7 => ?_) (fun h7 => ?_)⟩
        rotate_left
        · obtain ⟨a1, a2, a3, a4, a5, a6, a7, a8⟩ := stay h2 s2 (w2.mono (by omega))
          exact ⟨a1, a2, a3, a4, a5, a6, a7, a8⟩
        have t5 : tabs.length ≤ 5 := by
          have := of_decide_eq_true h6
          rw [List.length_map] at this
          omega
        have ew1 : ∃ n, WellAt n h1 W := ⟨_, w5'⟩
        have eT2 := s2 _ _ TW eTt'
        have hT2 : Paired (MX T h2) ts tabs := Paired.mapP hT' fun _ _ x => x.sm s2 ew1
        have s52 := s5'.trans s2
        -- the names of each
        refine ⟨_, rfl, _, rfl, T, rfl, ⟨_, .of eT2⟩, fun Dn nDn => ?_⟩
        have DW : Dn ≠ W := (w2.ne nDn).symm
        refine lc_it (walk_list (xs := ts.map V.ref)) (fun i h => ∃ ss : List Addr, h Dn = some (.lst (ss.map V.ref)) ∧ ss.length = i ∧ (∀ s ∈ ss, ∃ t ∈ tabs, h2 s = some (.lst (t.1.map V.str)) ∧ s ≠ T) ∧ Same h2 h) ⟨[], upd_same, rfl, (fun _ h => nomatch h), Same.new nDn⟩ (fun i h _ ⟨_, _, _, _, s⟩ => .of (s _ _ eT2)) ?_ ?_
        · rintro i x h3 h3' hi ⟨ss, e4, ls, hss, s4⟩ ⟨rfl, hx⟩
          rw [List.length_map] at hi
          obtain ⟨a, ha, rfl⟩ : ∃ a, ts[i]? = some a ∧ x = V.ref a := by
            rw [List.getElem?_map, List.getElem?_eq_getElem hi] at hx
            exact ⟨_, List.getElem?_eq_getElem hi, (Option.some.inj hx).symm⟩
          obtain ⟨p, hp, sN, lN, asN, g1, g2, g3, g4, g5, g6⟩ := pr_at hT2 ha
          refine ⟨rfl, ?_⟩
          dsimp only [tYes]
          rw [if_pos rfl]
          refine ⟨_, rfl, a, _, (0 : Int), _, rfl, rfl, .of (s4 _ _ g1), rfl, ?_⟩
          refine ⟨_, e4, by rw [List.length_map]; exact line100' (by omega), ss ++ [sN], by rw [upd_same, List.map_append]; rfl, by rw [List.length_append, ls]; rfl, fun s hs => ?_, Same.mut s4 nDn⟩
          rcases List.mem_append.mp hs with hs | hs
          · exact hss s hs
          · rw [List.mem_singleton.mp hs]
            exact ⟨p, List.mem_of_getElem? hp, g2, g5⟩
        rintro h3 ⟨ss, eD3, ls, hss, s3⟩
        rw [List.length_map] at ls
        refine ⟨by show 0 ≤ sizeLine; decide, fun N0 nN0 => ?_⟩
        have s4 : Same h3 (upd h3 N0 (.lst [])) := Same.new nN0
        have eN0 : upd h3 N0 (.lst []) N0 = some (.lst (([] : List Str).map V.str)) := upd_same
        have N0T : N0 ≠ T := (ne_of_none (s3 _ _ eT2) nN0).symm
        generalize upd h3 N0 (.lst []) = h4 at s4 eN0 ⊢
        refine ⟨by show 1 ≤ sizeLine; decide, fun c nc => ?_⟩
        have s5 : Same h4 (upd h4 c (.lst [.ref N0])) := Same.new nc
        have ec : upd h4 c (.lst [.ref N0]) c = some (.lst ([N0].map V.ref)) := upd_same
        have s35 := s4.trans s5
        have eN05 := s5 _ _ eN0
        generalize upd h4 c (.lst [.ref N0]) = h5 at s5 ec s35 eN05 ⊢
        refine ⟨Dn, c, _, _, rfl, rfl, s35 _ _ eD3, ec, by rw [List.length_map, List.length_map]; exact line100 (by show ss.length + 1 ≤ 5000; omega), fun e nE => ?_⟩
        have s6 : Same h5 (upd h5 e (.lst (ss.map V.ref ++ [N0].map V.ref))) := Same.new nE
        have ee : upd h5 e (.lst (ss.map V.ref ++ [N0].map V.ref)) e = some (.lst ((ss ++ [N0]).map V.ref)) := by rw [upd_same, List.map_append]
        have s26 := (s3.trans s35).trans s6
        have eN06 := s6 _ _ eN05
        generalize upd h5 e (.lst (ss.map V.ref ++ [N0].map V.ref)) = h6' at s6 ee s26 eN06 ⊢
        have w6 := w2.same s26
        have eW : e ≠ W := well_refs ⟨_, w6⟩ ee
        refine ⟨W, e, _, n + 400, rfl, ee, eW, by rw [List.length_map, List.length_append]; show 0 < _ + 1; omega, by rw [List.length_map, List.length_append]; show _ + 1 < _; omega, w6.mono (by omega), fun h7' r v hv s7 w7 => ?_⟩
        rw [List.getElem?_map] at hv
        obtain ⟨Nm, hNm, rfl⟩ := Option.map_eq_some_iff.mp hv
        have hNmM := List.mem_of_getElem? hNm
        obtain ⟨cs, eNm, NmT, hcs⟩ : ∃ cs : List Str, h6' Nm = some (.lst (cs.map V.str)) ∧ Nm ≠ T ∧ ((∃ t ∈ tabs, cs = t.1) ∨ cs = []) := by
          rcases List.mem_append.mp hNmM with h | h
          · obtain ⟨t, ht, e1, e2⟩ := hss Nm h
            exact ⟨t.1, s26 _ _ e1, e2, .inl ⟨t, ht, rfl⟩⟩
          · rw [List.mem_singleton.mp h]
            exact ⟨[], eN06, N0T, .inr rfl⟩
        have ew6 : ∃ n, WellAt n h6' W := ⟨_, w6⟩
        have NmW := well_strs ew6 eNm
        have eNm7 := s7 _ _ NmW eNm
        have s27 : Sm W h2 h7' := (Sm.of s26).trans s7
        have ew2 : ∃ n, WellAt n h2 W := ⟨_, w2⟩
        have eT7 := s27 _ _ TW eT2
        have hT7 : Paired (MX T h7') ts tabs := Paired.mapP hT2 fun _ _ x => x.sm s27 ew2
        have eV7 := (s52.trans s27) _ _ VW eVl
        have s57 := s52.trans s27
        have csok : cs.Nodup ∧ (∀ x ∈ cs, x ∈ TM.names (TM.mk ps none)) ∧ (∀ x ∈ cs, ∀ y ∈ cs, Way (TM.mk ps none) x y) ∧ cs.length ≤ 8 := by
          rcases hcs with ⟨t, ht, rfl⟩ | rfl
          · have o := ok t ht
            exact ⟨o.nd, o.sub, o.way, Nat.le_trans (sub_len o.nd o.sub) fo.le⟩
          · exact ⟨List.nodup_nil, (fun _ h => nomatch h), (fun _ h => nomatch h), Nat.zero_le _⟩
        clear s7 s26 w6 ew6 eNm ee s6 s35 s5 s4 eN0 eN05 eN06 ec nE nc nN0 eD3 s3 nDn eW hss hv hNm hNmM
        -- rows without columns
        refine ⟨by show 0 ≤ sizeLine; decide, fun Tu nTu => ?_⟩
        have s8 : Same h7' (upd h7' Tu (.tup [])) := Same.new nTu
        have eTu : upd h7' Tu (.tup []) Tu = some (.tup (([] : List Int).map V.int)) := upd_same
        generalize upd h7' Tu (.tup []) = h8 at s8 eTu ⊢
        refine ⟨by show 1 ≤ sizeLine; decide, fun R1 nR1 => ?_⟩
        have s9 : Same h8 (upd h8 R1 (.lst [.ref Tu])) := Same.new nR1
        have eR1 : upd h8 R1 (.lst [.ref Tu]) R1 = some (.lst ([Tu].map V.ref)) := upd_same
        have eTu9 := s9 _ _ eTu
        have s79 := s8.trans s9
        generalize upd h8 R1 (.lst [.ref Tu]) = h9 at s9 eR1 eTu9 s79 ⊢
        have w9 := w7.same s79
        have ew9 : ∃ n, WellAt n h9 W := ⟨_, w9⟩
        refine ⟨_, rfl, W, 4, n + 399, rfl, by decide, by decide, w9.mono (by omega), fun h10 dd hdd s10 w10 => ?_⟩
        refine ⟨_, _, rfl, rfl, .inr ⟨_, rfl, ?_⟩⟩
        obtain ⟨kr, hkr, kr1⟩ : ∃ kr : Nat, (if (decide ((0 : Int) < (dd : Int))) = true then (1 : Int) else 0) = (kr : Int) ∧ kr ≤ 1 := by
          by_cases z : (0 : Int) < (dd : Int)
          · exact ⟨1, by rw [decide_eq_true z]; rfl, by decide⟩
          · exact ⟨0, by rw [decide_eq_false z]; rfl, by decide⟩
        rw [hkr]
        have eR10 := s10 _ _ (well_refs ew9 eR1) eR1
        have eTu10 := tup_sm eTu9 s10 ew9
        refine ⟨R1, (kr : Int), _, rfl, rfl, eR10, by omega, by omega, by show 1 * _ ≤ sizeLine; exact line100 (by omega), fun R nR => ?_⟩
        have ekn : ((kr : Int)).toNat = kr := by omega
        have frep : ∀ k : Nat, (List.replicate k ([Tu].map V.ref)).flatten = (List.replicate k Tu).map V.ref := fun k => by
          induction k with
          | zero => rfl
          | succ k ih => rw [List.replicate_succ, List.flatten_cons, ih, List.replicate_succ]; rfl
        have rrep : ∀ (h : Hp) (k : Nat), h Tu = some (.tup (([] : List Int).map V.int)) → RowsAt h (List.replicate k Tu) (List.replicate k []) := fun h k e => by
          induction k with
          | zero => exact .nil
          | succ k ih => exact .cons e ih
        rw [ekn, frep kr]
        have s11 : Same h10 (upd h10 R (.lst ((List.replicate kr Tu).map V.ref))) := Same.new (by exact nR)
        have eR : upd h10 R (.lst ((List.replicate kr Tu).map V.ref)) R = some (.lst ((List.replicate kr Tu).map V.ref)) := upd_same
        have hRr := rrep _ kr (s11 _ _ eTu10)
        have s710 : Sm W h7' h10 := (Sm.of s79).trans s10
        have RT : R ≠ T := (ne_of_none (s710 _ _ TW eT7) (by exact nR)).symm
        generalize upd h10 R (.lst ((List.replicate kr Tu).map V.ref)) = h11 at s11 eR hRr ⊢
        have s711 : Sm W h7' h11 := s710.trans (.of s11)
        have w11 := w10.same s11
        have ew7 : ∃ n, WellAt n h7' W := ⟨_, w7⟩
        have eT11 := s711 _ _ TW eT7
        have hT11 : Paired (MX T h11) ts tabs := Paired.mapP hT7 fun _ _ x => x.sm s711 ew7
        have eV11 := s711 _ _ VW eV7
        have eNm11 := s711 _ _ NmW eNm7
        have s311 := s57.trans s711
        clear s710 s11 s10 s9 s8 s79 eTu eTu9 eTu10 eR1 eR10 nR nTu nR1 w9 ew9 eT7 hT7 eV7 eNm7 s57 s711 w10
        refine ⟨fun σ h => ∃ (R' : Addr) (rs : List (List Int)) (as : List Addr), σ = [some (.ref W), some (.ref L), some (.ref Lf), some (.ref Vl), some (.ref T), v5, some (.ref Nm), some (.ref R'), none, none, none] ∧ h R' = some (.lst (as.map V.ref)) ∧ RowsAt h as rs ∧ (∀ r ∈ rs, r.length = cs.length ∧ ∀ v ∈ r, v ∈ xs) ∧ rs.length ≤ 12 ∧ R' ≠ T ∧
          h Nm = some (.lst (cs.map V.str)) ∧ h T = some (.lst (ts.map V.ref)) ∧ Paired (MX T h) ts tabs ∧ Sm W H3 h ∧ WellAt (n + 150) h W, ?_, ?_⟩
        · refine ⟨_, rfl, by show 0 ≤ sizeLine; decide, fun Z nZ => ?_⟩
          have sZ : Same h11 (upd h11 Z (.lst [])) := Same.new nZ
          refine ⟨Nm, Z, _, rfl, rfl, .of (sZ _ _ eNm11), .of upd_same, _, rfl, ?_⟩
          have eNm12 := sZ _ _ eNm11
          have eT12 := sZ _ _ eT11
          have eR12 := sZ _ _ eR
          have hRr12 := hRr.same sZ
          have eV12 := sZ _ _ eV11
          have w12 := w11.same sZ
          have hT12 : Paired (MX T (upd h11 Z (.lst []))) ts tabs := Paired.mapP hT11 fun _ _ x => x.sm (.of sZ) ⟨_, w11⟩
          have s312 := s311.trans (.of sZ)
          generalize upd h11 Z (.lst []) = h12 at eNm12 eT12 eR12 hRr12 eV12 w12 hT12 s312 ⊢
          by_cases hcs0 : cs = []
          · subst hcs0
            refine ⟨R, List.replicate kr [], List.replicate kr Tu, rfl, eR12, hRr12, fun r hr => ?_, by rw [List.length_replicate]; omega, RT, eNm12, eT12, hT12, s312, w12.mono (by omega)⟩
            rw [List.eq_of_mem_replicate hr]
            exact ⟨rfl, fun _ h => nomatch h⟩
          · have ne1 : (!(cs.map V.str).isEmpty) = true := by
              cases cs with
              | nil => exact absurd rfl hcs0
              | cons _ _ => rfl
            rw [ne1]
            show (if true = true then _ else _)
            rw [if_pos rfl]
            have wl : ((cs.map V.str).length : Int) = (cs.length : Int) := by rw [List.length_map]
            refine ⟨_, rfl, _, rfl, Nm, _, rfl, .inl (.of eNm12), _, rfl, W, Vl, cs.length, n + 200, xs, by rw [wl]; rfl, eV12, VW, x1, by omega, csok.2.2.2, w12.mono (by omega), fun h13 R' as' rs s13 w13 nR' R'W eR' hR' rok r12 => ?_⟩
            have ew12 : ∃ n, WellAt n h12 W := ⟨_, w12⟩
            exact ⟨R', rs, as', rfl, eR', hR', rok, r12, (ne_of_none eT12 nR').symm, s13 _ _ NmW eNm12, s13 _ _ TW eT12, Paired.mapP hT12 fun _ _ x => x.sm s13 ew12, s312.trans s13, w13.mono (by omega)⟩
        · rintro σ h12 ⟨R', rs, as', rfl, eR', hR', rok, r12, R'T, eNm12, eT12, hT12, s312, w12⟩
          refine ⟨_, rfl, .inl ⟨rfl, _, .inl (.inl eT12)⟩, _, rfl, _, rfl, two_le, fun Tp nTp => ?_⟩
          have s13 : Same h12 (upd h12 Tp (.tup [.ref Nm, .ref R'])) := Same.new nTp
          have eTp : upd h12 Tp (.tup [.ref Nm, .ref R']) Tp = some (.tup [.ref Nm, .ref R']) := upd_same
          generalize upd h12 Tp (.tup [.ref Nm, .ref R']) = h13 at s13 eTp ⊢
          have eT13 := s13 _ _ eT12
          refine ⟨T, _, _, rfl, rfl, eT13, by rw [List.length_map]; exact line100' (by omega), ?_⟩
          have mx : MX T h13 Tp (cs, rs) := ⟨Nm, R', as', eTp, s13 _ _ eNm12, s13 _ _ eR', hR'.same s13, NmT, R'T⟩
          have hT13 : Paired (MX T h13) ts tabs := Paired.mapP hT12 fun _ _ x => x.sm (.of s13) ⟨_, w12⟩
          have hT14 := pr_snoc (Paired.mapP hT13 fun _ _ x => x.put (o := .lst (ts.map V.ref ++ [.ref Tp])) eT13) (mx.put (o := .lst (ts.map V.ref ++ [.ref Tp])) eT13)
          refine ⟨Lf, ts ++ [Tp], tabs ++ [(cs, rs)], _, _, _, rfl, by rw [upd_same, List.map_append]; rfl, Paired.mapP hT14 fun _ _ x => x.mt, fun t ht => ?_, by rw [List.length_append]; show _ + 1 ≤ 7; omega, fun x hx => ?_, (s312.trans (.of s13)).mut nT, ((w12.same s13).upd TW.symm).mono (by omega)⟩
          · rcases List.mem_append.mp ht with ht | ht
            · exact ok t ht
            · rw [List.mem_singleton.mp ht]
              exact ⟨csok.1, csok.2.1, csok.2.2.1, rok, r12⟩
          · obtain ⟨t, ht, h⟩ := cov' x hx
            exact ⟨t, List.mem_append_left _ ht, h⟩
      · rintro σ h2 ⟨Lf2, us, tabs2, v5, v6, v7, rfl, e2, hM, ok2, l7, cov2, s2, w2⟩
        have lus := Paired.length hM
        refine ⟨_, rfl, _, rfl, W, T, _, n + 90, rfl, e2, TW, by rw [List.length_map]; omega, w2.mono (by rw [List.length_map]; omega), fun h3 p ys s3 w3' np pW ep pm => ?_⟩
        obtain ⟨vs, pmv, rfl⟩ := perm_of_map pm
        have hM3 : MTs h3 us tabs2 := hM.sm s3 ⟨_, w2⟩
        obtain ⟨tabs3, pm3, hM4⟩ := pr_perm hM3 pmv
        refine q h3 p vs tabs3 xs ((m3.trans s2).trans s3) (w3'.mono (by omega)) ((m3.trans s2).free hW np ⟨_, w2⟩) pW ep hM4 (fun t ht => ok2 t (pm3.mem_iff.mp ht)) x4 x8 (by rw [pm3.length_eq]; exact l7) fun x hx => ?_
        obtain ⟨t, ht, h⟩ := cov2 x hx
        exact ⟨t, pm3.mem_iff.mpr ht, h⟩
    · have ne1 : (!((l'.concat low).map V.str).isEmpty) = true := by
        rw [List.concat_eq_append, List.map_append]
        cases l'.map V.str <;> rfl
      rw [ne1]
      show (if true = true then _ else _)
      rw [if_pos rfl]
      refine ⟨_, fun σ' H' z => z, ?_⟩
      rw [List.concat_eq_append] at eLf' lnd lsub cov lle w5'
      -- the lowest
      refine ⟨_, rfl, _, rfl, Lf, _, (-1), .str low, rfl, rfl, .of eLf', by rw [List.map_append]; exact atI_last _ _, ?_⟩
      have lowm : low ∈ ps.map Prod.fst := lsub low (List.mem_append_right _ List.mem_cons_self)
      obtain ⟨ab, kb, hloc⟩ := TM.loc_names ((nmem low).mpr lowm)
      have pL5 : PairsAt h1 L ps := hP3.sm s5' ⟨_, w3⟩ LW
      refine ⟨_, rfl, _, rfl, L, ps, low, ab, kb, rfl, pL5, va, by omega, okn, hloc, fun h2 Ab s6 nAb eAb => ?_⟩
      have w6 := w5'.same s6
      have lab : ab.length ≤ 8 := by
        have := (TM.loc_sub hloc).length_le
        have h8 := fo.le
        rw [List.length_append] at this
        omega
      have abnd : (ab ++ [low]).Nodup := fo.nd.sublist (TM.loc_sub hloc)
      refine ⟨Ab, rfl, ⟨_, .of eAb⟩, fun Dn nDn => ?_⟩
      have DW : Dn ≠ W := (w6.ne nDn).symm
      have AbW := well_strs ⟨_, w6⟩ eAb
      refine lc_it (walk_list (xs := ab.map V.str)) (fun i h => ∃ ns : List Str, h Dn = some (.lst (ns.map V.str)) ∧ ns.Sublist (ab.take i) ∧ Sm W h2 h ∧ WellAt (n + 500 + 120 * (l' ++ [low]).length - i) h W) ⟨[], upd_same, List.nil_sublist _, Sm.new .rfl' nDn, (w6.new nDn).mono (by omega)⟩ (fun i h _ ⟨_, _, _, s, _⟩ => .of (s _ _ AbW eAb)) ?_ ?_
      · rintro i x h3 h3' hi ⟨ns, e4, sb, s7, w7⟩ ⟨rfl, hx⟩
        rw [List.length_map] at hi
        obtain ⟨c, hc, rfl⟩ : ∃ c, ab[i]? = some c ∧ x = V.str c := by
          rw [List.getElem?_map, List.getElem?_eq_getElem hi] at hx
          exact ⟨_, List.getElem?_eq_getElem hi, (Option.some.inj hx).symm⟩
        have nsl : ns.length ≤ 8 := by
          have := sb.length_le
          rw [List.length_take] at this
          omega
        refine ⟨rfl, ?_⟩
        refine ⟨_, rfl, W, 3, n + 500 + 120 * (l' ++ [low]).length - (i + 1), rfl, by decide, by decide, w7.mono (by rw [List.length_append] at *; omega), fun h4 k hk s8 w8 => ?_⟩
        refine ⟨_, _, rfl, rfl, _, rfl, ?_⟩
        have e5 := s8 _ _ DW e4
        refine ite2 (fun hz => ?_) (fun hz => ?_)
        · refine ⟨_, rfl, _, e5, by rw [List.length_map]; exact line100' (by omega), ns ++ [c], by rw [upd_same, List.map_append]; rfl, ?_, (s7.trans s8).mut nDn, w8.upd DW.symm⟩
          rw [List.take_add_one, hc]
          exact sb.append (List.Sublist.refl _)
        · refine ⟨ns, e5, ?_, s7.trans s8, w8⟩
          rw [List.take_add_one]
          exact sb.trans (List.sublist_append_left _ _)
      rintro h3 ⟨ns, eDn, sb, s7, w7⟩
      rw [List.length_map, List.take_length] at sb
      rw [List.length_map] at w7
      have nsl : ns.length ≤ 8 := Nat.le_trans sb.length_le lab
      have nnd : (ns ++ [low]).Nodup := abnd.sublist (sb.append (List.Sublist.refl _))
      have nsl8 : ns.length + 1 ≤ 8 := by
        have a := (sb.append (List.Sublist.refl [low])).length_le
        have b := (TM.loc_sub hloc).length_le
        have c := fo.le
        rw [List.length_append, List.length_singleton] at a
        omega
      have nsub : ∀ x ∈ ns ++ [low], x ∈ ab ++ [low] := fun x hx => (sb.append (List.Sublist.refl _)).subset hx
      refine ⟨_, rfl, by show 1 ≤ sizeLine; decide, fun c1 nc1 => ?_⟩
      have s8 : Same h3 (upd h3 c1 (.lst [.str low])) := Same.new nc1
      have e8 : upd h3 c1 (.lst [.str low]) c1 = some (.lst ([low].map V.str)) := upd_same
      refine ⟨Dn, c1, _, _, rfl, rfl, s8 _ _ eDn, e8, by rw [List.length_map, List.length_map]; exact line100 (by show ns.length + 1 ≤ 5000; omega), fun Nl nNl => ?_⟩
      have s9 : Same (upd h3 c1 (.lst [.str low])) (upd (upd h3 c1 (.lst [.str low])) Nl (.lst (ns.map V.str ++ [low].map V.str))) := Same.new nNl
      have eNl : upd (upd h3 c1 (.lst [.str low])) Nl (.lst (ns.map V.str ++ [low].map V.str)) Nl = some (.lst ((ns ++ [low]).map V.str)) := by rw [upd_same, List.map_append]
      have s39 := s8.trans s9
      have w9 := w7.same s39
      have NW := well_strs ⟨_, w9⟩ eNl
      have s19 : Sm W h1 (upd (upd h3 c1 (.lst [.str low])) Nl (.lst (ns.map V.str ++ [low].map V.str))) := ((Sm.of s6).trans s7).trans (.of s39)
      generalize upd (upd h3 c1 (.lst [.str low])) Nl (.lst (ns.map V.str ++ [low].map V.str)) = h9 at eNl w9 s19 ⊢
      clear s39 s9 s8 e8 nc1 s7 w7 eDn s6 w6 eAb nAb nDn DW AbW
      have ew1 : ∃ n, WellAt n h1 W := ⟨_, w5'⟩
      have eT9 := s19 _ _ TW eTt'
      have hT9 : Paired (MX T h9) ts tabs := Paired.mapP hT' fun _ _ x => x.sm s19 ew1
      have eLf9 := s19 _ _ (well_strs ew1 eLf') eLf'
      have eV9 := (s5'.trans s19) _ _ VW eVl
      have NT : Nl ≠ T := fun z => by
        rw [z, eT9] at eNl
        have e := Option.some.inj eNl
        injection e with e
        have : V.str low ∈ ts.map V.ref := by rw [e]; exact List.mem_map.mpr ⟨low, List.mem_append_right _ List.mem_cons_self, rfl⟩
        obtain ⟨_, _, h⟩ := List.mem_map.mp this
        cases h
      -- a table
      refine ⟨_, rfl, .inl ⟨rfl, _, .inl (.inl eT9)⟩, _, rfl, _, rfl, W, Nl, _, n + 500 + 120 * l'.length + 100, rfl, eNl, NW, by rw [List.length_map, List.length_append]; show _ + 1 ≤ 26; omega, w9.mono (by rw [List.length_append, List.length_map, List.length_append]; show _ + _ ≤ _; simp only [List.length_singleton]; omega), fun h10 P1 ys s10 w10 nP1 P1W eP1 pm => ?_⟩
      obtain ⟨zs, pmz, rfl⟩ := perm_of_map pm
      have zl : zs.length = ns.length + 1 := by rw [pmz.length_eq, List.length_append, List.length_singleton]
      have P1T : P1 ≠ T := (ne_of_none eT9 nP1).symm
      have ew9 : ∃ n, WellAt n h9 W := ⟨_, w9⟩
      have eNl10 := s10 _ _ NW eNl
      have eV10 := s10 _ _ VW eV9
      have wl : ((ns ++ [low]).map V.str).length = zs.length := by rw [List.length_map, pmz.length_eq]
      refine ⟨_, rfl, _, rfl, Nl, _, rfl, .inl (.of eNl10), _, rfl, W, Vl, zs.length, n + 500 + 120 * l'.length, xs, by rw [wl]; rfl, eV10, VW, x1, by omega, by omega, w10, fun h11 P2 as2 rs s11 w11 nP2 P2W eP2 hR rok r12 => ?_⟩
      have s911 := s10.trans s11
      have eT11 := s911 _ _ TW eT9
      have P2T : P2 ≠ T := (ne_of_none (s10 _ _ TW eT9) nP2).symm
      have eP1' := s11 _ _ P1W eP1
      have hT11 : Paired (MX T h11) ts tabs := Paired.mapP hT9 fun _ _ x => x.sm s911 ew9
      have eLf11 := s911 _ _ (well_strs ew9 eLf9) eLf9
      have eNl11 := s911 _ _ NW eNl
      refine ⟨two_le, fun Tp nTp => ?_⟩
      have s12 : Same h11 (upd h11 Tp (.tup [.ref P1, .ref P2])) := Same.new nTp
      have eTp : upd h11 Tp (.tup [.ref P1, .ref P2]) Tp = some (.tup [.ref P1, .ref P2]) := upd_same
      generalize upd h11 Tp (.tup [.ref P1, .ref P2]) = h12 at s12 eTp ⊢
      have eT12 := s12 _ _ eT11
      have lts := Paired.length hT11
      rw [List.length_append, List.length_singleton] at lle
      refine ⟨T, _, _, rfl, rfl, eT12, by rw [List.length_map]; exact line100' (by omega), ?_⟩
      have mx : MX T h12 Tp (zs, rs) := ⟨P1, P2, as2, eTp, s12 _ _ eP1', s12 _ _ eP2, hR.same s12, P1T, P2T⟩
      have hT12 : Paired (MX T h12) ts tabs := Paired.mapP hT11 fun _ _ x => x.sm (.of s12) ⟨_, w11⟩
      have hT13 := pr_snoc (Paired.mapP hT12 fun _ _ x => x.put (o := .lst (ts.map V.ref ++ [.ref Tp])) eT12) (mx.put (o := .lst (ts.map V.ref ++ [.ref Tp])) eT12)
      have eT13 : upd h12 T (.lst (ts.map V.ref ++ [.ref Tp])) T = some (.lst ((ts ++ [Tp]).map V.ref)) := by rw [upd_same, List.map_append]; rfl
      have eLf13 : upd h12 T (.lst (ts.map V.ref ++ [.ref Tp])) Lf = some (.lst ((l' ++ [low]).map V.str)) := by rw [upd_ne LfT]; exact s12 _ _ eLf11
      have eNl13 : upd h12 T (.lst (ts.map V.ref ++ [.ref Tp])) Nl = some (.lst ((ns ++ [low]).map V.str)) := by rw [upd_ne NT]; exact s12 _ _ eNl11
      have s13 : Sm W H3 (upd h12 T (.lst (ts.map V.ref ++ [.ref Tp]))) := (((s5'.trans s19).trans s911).trans (.of s12)).mut nT
      have w13 : WellAt (n + 500 + 120 * l'.length) (upd h12 T (.lst (ts.map V.ref ++ [.ref Tp]))) W := (w11.same s12).upd TW.symm
      generalize upd h12 T (.lst (ts.map V.ref ++ [.ref Tp])) = h13 at hT13 eT13 eLf13 eNl13 s13 w13 ⊢
      clear hT12 mx eT12 eTp s12 eLf11 eNl11 hT11 eP1' eP2 hR eT11 s911 s10 s11 eT9 hT9 eLf9 eV9 eNl10 eV10 eP1 w9 w10 w11 hT' eLf' eTt' w5' s5' s19 pL5
      -- what is left
      refine ⟨_, rfl, Lf, rfl, ⟨_, .of eLf13⟩, fun Dn nDn => ?_⟩
      have DT : Dn ≠ T := (ne_of_none eT13 nDn).symm
      have nDH3 : H3 Dn = none := s13.free w3 nDn ⟨_, w13⟩
      have DW : Dn ≠ W := (w13.ne nDn).symm
      have ll : (l' ++ [low]).length ≤ 6 := by rw [List.length_append, List.length_singleton]; omega
      refine lc_it (walk_list (xs := (l' ++ [low]).map V.str)) (fun i h => h Dn = some (.lst ((((l' ++ [low]).take i).filter fun x => !decide (x ∈ ns ++ [low])).map V.str)) ∧ Same h13 h) ⟨upd_same, Same.new nDn⟩ (fun i h _ ⟨_, s⟩ => .of (s _ _ eLf13)) ?_ ?_
      · rintro i x h3 h3' hi ⟨e4, s4⟩ ⟨rfl, hx⟩
        rw [List.length_map] at hi
        obtain ⟨c, hc, rfl⟩ : ∃ c, (l' ++ [low])[i]? = some c ∧ x = V.str c := by
          rw [List.getElem?_map, List.getElem?_eq_getElem hi] at hx
          exact ⟨_, List.getElem?_eq_getElem hi, (Option.some.inj hx).symm⟩
        refine ⟨rfl, ?_⟩
        refine ⟨_, rfl, _, rfl, Nl, _, rfl, .inl (.of (s4 _ _ eNl13)), rfl, TX.flat_strs _, _, rfl, ?_⟩
        rw [if_pos rfl]
        have nx : ((l' ++ [low]).take (i + 1)).filter (fun x => !decide (x ∈ ns ++ [low])) = ((l' ++ [low]).take i).filter (fun x => !decide (x ∈ ns ++ [low])) ++ (if (!decide (c ∈ ns ++ [low])) = true then [c] else []) := by
          rw [List.take_add_one, hc, List.filter_append]
          congr 1
          show List.filter _ [c] = _
          rw [List.filter_cons, List.filter_nil]
        have ei : inV (V.str c) ((ns ++ [low]).map V.str) = decide (c ∈ ns ++ [low]) := inV_str c _
        show (if (!inV (V.str c) ((ns ++ [low]).map V.str)) = true then _ else _)
        rw [ei]
        by_cases z : (!decide (c ∈ ns ++ [low])) = true
        · rw [if_pos z]
          rw [if_pos z] at nx
          refine ⟨_, rfl, _, e4, ?_, ?_, Same.mut s4 nDn⟩
          · rw [List.length_map]
            have := List.length_filter_le (fun x => !decide (x ∈ ns ++ [low])) ((l' ++ [low]).take i)
            rw [List.length_take] at this
            exact line100' (by omega)
          · rw [upd_same, nx, List.map_append]
            rfl
        · rw [if_neg z]
          rw [if_neg z, List.append_nil] at nx
          refine ⟨?_, s4⟩
          rw [nx]
          exact e4
      rintro h14 ⟨e14, s14⟩
      rw [List.length_map, List.take_length] at e14
      have lowin : low ∈ ns ++ [low] := List.mem_append_right _ List.mem_cons_self
      have flt : (l' ++ [low]).filter (fun x => !decide (x ∈ ns ++ [low])) = l'.filter (fun x => !decide (x ∈ ns ++ [low])) := by
        rw [List.filter_append, List.filter_cons_of_neg (by rw [decide_eq_true lowin]; simp), List.filter_nil, List.append_nil]
      have fl := List.length_filter_le (fun x => !decide (x ∈ ns ++ [low])) l'
      have way : ∀ x ∈ ab ++ [low], ∀ y ∈ ab ++ [low], Way (TM.mk ps none) x y := way_of fo.nd hloc
      refine ⟨_, ?_, Dn, (l' ++ [low]).filter (fun x => !decide (x ∈ ns ++ [low])), ts ++ [Tp], tabs ++ [(zs, rs)], _, _, rfl, rfl, e14, DT, s14 _ _ eT13, Paired.mapP hT13 fun _ _ x => x.sm (.of s14) ⟨_, w13⟩, fun t ht => ?_, lnd.filter _, fun x hx => lsub x (List.mem_filter.mp hx).1, fun x hx => ?_, ?_, s13.trans (.of s14), (w13.same s14).mono ?_⟩
      · rw [flt, List.concat_eq_append, List.length_append, List.length_singleton]; omega
      · rcases List.mem_append.mp ht with ht | ht
        · exact ok t ht
        · rw [List.mem_singleton.mp ht]
          refine ⟨(List.Perm.nodup_iff pmz).mpr nnd, fun x hx => ?_, fun x hx y hy => way x (nsub x (pmz.subset hx)) y (nsub y (pmz.subset hy)), rok, r12⟩
          exact (TM.loc_sub hloc).subset (nsub x (pmz.subset hx))
      · rcases cov x hx with h | ⟨t, ht, h⟩
        · by_cases z : x ∈ ns ++ [low]
          · exact .inr ⟨_, List.mem_append_right _ List.mem_cons_self, pmz.mem_iff.mpr z⟩
          · exact .inl (List.mem_filter.mpr ⟨h, by rw [decide_eq_false z]; rfl⟩)
        · exact .inr ⟨t, List.mem_append_left _ ht, h⟩
      · rw [flt, List.length_append, List.length_singleton]; omega
      · rw [flt]; omega
end
end T33

set_option maxHeartbeats 2000000
namespace T33T
open PySem L2 PyProof.Rows TX TY TU
def missL (f : TM.Fo) (css : List (List Str)) : Option Str := css.findSome? (miss f)
def apartL (f : TM.Fo) (css : List (List Str)) : Option (Str × Str) := css.findSome? (apart f)
theorem miss_in {f : TM.Fo} {cs : List Str} (h : miss f cs = none) : ∀ x ∈ cs, x ∈ TM.names f := by
  intro x hx
  unfold miss at h
  have := List.find?_eq_none.mp h x hx
  simpa using this
def TabsAt (C : Addr) (H : Hp) (ts : List Addr) (css : List (List Str)) : Prop := Paired (fun a cs => TabAt C H a cs) ts css
theorem TabsAt.same {C : Addr} {H H' : Hp} {ts : List Addr} {css : List (List Str)} (h : TabsAt C H ts css) (s : Same H H') : TabsAt C H' ts css := Paired.mapP h fun a cs e => e.same s
theorem TabsAt.get {C : Addr} {H : Hp} {ts : List Addr} {css : List (List Str)} (h : TabsAt C H ts css) : ∀ {i : Nat} {a : Addr}, ts[i]? = some a → ∃ cs, css[i]? = some cs ∧ TabAt C H a cs := by
  unfold TabsAt at h
  induction h with
  | nil => intro i a h; simp at h
  | cons hd _ ih =>
    intro i a h
    cases i with
    | zero =>
      rw [List.getElem?_cons_zero] at h
      cases h
      exact ⟨_, rfl, hd⟩
    | succ i => exact ih (by simpa using h)
theorem drop_at' {α : Type} {Ds : List α} {i : Nat} {D : α} (h : Ds[i]? = some D) : Ds.drop i = D :: Ds.drop (i + 1) := by
  obtain ⟨hi', e⟩ := List.getElem?_eq_some_iff.mp h
  rw [List.drop_eq_getElem_cons hi', e]
theorem optP.same {o : Option (Str × Str)} {v : V} {H H' : Hp} (h : optP o v H) (s : Same H H') : optP o v H' := by
  cases o with
  | none => exact h
  | some p =>
    obtain ⟨x, y⟩ := p
    obtain ⟨T, e1, e2⟩ := h
    exact ⟨T, e1, s _ _ e2⟩
section
variable {P : Program} {w : World} {K : PySem.W.Frag} {mg : Str → Option Value} {base : Heap}
variable {fN fC fP fT fO : Addr} {dN dC dP dT dO : FuncData}
/-- what fits calls -/
structure Fd (K : PySem.W.Frag) (mg : Str → Option Value) (C Cb Cl fl fcol fb fc fa fi fh fp : Addr) (dl dcol db dc da di dh dp : FuncData) : Prop where
  N : Nt K mg Cl fl dl
  MC : Mt K C "columns" "Tree.columns" s_tcolumns ["self"] fcol dcol
  MB : Mt K Cb "columns" "Table.columns" s_bcolumns ["self"] fb db
  MK : Mt K C "check_column" "Tree.check_column" s_tcheck ["self", "column"] fc dc
  MA : Mt K C "above" "Tree.above" s_tabove ["self", "column"] fa da
  MI : Mt K C "is_above" "Tree.is_above" s_tisabove ["self", "one", "other"] fi di
  chk : Fn K mg "_check_columns_in" s_chk ["tree", "table"] fh dh
  ap : Fn K mg "_first_apart" s_apart ["tree", "columns"] fp dp
variable {C Cb Cl fl fcol fb fc fa fi fh fp : Addr} {dl dcol db dc da di dh dp : FuncData}
theorem sc_fits : FnScope ["tree", "tables", "table", "apart"] ["tree", "tables"] (defScope s_fits) := ⟨rfl, rfl, rfl, by decide +kernel, rfl, by decide +kernel, by decide +kernel⟩
def sp_fits (C Cb Cl : Addr) : Sp := fun vs H Q E => ∃ (t L : Addr) (f : TM.Fo) (ts : List Addr) (css : List (List Str)), vs = [.ref t, .ref L] ∧ TreeAt C H t f ∧ FoOk f ∧ H L = some (.lst (ts.map V.ref)) ∧ TabsAt Cb H ts css ∧ (∀ cs ∈ css, cs.length ≤ 8) ∧
  (∀ x, missL f css = some x → ∀ H' d, Same H H' → H' d = some (.xd [("name", .str x)]) → E (.ref Cl) (some d) H') ∧ (missL f css = none → ∀ H' v, Same H H' → optP (apartL f css) v H' → Q v H')
theorem ok_fits {f : Addr} {fd : FuncData} (F : Fn K mg "fits" s_fits ["tree", "tables"] f fd) (T : Kd K mg fN fC fP fT fO dN dC dP dT dO) (c : Tc K mg C) (cb : Bc K mg Cb) (Z : Fd K mg C Cb Cl fl fcol fb fc fa fi fh fp dl dcol db dc da di dh dp) :
    FnOk P w K mg base (L2.CX P w) 7 f fd ["tree", "tables"] (sp_fits C Cb Cl) := by
  have B := T.B
  have GK : FnOk P w K mg base (L2.CX P w) 3 fh dh ["tree", "table"] (sp_chk C Cb Cl) := ok_chk Z.chk T c cb Z.N Z.MC Z.MB
  have GB : FnOk P w K mg base CX0 1 fb db ["self"] (sp_bcolumns Cb) := ok_bcolumns Z.MB.F B cb
  have GA : FnOk P w K mg base CX0 6 fp dp ["tree", "columns"] (sp_apart C) := ok_apart Z.ap T c Z.MK Z.MA Z.MI
  refine F.F.okX sc_fits (fun vs H Q E h => ?_) (fun cdv A outer s H vs Q E hr h => ?_)
  · obtain ⟨t, L, f, ts, css, rfl, _⟩ := h
    rfl
  · obtain ⟨t, L, f, ts, css, rfl, ht, ok, hL, hts, hle, qE, qQ⟩ := h
    have r1 : Room 1 _ := hr.mono (by decide)
    have r3 : Room 3 _ := hr.mono (by decide)
    have nd := sc_fits.nd
    refine ⟨_, pss_cons (ps_for (passes_of rfl) rfl (pi_list (pv 1)) (pg_name (i := 2) nd rfl (Or.inl rfl))
        (pss_one (ps_expr (pe_callS GK r3 rfl Z.chk.g Z.chk.F.kp Z.chk.b (fun σ => passAt (takes_of rfl rfl rfl rfl) σ) (pa_cons (pv 0) (pa_cons (pv 2) pa_nil))))))
      (pss_cons (ps_for (passes_of rfl) rfl (pi_list (pv 1)) (pg_name (i := 2) nd rfl (Or.inl rfl))
        (pss_cons (ps_set (i := 3) nd rfl (Or.inl rfl) (pe_call GA hr rfl Z.ap.g Z.ap.F.kp Z.ap.b .nil pass0 (pa_cons (pv 0) (pa_cons (pe_meth0 (pv 2) cb.cl Z.MB.me GB r1 Z.MB.b .nil pass0) pa_nil))))
        (pss_one (ps_if (pt_cmp (pc_notN (pv 3))) (pss_one (ps_ret (pv 3))) pss_nil))))
      (pss_one (ps_ret pe_non))), ?_⟩
    have hlen := Paired.length hts
    refine ⟨_, rfl, L, rfl, ⟨_, .of hL⟩, ?_⟩
    refine for_it (walk_list (xs := ts.map V.ref)) (fun i σ h => ∃ v2 v3 : Option V, σ = [some (.ref t), some (.ref L), v2, v3] ∧ missL f css = missL f (css.drop i) ∧ (∀ cs ∈ css.take i, miss f cs = none) ∧ Same H h)
      ⟨none, none, rfl, rfl, (fun _ h => by simp at h), same_rfl⟩ (fun i σ h _ ⟨_, _, _, _, _, s⟩ => .of (s _ _ hL)) ?_ ?_
    · rintro i v σ h h' hi ⟨v2, v3, rfl, hm, hall, s1⟩ ⟨rfl, hv⟩
      rw [List.length_map] at hi
      rw [List.getElem?_map, List.getElem?_eq_getElem hi] at hv
      have hv' : v = V.ref ts[i] := (Option.some.inj hv).symm
      subst hv'
      obtain ⟨cs, hcs, hta⟩ := hts.get (List.getElem?_eq_getElem hi)
      rw [drop_at' hcs] at hm
      unfold missL at hm
      rw [List.findSome?_cons] at hm
      refine ⟨_, rfl, _, rfl, t, ts[i], f, cs, rfl, ht.same s1, hta.same s1, fun x hx H' d s' e => ?_, fun hx H' s' => ?_⟩
      · rw [hx] at hm
        exact qE x hm H' d (s1.trans s') e
      · rw [hx] at hm
        refine ⟨_, _, rfl, hm, fun c2 h2 => ?_, s1.trans s'⟩
        rw [List.take_add_one, hcs] at h2
        rcases List.mem_append.mp h2 with h2 | h2
        · exact hall c2 h2
        · have : c2 = cs := by simpa using h2
          rw [this]
          exact hx
    · rintro σ h ⟨v2, v3, rfl, hm, hall, s1⟩
      rw [List.length_map, hlen, List.drop_length] at hm
      rw [List.length_map, hlen, List.take_length] at hall
      have qQ' := qQ hm
      refine ⟨_, rfl, L, rfl, ⟨_, .of (s1 _ _ hL)⟩, ?_⟩
      refine for_it (walk_list (xs := ts.map V.ref)) (fun i σ h => ∃ v2 v3 : Option V, σ = [some (.ref t), some (.ref L), v2, v3] ∧ apartL f css = apartL f (css.drop i) ∧ Same H h)
        ⟨_, _, rfl, rfl, s1⟩ (fun i σ h _ ⟨_, _, _, _, s⟩ => .of (s _ _ hL)) ?_ ?_
      · rintro i v σ h h' hi ⟨v2, v3, rfl, hap, s2⟩ ⟨rfl, hv⟩
        rw [List.length_map] at hi
        rw [List.getElem?_map, List.getElem?_eq_getElem hi] at hv
        have hv' : v = V.ref ts[i] := (Option.some.inj hv).symm
        subst hv'
        obtain ⟨cs, hcs, hta⟩ := hts.get (List.getElem?_eq_getElem hi)
        obtain ⟨dy, l', r', h4, h5⟩ := id (hta.same s2)
        rw [drop_at' hcs] at hap
        unfold apartL at hap
        rw [List.findSome?_cons] at hap
        have hcm : cs ∈ css := List.mem_of_getElem? hcs
        refine ⟨_, rfl, _, rfl, ts[i], dy, _, rfl, h4, bflds_no _ _ (by decide +kernel) (by decide +kernel), ts[i], cs, rfl, hta.same s2, fun H1 L1 s3 n3 e3 => ?_⟩
        have t3 := s2.trans s3
        refine ⟨t, L1, f, cs, rfl, ht.same t3, ok, e3, hle cs hcm, miss_in (hall cs hcm), fun H2 v s4 hv4 => ?_⟩
        have t4 := t3.trans s4
        refine ⟨_, rfl, _, rfl, ?_⟩
        cases ha : apart f cs with
        | none =>
          rw [ha] at hv4 hap
          have e : v = .non := hv4
          subst e
          exact ⟨_, _, rfl, hap, t4⟩
        | some p =>
          obtain ⟨x, y⟩ := p
          rw [ha] at hv4 hap
          obtain ⟨T2, e5, e6⟩ := id hv4
          subst e5
          refine ⟨_, rfl, qQ' H2 _ t4 ?_⟩
          have e7 : apartL f css = some (x, y) := hap
          rw [e7]
          exact hv4
      · rintro σ h ⟨v2, v3, rfl, hap, s2⟩
        rw [List.length_map, hlen, List.drop_length] at hap
        refine qQ' h _ s2 ?_
        rw [hap]
        exact rfl
/-! the statement's own -/
end
end T33T

set_option maxHeartbeats 4000000
namespace T33T
open PySem L2 PyProof.Rows TX TY TU
theorem sizeL {n : Nat} (h : n ≤ 5000) : n ≤ sizeLine := by rw [sizeLine_eq]; omega
theorem sizeL' {n : Nat} (h : n ≤ 5000) : n < sizeLine := by rw [sizeLine_eq]; omega
/-- a table has to do with what lies beneath -/
def touch (ben cs : List Str) : Bool := cs.any fun n => decide (n ∈ ben)
def nearL (ben : List Str) (css : List (List Str)) : List Str := css.flatMap fun cs => if touch ben cs = true then cs else []
section
variable {P : Program} {w : World} {K : PySem.W.Frag} {mg : Str → Option Value} {base : Heap}
variable {fN fC fP fT fO : Addr} {dN dC dP dT dO : FuncData}
variable {C Cb Cl fl fcol fb fc fa fi fh fp fbe : Addr} {dl dcol db dc da di dh dp dbe : FuncData}
abbrev N_along : List Str := ["tables", "tree", "column", "beneath", "near", "table", "name"]
abbrev P_along : List Str := ["tables", "tree", "column"]
theorem sc_along : FnScope N_along P_along (defScope s_along) := ⟨rfl, rfl, rfl, by decide +kernel, rfl, by decide +kernel, by decide +kernel⟩
def sp_along (C Cb : Addr) : Sp := fun vs H Q _ => ∃ (L t : Addr) (x : Str) (f : TM.Fo) (a : List Str) (k : TM.Fo) (ts : List Addr) (css : List (List Str)), vs = [.ref L, .ref t, .str x] ∧ H L = some (.lst (ts.map V.ref)) ∧ TabsAt Cb H ts css ∧ (∀ cs ∈ css, cs.length ≤ 8) ∧ css.length ≤ 8 ∧
  TreeAt C H t f ∧ FoOk f ∧ TM.loc f x = some (a, k) ∧ ∀ H' p, Same H H' → H p = none → H' p = some (.lst ((a.filter fun n => decide (n ∈ nearL (x :: TM.names k) css)).map V.str)) → Q (.ref p) H'
theorem ok_along {f : Addr} {fd : FuncData} (F : Fn K mg "keys_along" s_along P_along f fd) (T : Kd K mg fN fC fP fT fO dN dC dP dT dO) (c : Tc K mg C) (cb : Bc K mg Cb) (Z : Fd K mg C Cb Cl fl fcol fb fc fa fi fh fp dl dcol db dc da di dh dp)
    (MBe : Mt K C "beneath" "Tree.beneath" s_tbeneath ["self", "column"] fbe dbe) : FnOk P w K mg base CX0 6 f fd P_along (sp_along C Cb) := by
  have B := T.B
  have GB : FnOk P w K mg base CX0 1 fb db ["self"] (sp_bcolumns Cb) := ok_bcolumns Z.MB.F B cb
  have GA : FnOk P w K mg base CX0 4 fa da ["self", "column"] (sp_tabove C) := ok_tabove Z.MA.F Z.MK T c
  have GE : FnOk P w K mg base CX0 5 fbe dbe ["self", "column"] (sp_tbeneath C) := ok_tbeneath MBe.F Z.MK Z.MA T c
  refine F.F.ok sc_along (fun vs H Q E h => ?_) (fun cdv A outer s H vs Q E hr h => ?_)
  · obtain ⟨L, t, x, g, a, k, ts, css, rfl, _⟩ := h
    rfl
  · obtain ⟨L, t, x, g, a, k, ts, css, rfl, hL, hT, l8, c8, tr, ok, hloc, q⟩ := h
    have nd := sc_along.nd
    have r1 : Room 1 _ := hr.mono (by decide)
    have r4 : Room 4 _ := hr.mono (by decide)
    refine ⟨_, pss_cons (ps_set (i := 3) nd rfl (Or.inr rfl) (pe_meth (pv 1) c.cl MBe.me GE hr MBe.b .nil pass0 (pa_cons (pv 2) pa_nil)))
      (pss_cons (ps_set (i := 4) nd rfl (Or.inr rfl) (pe_lst pa_nil))
      (pss_cons (ps_for PassesOwn.never rfl (pi_list (pv 0)) (pg_name (i := 5) nd rfl (Or.inl rfl))
        (pss_one (ps_if (pt_val (pe_callB (cr_any rfl) (by rfl) B.any boot_any (pa_cons (pe_lc (own := [("name", 6)]) (g := gName 6) (tt := tYes) (te := tOp (rIn K false) (tVar 6) (tVar 3)) rfl nd (pi_list (pe_meth0 (pv 5) cb.cl Z.MB.me GB r1 Z.MB.b .nil pass0)) (blkOk_by (N := N_along) (sc := defScope s_along) (by decide +kernel))
            (fun _ _ _ _ _ => pg_name (i := 6) nd rfl (Or.inl rfl)) (fun _ _ _ _ _ => pts_nil) (fun _ _ _ _ _ => pe_cmpR op_in_seq (pv 6) (pv 3) rfl)) pa_nil)))
          (pss_one (ps_expr (pe_bm PySem.F.plainAttrs_list PySem.F.slot_list_extend PySem.F.type_list_extend mt_extend (pv 4) (pa_cons (pe_meth0 (pv 5) cb.cl Z.MB.me GB r1 Z.MB.b .nil pass0) pa_nil)))) pss_nil)))
      (pss_one (ps_ret (pe_lc (own := [("name", 6)]) (g := gName 6) (tt := tTest (tOp (rIn K false) (tVar 6) (tVar 4))) (te := tVar 6) rfl nd (pi_list (pe_meth (pv 1) c.cl Z.MA.me GA r4 Z.MA.b .nil pass0 (pa_cons (pv 2) pa_nil))) (blkOk_by (N := N_along) (sc := defScope s_along) (by decide +kernel))
            (fun _ _ _ _ _ => pg_name (i := 6) nd rfl (Or.inl rfl)) (fun _ _ _ _ _ => pts_one (pt_cmpR op_in_seq (pv 6) (pv 4) rfl)) (fun _ _ _ _ _ => pv 6)))))), ?_⟩
    obtain ⟨dx, l, d, h1, h2, h3⟩ := id tr
    have nobe : ∀ l d, (tflds l d).lookup ("beneath" : Str) = none := fun l d => tflds_no l d (by decide +kernel) (by decide +kernel)
    have noco : ∀ l r, (bflds l r).lookup ("columns" : Str) = none := fun l r => bflds_no l r (by decide +kernel) (by decide +kernel)
    have hal : a.length ≤ 8 := by
      have := (TM.loc_sub hloc).length_le
      have h8 := ok.le
      rw [List.length_append] at this
      omega
    have lts := Paired.length hT
    refine ⟨_, rfl, t, dx, _, rfl, h1, nobe _ _, _, rfl, t, g, x, a, k, rfl, tr, ok, hloc, fun H1 Be s1 _ eBe => ?_⟩
    refine ⟨by show 0 ≤ sizeLine; decide, fun Ne nNe => ?_⟩
    have nNH : H Ne = none := s1.free nNe
    have sN : Same H1 (upd H1 Ne (.lst [])) := Same.new nNe
    have eN : upd H1 Ne (.lst []) Ne = some (.lst (([] : List Str).map V.str)) := upd_same
    have eB2 := sN _ _ eBe
    have BN : Be ≠ Ne := ne_of_none eBe nNe
    have s2 := s1.trans sN
    generalize upd H1 Ne (.lst []) = H2 at sN eN eB2 s2 ⊢
    refine ⟨_, rfl, L, rfl, ⟨_, .of (s2 _ _ hL)⟩, ?_⟩
    refine for_it (walk_list (xs := ts.map V.ref)) (fun i σ h => ∃ v5 : Option V, σ = [some (.ref L), some (.ref t), some (.str x), some (.ref Be), some (.ref Ne), v5, none] ∧ h Ne = some (.lst ((nearL (x :: TM.names k) (css.take i)).map V.str)) ∧ h Be = some (.lst ((x :: TM.names k).map V.str)) ∧ Same H h)
      ⟨none, rfl, eN, eB2, s2⟩ (fun i σ h _ ⟨_, _, _, _, s⟩ => .of (s _ _ hL)) ?_ ?_
    · rintro i y σ h h' hi ⟨v5, rfl, eN', eB', sh⟩ ⟨rfl, hy⟩
      rw [List.length_map] at hi
      obtain ⟨b, hb, rfl⟩ : ∃ b, ts[i]? = some b ∧ y = V.ref b := by
        rw [List.getElem?_map, List.getElem?_eq_getElem hi] at hy
        exact ⟨_, List.getElem?_eq_getElem hi, (Option.some.inj hy).symm⟩
      obtain ⟨cs, hcs, tb⟩ := hT.get hb
      have csl := l8 cs (List.mem_of_getElem? hcs)
      have tb' := tb.same sh
      obtain ⟨dy, l', r', g1, g2⟩ := id tb'
      refine ⟨_, rfl, b, dy, _, rfl, g1, noco _ _, _, _, rfl, tb', fun h3 Lc s3 _ eLc => ?_⟩
      refine ⟨Lc, rfl, ⟨_, .of eLc⟩, fun Dn nDn => ?_⟩
      refine lc_it (walk_list (xs := cs.map V.str)) (fun n h => h Dn = some (.lst (((cs.take n).map fun c => decide (c ∈ x :: TM.names k)).map V.bl)) ∧ Same h3 h) ⟨upd_same, Same.new nDn⟩ (fun n h _ ⟨_, s⟩ => .of (s _ _ eLc)) ?_ ?_
      · rintro n z h4 h4' hn ⟨e4, s4⟩ ⟨rfl, hz⟩
        rw [List.length_map] at hn
        obtain ⟨c, hc, rfl⟩ : ∃ c, cs[n]? = some c ∧ z = V.str c := by
          rw [List.getElem?_map, List.getElem?_eq_getElem hn] at hz
          exact ⟨_, List.getElem?_eq_getElem hn, (Option.some.inj hz).symm⟩
        refine ⟨rfl, ?_⟩
        refine ⟨_, rfl, _, rfl, Be, _, rfl, .inl (.of ((s3.trans s4) _ _ eB')), rfl, TX.flat_strs _, ?_⟩
        have ei : inV (V.str c) ((x :: TM.names k).map V.str) = decide (c ∈ x :: TM.names k) := inV_str c _
        show ∃ acc, _
        refine ⟨_, e4, ?_, ?_, Same.mut s4 nDn⟩
        · rw [List.length_map, List.length_map, List.length_take]
          exact sizeL' (by omega)
        · rw [upd_same, List.take_add_one, hc, List.map_append, List.map_append]
          show _ = some (HO.lst (_ ++ [V.bl (decide (c ∈ x :: TM.names k))]))
          rw [← ei]
          rfl
      rintro h4 ⟨e4, s4⟩
      rw [List.length_map, List.take_length] at e4
      refine ⟨Dn, _, rfl, .of e4, ?_⟩
      have et : ((cs.map fun c => decide (c ∈ x :: TM.names k)).any id) = touch (x :: TM.names k) cs := by
        unfold touch
        rw [List.any_map]
        rfl
      rw [et]
      have s34 := s3.trans s4
      have nl : ∀ m, (nearL (x :: TM.names k) (css.take m)).length ≤ 8 * m := fun m => by
        unfold nearL
        have : ∀ l : List (List Str), (∀ cs ∈ l, cs.length ≤ 8) → (l.flatMap fun cs => if touch (x :: TM.names k) cs = true then cs else []).length ≤ 8 * l.length := by
          intro l
          induction l with
          | nil => intro _; exact Nat.zero_le _
          | cons c l ih =>
            intro h
            rw [List.flatMap_cons, List.length_append, List.length_cons]
            have := ih fun q hq => h q (List.mem_cons_of_mem _ hq)
            have := h c List.mem_cons_self
            split
            · omega
            · show 0 + _ ≤ _; omega
        have a := this (css.take m) fun cs hcs => l8 cs (List.mem_of_mem_take hcs)
        have b := List.length_take_le m css
        omega
      have nx : nearL (x :: TM.names k) (css.take (i + 1)) = nearL (x :: TM.names k) (css.take i) ++ (if touch (x :: TM.names k) cs = true then cs else []) := by
        unfold nearL
        rw [List.take_add_one, hcs, List.flatMap_append]
        show _ ++ (_ ++ []) = _
        rw [List.append_nil]
      refine ⟨_, rfl, ?_⟩
      refine ite2 (fun hz => ?_) (fun hz => ?_)
      · refine ⟨_, rfl, .inl ⟨rfl, _, .inl (.inl (s34 _ _ eN'))⟩, _, rfl, b, dy, _, rfl, s34 _ _ g1, noco _ _, _, _, rfl, tb'.same s34, fun h5 Ld s5 _ eLd => ?_⟩
        have s35 := s34.trans s5
        refine ⟨Ne, Ld, _, _, rfl, rfl, s35 _ _ eN', eLd, ?_, ?_⟩
        · rw [List.length_map, List.length_map]
          have := nl i
          exact sizeL (by omega)
        · refine ⟨_, rfl, ?_, ?_, Same.mut (sh.trans s35) nNH⟩
          · rw [upd_same, nx, if_pos hz, List.map_append]
          · rw [upd_ne BN]
            exact s35 _ _ eB'
      · exact ⟨_, rfl, by rw [nx, if_neg hz, List.append_nil]; exact s34 _ _ eN', s34 _ _ eB', sh.trans s34⟩
    · rintro σ h ⟨v5, rfl, eN', eB', sh⟩
      rw [List.length_map, lts, List.take_length] at eN'
      refine ⟨_, rfl, t, dx, _, rfl, sh _ _ h1, noabv _ _, _, rfl, t, g, x, a, k, rfl, tr.same sh, ok, hloc, fun h2 Ab s2 _ eAb => ?_⟩
      refine ⟨Ab, rfl, ⟨_, .of eAb⟩, fun Dn nDn => ?_⟩
      refine lc_it (walk_list (xs := a.map V.str)) (fun n h => h Dn = some (.lst (((a.take n).filter fun c => decide (c ∈ nearL (x :: TM.names k) css)).map V.str)) ∧ Same h2 h) ⟨upd_same, Same.new nDn⟩ (fun n h _ ⟨_, s⟩ => .of (s _ _ eAb)) ?_ ?_
      · rintro n z h4 h4' hn ⟨e4, s4⟩ ⟨rfl, hz⟩
        rw [List.length_map] at hn
        obtain ⟨c, hc, rfl⟩ : ∃ c, a[n]? = some c ∧ z = V.str c := by
          rw [List.getElem?_map, List.getElem?_eq_getElem hn] at hz
          exact ⟨_, List.getElem?_eq_getElem hn, (Option.some.inj hz).symm⟩
        refine ⟨rfl, ?_⟩
        refine ⟨_, rfl, _, rfl, Ne, _, rfl, .inl (.of ((s2.trans s4) _ _ eN')), rfl, TX.flat_strs _, _, rfl, ?_⟩
        have ei : inV (V.str c) ((nearL (x :: TM.names k) css).map V.str) = decide (c ∈ nearL (x :: TM.names k) css) := inV_str c _
        have nx : (a.take (n + 1)).filter (fun c => decide (c ∈ nearL (x :: TM.names k) css)) = (a.take n).filter (fun c => decide (c ∈ nearL (x :: TM.names k) css)) ++ (if decide (c ∈ nearL (x :: TM.names k) css) = true then [c] else []) := by
          rw [List.take_add_one, hc, List.filter_append]
          congr 1
          show List.filter _ [c] = _
          rw [List.filter_cons, List.filter_nil]
        rw [if_neg Bool.false_ne_true]
        show (if inV (V.str c) ((nearL (x :: TM.names k) css).map V.str) = true then _ else _)
        rw [ei]
        by_cases z : decide (c ∈ nearL (x :: TM.names k) css) = true
        · rw [if_pos z]
          rw [if_pos z] at nx
          refine ⟨_, rfl, _, e4, ?_, ?_, Same.mut s4 nDn⟩
          · rw [List.length_map]
            have := List.length_filter_le (fun c => decide (c ∈ nearL (x :: TM.names k) css)) (a.take n)
            rw [List.length_take] at this
            exact sizeL' (by omega)
          · rw [upd_same, nx, List.map_append]
            rfl
        · rw [if_neg z]
          rw [if_neg z, List.append_nil] at nx
          refine ⟨?_, s4⟩
          rw [nx]
          exact e4
      · rintro h4 ⟨e4, s4⟩
        rw [List.length_map, List.take_length] at e4
        exact q h4 Dn ((sh.trans s2).trans s4) ((sh.trans s2).free nDn) e4
end
end T33T

set_option maxHeartbeats 4000000
namespace T33
open PySem L2 PyProof.Rows TX TY TW TD TB TG TUD TE TK TNN
section
variable {P : Program} {w : World} {K : PySem.W.Frag} {mg : Str → Option Value} {base : Heap}
/-! ### what is due -/
/-- the columns above that stand in a table together with what lies beneath -/
def dueL (inner above : List Str) (tabs : List LTab) : List Str := above.filter fun n => tabs.any fun t => decide (n ∈ t.1) && T33T.touch inner t.1
theorem due_near (inner above : List Str) (tabs : List LTab) : above.filter (fun n => decide (n ∈ T33T.nearL inner (tabs.map Prod.fst))) = dueL inner above tabs := by
  refine List.filter_congr fun n _ => ?_
  rw [Bool.eq_iff_iff, decide_eq_true_iff, List.any_eq_true]
  unfold T33T.nearL
  rw [List.mem_flatMap]
  constructor
  · rintro ⟨cs, hcs, h⟩
    obtain ⟨t, ht, rfl⟩ := List.mem_map.mp hcs
    split at h
    · rename_i z
      exact ⟨t, ht, by rw [decide_eq_true h, z]; rfl⟩
    · cases h
  · rintro ⟨t, ht, h⟩
    rw [Bool.and_eq_true, decide_eq_true_iff] at h
    exact ⟨t.1, List.mem_map.mpr ⟨t, ht, rfl⟩, by rw [if_pos h.2]; exact h.1⟩
abbrev N_due : List Str := ["_law_pairs_here", "_law_tables_here", "_law_column", "_law_inner", "_law_found", "_law_name", "_law_ties", "_law_names_here", "_law_rows_here", "_law_one_here"]
abbrev P_due : List Str := ["_law_pairs_here", "_law_tables_here", "_law_column"]
theorem sc_due : FnScope N_due P_due (defScope s_due) := ⟨rfl, rfl, rfl, by decide +kernel, rfl, by decide +kernel, by decide +kernel⟩
abbrev scDue : Scope := { kind := .function, names := [((".0" : Str), NameKind.local), ("_law_names_here", .local), ("_law_rows_here", .local), ("_law_inner", .cell), ("_law_name", .cell)], isGenerator := false, isCoroutine := false }
def sp_due : Sp := fun vs H Q _ => ∃ (L M : Addr) (x : Str) (ps : List TM.Pr) (a : List Str) (k : TM.Fo) (ts : List Addr) (tabs : List LTab), vs = [.ref L, .ref M, .str x] ∧ PairsAt H L ps ∧ TM.Valid [] ps ∧ ps.length ≤ 8 ∧ (∀ x ∈ ps.map Prod.fst, TM.NameOk x) ∧ TM.loc (TM.mk ps none) x = some (a, k) ∧
  H M = some (.lst (ts.map V.ref)) ∧ MTs H ts tabs ∧ (∀ t ∈ tabs, t.1.length ≤ 8) ∧ tabs.length ≤ 8 ∧ ∀ H' p, Same H H' → H p = none → H' p = some (.lst ((dueL (x :: TM.ord ps (some x)) a tabs).map V.str)) → Q (.ref p) H'
abbrev teOne : TE := tVar 9
theorem ok_due {f fA fB : Addr} {fd dA dB : FuncData} (F : Fn K mg "_law_due" s_due P_due f fd) (B : Bn mg) (FA : Fn K mg "_law_above" s_labove ["_law_pairs_here", "_law_column"] fA dA) (FB : Fn K mg "_law_beneath" s_lbeneath P_ben fB dB) : FnOk P w K mg base CX0 11 f fd P_due sp_due := by
  have GA : FnOk P w K mg base CX0 1 fA dA ["_law_pairs_here", "_law_column"] sp_labove := ok_labove FA B
  have GB : FnOk P w K mg base CX0 9 fB dB P_ben (sp_ben 9) := ok_ben FB B 9
  refine F.F.ok sc_due (fun vs H Q E h => ?_) (fun cdv A outer s H vs Q E hr h => ?_)
  · obtain ⟨L, M, x, ps, a, k, ts, tabs, rfl, _⟩ := h
    rfl
  · obtain ⟨L, M, x, ps, a, k, ts, tabs, rfl, hP, va, l8, okn, hloc, hM, hT, t8, c8, q⟩ := h
    have nd := sc_due.nd
    have hu1 := hr.units0
    have r1 : Room 1 _ := hr.mono (by decide)
    have r9 : Room 9 _ := hr.mono (by decide)
    refine ⟨_, pss_cons (ps_set (i := 3) nd rfl (Or.inr rfl) (pe_call GB r9 rfl FB.g FB.F.kp FB.b .nil pass0 (pa_cons (pv 0) (pa_cons (pv 2) pa_nil))))
      (pss_cons (ps_set (i := 4) nd rfl (Or.inl rfl) (pe_lst pa_nil))
      (pss_cons (ps_for PassesOwn.never rfl (pi_list (pe_call GA r1 rfl FA.g FA.F.kp FA.b .nil pass0 (pa_cons (pv 0) (pa_cons (pv 2) pa_nil)))) (pg_name (i := 5) nd rfl (Or.inr rfl))
        (pss_cons (ps_setLc (i := 6) (own := [("_law_names_here", 7), ("_law_rows_here", 8)]) (g := gTup K 2 (gCons (gName 7) (gCons (gName 8) gNil))) (tt := tAnd (tTest (tOp (rIn K false) (tVar 5) (tVar 7))) (tTest (tOp (rNeNil K) (tLc (iList K (tVar 7)) (gName 9) (tTest (tOp (rIn K false) (tVar 9) (tVar 3))) (tVar 9) [9]) (tLst tNil)))) (te := tVar 7) (by rfl) nd rfl rfl (sw_true rfl rfl rfl (by decide +kernel)) (pi_list (pv 1)) (blkOk_by (N := N_due) (sc := defScope s_due) (by decide +kernel))
            (fun _ _ _ _ _ => pg_tup rfl (pgs_cons (pg_name (i := 7) nd rfl (Or.inl rfl)) (pgs_cons (pg_name (i := 8) nd rfl (Or.inl rfl)) pgs_nil)))
            (fun _ _ _ _ _ => pts_one (PW.pt (pw_and (pt_cmpR op_in_seq (pv 5) (pv 7) rfl) (pw_and1 (pt_cmpR (op_neNil hu1) (pe_lc (own := [("_law_one_here", 9)]) (g := gName 9) (tt := tTest (tOp (rIn K false) (tVar 9) (tVar 3))) (te := tVar 9) rfl nd (pi_list (pv 7)) (blkOk_by (N := N_due) (sc := scDue) (by decide +kernel))
              (fun _ _ _ _ _ => pg_name (i := 9) nd rfl (Or.inl rfl)) (fun _ _ _ _ _ => pts_one (pt_cmpR op_in_seq (pv 9) (pv 3) rfl)) (fun _ _ _ _ _ => pv 9)) (pe_lst pa_nil) (nomark _))))))
            (fun _ _ _ _ _ => pv 7))
        (pss_one (ps_if (pt_cmpR (op_neNil hu1) (pv 6) (pe_lst pa_nil) (nomark _)) (pss_one (ps_expr (pe_bm PySem.F.plainAttrs_list PySem.F.slot_list_append PySem.F.type_list_append mt_append (pv 4) (pa_cons (pv 5) pa_nil)))) pss_nil))))
      (pss_one (ps_ret (pv 4))))), ?_⟩
    have fo := foOk_mk va l8 okn
    have lts := Paired.length hT
    have hal : a.length ≤ 8 := by
      have := (TM.loc_sub hloc).length_le
      have h8 := fo.le
      rw [List.length_append] at this
      omega
    refine ⟨_, rfl, _, rfl, L, ps, some x, rfl, hP, va, l8, ⟨[], ps, rfl, by omega, fun _ h => nomatch h⟩, fun H1 Be s1 _ eBe => ?_⟩
    have eBe : H1 Be = some (.lst ((x :: TM.ord ps (some x)).map V.str)) := eBe
    generalize hin : x :: TM.ord ps (some x) = inner at eBe q
    refine ⟨by show 0 ≤ sizeLine; decide, fun Fd nFd => ?_⟩
    have sF : Same H1 (upd H1 Fd (.lst [])) := Same.new nFd
    have eF : upd H1 Fd (.lst []) Fd = some (.lst (([] : List Str).map V.str)) := upd_same
    have nFH : H Fd = none := s1.free nFd
    generalize upd H1 Fd (.lst []) = H2 at sF eF ⊢
    refine ⟨_, rfl, _, rfl, L, ps, x, a, k, rfl, (hP.same s1).same sF, va, l8, okn, hloc, fun H3 Ab s3 nAb eAb => ?_⟩
    have AF : Ab ≠ Fd := (ne_of_none eF nAb).symm
    refine ⟨Ab, rfl, ⟨_, .of eAb⟩, ?_⟩
    refine for_it (walk_list (xs := a.map V.str)) (fun i σ h => ∃ v5 v6 : Option V, σ = [some (.ref L), some (.ref M), some (.str x), some (.ref Be), some (.ref Fd), v5, v6, none, none, none] ∧ h Fd = some (.lst ((dueL inner (a.take i) tabs).map V.str)) ∧ h Ab = some (.lst (a.map V.str)) ∧ Same H1 h)
      ⟨none, none, rfl, s3 _ _ eF, eAb, sF.trans s3⟩ (fun i σ h _ ⟨_, _, _, _, e, _⟩ => .of e) ?_ ?_
    · rintro i y σ h h' hi ⟨v5, v6, rfl, eFd, eAb', sh⟩ ⟨rfl, hy⟩
      rw [List.length_map] at hi
      obtain ⟨c, hc, rfl⟩ : ∃ c, a[i]? = some c ∧ y = V.str c := by
        rw [List.getElem?_map, List.getElem?_eq_getElem hi] at hy
        exact ⟨_, List.getElem?_eq_getElem hi, (Option.some.inj hy).symm⟩
      have s1h := s1.trans sh
      have hT1 := hT.same s1h
      dsimp only [gName]
      refine sq_asg ?_
      refine ⟨_, rfl, M, rfl, ⟨_, .of (s1h _ _ hM)⟩, fun Dn nDn => ?_⟩
      refine lc_it (walk_list (xs := ts.map V.ref)) (fun j g => ∃ ss : List Addr, g Dn = some (.lst (ss.map V.ref)) ∧ ss.length ≤ j ∧ ss.isEmpty = !((tabs.take j).any fun t => decide (c ∈ t.1) && T33T.touch inner t.1) ∧ Same h' g) ⟨[], upd_same, Nat.le_refl _, rfl, Same.new nDn⟩ (fun j g _ ⟨_, _, _, _, s⟩ => .of (s _ _ (s1h _ _ hM))) ?_ ?_
      · rintro j z g g' hj ⟨ss, e4, ls, emp, s4⟩ ⟨rfl, hz⟩
        rw [List.length_map] at hj
        obtain ⟨t, ht, rfl⟩ : ∃ t, ts[j]? = some t ∧ z = V.ref t := by
          rw [List.getElem?_map, List.getElem?_eq_getElem hj] at hz
          exact ⟨_, List.getElem?_eq_getElem hj, (Option.some.inj hz).symm⟩
        obtain ⟨p, hp, S, l, as2, g1, g2, g3, g4⟩ := pr_at hT1 ht
        have p8 := t8 p (List.mem_of_getElem? hp)
        have nx : ((tabs.take (j + 1)).any fun t => decide (c ∈ t.1) && T33T.touch inner t.1) = (((tabs.take j).any fun t => decide (c ∈ t.1) && T33T.touch inner t.1) || (decide (c ∈ p.1) && T33T.touch inner p.1)) := by
          rw [List.take_add_one, hp, List.any_append]
          show (_ || (_ || false)) = _
          rw [Bool.or_false]
        refine ⟨t, _, rfl, .of (s4 _ _ g1), rfl, _, _, rfl, _, _, rfl, rfl, rfl, ?_⟩
        refine ⟨_, rfl, _, rfl, S, _, rfl, .inl (.of (s4 _ _ g2)), rfl, TX.flat_strs _, _, rfl, ?_⟩
        rw [if_neg Bool.false_ne_true]
        have ei : inV (V.str c) (p.1.map V.str) = decide (c ∈ p.1) := inV_str c _
        rw [ei]
        by_cases zc : c ∈ p.1
        · rw [decide_eq_true zc] at nx ⊢
          show (if true = true then _ else _)
          rw [if_pos rfl]
          refine ⟨_, rfl, S, rfl, ⟨_, .of (s4 _ _ g2)⟩, fun D2 nD2 => ?_⟩
          refine lc_it (walk_list (xs := p.1.map V.str)) (fun n g2' => g2' D2 = some (.lst (((p.1.take n).filter fun o => decide (o ∈ inner)).map V.str)) ∧ Same g' g2') ⟨upd_same, Same.new nD2⟩ (fun n g2' _ ⟨_, s⟩ => .of (s _ _ (s4 _ _ g2))) ?_ ?_
          · rintro n u k1 k1' hn ⟨e5, s5⟩ ⟨rfl, hu⟩
            rw [List.length_map] at hn
            obtain ⟨o, ho, rfl⟩ : ∃ o, p.1[n]? = some o ∧ u = V.str o := by
              rw [List.getElem?_map, List.getElem?_eq_getElem hn] at hu
              exact ⟨_, List.getElem?_eq_getElem hn, (Option.some.inj hu).symm⟩
            refine ⟨rfl, ?_⟩
            refine ⟨_, rfl, _, rfl, Be, _, rfl, .inl (.of (((sh.trans s4).trans s5) _ _ eBe)), rfl, TX.flat_strs _, _, rfl, ?_⟩
            have eo : inV (V.str o) (inner.map V.str) = decide (o ∈ inner) := inV_str o _
            have nx2 : (p.1.take (n + 1)).filter (fun o => decide (o ∈ inner)) = (p.1.take n).filter (fun o => decide (o ∈ inner)) ++ (if decide (o ∈ inner) = true then [o] else []) := by
              rw [List.take_add_one, ho, List.filter_append]
              congr 1
              show List.filter _ [o] = _
              rw [List.filter_cons, List.filter_nil]
            rw [if_neg Bool.false_ne_true]
            show (if inV (V.str o) (inner.map V.str) = true then _ else _)
            rw [eo]
            by_cases z : decide (o ∈ inner) = true
            · rw [if_pos z]
              rw [if_pos z] at nx2
              refine ⟨_, rfl, _, e5, ?_, ?_, Same.mut s5 nD2⟩
              · rw [List.length_map]
                have := List.length_filter_le (fun o => decide (o ∈ inner)) (p.1.take n)
                rw [List.length_take] at this
                exact line100' (by omega)
              · rw [upd_same, nx2, List.map_append]
                rfl
            · rw [if_neg z]
              rw [if_neg z, List.append_nil] at nx2
              refine ⟨?_, s5⟩
              rw [nx2]
              exact e5
          rintro k1 ⟨e5, s5⟩
          rw [List.length_map, List.take_length] at e5
          refine ⟨by show 0 ≤ sizeLine; decide, fun Z nZ => ?_⟩
          have sZ : Same k1 (upd k1 Z (.lst [])) := Same.new nZ
          refine ⟨D2, Z, _, rfl, rfl, .of (sZ _ _ e5), .of upd_same, _, rfl, ?_⟩
          have etouch : (!((p.1.filter fun o => decide (o ∈ inner)).map V.str).isEmpty) = T33T.touch inner p.1 := by
            unfold T33T.touch
            rw [Bool.eq_iff_iff, List.any_eq_true, Bool.not_eq_true', List.isEmpty_eq_false_iff]
            constructor
            · intro h
              obtain ⟨o, ho⟩ := List.exists_mem_of_ne_nil _ h
              obtain ⟨o', ho', _⟩ := List.mem_map.mp ho
              exact ⟨o', (List.mem_filter.mp ho').1, (List.mem_filter.mp ho').2⟩
            · rintro ⟨o, ho, z⟩ e
              have : o ∈ p.1.filter fun o => decide (o ∈ inner) := List.mem_filter.mpr ⟨ho, z⟩
              rw [List.map_eq_nil_iff] at e
              rw [e] at this
              cases this
          rw [etouch]
          have s5Z := s5.trans sZ
          generalize upd k1 Z (.lst []) = k2 at s5Z ⊢
          rw [Bool.true_and] at nx
          show (if T33T.touch inner p.1 = true then _ else _)
          by_cases zt : T33T.touch inner p.1 = true
          · rw [if_pos zt]
            refine ⟨_, rfl, _, s5Z _ _ e4, by rw [List.length_map]; exact line100' (by omega), ss ++ [S], by rw [upd_same, List.map_append]; rfl, by rw [List.length_append]; show _ + 1 ≤ _; omega, ?_, Same.mut (s4.trans s5Z) nDn⟩
            rw [nx, zt, Bool.or_true]
            cases ss <;> rfl
          · rw [if_neg zt]
            have zf : T33T.touch inner p.1 = false := by simpa using zt
            exact ⟨ss, s5Z _ _ e4, by omega, by rw [nx, zf, Bool.or_false]; exact emp, s4.trans s5Z⟩
        · rw [decide_eq_false zc] at nx ⊢
          show (if false = true then _ else _)
          rw [if_neg Bool.false_ne_true]
          rw [Bool.false_and, Bool.or_false] at nx
          exact ⟨ss, e4, by omega, by rw [nx]; exact emp, s4⟩
      · rintro g ⟨ss, e4, ls, emp, s4⟩
        rw [List.length_map, lts, List.take_length] at emp
        have nxa : dueL inner (a.take (i + 1)) tabs = dueL inner (a.take i) tabs ++ (if (tabs.any fun t => decide (c ∈ t.1) && T33T.touch inner t.1) = true then [c] else []) := by
          unfold dueL
          rw [List.take_add_one, hc, List.filter_append]
          congr 1
          show List.filter _ [c] = _
          rw [List.filter_cons, List.filter_nil]
        refine ⟨_, rfl, by show 0 ≤ sizeLine; decide, fun Z nZ => ?_⟩
        have sZ : Same g (upd g Z (.lst [])) := Same.new nZ
        refine ⟨Dn, Z, _, rfl, rfl, .of (sZ _ _ e4), .of upd_same, _, rfl, ?_⟩
        have s4Z := s4.trans sZ
        generalize upd g Z (.lst []) = g2 at s4Z ⊢
        have ee : (!(ss.map V.ref).isEmpty) = (tabs.any fun t => decide (c ∈ t.1) && T33T.touch inner t.1) := by
          have : (ss.map V.ref).isEmpty = ss.isEmpty := by cases ss <;> rfl
          rw [this, emp, Bool.not_not]
        rw [ee]
        have eFd2 := s4Z _ _ eFd
        have dl : (dueL inner (a.take i) tabs).length ≤ 8 := by
          have := List.length_filter_le (fun n => tabs.any fun t => decide (n ∈ t.1) && T33T.touch inner t.1) (a.take i)
          rw [List.length_take] at this
          unfold dueL
          omega
        refine ite2 (fun hz => ?_) (fun hz => ?_)
        · refine ⟨_, rfl, .inl ⟨rfl, _, .inl (.inl eFd2)⟩, _, rfl, Fd, _, _, rfl, rfl, eFd2, by rw [List.length_map]; exact line100' (by omega), ?_⟩
          refine ⟨_, _, rfl, ?_, by rw [upd_ne AF]; exact s4Z _ _ eAb', Same.mut (sh.trans s4Z) nFd⟩
          rw [upd_same, nxa, if_pos hz, List.map_append]
          rfl
        · exact ⟨_, _, rfl, by rw [nxa, if_neg hz, List.append_nil]; exact eFd2, s4Z _ _ eAb', sh.trans s4Z⟩
    · rintro σ h ⟨v5, v6, rfl, eFd, _, sh⟩
      rw [List.length_map, List.take_length] at eFd
      exact ⟨_, rfl, q h Fd (s1.trans sh) nFH eFd⟩
end
end T33

set_option maxHeartbeats 4000000
namespace T33
open PySem L2 PyProof.Rows TX TY TW TD TB TG TUD TE TK TNN
/-! ### the tables of the program -/
/-- a table as the program holds it -/
structure Tb (C : Addr) (H : Hp) (u : Addr) (t : LTab) : Prop where
  at_ : TG.TabAt C H u t.1 (norm t.2)
theorem Tb.same {C : Addr} {H H' : Hp} {u : Addr} {t : LTab} (h : Tb C H u t) (s : Same H H') : Tb C H' u t := ⟨h.at_.same s⟩
theorem Tb.cols {C : Addr} {H : Hp} {u : Addr} {t : LTab} (h : Tb C H u t) : T33T.TabAt C H u t.1 := by
  obtain ⟨⟨dx, l, r, as, h1, h2, _⟩⟩ := h
  exact ⟨dx, l, r, h1, h2⟩
section
variable {P : Program} {w : World} {K : PySem.W.Frag} {mg : Str → Option Value} {base : Heap}
variable {fW fN fA fR fK fS : Addr} {dW dN dA dR dK dS : FuncData}
variable {C fI : Addr} {dI : FuncData}
structure Im (K : PySem.W.Frag) (mg : Str → Option Value) (C fI : Addr) (dI : FuncData) : Prop where
  iF : FunD K "__init__" "Table.__init__" (defArgs s_binit) (defBody s_binit) (defScope s_binit) [.non] [] fI dI
  iM : Mk K C fI
  iB : Binds K dI ["self", "columns", "rows"] []
abbrev N_made : List Str := ["_law_tables_here", "_law_names_here", "_law_rows_here"]
theorem sc_made : FnScope N_made ["_law_tables_here"] (defScope s_made) := ⟨rfl, rfl, rfl, by decide +kernel, rfl, by decide +kernel, by decide +kernel⟩
abbrev rListOf (K : PySem.W.Frag) : List V → Hp → VK → Prop := fun xs H Q => ∃ p ys, xs = [.ref p] ∧ (SqL K H p ys ∨ SqT K H p ys) ∧ ∀ l, H l = none → Q (.ref l) (upd H l (.lst ys))
def sp_lmade (C : Addr) : Sp := fun vs H Q _ => ∃ (M : Addr) (ts : List Addr) (tabs : List LTab), vs = [.ref M] ∧ H M = some (.lst (ts.map V.ref)) ∧ MTs H ts tabs ∧ (∀ t ∈ tabs, Cs t.1 ∧ (∀ r ∈ t.2, r.length = t.1.length) ∧ t.2.length ≤ 12) ∧ tabs.length ≤ 8 ∧
  ∀ (H' : Hp) (p : Addr) (us : List Addr), Same H H' → H p = none → H' p = some (.lst (us.map V.ref)) → Paired (Tb C H') us tabs → Q (.ref p) H'
theorem ok_lmade {f : Addr} {fd : FuncData} (F : Fn K mg "_law_made" s_made ["_law_tables_here"] f fd) (T : Kt K mg fW fN fA fR fK fS dW dN dA dR dK dS) (c : Bc K mg C) (I : Im K mg C fI dI) : FnOk P w K mg base CX0 6 f fd ["_law_tables_here"] (sp_lmade C) := by
  have B := T.B
  have GI : FnOk P w K mg base CX0 4 fI dI ["self", "columns", "rows"] (sp_binit C) := ok_binit I.iF T c
  refine F.F.ok sc_made (fun vs H Q E h => ?_) (fun cdv A outer s H vs Q E hr h => ?_)
  · obtain ⟨M, ts, tabs, rfl, _⟩ := h
    rfl
  · obtain ⟨M, ts, tabs, rfl, hM, hT, hok, few, q⟩ := h
    have nd := sc_made.nd
    refine ⟨_, pss_one (ps_ret (pe_lc (own := [("_law_names_here", 1), ("_law_rows_here", 2)]) (g := gTup K 2 (gCons (gName 1) (gCons (gName 2) gNil))) (tt := tYes) (te := tMake C (sp_binit C) [] E0 (tCons (tCB (rListOf K) (tCons (tVar 1) tNil)) (tCons (tCB (rListOf K) (tCons (tVar 2) tNil)) tNil))) rfl nd (pi_list (pv 0)) (blkOk_by (N := N_made) (sc := defScope s_made) (by decide +kernel))
        (fun _ _ _ _ _ => pg_tup rfl (pgs_cons (pg_name (i := 1) nd rfl (Or.inl rfl)) (pgs_cons (pg_name (i := 2) nd rfl (Or.inl rfl)) pgs_nil))) (fun _ _ _ _ _ => pts_nil)
        (fun _ _ _ _ _ => pe_make I.iM GI hr rfl c.g I.iB .nil pass0 (pa_cons (pe_callTy call_list_of (by rfl) B.list boot_list (pa_cons (pv 1) pa_nil)) (pa_cons (pe_callTy call_list_of (by rfl) B.list boot_list (pa_cons (pv 2) pa_nil)) pa_nil))))), ?_⟩
    have hal := Paired.length hT
    refine ⟨_, rfl, M, rfl, ⟨_, .of hM⟩, fun Dn nDn => ?_⟩
    refine lc_it (walk_list (xs := ts.map V.ref)) (fun i h => ∃ us, h Dn = some (.lst (us.map V.ref)) ∧ Paired (fun u t => TabN C (upd H Dn (.lst [])) h u t.1 (norm t.2)) us (tabs.take i) ∧ Same H h ∧ ∀ c, (upd H Dn (.lst [])) c ≠ none → h c ≠ none) ⟨[], upd_same, .nil, Same.new nDn, fun _ z => z⟩ (fun i h _ ⟨_, _, _, s, _⟩ => .of (s _ _ hM)) ?_ ?_
    · rintro i x h h' hi ⟨us, e4, t4, s4, k4⟩ ⟨rfl, hx⟩
      rw [List.length_map] at hi
      obtain ⟨t, ht, rfl⟩ : ∃ a, ts[i]? = some a ∧ x = V.ref a := by
        rw [List.getElem?_map, List.getElem?_eq_getElem hi] at hx
        exact ⟨_, List.getElem?_eq_getElem hi, (Option.some.inj hx).symm⟩
      obtain ⟨p, hp, S, l, rs, g1, g2, g3, g4⟩ := pr_at hT ht
      obtain ⟨pc, pl, pf⟩ := hok p (List.mem_of_getElem? hp)
      refine ⟨t, _, rfl, .of (s4 _ _ g1), rfl, _, _, rfl, _, _, rfl, rfl, rfl, ?_⟩
      dsimp only [tYes]
      rw [if_pos rfl]
      refine ⟨_, rfl, S, _, rfl, .inl (.of (s4 _ _ g2)), fun S2 nS2 => ?_⟩
      have sS : Same h' (upd h' S2 (.lst (p.1.map V.str))) := Same.new nS2
      have eS : upd h' S2 (.lst (p.1.map V.str)) S2 = some (.lst (p.1.map V.str)) := upd_same
      generalize upd h' S2 (.lst (p.1.map V.str)) = h2 at sS eS ⊢
      have s42 := s4.trans sS
      refine ⟨_, rfl, l, _, rfl, .inl (.of (s42 _ _ g3)), fun R2 nR2 => ?_⟩
      have sR : Same h2 (upd h2 R2 (.lst (rs.map V.ref))) := Same.new nR2
      have eR : upd h2 R2 (.lst (rs.map V.ref)) R2 = some (.lst (rs.map V.ref)) := upd_same
      have eS3 := sR _ _ eS
      have s43 := s42.trans sR
      have s23 := sS.trans sR
      generalize upd h2 R2 (.lst (rs.map V.ref)) = h3 at sR eR eS3 s43 s23 ⊢
      intro y dx ny ndx hne
      have sx : Same h3 (upd (upd h3 dx (.own y)) y (.ins C dx [])) := fun c o e => by rw [upd_ne (ne_of_none e ny), upd_ne (ne_of_none e ndx)]; exact e
      refine ⟨y, S2, dx, .ref R2, p.1, rs, p.2, rfl, upd_same, sx _ _ eS3, pc, .inr ⟨R2, rfl, sx _ _ eR, (g4.same s43).same sx⟩, ⟨pl, by omega⟩, fun h5 tb keep => ⟨rfl, ?_⟩⟩
      have s35 : Same h3 h5 := fun c o e => keep c o (ne_of_none e ny) (sx _ _ e)
      have s5 := s23.trans s35
      have e5 := s5 _ _ e4
      have tn := (tb.back sx).back s23
      refine ⟨_, e5, ?_, us ++ [y], by rw [upd_same, List.map_append]; rfl, ?_, Same.mut (s4.trans s5) nDn, ?_⟩
      · rw [List.length_map, Paired.length t4, List.length_take]
        exact line100' (by omega)
      · rw [List.take_add_one, hp]
        have e0 : upd H Dn (.lst []) Dn = some (.lst []) := upd_same
        have tn' : TabN C (upd H Dn (.lst [])) h5 y p.1 (norm p.2) := by
          obtain ⟨dx, l', r', as', h1, h2, h3, h4, h5', h6⟩ := tn
          exact ⟨dx, l', r', as', h1, h2, h3, h4, Classical.byContradiction fun z => k4 _ z h5', Classical.byContradiction fun z => k4 _ z h6⟩
        exact pr_snoc (Paired.mapP t4 fun a x e => (e.same s5).put e0 e5) (tn'.put e0 e5)
      · intro c hc
        have a := k4 c hc
        cases e : h' c with
        | none => exact absurd e a
        | some o =>
          have := s5 _ _ e
          by_cases z : c = Dn
          · rw [z, upd_same]
            exact Option.some_ne_none _
          · rw [upd_ne z, this]
            exact Option.some_ne_none _
    · rintro h ⟨us, e4, t4, s4, _⟩
      rw [List.length_map, hal, List.take_length] at t4
      exact q h Dn us s4 nDn e4 (Paired.mapP t4 fun a p e => ⟨e.tab⟩)
end
end T33

set_option maxHeartbeats 2000000
namespace T33
open PySem L2 PyProof.Rows TX TY TW TD TB TG TUD TE TK TNN
/-! ### the plain rows, and rows exchanged -/
/-- each table has its part of f among its rows -/
def SatL (tabs : List LTab) (f : Str → Int) : Prop := ∀ t ∈ tabs, t.1.map f ∈ t.2
/-- a column of a table that has to do with what lies beneath x: it lies there itself, or above x -/
theorem in_or_above {f : TM.Fo} {x : Str} {a : List Str} {k : TM.Fo} (nd : (TM.names f).Nodup) (hx : TM.loc f x = some (a, k)) {o n : Str} (ho : o ∈ x :: TM.names k) (hw : Way f n o) : n ∈ x :: TM.names k ∨ n ∈ a := by
  have oloc : ∃ a2 q2, TM.loc f o = some (a2, q2) ∧ (∀ m ∈ a2, m ∈ a ∨ m = x ∨ m ∈ TM.names k) ∧ ∀ m ∈ TM.names q2, m ∈ TM.names k := by
    rcases List.mem_cons.mp ho with rfl | ho
    · exact ⟨a, k, hx, fun m hm => .inl hm, fun m hm => hm⟩
    · obtain ⟨a2, q2, h2⟩ := TM.loc_names ho
      refine ⟨_, q2, TM.loc_down nd hx h2, fun m hm => ?_, fun m hm => (TM.seg_sub h2).subset (List.mem_cons_of_mem _ hm)⟩
      rcases List.mem_append.mp hm with hm | hm
      · exact .inl hm
      · rcases List.mem_cons.mp hm with rfl | hm
        · exact .inr (.inl rfl)
        · exact .inr (.inr ((TM.loc_sub h2).subset (List.mem_append_left _ hm)))
  obtain ⟨a2, q2, h2, up, dn⟩ := oloc
  rcases hw with rfl | h | h
  · exact .inl ho
  · unfold T33T.upF at h
    rw [h2] at h
    rcases up n (of_decide_eq_true h) with h | h | h
    · exact .inr h
    · exact .inl (h ▸ List.mem_cons_self)
    · exact .inl (List.mem_cons_of_mem _ h)
  · unfold T33T.upF at h
    cases hn : TM.loc f n with
    | none => rw [hn] at h; cases h
    | some p =>
      obtain ⟨a3, q3⟩ := p
      rw [hn] at h
      have : n ∈ TM.names q2 := (TM.up_down nd h2 hn).mp (of_decide_eq_true h)
      exact .inl (List.mem_cons_of_mem _ (dn n this))
/-- two rows that are alike at the columns that are due: what is beneath may be exchanged -/
theorem exchange {f : TM.Fo} {x : Str} {a : List Str} {k : TM.Fo} (nd : (TM.names f).Nodup) (hx : TM.loc f x = some (a, k)) {tabs : List LTab} (way : ∀ t ∈ tabs, ∀ n ∈ t.1, ∀ o ∈ t.1, Way f n o) {g h : Str → Int} (sg : SatL tabs g) (sh : SatL tabs h)
    (e : ∀ n ∈ dueL (x :: TM.names k) a tabs, g n = h n) : SatL tabs fun n => if n ∈ x :: TM.names k then h n else g n := by
  intro t ht
  by_cases z : T33T.touch (x :: TM.names k) t.1 = true
  · have : t.1.map (fun n => if n ∈ x :: TM.names k then h n else g n) = t.1.map h := by
      refine List.map_congr_left fun n hn => ?_
      by_cases hi : n ∈ x :: TM.names k
      · rw [if_pos hi]
      · rw [if_neg hi]
        have z' := z
        unfold T33T.touch at z'
        obtain ⟨o, ho, hoi⟩ := List.any_eq_true.mp z'
        rcases in_or_above nd hx (of_decide_eq_true hoi) (way t ht n hn o ho) with q | q
        · exact absurd q hi
        · exact e n (List.mem_filter.mpr ⟨q, List.any_eq_true.mpr ⟨t, ht, by rw [decide_eq_true hn, z]; rfl⟩⟩)
    rw [this]
    exact sh t ht
  · have : t.1.map (fun n => if n ∈ x :: TM.names k then h n else g n) = t.1.map g := by
      refine List.map_congr_left fun n hn => ?_
      rw [if_neg fun hi => z ?_]
      unfold T33T.touch
      exact List.any_eq_true.mpr ⟨n, hn, decide_eq_true hi⟩
    rw [this]
    exact sg t ht
end T33

set_option maxHeartbeats 2000000
namespace T33
open PySem L2 PyProof.Rows TX TY TW TD TB TG TUD TE TK TNN
/-! ### the plain rows, table by table -/
theorem row_fun {cs : List Str} {r : List Int} (nd : cs.Nodup) (hl : r.length = cs.length) : ∃ f : Str → Int, r = cs.map f := by
  refine ⟨fun n => r.getD (cs.idxOf n) 0, List.ext_getElem? fun i => ?_⟩
  rw [List.getElem?_map]
  by_cases hi : i < cs.length
  · rw [List.getElem?_eq_getElem hi, List.getElem?_eq_getElem (by omega)]
    show _ = some (r.getD (cs.idxOf cs[i]) 0)
    rw [nd.idxOf_getElem i hi, List.getD_eq_getElem?_getD, List.getElem?_eq_getElem (by omega)]
    rfl
  · rw [List.getElem?_eq_none (by omega), List.getElem?_eq_none (by omega)]
    rfl
theorem map_at {cs : List Str} {f : Str → Int} {n : Str} (h : n ∈ cs) : (cs.map f).getD (cs.idxOf n) 0 = f n := by
  have hk := List.idxOf_lt_length_of_mem h
  rw [List.getD_eq_getElem?_getD, List.getElem?_map, List.getElem?_eq_getElem hk, List.getElem_idxOf hk]
  rfl
def newN (U cs : List Str) : List Str := cs.filter fun n => !decide (n ∈ U)
def valU (U : List Str) (r : List Int) (n : Str) : Option Int := if n ∈ U then some (r.getD (U.idxOf n) 0) else none
def compat (U : List Str) (r : List Int) (cs : List Str) (q : List Int) : Bool := (cs.zip q).all fun p => decide ((valU U r p.1).getD p.2 = p.2)
def bothU (U : List Str) (r : List Int) (cs : List Str) (q : List Int) : List Int := r ++ (newN U cs).map fun n => q.getD (cs.idxOf n) 0
def stepP (U : List Str) (rows : List (List Int)) (t : LTab) : List (List Int) := rows.flatMap fun r => ((norm t.2).filter fun q => compat U r t.1 q).map fun q => bothU U r t.1 q
theorem new_mem {U cs : List Str} {n : Str} : n ∈ newN U cs ↔ n ∈ cs ∧ n ∉ U := by
  unfold newN
  rw [List.mem_filter]
  simp
theorem zip_own : ∀ (cs : List Str) (g : Str → Int), cs.zip (cs.map g) = cs.map fun n => (n, g n)
  | [], _ => rfl
  | c :: cs, g => by rw [List.map_cons, List.zip_cons_cons, zip_own cs g]; rfl
theorem compat_iff {U cs : List Str} {f g : Str → Int} : compat U (U.map f) cs (cs.map g) = true ↔ ∀ n ∈ cs, n ∈ U → f n = g n := by
  unfold compat
  rw [List.all_eq_true]
  have z : cs.zip (cs.map g) = cs.map fun n => (n, g n) := by
    exact zip_own cs g
  rw [z]
  constructor
  · intro h n hn hu
    have := of_decide_eq_true (h _ (List.mem_map.mpr ⟨n, hn, rfl⟩))
    unfold valU at this
    rw [if_pos hu, map_at hu] at this
    exact this
  · intro h p hp
    obtain ⟨n, hn, rfl⟩ := List.mem_map.mp hp
    refine decide_eq_true ?_
    unfold valU
    by_cases hu : n ∈ U
    · rw [if_pos hu, map_at hu]
      exact h n hn hu
    · rw [if_neg hu]
      rfl
theorem step_sat {U : List Str} {rows : List (List Int)} {t : LTab} (nU : U.Nodup) (nt : t.1.Nodup) (wr : ∀ r ∈ rows, r.length = U.length) (wt : ∀ r ∈ t.2, r.length = t.1.length) (f : Str → Int) :
    (U ++ newN U t.1).map f ∈ stepP U rows t ↔ U.map f ∈ rows ∧ t.1.map f ∈ t.2 := by
  unfold stepP
  rw [List.mem_flatMap]
  constructor
  · rintro ⟨r, hr, h⟩
    obtain ⟨q, hq, e⟩ := List.mem_map.mp h
    obtain ⟨hq, hc⟩ := List.mem_filter.mp hq
    have hq := mem_norm.mp hq
    unfold bothU at e
    rw [List.map_append] at e
    have e2 := List.append_inj e (by rw [wr r hr, List.length_map])
    obtain ⟨g, rfl⟩ := row_fun nt (wt q hq)
    rw [e2.1] at hr hc
    refine ⟨hr, ?_⟩
    have : t.1.map f = t.1.map g := by
      refine List.map_congr_left fun n hn => ?_
      by_cases hu : n ∈ U
      · exact compat_iff.mp hc n hn hu
      · have := List.map_inj_left.mp e2.2 n (new_mem.mpr ⟨hn, hu⟩)
        rw [map_at hn] at this
        exact this.symm
    rw [this]
    exact hq
  · rintro ⟨hr, hq⟩
    refine ⟨_, hr, List.mem_map.mpr ⟨t.1.map f, List.mem_filter.mpr ⟨mem_norm.mpr hq, compat_iff.mpr fun n _ _ => rfl⟩, ?_⟩⟩
    unfold bothU
    rw [List.map_append]
    congr 1
    exact List.map_congr_left fun n hn => map_at (new_mem.mp hn).1
theorem step_wide {U : List Str} {rows : List (List Int)} {t : LTab} (wr : ∀ r ∈ rows, r.length = U.length) : ∀ r ∈ stepP U rows t, r.length = (U ++ newN U t.1).length := by
  intro r hr
  obtain ⟨r0, hr0, h⟩ := List.mem_flatMap.mp hr
  obtain ⟨q, _, rfl⟩ := List.mem_map.mp h
  unfold bothU
  rw [List.length_append, List.length_append, List.length_map, wr r0 hr0]
theorem new_nd {U cs : List Str} (nU : U.Nodup) (nc : cs.Nodup) : (U ++ newN U cs).Nodup := by
  refine List.nodup_append.mpr ⟨nU, nc.filter _, fun a ha b hb e => ?_⟩
  exact (new_mem.mp hb).2 (e ▸ ha)
/-- all tables' rows together, and at which columns -/
def plainP (tabs : List LTab) : List Str × List (List Int) := tabs.foldl (fun a t => (a.1 ++ newN a.1 t.1, stepP a.1 a.2 t)) ([], [[]])
structure POk (tabs : List LTab) (a : List Str × List (List Int)) : Prop where
  nd : a.1.Nodup
  wide : ∀ r ∈ a.2, r.length = a.1.length
  col : ∀ x, x ∈ a.1 ↔ ∃ t ∈ tabs, x ∈ t.1
  sat : ∀ f, a.1.map f ∈ a.2 ↔ SatL tabs f
theorem plain_snoc (tabs : List LTab) (t : LTab) : plainP (tabs ++ [t]) = ((plainP tabs).1 ++ newN (plainP tabs).1 t.1, stepP (plainP tabs).1 (plainP tabs).2 t) := by
  unfold plainP
  rw [List.foldl_append]
  rfl
theorem plain_ok : ∀ n (tabs : List LTab), tabs.length = n → (∀ t ∈ tabs, t.1.Nodup ∧ ∀ r ∈ t.2, r.length = t.1.length) → POk tabs (plainP tabs)
  | 0, tabs, hl, _ => by
    obtain rfl : tabs = [] := List.length_eq_zero_iff.mp hl
    exact ⟨List.nodup_nil, (fun r hr => by rw [List.mem_singleton.mp hr]; rfl), (fun x => ⟨(fun h => nomatch h), fun ⟨_, h, _⟩ => nomatch h⟩), fun f => ⟨(fun _ t h => nomatch h), fun _ => List.mem_singleton.mpr rfl⟩⟩
  | n + 1, tabs, hl, ok => by
    rcases List.eq_nil_or_concat tabs with rfl | ⟨l, t, rfl⟩
    · cases hl
    rw [List.concat_eq_append] at *
    have ih := plain_ok n l (by rw [List.length_append, List.length_singleton] at hl; omega) fun t ht => ok t (List.mem_append_left _ ht)
    obtain ⟨tn, tw⟩ := ok t (List.mem_append_right _ List.mem_cons_self)
    rw [plain_snoc]
    refine ⟨new_nd ih.nd tn, step_wide ih.wide, fun x => ?_, fun f => ?_⟩
    · rw [List.mem_append, ih.col, new_mem, ih.col]
      constructor
      · rintro (⟨s, hs, h⟩ | ⟨h, _⟩)
        · exact ⟨s, List.mem_append_left _ hs, h⟩
        · exact ⟨t, List.mem_append_right _ List.mem_cons_self, h⟩
      · rintro ⟨s, hs, h⟩
        rcases List.mem_append.mp hs with hs | hs
        · exact .inl ⟨s, hs, h⟩
        · rw [List.mem_singleton.mp hs] at h
          by_cases z : ∃ s ∈ l, x ∈ s.1
          · exact .inl z
          · exact .inr ⟨h, z⟩
    · rw [step_sat ih.nd tn ih.wide tw, ih.sat]
      constructor
      · rintro ⟨a, b⟩ s hs
        rcases List.mem_append.mp hs with hs | hs
        · exact a s hs
        · rw [List.mem_singleton.mp hs]
          exact b
      · intro h
        exact ⟨fun s hs => h s (List.mem_append_left _ hs), h t (List.mem_append_right _ List.mem_cons_self)⟩
end T33

set_option maxHeartbeats 2000000
namespace T33
open PySem L2 PyProof.Rows TX TY TW TD TB TG TUD TE TK TNN
/-! ### how many there are -/
def allL (xs : List Int) : Nat → List (List Int)
  | 0 => [[]]
  | n + 1 => (allL xs n).flatMap fun l => xs.map fun v => l ++ [v]
theorem allL_len (xs : List Int) : ∀ n, (allL xs n).length = xs.length ^ n
  | 0 => rfl
  | n + 1 => by
    have : ∀ l : List (List Int), (l.flatMap fun l => xs.map fun v => l ++ [v]).length = l.length * xs.length := by
      intro l
      induction l with
      | nil => rw [List.flatMap_nil, List.length_nil, Nat.zero_mul]
      | cons a l ih => rw [List.flatMap_cons, List.length_append, ih, List.length_map, List.length_cons, Nat.succ_mul, Nat.add_comm]
    show ((allL xs n).flatMap fun l => xs.map fun v => l ++ [v]).length = _
    rw [this, allL_len xs n, Nat.pow_succ]
theorem allL_mem (xs : List Int) : ∀ (n : Nat) (r : List Int), r.length = n → (∀ v ∈ r, v ∈ xs) → r ∈ allL xs n
  | 0, r, hl, _ => by
    rw [List.length_eq_zero_iff.mp hl]
    exact List.mem_singleton.mpr rfl
  | n + 1, r, hl, hv => by
    rcases List.eq_nil_or_concat r with rfl | ⟨l, v, rfl⟩
    · cases hl
    rw [List.concat_eq_append] at *
    rw [List.length_append, List.length_singleton] at hl
    exact List.mem_flatMap.mpr ⟨l, allL_mem xs n l (by omega) fun u hu => hv u (List.mem_append_left _ hu), List.mem_map.mpr ⟨v, hv v (List.mem_append_right _ List.mem_cons_self), rfl⟩⟩
theorem sub_lenL : ∀ {l m : List (List Int)}, l.Nodup → (∀ x ∈ l, x ∈ m) → l.length ≤ m.length := by
  intro l
  induction l with
  | nil => intro m _ _; exact Nat.zero_le _
  | cons a l ih =>
    intro m n s
    have ha := s a List.mem_cons_self
    rw [List.nodup_cons] at n
    have := ih (m := m.erase a) n.2 fun x hx => (List.mem_erase_of_ne (show x ≠ a from fun e => n.1 (by rw [← e]; exact hx))).mpr (s x (List.mem_cons_of_mem _ hx))
    rw [List.length_erase_of_mem ha] at this
    have : 0 < m.length := List.length_pos_of_mem ha
    rw [List.length_cons]
    omega
theorem rows_few {xs : List Int} {rows : List (List Int)} {n : Nat} (nd : rows.Nodup) (h : ∀ r ∈ rows, r.length = n ∧ ∀ v ∈ r, v ∈ xs) : rows.length ≤ xs.length ^ n := by
  rw [← allL_len xs n]
  exact sub_lenL nd fun r hr => allL_mem xs n r (h r hr).1 (h r hr).2
theorem pow_few {x m n : Nat} (h4 : x ≤ 4) (h8 : x ≤ 8 - m) (hm : m ≤ 6) (hn : n ≤ m) : x ^ n ≤ 256 := by
  have key : ∀ m, m ≤ 6 → ∀ x, x ≤ 4 → x ≤ 8 - m → ∀ n, n ≤ m → x ^ n ≤ 256 := by decide +kernel
  exact key m hm x h4 h8 n hn
theorem both_inj {U cs : List Str} {r1 r2 q1 q2 : List Int} (nc : cs.Nodup) (l1 : r1.length = U.length) (l2 : r2.length = U.length) (nU : U.Nodup) (k1 : q1.length = cs.length) (k2 : q2.length = cs.length) (c1 : compat U r1 cs q1 = true) (c2 : compat U r2 cs q2 = true)
    (e : bothU U r1 cs q1 = bothU U r2 cs q2) : r1 = r2 ∧ q1 = q2 := by
  unfold bothU at e
  have e2 := List.append_inj e (by rw [l1, l2])
  obtain ⟨f, rfl⟩ := row_fun nU l1
  obtain ⟨g1, rfl⟩ := row_fun nc k1
  obtain ⟨g2, rfl⟩ := row_fun nc k2
  refine ⟨e2.1, List.map_congr_left fun n hn => ?_⟩
  by_cases hu : n ∈ U
  · rw [← e2.1] at c2
    rw [← compat_iff.mp c1 n hn hu, ← compat_iff.mp c2 n hn hu]
  · have := List.map_inj_left.mp e2.2 n (new_mem.mpr ⟨hn, hu⟩)
    rwa [map_at hn, map_at hn] at this
theorem step_nd {U : List Str} {rows : List (List Int)} {t : LTab} (nU : U.Nodup) (nt : t.1.Nodup) (nr : rows.Nodup) (wr : ∀ r ∈ rows, r.length = U.length) (wt : ∀ r ∈ t.2, r.length = t.1.length) : (stepP U rows t).Nodup := by
  unfold stepP
  have wn : ∀ q ∈ norm t.2, q.length = t.1.length := fun q hq => wt q (mem_norm.mp hq)
  rw [List.nodup_iff_pairwise_ne, List.pairwise_flatMap]
  constructor
  · intro r hr
    rw [List.pairwise_map]
    refine ((rise_norm t.2).nodup.filter _).imp_of_mem fun {a b} ha hb hab e => ?_
    obtain ⟨ha, ca⟩ := List.mem_filter.mp ha
    obtain ⟨hb, cb⟩ := List.mem_filter.mp hb
    exact hab (both_inj nt (wr r hr) (wr r hr) nU (wn a ha) (wn b hb) ca cb e).2
  · refine List.Pairwise.imp_of_mem (fun {a b} ha hb hab x hx y hy e => ?_) nr
    obtain ⟨q1, hq1, rfl⟩ := List.mem_map.mp hx
    obtain ⟨q2, hq2, rfl⟩ := List.mem_map.mp hy
    obtain ⟨h1, c1⟩ := List.mem_filter.mp hq1
    obtain ⟨h2, c2⟩ := List.mem_filter.mp hq2
    exact hab (both_inj nt (wr a ha) (wr b hb) nU (wn q1 h1) (wn q2 h2) c1 c2 e).1
theorem step_vals {U : List Str} {rows : List (List Int)} {t : LTab} {xs : List Int} (wt : ∀ r ∈ t.2, r.length = t.1.length ∧ ∀ v ∈ r, v ∈ xs) (vr : ∀ r ∈ rows, ∀ v ∈ r, v ∈ xs) : ∀ r ∈ stepP U rows t, ∀ v ∈ r, v ∈ xs := by
  intro r hr v hv
  obtain ⟨r0, hr0, h⟩ := List.mem_flatMap.mp hr
  obtain ⟨q, hq, rfl⟩ := List.mem_map.mp h
  have hq := mem_norm.mp (List.mem_filter.mp hq).1
  unfold bothU at hv
  rcases List.mem_append.mp hv with hv | hv
  · exact vr r0 hr0 v hv
  · obtain ⟨n, hn, rfl⟩ := List.mem_map.mp hv
    obtain ⟨wl, wv⟩ := wt q hq
    have hk := List.idxOf_lt_length_of_mem (new_mem.mp hn).1
    refine wv _ ?_
    rw [List.getD_eq_getElem?_getD, List.getElem?_eq_getElem (by omega)]
    exact List.getElem_mem _
end T33

set_option maxHeartbeats 2000000
/- d.update(e), both dicts of numbers and texts as keys -/
namespace TUP
open PySem PySem.Spec L2 PyProof.Rows
section
variable {X : Cx} {pins : List (Addr × Obj)} {σ : L2.St} {H : Hp} {s : Shared} {a b : Addr} {A : Around} {E : Value → Shared → Prop}
theorem d_upd {kvs more : List (Key × V)} {Q : Value → Shared → Prop} (I : Inv X pins σ H s) (e : H a = some (.dK kvs)) (eb : H b = some (.dK more)) (ne : a ≠ b) (hl : kvs.length + more.length ≤ sizeLine)
    (h : ∀ s', Inv X pins σ (upd H a (.dK (mergeK kvs more))) s' → Q .none s') :
    wpAny (model X.prog X.w) A (call (.builtin "dict.update") [.ref a, .ref b]) Q E s := by
  obtain ⟨z, hd, vs, rel, dd⟩ := dk_of I.hok e
  obtain ⟨z2, hd2, ws, rel2, dd2⟩ := dk_of I.hok eb
  refine call_meetsIn PySem.F.slot_dict_update dd.typeIs PySem.F.entry_dict_update (PySem.F.args_dict_update_2 _ _) (meets_dict_update (mixKind X.prog X.w) a b ne hd2)
    ⟨vs, ws, dd, dd2, by rw [← rel.length, ← rel2.length]; exact hl, fun h' dd' _ hs => ?_⟩
  have he : ∃ q, h'.get? a = some q := let ⟨q, _, _, hq, _⟩ := dd'; ⟨q, hq⟩
  have hl2 : (mergeK kvs more).length ≤ sizeLine := Nat.le_trans (length_mergeK more kvs) hl
  exact h _ (d_write I (by rw [e]; exact True.intro) hs he (dk_new hl2 hd (rel2.merge rel) dd'))
end
/-- d.update(y) -/
def tDUpd (td ty : TE) : TE := fun σ H Q => td σ H fun x H1 => ∃ a, x = .ref a ∧ IsD H1 a ∧ ty σ H1 fun y H2 => ∃ (kvs more : List (Key × V)) (b : Addr), H2 a = some (.dK kvs) ∧ y = .ref b ∧ H2 b = some (.dK more) ∧ a ≠ b ∧ kvs.length + more.length ≤ sizeLine ∧
  Q .non (upd H2 a (.dK (mergeK kvs more)))
section
variable {X : Cx} {o e : Expr} {td ty : TE} {apos cpos : Pos}
theorem pe_dupd (ho : PE X o td) (he : PE X e ty) (m : M1 X o "update" apos e cpos) : PE X (.Call (.Attribute o "update" apos) [e] [] cpos) (tDUpd td ty) := by
  refine ⟨fun pins s σ H Q I h => ?_⟩
  refine wpAny_Call_method m.base m.few m.line PySem.F.plainAttrs_dict PySem.F.slot_dict_update PySem.F.type_dict_update (thn (ho.run pins s σ H _ I h) fun u s1 ⟨x, H1, I1, rx, a, ex, d, q1⟩ => ?_)
  subst ex
  obtain rfl : u = Value.ref a := rx
  obtain ⟨t1, t2, _⟩ := isD_at I1 d
  refine ⟨t1, t2, ?_⟩
  rw [m.trees]
  refine Calls.callWith_builtin rfl (Calls.evalArgs_plain (Calls.spliced_cons (thn (he.run pins s1 σ H1 _ I1 q1) fun iv s2 ⟨y, H2, I2, ry, kvs, more, b, ea, ey, eb, ne, l, q2⟩ => Calls.spliced_nil ?_)))
  subst ey
  cases (show iv = Value.ref b from ry)
  exact d_upd I2 ea eb ne l fun s3 I3 => ⟨.non, _, I3, (rfl : Value.none = Value.none), q2⟩
end
end TUP

set_option maxHeartbeats 2000000
/-! A rule of our own: dict(zip(xs, ys)), xs a list, ys a tuple. The zip of any two that are drawn from, its pair still held. -/
namespace TDZ
open PySem
section
variable {prog : Program} {w : World} {A : Around} {E : Value → Shared → Prop} {s : Shared} {z TI TO T i1 i2 : Addr} {fp1 fp2 : List Addr} {n1 n2 i : Nat} {P1 P2 : Nat → Value → Prop} {St1 St2 : Nat → Heap → Prop} {f : Bool} {oT : Obj}
theorem next_held {Q : Value → Shared → Prop} (S : ZipSep2 z TI TO i1 i2 fp1 fp2) (D1 : Draws prog w A i1 fp1 n1 P1 St1) (D2 : Draws prog w A i2 fp2 n2 P2 St2)
    (hz : IsZipHeld s.heap z TI TO T f) (hT : s.heap.get? T = some oT) (hTI : IsTupOf2 s.heap TI (.ref i1) (.ref i2)) (st1 : St1 i s.heap) (st2 : St2 i s.heap) (hlt1 : i < n1) (hlt2 : i < n2)
    (hQ : ∀ x1 x2 h' tk, P1 i x1 → P2 i x2 → IsZipHeld h' z TI TO T true → St1 (i + 1) h' → St2 (i + 1) h' → IsTupOf2 h' s.heap.objs.size x1 x2 → h'.objs.size = s.heap.objs.size + 1 →
      (∀ c o, c ≠ z → c ≠ i1 → c ≠ i2 → s.heap.get? c = some o → h'.get? c = some o) → Q (.ref s.heap.objs.size) { s with heap := h', toks := tk }) :
    wpAny (model prog w) A (Builtin.«zip.__next__» ⟨[.ref z], []⟩) (fun fin s' => ∃ v, fin = .done (.ret v) ∧ Q v s') E s := by
  obtain ⟨hp, g, d, tk0, os⟩ := s
  show wpAny _ _ (field (.ref z) 2 >>= _) _ _ _
  refine wpAny_bind (wpAny_field hz rfl (x := .bool false) rfl ?_)
  show wpAny _ _ (field (.ref z) 3 >>= _) _ _ _
  refine wpAny_bind (wpAny_field hz rfl (x := .ref TI) rfl ?_)
  refine wpAny_bind (wpAny_seqItems hTI rfl ?_)
  show wpAny _ _ (Builtin.SmallTypes.ownedTupleIsFree (.ref z) >>= _) _ _ _
  refine wpAny_bind (wpAny_tupleHeld_zip hz hT fun g0 hz0 hs0 => ?_)
  replace hs0 : Heap.SameBut z hp g0 := hs0
  simp only [Bool.false_eq_true, if_false]
  refine wpAny_bind ?_
  rw [← Array.forIn_toList]
  simp only [List.forIn_cons, List.forIn_nil]
  refine wpAny_bind (wpAny_bind (wpAny_holding ?_))
  show wpAny _ _ (Builtin.SmallTypes.nextOf (.ref i1) >>= _) _ _ ⟨g0, g, d, tk0, os⟩
  refine wpAny_bind (D1.item i _ _ _ hlt1 (D1.over st1 hs0 S.zf1) fun x1 p1 tk1 hx1 sn1 hp1 => wpAny_pure ?_)
  replace hp1 : Heap.SameBut i1 g0 p1 := hp1
  refine wpAny_pure ?_
  refine wpAny_bind (wpAny_bind (wpAny_holding ?_))
  show wpAny _ _ (Builtin.SmallTypes.nextOf (.ref i2) >>= _) _ _ ⟨p1, g, d, tk1, os⟩
  refine wpAny_bind (D2.item i _ _ _ hlt2 (D2.over (D2.over st2 hs0 S.zf2) hp1 S.sep1_2) fun x2 p2 tk2 hx2 sn2 hp2 => wpAny_pure ?_)
  replace hp2 : Heap.SameBut i2 p1 p2 := hp2
  refine wpAny_pure (wpAny_pure ?_)
  show wpAny _ _ (newTuple [x1, x2] >>= _) _ _ ⟨p2, g, d, tk2, os⟩
  refine wpAny_bind (wpAny_newTuple ?_)
  have hsz : p2.objs.size = hp.objs.size := by rw [hp2.1, hp1.1, hs0.1]
  have hz2 : IsZipHeld p2 z TI TO T true := hp2.extBut _ _ S.zi2 (hp1.extBut _ _ S.zi1 hz0)
  have hk : ∀ c o, c ≠ z → c ≠ i1 → c ≠ i2 → hp.get? c = some o → p2.get? c = some o := fun c o c1 c2 c3 e => hp2.extBut _ _ c3 (hp1.extBut _ _ c2 (hs0.extBut _ _ c1 e))
  have s1 : St1 (i + 1) p2 := D1.over sn1 hp2 S.sep2_1
  refine wpAny_pure ⟨_, rfl, ?_⟩
  show Q (.ref p2.objs.size) _
  have hpp : IsTupOf2 (p2.push { cls := .type "tuple", data := .seq #[x1, x2] }) p2.objs.size x1 x2 := Heap.get?_push_size _ rfl
  have hz4 : (p2.push { cls := .type "tuple", data := .seq #[x1, x2] }).objs.size = p2.objs.size + 1 := Heap.size_push ..
  rw [hsz] at hpp hz4 ⊢
  exact hQ x1 x2 _ tk2 hx1 hx2 (Heap.get?_push_of_some _ hz2) (D1.frame _ _ _ s1 fun b _ o e => Heap.get?_push_of_some _ e) (D2.frame _ _ _ sn2 fun b _ o e => Heap.get?_push_of_some _ e) hpp hz4
    fun c o c1 c2 c3 e => Heap.get?_push_of_some _ (hk c o c1 c2 c3 e)
theorem end_held {Q : Fin → Shared → Prop} (S : ZipSep2 z TI TO i1 i2 fp1 fp2) (D1 : Draws prog w A i1 fp1 n1 P1 St1) (D2 : Draws prog w A i2 fp2 n2 P2 St2)
    (hz : IsZipHeld s.heap z TI TO T f) (hT : s.heap.get? T = some oT) (hTI : IsTupOf2 s.heap TI (.ref i1) (.ref i2)) (st1 : St1 i s.heap) (st2 : St2 i s.heap) (hle1 : i ≤ n1) (hle2 : i ≤ n2) (hend : i = n1 ∨ i = n2)
    (hE : ∀ h' tk e, (∀ c o, c ≠ z → c ≠ i1 → c ≠ i2 → s.heap.get? c = some o → h'.get? c = some o) → (∃ o, h'.get? e = some o ∧ o.cls = .type "StopIteration") → E (.ref e) { s with heap := h', toks := tk }) :
    wpAny (model prog w) A (Builtin.«zip.__next__» ⟨[.ref z], []⟩) Q E s := by
  obtain ⟨hp, g, d, tk0, os⟩ := s
  show wpAny _ _ (field (.ref z) 2 >>= _) _ _ _
  refine wpAny_bind (wpAny_field hz rfl (x := .bool false) rfl ?_)
  show wpAny _ _ (field (.ref z) 3 >>= _) _ _ _
  refine wpAny_bind (wpAny_field hz rfl (x := .ref TI) rfl ?_)
  refine wpAny_bind (wpAny_seqItems hTI rfl ?_)
  show wpAny _ _ (Builtin.SmallTypes.ownedTupleIsFree (.ref z) >>= _) _ _ _
  refine wpAny_bind (wpAny_tupleHeld_zip hz hT fun g0 hz0 hs0 => ?_)
  replace hs0 : Heap.SameBut z hp g0 := hs0
  simp only [Bool.false_eq_true, if_false]
  refine wpAny_bind ?_
  rw [← Array.forIn_toList]
  simp only [List.forIn_cons, List.forIn_nil]
  refine wpAny_bind (wpAny_bind (wpAny_holding ?_))
  show wpAny _ _ (Builtin.SmallTypes.nextOf (.ref i1) >>= _) _ _ ⟨g0, g, d, tk0, os⟩
  by_cases hlt1 : i < n1
  · refine wpAny_bind (D1.item i _ _ _ hlt1 (D1.over st1 hs0 S.zf1) fun x1 p1 tk1 hx1 sn1 hp1 => wpAny_pure ?_)
    replace hp1 : Heap.SameBut i1 g0 p1 := hp1
    refine wpAny_pure ?_
    refine wpAny_bind (wpAny_bind (wpAny_holding ?_))
    show wpAny _ _ (Builtin.SmallTypes.nextOf (.ref i2) >>= _) _ _ ⟨p1, g, d, tk1, os⟩
    have e2 : i = n2 := by omega
    have st2' : St2 n2 p1 := by
      have := D2.over (D2.over st2 hs0 S.zf2) hp1 S.sep1_2
      rw [← e2]; exact this
    refine wpAny_bind (D2.done _ _ _ st2' fun p2 e hp2 he => ?_)
    exact hE p2 tk1 e (fun c o c1 c2 c3 x => hp2 _ _ c3 (hp1.extBut _ _ c2 (hs0.extBut _ _ c1 x))) he
  · have e1 : i = n1 := by omega
    have st1' : St1 n1 g0 := by
      have := D1.over st1 hs0 S.zf1
      rw [← e1]; exact this
    refine wpAny_bind (D1.done _ _ _ st1' fun p2 e hp2 he => ?_)
    exact hE p2 tk0 e (fun c o c1 c2 c3 x => hp2 _ _ c2 (hs0.extBut _ _ c1 x)) he
theorem pyNext_held {Q : Option Value → Shared → Prop} (S : ZipSep2 z TI TO i1 i2 fp1 fp2) (D1 : Draws prog w A.in1 i1 fp1 n1 P1 St1) (D2 : Draws prog w A.in1 i2 fp2 n2 P2 St2)
    (hz : IsZipHeld s.heap z TI TO T f) (hT : s.heap.get? T = some oT) (hTI : IsTupOf2 s.heap TI (.ref i1) (.ref i2)) (st1 : St1 i s.heap) (st2 : St2 i s.heap) (hlt1 : i < n1) (hlt2 : i < n2)
    (hQ : ∀ x1 x2 h' tk, P1 i x1 → P2 i x2 → IsZipHeld h' z TI TO T true → St1 (i + 1) h' → St2 (i + 1) h' → IsTupOf2 h' s.heap.objs.size x1 x2 → h'.objs.size = s.heap.objs.size + 1 →
      (∀ c o, c ≠ z → c ≠ i1 → c ≠ i2 → s.heap.get? c = some o → h'.get? c = some o) → Q (some (.ref s.heap.objs.size)) { s with heap := h', toks := tk }) :
    wpAny (model prog w) A (pyNext (.ref z)) Q E s := by
  have hTy : s.TypeIs (.ref z) "zip" := ⟨_, hz, rfl⟩
  unfold pyNext
  exact wpAny_bind (wpAny_attempt (wpAny_callSpecial?_slot (name := Str.ofString "__next__") hTy F.slot_zip_next
    (wpAny_call_entry F.slot_zip_next hTy F.entry_zip_next
      (next_held S D1 D2 hz hT hTI st1 st2 hlt1 hlt2 fun x1 x2 h' tk y1 y2 a1 a2 a3 a4 a5 a6 => wpAny_pure (hQ x1 x2 h' tk y1 y2 a1 a2 a3 a4 a5 a6)) (F.args_zip_next_1 _))))
theorem pyNext_end_held {Q : Option Value → Shared → Prop} (S : ZipSep2 z TI TO i1 i2 fp1 fp2) (D1 : Draws prog w A.in1 i1 fp1 n1 P1 St1) (D2 : Draws prog w A.in1 i2 fp2 n2 P2 St2)
    (hz : IsZipHeld s.heap z TI TO T f) (hT : s.heap.get? T = some oT) (hTI : IsTupOf2 s.heap TI (.ref i1) (.ref i2)) (st1 : St1 i s.heap) (st2 : St2 i s.heap) (hle1 : i ≤ n1) (hle2 : i ≤ n2) (hend : i = n1 ∨ i = n2)
    (hQ : ∀ h' tk, (∀ c o, c ≠ z → c ≠ i1 → c ≠ i2 → s.heap.get? c = some o → h'.get? c = some o) → Q none { s with heap := h', toks := tk }) : wpAny (model prog w) A (pyNext (.ref z)) Q E s := by
  have hTy : s.TypeIs (.ref z) "zip" := ⟨_, hz, rfl⟩
  unfold pyNext
  refine wpAny_bind (wpAny_attempt (wpAny_callSpecial?_slot (name := Str.ofString "__next__") hTy F.slot_zip_next
    (wpAny_call_entry F.slot_zip_next hTy F.entry_zip_next (end_held S D1 D2 hz hT hTI st1 st2 hle1 hle2 hend fun h' tk e hk he => ?_) (F.args_zip_next_1 _))))
  obtain ⟨o, ho, hc⟩ := he
  refine wpAny_bind (wpAny_isInstance (T := "StopIteration") (b := true) ⟨o, ho, hc⟩ isSubtype_stop ?_)
  exact wpAny_pure (hQ _ _ hk)
/-- zip of any two that are drawn from, as the argument of dict() -/
theorem arg_zip (S : ZipSep2 z TI TO i1 i2 fp1 fp2) (D1 : ∀ A : Around, A.handled = none → Draws prog w A i1 fp1 n1 P1 St1) (D2 : ∀ A : Around, A.handled = none → Draws prog w A i2 fp2 n2 P2 St2) (l1 : ∀ i h, St1 i h → ∀ b ∈ fp1, ∃ o, h.get? b = some o) (l2 : ∀ i h, St2 i h → ∀ b ∈ fp2, ∃ o, h.get? b = some o) :
    PairArg prog w "zip" z (z :: TI :: TO :: (fp1 ++ fp2)) [z, TO, i1, i2] (min n1 n2) (fun i k v => P1 i k ∧ P2 i v)
      (fun h => IsZip h z TI TO .none ∧ IsTupOf2 h TI (.ref i1) (.ref i2) ∧ (∃ a b, IsTupOf2 h TO a b) ∧ St1 0 h ∧ St2 0 h) where
  type := fun s ok => ⟨_, ok.1, rfl⟩
  notDict := by decide
  keep := fun h h' ok hk => by
    obtain ⟨hz, hTI, ⟨a, b, hTO⟩, h1, h2⟩ := ok
    exact ⟨hk _ _ hz, hk _ _ hTI, ⟨a, b, hk _ _ hTO⟩, (D1 ({} : Around) rfl).frame _ _ _ h1 fun b _ o e => hk _ o e, (D2 ({} : Around) rfl).frame _ _ _ h2 fun b _ o e => hk _ o e⟩
  there := fun h ok b hb => by
    obtain ⟨hz, hTI, ⟨a, c, hTO⟩, h1, h2⟩ := ok
    rcases List.mem_cons.mp hb with e | hb
    · rw [e]; exact ⟨_, hz⟩
    rcases List.mem_cons.mp hb with e | hb
    · rw [e]; exact ⟨_, hTI⟩
    rcases List.mem_cons.mp hb with e | hb
    · rw [e]; exact ⟨_, hTO⟩
    rcases List.mem_append.mp hb with hb | hb
    · exact l1 _ _ h1 b hb
    · exact l2 _ _ h2 b hb
  sub := fun b hb => by
    have m1 := S.mem1
    have m2 := S.mem2
    simp at hb ⊢
    rcases hb with e | e | e | e <;> rw [e] <;> simp [m1, m2]
  noKeys := fun A s Q E hA ok h => getAttrOr_miss_zip ok.1 rfl rfl rfl zip_no_keys (by decide +kernel) hA h
  iter := fun A s d Q E hA ok hd hdf h => by
    obtain ⟨hz, hTI, ⟨a, b, hTO⟩, h1, h2⟩ := ok
    simp only [List.mem_cons, List.mem_append, not_or] at hdf
    obtain ⟨dz, dTI, dTO, df1, df2⟩ := hdf
    have di1 : d ≠ i1 := fun e => df1 (by rw [e]; exact S.mem1)
    have di2 : d ≠ i2 := fun e => df2 (by rw [e]; exact S.mem2)
    refine wpAny_pyIter_zip hz (h z [z, TO, i1, i2] (fun i h => IsTupOf2 h TI (.ref i1) (.ref i2) ∧ St1 i h ∧ St2 i h ∧
      ((IsZip h z TI TO .none ∧ ∃ a b, IsTupOf2 h TO a b) ∨ ∃ T f oT, IsZipHeld h z TI TO T f ∧ h.get? T = some oT ∧ T ≠ z ∧ T ≠ i1 ∧ T ≠ i2 ∧ T ≠ d)) s.heap s.toks ?_
      ⟨hTI, h1, h2, .inl ⟨hz, a, b, hTO⟩⟩ (fun _ _ e => e) fun b hb => .inl hb)
    exact {
      off := fun hm => by
        simp only [List.mem_cons, List.not_mem_nil, or_false] at hm
        rcases hm with e | e | e | e
        · exact dz e
        · exact dTO e
        · exact di1 e
        · exact di2 e
      frame := fun i h₁ h₂ st hk => by
        obtain ⟨hTI, h1, h2, hz⟩ := st
        refine ⟨hk _ _ (Ne.symm dTI) hTI, (D1 A hA).frame _ _ _ h1 fun b hb o e => hk _ o (fun x => df1 (by rw [← x]; exact hb)) e, (D2 A hA).frame _ _ _ h2 fun b hb o e => hk _ o (fun x => df2 (by rw [← x]; exact hb)) e, ?_⟩
        rcases hz with ⟨hz, a, b, hTO⟩ | ⟨T, f, oT, hz, hT, r1, r2, r3, r4⟩
        · exact .inl ⟨hk _ _ (Ne.symm dz) hz, a, b, hk _ _ (Ne.symm dTO) hTO⟩
        · exact .inr ⟨T, f, oT, hk _ _ (Ne.symm dz) hz, hk _ _ r4 hT, r1, r2, r3, r4⟩
      item := fun i s₁ Q₁ E₁ hi st hds hQ => by
        obtain ⟨hTI, h1, h2, hz⟩ := st
        have hix : i < n1 := Nat.lt_of_lt_of_le hi (Nat.min_le_left ..)
        have hiy : i < n2 := Nat.lt_of_lt_of_le hi (Nat.min_le_right ..)
        have lt : ∀ {c o}, s₁.heap.get? c = some o → s₁.heap.objs.size ≠ c := fun e => Nat.ne_of_gt (Heap.lt_size e)
        have m1 : s₁.heap.objs.size ≠ i1 := by obtain ⟨_, e⟩ := (D1 A hA).live _ _ h1; exact lt e
        have m2 : s₁.heap.objs.size ≠ i2 := by obtain ⟨_, e⟩ := (D2 A hA).live _ _ h2; exact lt e
        rcases hz with ⟨hz, a, b, hTO⟩ | ⟨T, f, oT, hz, hT, r1, r2, r3, r4⟩
        · refine wpAny_pyNext_zipD2_item S (D1 A.in1 hA) (D2 A.in1 hA) hz hTI hTO h1 h2 hix hiy fun x1 x2 h' tk y1 y2 a1 a2 a3 a4 a5 a6 hk => ?_
          exact hQ s₁.heap.objs.size _ _ h' tk ⟨y1, y2⟩ (.inl ⟨_, a5, rfl, _, rfl⟩)
            ⟨hk _ _ S.TIz S.TITO S.TIi1 S.TIi2 hTI, a3, a4, .inr ⟨s₁.heap.objs.size, false, _, a1, a5, lt hz, m1, m2, Nat.ne_of_gt hds⟩⟩
            fun c o hc e => hk c o (fun x => hc (by simp [x])) (fun x => hc (by simp [x])) (fun x => hc (by simp [x])) (fun x => hc (by simp [x])) e
        · refine pyNext_held S (D1 A.in1 hA) (D2 A.in1 hA) hz hT hTI h1 h2 hix hiy fun x1 x2 h' tk y1 y2 a1 a3 a4 a5 a6 hk => ?_
          exact hQ s₁.heap.objs.size _ _ h' tk ⟨y1, y2⟩ (.inl ⟨_, a5, rfl, _, rfl⟩)
            ⟨hk _ _ S.TIz S.TIi1 S.TIi2 hTI, a3, a4, .inr ⟨T, true, oT, a1, hk _ _ r1 r2 r3 hT, r1, r2, r3, r4⟩⟩
            fun c o hc e => hk c o (fun x => hc (by simp [x])) (fun x => hc (by simp [x])) (fun x => hc (by simp [x])) e
      done := fun s₁ Q₁ E₁ st hQ => by
        obtain ⟨hTI, h1, h2, hz⟩ := st
        have q1 : min n1 n2 ≤ n1 := Nat.min_le_left ..
        have q2 : min n1 n2 ≤ n2 := Nat.min_le_right ..
        have q3 : min n1 n2 = n1 ∨ min n1 n2 = n2 := by omega
        rcases hz with ⟨hz, a, b, hTO⟩ | ⟨T, f, oT, hz, hT, r1, r2, r3, r4⟩
        · exact wpAny_pyNext_zipD2_end S (D1 A.in1 hA) (D2 A.in1 hA) hz hTI hTO h1 h2 q1 q2 q3 fun h' tk hk => hQ h' tk fun c o hc e => hk c o (fun x => hc (by simp [x])) (fun x => hc (by simp [x])) (fun x => hc (by simp [x])) (fun x => hc (by simp [x])) e
        · exact pyNext_end_held S (D1 A.in1 hA) (D2 A.in1 hA) hz hT hTI h1 h2 q1 q2 q3 fun h' tk hk => hQ h' tk fun c o hc e => hk c o (fun x => hc (by simp [x])) (fun x => hc (by simp [x])) (fun x => hc (by simp [x])) e }
end
end TDZ

set_option maxHeartbeats 2000000
/-! dict(zip(xs, ys)), xs a list of numbers and texts, ys a tuple as long: the rule of the hand layer -/
namespace TDZ
open PySem L2 PyProof.Rows
theorem pairs_have {P : Program} {w : World} {ks : List Key} {ys : List V} {us vs : List Value} (rk : Vals (ks.map kV) us) (ry : Vals ys vs) (hl : ks.length = ys.length) :
    ∃ prs : List (Key × Value), PairsHave (mixKind P w) (min us.toArray.size vs.toArray.size) (fun i k v => us.toArray[i]? = some k ∧ vs.toArray[i]? = some v) prs ∧ KV (ks.zip ys) prs := by
  have l1 : us.length = ks.length := by rw [← rk.length, List.length_map]
  have l2 : vs.length = ys.length := by rw [← ry.length]
  refine ⟨ks.zip vs, ⟨?_, fun i key v h => ?_⟩, ?_⟩
  · rw [List.length_zip, List.size_toArray, List.size_toArray, l1]
  · obtain ⟨h1, h2⟩ := h
    have h1' : us[i]? = some key := by simpa using h1
    have h2' : vs[i]? = some v := by simpa using h2
    have hi : i < ks.length := by rw [← l1]; exact (List.getElem?_eq_some_iff.mp h1').1
    have hk : ks[i]? = some ks[i] := List.getElem?_eq_getElem hi
    refine ⟨ks[i], by rw [List.getElem?_zip_eq_some]; exact ⟨hk, h2'⟩, ?_⟩
    obtain ⟨u, e, r⟩ := rk.get (x := kV ks[i]) (i := i) (by rw [List.getElem?_map, hk]; rfl)
    rw [h1'] at e
    cases e
    exact kV_is r
  · clear rk l1 hl l2
    induction ry generalizing ks with
    | nil => simp only [List.zip_nil_right]; exact .nil
    | @cons a b as bs h t ih =>
      cases ks with
      | nil => exact .nil
      | cons k ks => exact .cons ⟨rfl, h⟩ ih
/-- dict(zip(xs, ys)) -/
def tDzip (K : PySem.W.Frag) (ta : TA) : TE := fun σ H Q => ta σ H fun vs H1 => ∃ (a b : Addr) (ks : List Key) (ys : List V), vs = [.ref a, .ref b] ∧ SqL K H1 a (ks.map kV) ∧ SqT K H1 b ys ∧ ks.length = ys.length ∧ ∀ p, H1 p = none → Q (.ref p) (upd H1 p (.dK (mergeK [] (ks.zip ys))))
theorem pe_dzip {X : Cx} {e e2 : Expr} {ta : TA} {p p2 pos pos2 : Pos} (hcalm : X.calm = true) (hgd : Gl X "dict") (hmd : X.mg "dict" = none) (hg : Gl X "zip") (hm : X.mg "zip" = none) (ha : PA X [e, e2] ta)
    (ht : backTo pos (starEach [.Call (.Name "zip" p2) [e, e2] [] pos2] X.env) = [(false, eval (.Call (.Name "zip" p2) [e, e2] [] pos2) X.env)] := by rfl)
    (hs : starEach [e, e2] X.env = (false, eval e X.env) :: starEach [e2] X.env := by rfl) (hpl : (backTo pos2 (starEach [e2] X.env)).any (·.1) = false := by rfl) :
    PE X (.Call (.Name "dict" p) [.Call (.Name "zip" p2) [e, e2] [] pos2] [] pos) (tDzip X.K ta) := by
  refine ⟨fun pins s σ H Q I h => ?_⟩
  refine Call_ (ld_blt I hgd hmd PyProof.Rows.boot_dict ?_)
  rw [ht]
  refine PyProof.Rows.callWith_type rfl (Calls.evalArgs_plain (Calls.spliced_cons ?_))
  refine Call_ (ld_blt I hg hm PyProof.Rows.boot_zip (PyProof.Rows.callWith_type1 (thn (ha.run pos2 pins s σ H _ I h) fun us s1 ⟨vs, H1, I1, r1, q1⟩ => ?_) hs hpl))
  obtain ⟨a, b, ks, ys, rfl, hqx, hqy, hl, q⟩ := q1
  cases r1 with
  | cons r rr =>
    cases rr with
    | cons r' rr =>
      cases rr
      cases r
      cases r'
      obtain ⟨its, rv, p1, z1⟩ := I1.list hqx
      obtain ⟨its2, rv2, p2', z2⟩ := I1.tuple hqy
      have la : a < s1.heap.objs.size := p1.lt
      have lb : b < s1.heap.objs.size := by obtain ⟨_, q, _⟩ := id p2'; exact Heap.lt_size q
      refine zip_begins2 (begins_list a its.toArray) (begins_tuple b its2.toArray) p1.isList p2' fun h' hz hTI hTO h1 h2 hsz hk => Calls.spliced_nil ?_
      have I2 : Inv X pins σ H1 { s1 with heap := h' } := I1.kept (t' := s1.toks) hk
      obtain ⟨prs, hc, rel⟩ := pairs_have (P := X.prog) (w := X.w) rv rv2 hl
      have S := zip_sep2 (N := s1.heap.objs.size) (fp1 := [a]) (fp2 := [b]) (fun c hc => by rw [List.mem_singleton.mp hc]; exact la) (fun c hc => by rw [List.mem_singleton.mp hc]; exact lb)
      have ai : a ≠ s1.heap.objs.size := Nat.ne_of_lt la
      have bi : b ≠ s1.heap.objs.size + 1 := Nat.ne_of_lt (Nat.lt_succ_of_lt lb)
      have AZ := arg_zip (prog := X.prog) (w := X.w) S (fun A hA => Draws.list hA _ a ai its.toArray) (fun A hA => Draws.tuple hA _ b bi its2.toArray)
        (fun i h st c hc => by
          obtain ⟨⟨o1, e1, _⟩, o2, e2, _⟩ := st
          rcases List.mem_cons.mp hc with x | x
          · rw [x]; exact ⟨_, e1⟩
          · rw [List.mem_singleton.mp x]; exact ⟨_, e2⟩)
        (fun i h st c hc => by
          obtain ⟨⟨o1, e1, _⟩, o2, e2, _⟩ := st
          rcases List.mem_cons.mp hc with x | x
          · rw [x]; exact ⟨_, e1⟩
          · rw [List.mem_singleton.mp x]; exact ⟨_, e2⟩)
      have hn : min its.toArray.size its2.toArray.size ≤ sizeLine := Nat.le_trans (Nat.min_le_left ..) (by rw [List.size_toArray, ← rv.length]; exact z1)
      refine PySem.call_dict_pairs (knd := mixKind X.prog X.w) AZ (I2.ok.hd hcalm) ⟨hz, hTI, ⟨_, _, hTO⟩, ⟨⟨_, h1, rfl, rfl⟩, p1.isList.at fun o e => hk _ o e⟩, ⟨⟨_, h2, rfl, rfl⟩, (show Heap.IsTuple _ _ _ from p2').at fun o e => hk _ o e⟩⟩ hc hn fun h'' tk hd' hk2 => ?_
      have kp : ∀ c o, s1.heap.get? c = some o → h''.get? c = some o := fun c o e => by
        have hlt : c < s1.heap.objs.size := Heap.lt_size e
        refine hk2 c o (fun hm => ?_) (hk _ o e)
        simp only [List.mem_cons, List.not_mem_nil, or_false] at hm
        rcases hm with x | x | x | x <;> rw [x] at hlt <;> first | exact Nat.lt_irrefl _ hlt | exact absurd hlt (Nat.not_lt.mpr (Nat.le_add_right _ _))
      have hsys : (h'.objs.size == sysModules) = false := beq_eq_false_iff_ne.mpr (Nat.ne_of_gt I2.big)
      have hlen : (mergeK [] (ks.zip ys)).length ≤ sizeLine := by
        refine Nat.le_trans (length_mergeK _ []) ?_
        rw [List.length_nil, Nat.zero_add, rel.length, hc.1]
        exact hn
      exact ⟨.ref h'.objs.size, upd H1 h'.objs.size (.dK (mergeK [] (ks.zip ys))), I1.laid (t' := tk) kp (by show s1.heap.objs.size ≤ h'.objs.size; omega) (dk_new hlen hsys (rel.merge .nil) hd'), rfl, q _ (I1.hok.fresh (by show s1.heap.objs.size ≤ h'.objs.size; omega))⟩
end TDZ

set_option maxHeartbeats 2000000
/-! A rule of our own: for x, y in zip(xs, ys), xs a list, ys a tuple. -/
namespace TZM
open PySem L2 PyProof.Rows
theorem two_sz : (2 : Nat) ≤ sizeLine := by decide
/-- the list xs at a and the tuple ys at b, item by item in new pairs -/
def Itm (K : PySem.W.Frag) (a b : Addr) (xs ys : List V) : It where
  go i H := SqL K H a xs ∧ SqT K H b ys ∧ i < xs.length ∧ i < ys.length
  yld i H v H' := ∃ T x y, v = .ref T ∧ H T = none ∧ H' = upd H T (.tup [x, y]) ∧ xs[i]? = some x ∧ ys[i]? = some y
  stop i H := SqL K H a xs ∧ SqT K H b ys ∧ (xs.length ≤ i ∨ ys.length ≤ i)
theorem turn_m {P : Program} {w : World} {K : PySem.W.Frag} {elts : List Expr} {kk : Nat} {tpos : Pos} {a b z TI TO i1 i2 : Addr} {xs ys : List V} (D : ZipSep2 z TI TO i1 i2 [i1, a] [i2, b]) (ai : a ≠ i1) (bi : b ≠ i2) :
    Turn P w K (.Tuple elts kk tpos) (Itm K a b xs ys) [z, TI, TO, i1, i2] z (fun i h => IsZip h z TI TO .none ∧ IsTupOf2 h TI (.ref i1) (.ref i2) ∧ (∃ x y, IsTupOf2 h TO x y) ∧ h.IsListIter i1 a i ∧ h.IsTupleIter i2 b i ∧ i ≤ xs.length ∧ i ≤ ys.length) where
  mem := by simp
  obj := fun i h st c hc => by
    obtain ⟨hz, hTI, ⟨x, y, hTO⟩, ⟨o1, e1, _, d1⟩, ⟨o2, e2, _, d2⟩, _⟩ := st
    have e' : c = z ∨ c = TI ∨ c = TO ∨ c = i1 ∨ c = i2 := by simpa using hc
    rcases e' with q | q | q | q | q
    · rw [q]; exact ⟨_, hz, fun v q => nomatch q⟩
    · rw [q]; exact ⟨_, hTI, fun v q => nomatch q⟩
    · rw [q]; exact ⟨_, hTO, fun v q => nomatch q⟩
    · rw [q]; exact ⟨o1, e1, fun v q => by rw [d1] at q; cases q⟩
    · rw [q]; exact ⟨o2, e2, fun v q => by rw [d2] at q; cases q⟩
  keep := fun i h h' st k => by
    obtain ⟨hz, hTI, ⟨x, y, hTO⟩, h1, h2, l⟩ := st
    exact ⟨k z (by simp) _ hz, k TI (by simp) _ hTI, ⟨x, y, k TO (by simp) _ hTO⟩, h1.at fun o q => k i1 (by simp) o q, h2.at fun o q => k i2 (by simp) o q, l⟩
  item := by
    intro X hP hw hK hc i pins s σ H E I hf st hg
    subst hP hw hK
    obtain ⟨hz, hTI, ⟨x0, y0, hTO⟩, h1, h2, _⟩ := st
    obtain ⟨hqx, hqy, lx, ly⟩ := hg
    obtain ⟨its, rv, p, _⟩ := I.list hqx
    obtain ⟨its2, rv2, p2, _⟩ := I.tuple hqy
    have zl : z < s.heap.objs.size := Heap.lt_size hz
    have Tl : TI < s.heap.objs.size := Heap.lt_size hTI
    have Ol : TO < s.heap.objs.size := Heap.lt_size hTO
    have l1 : i1 < s.heap.objs.size := by obtain ⟨_, q, _⟩ := h1; exact Heap.lt_size q
    have l2 : i2 < s.heap.objs.size := by obtain ⟨_, q, _⟩ := h2; exact Heap.lt_size q
    have sx : its.toArray.size = xs.length := by rw [List.size_toArray, rv.length]
    have sy : its2.toArray.size = ys.length := by rw [List.size_toArray, rv2.length]
    refine wpAny_pyNext_zipD2_item D (Draws.list (A := X.A.in1) (I.ok.hd hc) i1 a ai its.toArray) (Draws.tuple (A := X.A.in1) (I.ok.hd hc) i2 b bi its2.toArray) hz hTI hTO ⟨h1, p.isList⟩ ⟨h2, p2⟩ (by rw [sx]; exact lx) (by rw [sy]; exact ly) fun u u2 h' tk hu hu2 z' TO' st1 st2 hT hsz hk => ?_
    have get : ∀ {vs : List V} {js : List Value} {t : Value}, Vals vs js → i < vs.length → js.toArray[i]? = some t → ∃ x, vs[i]? = some x ∧ RelV x t := fun {vs js t} r hl e => by
      obtain ⟨u', e1, k1⟩ := r.get (List.getElem?_eq_getElem hl)
      have e2 : js[i]? = some t := by simpa using e
      rw [e1] at e2
      cases e2
      exact ⟨_, List.getElem?_eq_getElem hl, k1⟩
    obtain ⟨x, hx, ru⟩ := get rv lx hu
    obtain ⟨y, hy, ru2⟩ := get rv2 ly hu2
    refine ⟨_, rfl, wpAny_letOwnedTupleGo_zip (s := { s with heap := h', toks := tk }) z' fun h'' z'' sb => ?_⟩
    have hT2 : h''.get? s.heap.objs.size = some { cls := .type "tuple", data := .seq #[u, u2] } := (sb.2 _ (Nat.ne_of_gt zl)).trans hT
    have new : ObjOk X.prog X.w (upd H s.heap.objs.size (.tup [x, y])) h'' s.heap.objs.size (.tup [x, y]) :=
      ⟨two_sz, [u, u2], .cons ru (.cons ru2 .nil), ⟨_, hT2, rfl, _, rfl⟩⟩
    have I1 : Inv X pins σ (upd H s.heap.objs.size (.tup [x, y])) { s with heap := h'', toks := tk } :=
      I.turnedNew (t' := tk) (ch := [z, TI, TO, i1, i2]) (fun c o hb q => (sb.2 c (fun e => hb (by simp [e]))).trans (hk c o (fun e => hb (by simp [e])) (fun e => hb (by simp [e])) (fun e => hb (by simp [e])) (fun e => hb (by simp [e])) q)) hf (Nat.le_refl _) new
    refine ⟨.ref s.heap.objs.size, _, I1, rfl, ⟨_, x, y, rfl, I.hok.fresh (Nat.le_refl _), rfl, hx, hy⟩, ⟨z'', ?_, ⟨u, u2, ?_⟩, ?_, ?_, lx, ly⟩, fun c hcm => ?_⟩
    · exact (sb.2 _ D.TIz).trans (hk _ _ D.TIz D.TITO D.TIi1 D.TIi2 hTI)
    · exact (sb.2 _ D.TOz).trans TO'
    · exact st1.1.at fun o q => (sb.2 _ (Ne.symm D.zi1)).trans q
    · exact st2.1.at fun o q => (sb.2 _ (Ne.symm D.zi2)).trans q
    · have hlt : c < s.heap.objs.size := by
        have e' : c = z ∨ c = TI ∨ c = TO ∨ c = i1 ∨ c = i2 := by simpa using hcm
        rcases e' with q | q | q | q | q <;> rw [q] <;> assumption
      rw [upd_ne (Nat.ne_of_lt hlt)]
      exact (hf c hcm).1
  done := by
    intro X hP hw hK hc i pins s σ H E I hf st hg
    subst hP hw hK
    obtain ⟨hz, hTI, ⟨x0, y0, hTO⟩, h1, h2, lx, ly⟩ := st
    obtain ⟨hqx, hqy, hend⟩ := hg
    obtain ⟨its, rv, p, _⟩ := I.list hqx
    obtain ⟨its2, rv2, p2, _⟩ := I.tuple hqy
    have sx : its.toArray.size = xs.length := by rw [List.size_toArray, rv.length]
    have sy : its2.toArray.size = ys.length := by rw [List.size_toArray, rv2.length]
    refine wpAny_pyNext_zipD2_end D (Draws.list (A := X.A.in1) (I.ok.hd hc) i1 a ai its.toArray) (Draws.tuple (A := X.A.in1) (I.ok.hd hc) i2 b bi its2.toArray) hz hTI hTO ⟨h1, p.isList⟩ ⟨h2, p2⟩ (by rw [sx]; exact lx) (by rw [sy]; exact ly) (by rw [sx, sy]; omega) fun h' tk hk => ?_
    exact ⟨rfl, I.turnedL (t' := tk) (ch := [z, TI, TO, i1, i2]) (fun c o hb q => hk c o (fun e => hb (by simp [e])) (fun e => hb (by simp [e])) (fun e => hb (by simp [e])) (fun e => hb (by simp [e])) q) hf⟩
  self := fun A i s Q E st h => wpAny_pyIter_zip st.1 h
/-- zip(xs, ys), a list and a tuple -/
def iZipM (K : PySem.W.Frag) (ta : TA) : TI := fun σ H R => ta σ H fun vs H1 => ∃ a b xs ys, vs = [.ref a, .ref b] ∧ SqL K H1 a xs ∧ SqT K H1 b ys ∧ R (Itm K a b xs ys) H1
theorem pi_zipM {X : Cx} {e e2 : Expr} {ta : TA} {p pos tpos : Pos} {elts : List Expr} {kk : Nat} (hg : Gl X "zip") (hm : X.mg "zip" = none) (ha : PA X [e, e2] ta)
    (hs : starEach [e, e2] X.env = (false, eval e X.env) :: starEach [e2] X.env := by rfl) (hpl : (backTo pos (starEach [e2] X.env)).any (·.1) = false := by rfl) :
    PI X (.Tuple elts kk tpos) (.Call (.Name "zip" p) [e, e2] [] pos) (iZipM X.K ta) := by
  refine ⟨fun pins s σ H R I h => ?_⟩
  refine Call_ (ld_blt I hg hm PyProof.Rows.boot_zip (PyProof.Rows.callWith_type1 (thn (ha.run pos pins s σ H _ I h) fun us s1 ⟨vs, H1, I1, r1, q1⟩ => ?_) hs hpl))
  obtain ⟨a, b, xs, ys, rfl, hqx, hqy, q⟩ := q1
  cases r1 with
  | cons r rr =>
    cases rr with
    | cons r' rr =>
      cases rr
      cases r
      cases r'
      obtain ⟨its, rv, p1, _⟩ := I1.list hqx
      obtain ⟨its2, rv2, p2, _⟩ := I1.tuple hqy
      have la : a < s1.heap.objs.size := p1.lt
      have lb : b < s1.heap.objs.size := by obtain ⟨_, q, _⟩ := id p2; exact Heap.lt_size q
      refine zip_begins2 (begins_list a its.toArray) (begins_tuple b its2.toArray) p1.isList p2 fun h' hz hTI hTO h1 h2 hsz hk => wpAny_pyIter_zip hz ?_
      have I2 : Inv X pins σ H1 { s1 with heap := h' } := I1.kept (t' := s1.toks) hk
      refine ⟨s1.heap.objs.size + 4, [s1.heap.objs.size + 4, s1.heap.objs.size + 2, s1.heap.objs.size + 3, s1.heap.objs.size, s1.heap.objs.size + 1], _, _, H1, rfl, I2,
        turn_m (zip_sep2 (fun c hc => by rw [List.mem_singleton.mp hc]; exact la) (fun c hc => by rw [List.mem_singleton.mp hc]; exact lb)) (Nat.ne_of_lt la) (Nat.ne_of_lt (Nat.lt_succ_of_lt lb)), ⟨hz, hTI, ⟨_, _, hTO⟩, ⟨_, h1, rfl, rfl⟩, ⟨_, h2, rfl, rfl⟩, Nat.zero_le _, Nat.zero_le _⟩, fun c hcm => ?_, q⟩
      have e' : c = s1.heap.objs.size + 4 ∨ c = s1.heap.objs.size + 2 ∨ c = s1.heap.objs.size + 3 ∨ c = s1.heap.objs.size ∨ c = s1.heap.objs.size + 1 := by simpa using hcm
      have hle : s1.heap.objs.size ≤ c := by
        rcases e' with q | q | q | q | q <;> rw [q] <;> first | exact Nat.le_refl _ | exact Nat.le_add_right _ _
      exact I1.fpOk hle (I1.hok.fresh hle)
theorem walk_zipM {K : PySem.W.Frag} {a b : Addr} {xs ys : List V} {n : Nat} (hx : xs.length = n) (hy : ys.length = n) : Walk (Itm K a b xs ys) n (fun H => SqL K H a xs ∧ SqT K H b ys) (YPair (fun i => xs[i]?) (fun i => ys[i]?)) := by
  refine ⟨fun i _ hi q => ⟨q.1, q.2, by omega, by omega⟩, fun _ q => ⟨q.1, q.2, .inl (by omega)⟩, fun i H v H' _ q y => ?_⟩
  obtain ⟨T, x, y', h1, h2, h3, h4, h5⟩ := y
  exact ⟨T, x, y', h1, h2, h3, h4, h5⟩
end TZM

set_option maxHeartbeats 4000000
namespace T33
open PySem L2 PyProof.Rows TX TY TW TD TB TG TUD TE TK TNN
/-! ### rows as dicts -/
/-- a row's dict -/
def dkU (U : List Str) (r : List Int) : List (Key × V) := (U.zip r).map fun p => (Sum.inr p.1, V.int p.2)
/-- the same of a function -/
def dkF (U : List Str) (h : Str → Int) : List (Key × V) := U.map fun n => (Sum.inr n, V.int (h n))
theorem dkU_map (U : List Str) (h : Str → Int) : dkU U (U.map h) = dkF U h := by
  unfold dkU dkF
  rw [zip_own, List.map_map]
  rfl
theorem dk_len (U : List Str) (h : Str → Int) : (dkF U h).length = U.length := List.length_map _
theorem dkF_val (h : Str → Int) (n : Str) : ∀ U : List Str, valV (dkF U h) (Sum.inr n) = if n ∈ U then some (V.int (h n)) else none
  | [] => by rw [if_neg List.not_mem_nil]; rfl
  | c :: U => by
    show valV ((Sum.inr c, V.int (h c)) :: dkF U h) (Sum.inr n) = _
    by_cases e : c = n
    · rw [valV_pos (by rw [e]), e, if_pos List.mem_cons_self]
    · rw [valV_neg (fun z => e (Sum.inr.inj z)), dkF_val h n U]
      by_cases m : n ∈ U
      · rw [if_pos m, if_pos (List.mem_cons_of_mem _ m)]
      · rw [if_neg m, if_neg fun z => (List.mem_cons.mp z).elim (fun y => e y.symm) m]
theorem put_in (h : Str → Int) {c : Str} {U : List Str} (m : c ∈ U) : putK (dkF U h) (Sum.inr c) (V.int (h c)) = dkF U h := by
  unfold putK
  rw [if_pos (by rw [valV_any, dkF_val, if_pos m]; rfl)]
  unfold dkF
  rw [List.map_map]
  refine List.map_congr_left fun n _ => ?_
  show (if (Sum.inr n : Key) = Sum.inr c then _ else _) = _
  by_cases e : n = c
  · rw [if_pos (by rw [e]), e]
  · rw [if_neg fun z => e (Sum.inr.inj z)]
theorem put_out (h : Str → Int) {c : Str} {U : List Str} (m : c ∉ U) : putK (dkF U h) (Sum.inr c) (V.int (h c)) = dkF (U ++ [c]) h := by
  unfold putK
  rw [if_neg (by rw [valV_any, dkF_val, if_neg m]; exact Bool.false_ne_true)]
  unfold dkF
  rw [List.map_append]
  rfl
theorem new_in {c : Str} {U cs : List Str} (m : c ∈ U) : newN U (c :: cs) = newN U cs := by
  unfold newN
  rw [List.filter_cons, decide_eq_true m]
  rfl
theorem new_out {c : Str} {U cs : List Str} (m : c ∉ U) (nc : c ∉ cs) : newN U (c :: cs) = c :: newN (U ++ [c]) cs := by
  unfold newN
  rw [List.filter_cons, decide_eq_false m]
  show c :: _ = _
  congr 1
  refine List.filter_congr fun n hn => ?_
  have e : (n ∈ U) ↔ n ∈ U ++ [c] := ⟨fun z => List.mem_append_left _ z, fun z => (List.mem_append.mp z).elim id fun y => absurd (List.mem_singleton.mp y ▸ hn) nc⟩
  by_cases z : n ∈ U
  · rw [decide_eq_true z, decide_eq_true (e.mp z)]
  · rw [decide_eq_false z, decide_eq_false fun y => z (e.mpr y)]
theorem merge_F (h : Str → Int) : ∀ (cs U : List Str), cs.Nodup → mergeK (dkF U h) (dkF cs h) = dkF (U ++ newN U cs) h
  | [], U, _ => by
    show dkF U h = dkF (U ++ []) h
    rw [List.append_nil]
  | c :: cs, U, n => by
    rw [List.nodup_cons] at n
    show mergeK (putK (dkF U h) (Sum.inr c) (V.int (h c))) (dkF cs h) = _
    by_cases m : c ∈ U
    · rw [put_in h m, merge_F h cs U n.2, new_in m]
    · rw [put_out h m, merge_F h cs _ n.2, new_out m n.1, List.append_assoc]
      rfl
theorem merge_nil (h : Str → Int) {cs : List Str} (n : cs.Nodup) : mergeK [] (dkF cs h) = dkF cs h := by
  have z := merge_F h cs [] n
  have e : newN [] cs = cs := by
    unfold newN
    rw [List.filter_eq_self]
    intro a _
    rfl
  rw [e] at z
  exact z
/-- one function for both -/
theorem both_fun {U cs : List Str} {r q : List Int} (nU : U.Nodup) (nc : cs.Nodup) (lr : r.length = U.length) (lq : q.length = cs.length) (c : compat U r cs q = true) : ∃ h : Str → Int, r = U.map h ∧ q = cs.map h ∧ bothU U r cs q = (U ++ newN U cs).map h := by
  obtain ⟨f, rfl⟩ := row_fun nU lr
  obtain ⟨g, rfl⟩ := row_fun nc lq
  have e := compat_iff.mp c
  have eU : U.map f = U.map fun n => if n ∈ U then f n else g n := List.map_congr_left fun n hn => by rw [if_pos hn]
  have ec : cs.map g = cs.map fun n => if n ∈ U then f n else g n := List.map_congr_left fun n hn => by
    by_cases m : n ∈ U
    · rw [if_pos m]; exact (e n hn m).symm
    · rw [if_neg m]
  refine ⟨fun n => if n ∈ U then f n else g n, eU, ec, ?_⟩
  unfold bothU
  rw [List.map_append, ← eU]
  congr 1
  refine List.map_congr_left fun n hn => ?_
  obtain ⟨h1, h2⟩ := new_mem.mp hn
  rw [map_at h1, if_neg h2]
theorem dkU_val {U : List Str} {r : List Int} (nU : U.Nodup) (lr : r.length = U.length) (n : Str) : valV (dkU U r) (Sum.inr n) = (valU U r n).map V.int := by
  obtain ⟨f, rfl⟩ := row_fun nU lr
  rw [dkU_map, dkF_val]
  unfold valU
  by_cases m : n ∈ U
  · rw [if_pos m, if_pos m, map_at m]
    rfl
  · rw [if_neg m, if_neg m]
    rfl
theorem dkU_merge {U cs : List Str} {r q : List Int} (nU : U.Nodup) (nc : cs.Nodup) (lr : r.length = U.length) (lq : q.length = cs.length) (c : compat U r cs q = true) : mergeK (dkU U r) (mergeK [] (dkU cs q)) = dkU (U ++ newN U cs) (bothU U r cs q) := by
  obtain ⟨h, rfl, rfl, e⟩ := both_fun nU nc lr lq c
  rw [e, dkU_map, dkU_map, dkU_map, merge_nil h nc, merge_F h cs U nc]
theorem dkU_len {U : List Str} {r : List Int} (lr : r.length = U.length) : (dkU U r).length = U.length := by
  unfold dkU
  rw [List.length_map, List.length_zip]
  omega
theorem dkU_zip (cs : List Str) (q : List Int) : (cs.map fun n => (Sum.inr n : Key)).zip (q.map V.int) = dkU cs q := by
  unfold dkU
  rw [List.zip_map]
  rfl
/-- a dict of a row at an address -/
def DAt (U : List Str) (H : Hp) (d : Addr) (r : List Int) : Prop := H d = some (.dK (dkU U r))
abbrev DsAt (U : List Str) (H : Hp) : List Addr → List (List Int) → Prop := Paired (DAt U H)
theorem DsAt.same {U : List Str} {H H' : Hp} {ds : List Addr} {rows : List (List Int)} (h : DsAt U H ds rows) (s : Same H H') : DsAt U H' ds rows := Paired.mapP h fun a x e => s _ _ e
theorem DsAt.put {U : List Str} {H : Hp} {ds : List Addr} {rows : List (List Int)} {L : Addr} {xs : List V} {o : HO} (h : DsAt U H ds rows) (e : H L = some (.lst xs)) : DsAt U (upd H L o) ds rows := Paired.mapP h fun a x z => by
  show upd H L o a = _
  rw [upd_ne fun y => by
    subst y
    have z : H a = some (.dK (dkU U x)) := z
    rw [e] at z
    cases z]
  exact z
/-! ### at an order -/
def atO (U order : List Str) (r : List Int) : List Int := order.map fun n => r.getD (U.idxOf n) 0
theorem atO_map {U order : List Str} (sub : ∀ n ∈ order, n ∈ U) (f : Str → Int) : atO U order (U.map f) = order.map f := List.map_congr_left fun n hn => map_at (sub n hn)
/-- all plain rows at an order, rising -/
def plainN (order : List Str) (tabs : List LTab) : List (List Int) := norm ((plainP tabs).2.map (atO (plainP tabs).1 order))
theorem plainN_sat {order : List Str} {tabs : List LTab} (ok : POk tabs (plainP tabs)) (cov : ∀ n, n ∈ order ↔ n ∈ (plainP tabs).1) (f : Str → Int) : order.map f ∈ plainN order tabs ↔ SatL tabs f := by
  unfold plainN
  rw [mem_norm, ← ok.sat f, List.mem_map]
  constructor
  · rintro ⟨r, hr, e⟩
    obtain ⟨g, rfl⟩ := row_fun ok.nd (ok.wide r hr)
    rw [atO_map fun n hn => (cov n).mp hn] at e
    have : (plainP tabs).1.map f = (plainP tabs).1.map g := List.map_congr_left fun n hn => (List.map_inj_left.mp e n ((cov n).mpr hn)).symm
    rw [this]
    exact hr
  · intro h
    exact ⟨_, h, atO_map (fun n hn => (cov n).mp hn) f⟩
/-- how many, at each step -/
structure PFew (m : Nat) (xs : List Int) (names : List Str) (a : List Str × List (List Int)) : Prop where
  nd : a.1.Nodup
  sub : ∀ n ∈ a.1, n ∈ names
  wide : ∀ r ∈ a.2, r.length = a.1.length
  rnd : a.2.Nodup
  vals : ∀ r ∈ a.2, ∀ v ∈ r, v ∈ xs
theorem PFew.start {m : Nat} {xs : List Int} {names : List Str} : PFew m xs names ([], [[]]) :=
  ⟨List.nodup_nil, (fun _ h => nomatch h), (fun r hr => by rw [List.mem_singleton.mp hr]; rfl), List.nodup_cons.mpr ⟨List.not_mem_nil, List.nodup_nil⟩, (fun r hr v hv => by rw [List.mem_singleton.mp hr] at hv; cases hv)⟩
theorem PFew.step {m : Nat} {xs : List Int} {names : List Str} {a : List Str × List (List Int)} {t : LTab} (h : PFew m xs names a) (nt : t.1.Nodup) (st : ∀ n ∈ t.1, n ∈ names) (wt : ∀ r ∈ t.2, r.length = t.1.length ∧ ∀ v ∈ r, v ∈ xs) : PFew m xs names (a.1 ++ newN a.1 t.1, stepP a.1 a.2 t) :=
  ⟨new_nd h.nd nt, (fun n hn => (List.mem_append.mp hn).elim (h.sub n) fun z => st n (new_mem.mp z).1), step_wide h.wide, step_nd h.nd nt h.rnd h.wide (fun r hr => (wt r hr).1), step_vals wt h.vals⟩
theorem PFew.few {m : Nat} {xs : List Int} {names : List Str} {a : List Str × List (List Int)} (h : PFew m xs names a) (h4 : xs.length ≤ 4) (h8 : xs.length ≤ 8 - m) (hm : m ≤ 6) (hn : names.length = m) : a.2.length ≤ 256 := by
  have z := rows_few h.rnd fun r hr => ⟨h.wide r hr, h.vals r hr⟩
  have y := sub_len h.nd h.sub
  exact Nat.le_trans z (pow_few h4 h8 hm (by omega))
theorem plain_few {m : Nat} {xs : List Int} {names : List Str} : ∀ {tabs : List LTab}, (∀ t ∈ tabs, t.1.Nodup ∧ (∀ n ∈ t.1, n ∈ names) ∧ ∀ r ∈ t.2, r.length = t.1.length ∧ ∀ v ∈ r, v ∈ xs) → ∀ i, PFew m xs names (plainP (tabs.take i)) := by
  intro tabs ok i
  induction i with
  | zero => exact PFew.start
  | succ i ih =>
    rw [List.take_add_one]
    cases e : tabs[i]? with
    | none =>
      show PFew m xs names (plainP (tabs.take i ++ []))
      rw [List.append_nil]
      exact ih
    | some t =>
      show PFew m xs names (plainP (tabs.take i ++ [t]))
      rw [plain_snoc]
      obtain ⟨a, b, c⟩ := ok t (List.mem_of_getElem? e)
      exact ih.step a b c
end T33

set_option maxHeartbeats 4000000
namespace T33
open PySem L2 PyProof.Rows TX TY TW TD TB TG TUD TE TK TNN
section
variable {P : Program} {w : World} {K : PySem.W.Frag} {mg : Str → Option Value} {base : Heap}
/-- sorted(set(rows)) -/
theorem set_sorted {H : Hp} {l : Addr} {as : List Addr} {rs : List (List Int)} {d : Nat} {Q : VK} (hl : H l = some (.lst (as.map V.ref))) (hr : RowsAt H as rs) (hd : ∀ r ∈ rs, r.length = d) (few : rs.length ≤ 1900)
    (q : ∀ H' p as', Same H H' → H p = none → H' p = some (.lst (as'.map V.ref)) → RowsAt H' as' (norm rs) → Q (.ref p) H') : TBH.rSetK (TBH.khI K P w) [.ref l] H fun v h => TBH.rSortB K P w [v] h Q := by
  have hal := hr.len
  have z1 := (zip_fst hal).1
  have z2 := (zip_fst hal).2
  have zr : ∀ p ∈ as.zip rs, H p.1 = some (.tup (p.2.map V.int)) := pr_zip hr
  refine ⟨l, as.zip rs, rfl, ?_, fun p hp => .of (zr p hp), by rw [List.length_zip]; omega, fun a Ls na i1 i2 nd => ?_⟩
  · have : (as.zip rs).map (fun p => V.ref p.1) = as.map V.ref := by
      conv => rhs; rw [← z1]
      rw [List.map_map]
      rfl
    rw [this]
    exact .of hl
  have sa : Same H (upd H a (TBH.SetKO (TBH.kdI P w) a Ls)) := Same.new na
  have lsr : ∀ p ∈ Ls, upd H a (TBH.SetKO (TBH.kdI P w) a Ls) p.1 = some (.tup (p.2.map V.int)) := fun p hp => sa _ _ (zr p (i1 p hp))
  have inr : ∀ p ∈ as.zip rs, p.2 ∈ rs := fun p hp => z2 ▸ List.mem_map.mpr ⟨p, hp, rfl⟩
  refine ⟨a, Ls, d, rfl, upd_same, fun p hp => .of (lsr p hp), fun p hp => hd _ (inr p (i1 p hp)), fun L' p pm ndL few' pw np => ?_⟩
  have sp : Same (upd H a (TBH.SetKO (TBH.kdI P w) a Ls)) (upd (upd H a (TBH.SetKO (TBH.kdI P w) a Ls)) p (.lst (L'.map fun q => V.ref q.1))) := Same.new np
  refine q _ p (L'.map (·.1)) (sa.trans sp) (sa.free np) ?_ ?_
  · rw [upd_same, List.map_map]
    rfl
  · have en : L'.map (·.2) = norm rs := by
      refine norm_of (rise_of ndL (List.pairwise_map.mpr pw)) fun x => ?_
      constructor
      · intro hx
        obtain ⟨pq, hp, rfl⟩ := List.mem_map.mp hx
        exact inr _ (i1 _ (pm.mem_iff.mp hp))
      · intro hx
        rw [← z2] at hx
        obtain ⟨pq, hp, rfl⟩ := List.mem_map.mp hx
        exact (pm.map (·.2)).mem_iff.mpr (i2 pq hp)
    rw [← en]
    exact of_zip fun pq hp => sp _ _ (lsr pq (pm.mem_iff.mp hp))
theorem for_sorted {i : Nat} {g : TG} {tb : TS} {D : Ends} {σ : L2.St} {H : Hp} {l : Addr} {as : List Addr} {rs : List (List Int)} {d : Nat} (hi : σ[i]? = some (some (.ref l))) (hl : H l = some (.lst (as.map V.ref))) (hr : RowsAt H as rs) (hd : ∀ r ∈ rs, r.length = d) (few : rs.length ≤ 1900)
    (q : ∀ H' p as', Same H H' → H p = none → H' p = some (.lst (as'.map V.ref)) → RowsAt H' as' (norm rs) → tFor (iList K (tC (.ref p))) g tb D σ H') : tFor (iList K (tCB (TBH.rSortB K P w) (tCons (tCB (TBH.rSetK (TBH.khI K P w)) (tCons (tVar i) tNil)) tNil))) g tb D σ H := by
  unfold tFor iList tCB tCons tNil
  dsimp only
  exact ⟨_, hi, set_sorted hl hr hd few q⟩
theorem ret_sortedE {te : TE} {D0 D : Ends} {σ : L2.St} {H : Hp} (e : D0.nx = tRet (tCB (TBH.rSortB K P w) (tCons (tCB (TBH.rSetK (TBH.khI K P w)) (tCons te tNil)) tNil)) D) (h : te σ H fun v h => TBH.rSetK (TBH.khI K P w) [v] h fun v h => TBH.rSortB K P w [v] h D.rt) : D0.nx σ H := by
  rw [e]
  exact h
theorem ret_sorted {te : TE} {D : Ends} {σ : L2.St} {H : Hp} (h : te σ H fun v h => TBH.rSetK (TBH.khI K P w) [v] h fun v h => TBH.rSortB K P w [v] h D.rt) : tRet (tCB (TBH.rSortB K P w) (tCons (tCB (TBH.rSetK (TBH.khI K P w)) (tCons te tNil)) tNil)) D σ H := h
abbrev N_plain : List Str := ["_law_tables_here", "_law_order", "_law_found", "_law_names_here", "_law_rows_here", "_law_longer", "_law_known", "_law_row", "_law_both", "_law_name", "_law_value"]
abbrev P_plain : List Str := ["_law_tables_here", "_law_order"]
theorem sc_plain : FnScope N_plain P_plain (defScope s_plain) := ⟨rfl, rfl, rfl, by decide +kernel, rfl, by decide +kernel, by decide +kernel⟩
abbrev scPlain : Scope := { kind := .function, names := [((".0" : Str), NameKind.local), ("_law_known", .cell), ("tuple", .globalImplicit), ("_law_order", .cell)], isGenerator := false, isCoroutine := false }
def sp_plain : Sp := fun vs H Q _ => ∃ (M O : Addr) (ts : List Addr) (tabs : List LTab) (order : List Str) (xs : List Int), vs = [.ref M, .ref O] ∧ H M = some (.lst (ts.map V.ref)) ∧ MTs H ts tabs ∧ H O = some (.lst (order.map V.str)) ∧
  (∀ t ∈ tabs, (t.1.Nodup ∧ (∀ n ∈ t.1, n ∈ order) ∧ ∀ r ∈ t.2, r.length = t.1.length ∧ ∀ v ∈ r, v ∈ xs) ∧ t.2.length ≤ 12) ∧ order.Nodup ∧ order.length ≤ 6 ∧ xs.length ≤ 4 ∧ xs.length ≤ 8 - order.length ∧ tabs.length ≤ 8 ∧ (∀ n ∈ order, ∃ t ∈ tabs, n ∈ t.1) ∧
  ∀ (H' : Hp) (p : Addr) (as : List Addr), Same H H' → H p = none → H' p = some (.lst (as.map V.ref)) → RowsAt H' as (plainN order tabs) → Q (.ref p) H'
abbrev teEq : TE := tOp rEq (tDGet2 (tVar 6) (tVar 9) (tVar 10)) (tVar 10)
theorem ok_plain {f : Addr} {fd : FuncData} (F : Fn K mg "_law_plain" s_plain P_plain f fd) (B : Bn mg) (St : mg "set" = none) (Zp : mg "zip" = none) : FnOk P w K mg base CX0 1 f fd P_plain sp_plain := by
  refine F.F.ok sc_plain (fun vs H Q E h => ?_) (fun cdv A outer s H vs Q E hr h => ?_)
  · obtain ⟨M, O, ts, tabs, order, xs, rfl, _⟩ := h
    rfl
  · obtain ⟨M, O, ts, tabs, order, xs, rfl, hM, hT, hO, hok, ndo, o6, x4, x8, t8, cov, q⟩ := h
    have nd := sc_plain.nd
    have hu64 := hr.units
    have hu := hu_of hr
    refine ⟨_, pss_cons (ps_set (i := 2) nd rfl (Or.inl rfl) (pe_lst (pa_cons pe_dnewK pa_nil)))
      (pss_cons (ps_for PassesOwn.never rfl (pi_list (pv 0)) (pg_tup rfl (pgs_cons (pg_name (i := 3) nd rfl (Or.inl rfl)) (pgs_cons (pg_name (i := 4) nd rfl (Or.inl rfl)) pgs_nil)))
        (pss_cons (ps_set (i := 5) nd rfl (Or.inl rfl) (pe_lst pa_nil))
        (pss_cons (ps_for PassesOwn.never rfl (pi_list (pv 2)) (pg_name (i := 6) nd rfl (Or.inr rfl))
          (pss_one (ps_for PassesOwn.never rfl (pi_list (pe_callB (TBH.cr_sortB rfl) (by rfl) B.sorted boot_sorted (pa_cons (pe_callTy (TBH.cr_setK (TBH.khI K P w) rfl hu64) (by rfl) St boot_set (pa_cons (pv 4) pa_nil)) pa_nil))) (pg_name (i := 7) nd rfl (Or.inl rfl))
            (pss_one (ps_if (pt_val (pe_callB (cr_all rfl) (by rfl) B.all boot_all (pa_cons (pe_lc (own := [("_law_name", 9), ("_law_value", 10)]) (g := gTup K 2 (gCons (gName 9) (gCons (gName 10) gNil))) (tt := tYes) (te := teEq) rfl nd (TZM.pi_zipM (by rfl) Zp (pa_cons (pv 3) (pa_cons (pv 7) pa_nil))) (blkOk_by (N := N_plain) (sc := defScope s_plain) (by decide +kernel))
                (fun _ _ _ _ _ => pg_tup rfl (pgs_cons (pg_name (i := 9) nd rfl (Or.inl rfl)) (pgs_cons (pg_name (i := 10) nd rfl (Or.inl rfl)) pgs_nil))) (fun _ _ _ _ _ => pts_nil) (fun _ _ _ _ _ => pe_cmpR op_eq (pe_dget2 hu (pv 6) (pv 9) (pv 10) ⟨rfl, rfl, rfl, rfl⟩) (pv 10) (nomark _))) pa_nil)))
              (pss_cons (ps_set (i := 8) nd rfl (Or.inl rfl) (pe_callTy call_dictD (by rfl) B.dict boot_dict (pa_cons (pv 6) pa_nil)))
              (pss_cons (ps_expr (TUP.pe_dupd (pv 8) (TDZ.pe_dzip rfl (by rfl) B.dict (by rfl) Zp (pa_cons (pv 3) (pa_cons (pv 7) pa_nil))) ⟨rfl, rfl, rfl, rfl⟩))
              (pss_one (ps_expr (pe_bm PySem.F.plainAttrs_list PySem.F.slot_list_append PySem.F.type_list_append mt_append (pv 5) (pa_cons (pv 8) pa_nil)))))) pss_nil)))))
        (pss_one (ps_set (i := 2) nd rfl (Or.inl rfl) (pv 5))))))
      (pss_one (ps_ret (pe_callB (TBH.cr_sortB rfl) (by rfl) B.sorted boot_sorted (pa_cons (pe_callTy (TBH.cr_setK (TBH.khI K P w) rfl hu64) (by rfl) St boot_set (pa_cons (pe_lc (own := [("_law_known", 6)]) (g := gName 6) (tt := tYes) (te := tCB (rTu K) (tCons (tLc (iList K (tVar 1)) (gName 9) tYes (tDGet (tVar 6) (tVar 9)) [9]) tNil)) rfl nd (pi_list (pv 2)) (blkOk_by (N := N_plain) (sc := defScope s_plain) (by decide +kernel))
          (fun _ _ _ _ _ => pg_name (i := 6) nd rfl (Or.inr rfl)) (fun _ _ _ _ _ => pts_nil) (fun _ _ _ _ _ => pe_callTy call_tu (by rfl) B.tuple boot_tuple (pa_cons (pe_lc (own := [("_law_name", 9)]) (g := gName 9) (tt := tYes) (te := tDGet (tVar 6) (tVar 9)) rfl nd (pi_list (pv 1)) (blkOk_by (N := N_plain) (sc := scPlain) (by decide +kernel))
            (fun _ _ _ _ _ => pg_name (i := 9) nd rfl (Or.inl rfl)) (fun _ _ _ _ _ => pts_nil) (fun _ _ _ _ _ => pe_dget hu (pv 6) (pv 9) (fun _ _ => rfl))) pa_nil))) pa_nil)) pa_nil))))), ?_⟩
    have lts : ts.length = tabs.length := Paired.length hT
    have few := plain_few (m := order.length) (xs := xs) (names := order) (tabs := tabs) fun t ht => (hok t ht).1
    refine fun D0 nD0 => ⟨by show 1 ≤ sizeLine; decide, fun L0 nL0 => ?_⟩
    have s0 : Same H (upd (upd H D0 (.dK [])) L0 (.lst [.ref D0])) := (Same.new nD0).trans (Same.new nL0)
    have e0 : upd (upd H D0 (.dK [])) L0 (.lst [.ref D0]) L0 = some (.lst ([D0].map V.ref)) := upd_same
    have d0 : DsAt [] (upd (upd H D0 (.dK [])) L0 (.lst [.ref D0])) [D0] [[]] := .cons ((Same.new nL0) _ _ upd_same) .nil
    generalize upd (upd H D0 (.dK [])) L0 (.lst [.ref D0]) = H0 at s0 e0 d0 ⊢
    refine ⟨_, rfl, M, rfl, ⟨_, .of (s0 _ _ hM)⟩, ?_⟩
    refine for_it (walk_list (xs := ts.map V.ref)) (fun i σ h => ∃ (Fd : Addr) (ds : List Addr) (v3 v4 v5 v6 v7 v8 : Option V), σ = [some (.ref M), some (.ref O), some (.ref Fd), v3, v4, v5, v6, v7, v8, none, none] ∧ h Fd = some (.lst (ds.map V.ref)) ∧ DsAt (plainP (tabs.take i)).1 h ds (plainP (tabs.take i)).2 ∧ Same H h)
      ⟨L0, [D0], none, none, none, none, none, none, rfl, e0, d0, s0⟩ (fun i σ h _ ⟨_, _, _, _, _, _, _, _, _, _, _, s⟩ => .of (s _ _ hM)) ?_ ?_
    · rintro i x σ h h' hi ⟨Fd, ds, v3, v4, v5, v6, v7, v8, rfl, eF, dF, s1⟩ ⟨rfl, hx⟩
      rw [List.length_map] at hi
      obtain ⟨a, ha, rfl⟩ : ∃ a, ts[i]? = some a ∧ x = V.ref a := by
        rw [List.getElem?_map, List.getElem?_eq_getElem hi] at hx
        exact ⟨_, List.getElem?_eq_getElem hi, (Option.some.inj hx).symm⟩
      obtain ⟨p, hp, S, l, rs, g1, g2, g3, g4⟩ := pr_at (hT.same s1) ha
      obtain ⟨⟨pn, psub, prow⟩, pfew⟩ := hok p (List.mem_of_getElem? hp)
      have fi := few i
      have fi1 := few (i + 1)
      have en : plainP (tabs.take (i + 1)) = ((plainP (tabs.take i)).1 ++ newN (plainP (tabs.take i)).1 p.1, stepP (plainP (tabs.take i)).1 (plainP (tabs.take i)).2 p) := by
        rw [List.take_add_one, hp]
        exact plain_snoc _ _
      have n256 : (stepP (plainP (tabs.take i)).1 (plainP (tabs.take i)).2 p).length ≤ 256 := by
        have z := fi1.few x4 x8 o6 rfl
        rw [en] at z
        exact z
      have m256 := fi.few x4 x8 o6 rfl
      have nU := fi.nd
      have wU := fi.wide
      have uU := sub_len fi.nd fi.sub
      rw [en]
      generalize plainP (tabs.take i) = U at nU wU uU dF n256 m256 ⊢
      obtain ⟨U, rows⟩ := U
      dsimp only at nU wU uU dF n256 m256 ⊢
      have p6 := sub_len pn psub
      have lds : ds.length = rows.length := Paired.length dF
      refine ⟨a, _, rfl, .of g1, rfl, _, _, rfl, _, _, rfl, rfl, ?_⟩
      refine ⟨by show 0 ≤ sizeLine; decide, fun Lg nLg => ?_⟩
      have sg : Same h' (upd h' Lg (.lst [])) := Same.new nLg
      refine ⟨_, rfl, Fd, rfl, ⟨_, .of (sg _ _ eF)⟩, ?_⟩
      refine for_it (walk_list (xs := ds.map V.ref)) (fun j σ g => ∃ (es : List Addr) (v6 v7 v8 : Option V), σ = [some (.ref M), some (.ref O), some (.ref Fd), some (.ref S), some (.ref l), some (.ref Lg), v6, v7, v8, none, none] ∧ g Lg = some (.lst (es.map V.ref)) ∧ DsAt (U ++ newN U p.1) g es (stepP U (rows.take j) p) ∧ Same h' g)
        ⟨[], v6, v7, v8, rfl, upd_same, .nil, sg⟩ (fun j σ g _ ⟨_, _, _, _, _, _, _, s⟩ => .of (s _ _ eF)) ?_ ?_
      · rintro j y σ g g' hj ⟨es, v6, v7, v8, rfl, eL, dL, s2⟩ ⟨rfl, hy⟩
        rw [List.length_map] at hj
        obtain ⟨d, hd, rfl⟩ : ∃ d, ds[j]? = some d ∧ y = V.ref d := by
          rw [List.getElem?_map, List.getElem?_eq_getElem hj] at hy
          exact ⟨_, List.getElem?_eq_getElem hj, (Option.some.inj hy).symm⟩
        obtain ⟨r, hr', hdr⟩ := pr_at dF hd
        have lr := wU r (List.mem_of_getElem? hr')
        have sn : stepP U (rows.take (j + 1)) p = stepP U (rows.take j) p ++ ((norm p.2).filter fun q => compat U r p.1 q).map fun q => bothU U r p.1 q := by
          rw [List.take_add_one, hr']
          unfold stepP
          rw [List.flatMap_append]
          show _ ++ (_ ++ []) = _
          rw [List.append_nil]
        have sle : (stepP U (rows.take (j + 1)) p).length ≤ 256 := by
          refine Nat.le_trans ?_ n256
          have z : rows = rows.take (j + 1) ++ rows.drop (j + 1) := (List.take_append_drop _ _).symm
          conv => rhs; rw [z]
          unfold stepP
          rw [List.flatMap_append, List.length_append]
          exact Nat.le_add_right _ _
        rw [sn] at sle ⊢
        refine for_sorted (K := K) (P := P) (w := w) (l := l) (d := p.1.length) rfl (s2 _ _ g3) (g4.same s2) (fun r hr => (prow r hr).1) (by omega) fun H1 Nl nas s3 nNl eNl hNs => ?_
        have lnas := hNs.len
        have nLN : Lg ≠ Nl := ne_of_none eL nNl
        refine ⟨Nl, rfl, ⟨_, .of eNl⟩, ?_⟩
        refine for_it (walk_list (xs := nas.map V.ref)) (fun k σ g2 => ∃ (es : List Addr) (v7 v8 : Option V), σ = [some (.ref M), some (.ref O), some (.ref Fd), some (.ref S), some (.ref l), some (.ref Lg), some (.ref d), v7, v8, none, none] ∧ g2 Lg = some (.lst (es.map V.ref)) ∧
            DsAt (U ++ newN U p.1) g2 es (stepP U (rows.take j) p ++ (((norm p.2).take k).filter fun q => compat U r p.1 q).map fun q => bothU U r p.1 q) ∧ g2 Nl = some (.lst (nas.map V.ref)) ∧ RowsAt g2 nas (norm p.2) ∧ Same h' g2)
          ⟨es, v7, v8, rfl, s3 _ _ eL, by rw [List.take_zero, List.filter_nil, List.map_nil, List.append_nil]; exact dL.same s3, eNl, hNs, s2.trans s3⟩ (fun k σ g2 _ ⟨_, _, _, _, _, _, e, _⟩ => .of e) ?_ ?_
        · rintro k z σ g2 g2' hk ⟨es, v7, v8, rfl, eL2, dL2, eN2, hN2, s4⟩ ⟨rfl, hz⟩
          rw [List.length_map] at hk
          obtain ⟨qa, hqa, rfl⟩ : ∃ qa, nas[k]? = some qa ∧ z = V.ref qa := by
            rw [List.getElem?_map, List.getElem?_eq_getElem hk] at hz
            exact ⟨_, List.getElem?_eq_getElem hk, (Option.some.inj hz).symm⟩
          obtain ⟨q0, hq0, hta⟩ := pr_at hN2 hqa
          have lq : q0.length = p.1.length := (prow q0 (mem_norm.mp (List.mem_of_getElem? hq0))).1
          have cn : ((norm p.2).take (k + 1)).filter (fun q => compat U r p.1 q) = ((norm p.2).take k).filter (fun q => compat U r p.1 q) ++ (if compat U r p.1 q0 = true then [q0] else []) := by
            rw [List.take_add_one, hq0, List.filter_append]
            congr 1
            show List.filter _ [q0] = _
            rw [List.filter_cons, List.filter_nil]
          have cle : ∀ k, (stepP U (rows.take j) p ++ (((norm p.2).take k).filter fun q => compat U r p.1 q).map fun q => bothU U r p.1 q).length ≤ 256 := fun k => by
            refine Nat.le_trans ?_ sle
            rw [List.length_append, List.length_append, List.length_map, List.length_map]
            refine Nat.add_le_add_left (List.Sublist.length_le (List.Sublist.filter _ (List.take_sublist _ _))) _
          have eS2 := s4 _ _ g2
          have ed2 := s4 _ _ hdr
          have les := Paired.length dL2
          dsimp only [gName]
          refine ⟨_, rfl, _, rfl, S, qa, _, _, rfl, .of eS2, .of hta, fun Dn nDn => ?_⟩
          refine lc_it (TZM.walk_zipM (n := p.1.length) (xs := p.1.map V.str) (ys := q0.map V.int) (List.length_map _) (by rw [List.length_map]; exact lq)) (fun n h => h Dn = some (.lst ((((p.1.zip q0).take n).map fun pr => decide ((valU U r pr.1).getD pr.2 = pr.2)).map V.bl)) ∧ Same g2' h) ⟨upd_same, Same.new nDn⟩ (fun n h _ ⟨_, s⟩ => ⟨.of (s _ _ eS2), .of (s _ _ hta)⟩) ?_ ?_
          · rintro n z h3 h3' hn ⟨e5, s5⟩ ⟨T, x1, x2, rfl, nT, rfl, hx1, hx2⟩
            obtain ⟨c, hc, rfl⟩ : ∃ c, p.1[n]? = some c ∧ x1 = V.str c := by
              have z : (p.1.map V.str)[n]? = some x1 := hx1
              rw [List.getElem?_map, List.getElem?_eq_getElem hn] at z
              exact ⟨_, List.getElem?_eq_getElem hn, (Option.some.inj z).symm⟩
            obtain ⟨v, hv, rfl⟩ : ∃ v, q0[n]? = some v ∧ x2 = V.int v := by
              have z : (q0.map V.int)[n]? = some x2 := hx2
              rw [List.getElem?_map, List.getElem?_eq_getElem (by omega)] at z
              exact ⟨_, List.getElem?_eq_getElem (by omega), (Option.some.inj z).symm⟩
            have sT : Same h3 (upd h3 T (.tup [.str c, .int v])) := Same.new nT
            refine ⟨T, _, rfl, .of upd_same, rfl, _, _, rfl, _, _, rfl, rfl, rfl, ?_⟩
            generalize upd h3 T (.tup [.str c, .int v]) = h4 at sT ⊢
            dsimp only [tYes]
            rw [if_pos rfl]
            have ed3 := sT _ _ (s5 _ _ ed2)
            have ex : (valV (dkU U r) (Sum.inr c)).getD (V.int v) = V.int ((valU U r c).getD v) := by
              rw [dkU_val nU lr]
              cases valU U r c <;> rfl
            refine ⟨_, rfl, d, rfl, .inl ⟨_, .of ed3⟩, _, rfl, _, rfl, _, DGet.k (k := Sum.inr c) ed3, _, rfl, ?_⟩
            rw [ex]
            refine ⟨rfl, _, sT _ _ e5, by rw [List.length_map, List.length_map, List.length_take]; exact line100' (by omega), ?_, Same.mut (s5.trans sT) nDn⟩
            have hz : (p.1.zip q0)[n]? = some (c, v) := by rw [List.getElem?_zip_eq_some]; exact ⟨hc, hv⟩
            have edd : decide (V.int ((valU U r c).getD v) = V.int v) = decide ((valU U r c).getD v = v) := decide_eq_decide.mpr ⟨fun z => by injection z, fun z => by rw [z]⟩
            rw [upd_same, List.take_add_one, hz, List.map_append, List.map_append, edd]
            rfl
          rintro h3 ⟨e5, s5⟩
          have zl : (p.1.zip q0).length = p.1.length := by rw [List.length_zip]; omega
          rw [← zl, List.take_length] at e5
          refine ⟨Dn, _, rfl, .of e5, ?_⟩
          have ec : (((p.1.zip q0).map fun pr => decide ((valU U r pr.1).getD pr.2 = pr.2)).all id) = compat U r p.1 q0 := by
            unfold compat
            rw [List.all_map]
            rfl
          rw [ec]
          have ed3 := s5 _ _ ed2
          have eS3 := s5 _ _ eS2
          have ta3 := s5 _ _ hta
          refine ⟨_, rfl, ?_⟩
          refine ite2 (fun hz => ?_) (fun hz => ?_)
          · refine ⟨_, rfl, d, _, rfl, .of ed3, fun Bt nBt => ?_⟩
            have sB : Same h3 (upd h3 Bt (.dK (dkU U r))) := Same.new nBt
            have eB : upd h3 Bt (.dK (dkU U r)) Bt = some (.dK (dkU U r)) := upd_same
            generalize upd h3 Bt (.dK (dkU U r)) = h4 at sB eB ⊢
            refine ⟨_, rfl, Bt, rfl, .inl ⟨_, .of eB⟩, _, rfl, _, rfl, S, qa, p.1.map fun n => (Sum.inr n : Key), q0.map V.int, rfl, ?_, .of (sB _ _ ta3), by rw [List.length_map, List.length_map, lq], fun Z nZ => ?_⟩
            · rw [List.map_map]
              exact .of (sB _ _ eS3)
            rw [dkU_zip]
            have sZ : Same h4 (upd h4 Z (.dK (mergeK [] (dkU p.1 q0)))) := Same.new nZ
            have eZ : upd h4 Z (.dK (mergeK [] (dkU p.1 q0))) Z = some (.dK (mergeK [] (dkU p.1 q0))) := upd_same
            have eBZ : Bt ≠ Z := ne_of_none eB nZ
            generalize upd h4 Z (.dK (mergeK [] (dkU p.1 q0))) = h5 at sZ eZ ⊢
            refine ⟨_, _, Z, sZ _ _ eB, rfl, eZ, eBZ, ?_, ?_⟩
            · have z := length_mergeK (dkU p.1 q0) []
              rw [dkU_len lq, List.length_nil] at z
              rw [dkU_len lr]
              exact line100 (by omega)
            rw [dkU_merge nU pn lr lq hz]
            have s36 : Same h3 (upd h5 Bt (.dK (dkU (U ++ newN U p.1) (bothU U r p.1 q0)))) := Same.mut (sB.trans sZ) nBt
            have e6 : upd h5 Bt (.dK (dkU (U ++ newN U p.1) (bothU U r p.1 q0))) Bt = some (.dK (dkU (U ++ newN U p.1) (bothU U r p.1 q0))) := upd_same
            generalize upd h5 Bt (.dK (dkU (U ++ newN U p.1) (bothU U r p.1 q0))) = h6 at s36 e6 ⊢
            have s26 := s5.trans s36
            have eL6 := s26 _ _ eL2
            have lk := cle k
            rw [← les] at lk
            refine ⟨_, rfl, .inl ⟨rfl, _, .inl (.inl eL6)⟩, _, rfl, Lg, _, _, rfl, rfl, eL6, by rw [List.length_map]; exact line100' (by omega), ?_⟩
            refine ⟨es ++ [Bt], _, _, rfl, by rw [upd_same, List.map_append]; rfl, ?_, by rw [upd_ne nLN.symm]; exact s26 _ _ eN2, RowsAt.put (hN2.same s26) eL6, Same.mut (s4.trans s26) nLg⟩
            rw [cn, if_pos hz, List.map_append, ← List.append_assoc]
            exact DsAt.put (pr_snoc (dL2.same s26) e6) eL6
          · refine ⟨es, _, _, rfl, s5 _ _ eL2, ?_, s5 _ _ eN2, hN2.same s5, s4.trans s5⟩
            rw [cn, if_neg hz, List.append_nil]
            exact dL2.same s5
        · rintro σ g2 ⟨es, v7, v8, rfl, eL2, dL2, eN2, hN2, s4⟩
          have lnn : nas.length = (norm p.2).length := lnas
          rw [List.length_map, lnn, List.take_length] at dL2
          exact ⟨es, _, _, _, rfl, eL2, dL2, s4⟩
      · rintro σ g ⟨es, v6, v7, v8, rfl, eL, dL, s2⟩
        rw [List.length_map, lds, List.take_length] at dL
        exact ⟨_, rfl, Lg, es, _, _, _, _, _, _, rfl, eL, dL, s1.trans s2⟩
    · rintro σ h ⟨Fd, ds, v3, v4, v5, v6, v7, v8, rfl, eF, dF, s1⟩
      rw [List.length_map, lts, List.take_length] at dF
      have pk := plain_ok _ tabs rfl fun t ht => ⟨(hok t ht).1.1, fun r hr => ((hok t ht).1.2.2 r hr).1⟩
      have hcU : ∀ n ∈ order, n ∈ (plainP tabs).1 := fun n hn => (pk.col n).mpr (cov n hn)
      have fe := few tabs.length
      rw [List.take_length] at fe
      have n256 := fe.few x4 x8 o6 rfl
      have uU := sub_len fe.nd fe.sub
      have eq0 : plainN order tabs = norm ((plainP tabs).2.map (atO (plainP tabs).1 order)) := rfl
      have nU := pk.nd
      have wU := pk.wide
      rw [eq0] at q
      generalize plainP tabs = U at dF hcU n256 uU q nU wU
      obtain ⟨U, rows⟩ := U
      dsimp only at dF hcU n256 uU q nU wU
      have lds : ds.length = rows.length := Paired.length dF
      refine ret_sortedE (K := K) (P := P) (w := w) (te := tLc (iList K (tVar 2)) (gName 6) tYes (tCB (rTu K) (tCons (tLc (iList K (tVar 1)) (gName 9) tYes (tDGet (tVar 6) (tVar 9)) [9]) tNil)) [6]) rfl ?_
      refine ⟨_, rfl, Fd, rfl, ⟨_, .of eF⟩, fun Dn nDn => ?_⟩
      refine lc_it (walk_list (xs := ds.map V.ref)) (fun i g => ∃ as : List Addr, g Dn = some (.lst (as.map V.ref)) ∧ RowsAt g as ((rows.take i).map (atO U order)) ∧ Same h g) ⟨[], upd_same, .nil, Same.new nDn⟩ (fun i g _ ⟨_, _, _, s⟩ => .of (s _ _ eF)) ?_ ?_
      · rintro i x g g' hi ⟨as, e4, hR, s4⟩ ⟨rfl, hx⟩
        rw [List.length_map] at hi
        obtain ⟨d, hd, rfl⟩ : ∃ d, ds[i]? = some d ∧ x = V.ref d := by
          rw [List.getElem?_map, List.getElem?_eq_getElem hi] at hx
          exact ⟨_, List.getElem?_eq_getElem hi, (Option.some.inj hx).symm⟩
        obtain ⟨r, hr', hdr⟩ := pr_at dF hd
        have lr := wU r (List.mem_of_getElem? hr')
        have s14 := s1.trans s4
        refine ⟨rfl, ?_⟩
        dsimp only [tYes]
        rw [if_pos rfl]
        refine ⟨_, rfl, O, rfl, ⟨_, .of (s14 _ _ hO)⟩, fun D2 nD2 => ?_⟩
        refine lc_it (walk_list (xs := order.map V.str)) (fun n g2 => g2 D2 = some (.lst (((order.take n).map fun c => r.getD (U.idxOf c) 0).map V.int)) ∧ Same g' g2) ⟨upd_same, Same.new nD2⟩ (fun n g2 _ ⟨_, s⟩ => .of (s _ _ (s14 _ _ hO))) ?_ ?_
        · rintro n y g2 g2' hn ⟨e5, s5⟩ ⟨rfl, hy⟩
          rw [List.length_map] at hn
          obtain ⟨c, hc, rfl⟩ : ∃ c, order[n]? = some c ∧ y = V.str c := by
            rw [List.getElem?_map, List.getElem?_eq_getElem hn] at hy
            exact ⟨_, List.getElem?_eq_getElem hn, (Option.some.inj hy).symm⟩
          have hin := hcU c (List.mem_of_getElem? hc)
          have ed := s5 _ _ (s4 _ _ hdr)
          have zg := DGet.k (k := Sum.inr c) ed
          rw [dkU_val nU lr] at zg
          unfold valU at zg
          rw [if_pos hin] at zg
          refine ⟨rfl, ?_⟩
          dsimp only [tYes]
          rw [if_pos rfl]
          refine ⟨_, rfl, _, rfl, d, _, rfl, zg, _, e5, by rw [List.length_map, List.length_map, List.length_take]; exact line100' (by omega), ?_, Same.mut s5 nD2⟩
          rw [upd_same, List.take_add_one, hc, List.map_append, List.map_append]
          rfl
        rintro g2 ⟨e5, s5⟩
        rw [List.length_map, List.take_length] at e5
        refine ⟨D2, _, rfl, .inl ⟨.of e5, fun T nT => ?_⟩⟩
        have sT : Same g2 (upd g2 T (.tup ((order.map fun c => r.getD (U.idxOf c) 0).map V.int))) := Same.new nT
        have eT : upd g2 T (.tup ((order.map fun c => r.getD (U.idxOf c) 0).map V.int)) T = some (.tup ((order.map fun c => r.getD (U.idxOf c) 0).map V.int)) := upd_same
        generalize upd g2 T (.tup ((order.map fun c => r.getD (U.idxOf c) 0).map V.int)) = g3 at sT eT ⊢
        have s53 := s5.trans sT
        have e43 := s53 _ _ e4
        have las := hR.len
        rw [List.length_map, List.length_take] at las
        refine ⟨_, e43, by rw [List.length_map]; exact line100' (by omega), as ++ [T], by rw [upd_same, List.map_append]; rfl, ?_, Same.mut (s4.trans s53) nDn⟩
        rw [List.take_add_one, hr', List.map_append]
        exact RowsAt.put (pr_snoc (hR.same s53) eT) e43
      · rintro g ⟨as, e4, hR, s4⟩
        rw [List.length_map, lds, List.take_length] at hR
        refine set_sorted (d := order.length) e4 hR (fun r hr => ?_) (by rw [List.length_map]; omega) fun H' p as' s' np ep hp => ?_
        · obtain ⟨r0, _, rfl⟩ := List.mem_map.mp hr
          exact List.length_map _
        · exact q H' p as' ((s1.trans s4).trans s') ((s1.trans s4).free np) ep hp
end
end T33

set_option maxHeartbeats 2000000
/- dict(xs), xs a list of pairs (tuple, value) -/
namespace TDT
open PySem PySem.Spec L2 PyProof.Rows
def mergeT (kvs more : List (List Key × V)) : List (List Key × V) := more.foldl (fun acc kv => putK acc kv.1 kv.2) kvs
theorem merge_len : ∀ (more kvs : List (List Key × V)), (mergeT kvs more).length ≤ kvs.length + more.length
  | [], kvs => Nat.le_refl _
  | p :: r, kvs => by
    have h1 := merge_len r (putK kvs p.1 p.2)
    have h2 := length_putK kvs p.1 p.2
    show (mergeT (putK kvs p.1 p.2) r).length ≤ kvs.length + (r.length + 1)
    omega
theorem kt_merge {H : Hp} {more : List (List Key × V)} {rs : List (List Key × Addr × Value)} (r : KT H more rs) : ∀ {kvs : List (List Key × V)} {xs : List (List Key × Addr × Value)}, KT H kvs xs → KT H (mergeT kvs more) (storedAllH xs rs) := by
  unfold KT at r
  induction r with
  | nil => intro _ _ q; exact q
  | @cons p q ps qs h t ih =>
    intro kvs xs r0
    obtain ⟨h1, h2, h3⟩ := h
    have e : KT H (putK kvs p.1 p.2) (storedH xs q.1 q.2.1 q.2.2) := by
      rw [← h1]
      exact r0.put p.1 h2 h3
    exact ih e
theorem kt_len {H : Hp} {kvs : List (List Key × V)} {xs : List (List Key × Addr × Value)} (r : KT H kvs xs) : kvs.length = xs.length := Paired.length r
section
variable {X : Cx}
theorem pairs_ofT {pins : List (Addr × Obj)} {σ : L2.St} {H : Hp} {s : Shared} (I : Inv X pins σ H s) {ps : List Addr} {kvs : List (List Key × V)} (h : Paired (fun p kv => ∃ b, SqT X.K H p [.ref b, kv.2] ∧ H b = some (.tup (kv.1.map kV))) ps kvs) :
    ∃ prs : List (List Key × Addr × Value), KT H kvs prs ∧ prs.length = ps.length ∧ ∀ (j : Nat) (q : List Key × Addr × Value), prs[j]? = some q → ∃ c : Addr, ps[j]? = some c ∧ IsTup s.heap c #[.ref q.2.1, q.2.2] := by
  induction h with
  | nil => exact ⟨[], .nil, rfl, fun j q e => by simp at e⟩
  | @cons p kv ps kvs h t ih =>
    obtain ⟨prs, r, hl, hp⟩ := ih
    obtain ⟨b, h1, h2⟩ := h
    obtain ⟨its, rv, ht, _⟩ := I.tuple h1
    obtain ⟨u, y, ei, ru, ry⟩ := vals2 rv
    subst ei
    cases (show u = Value.ref b from ru)
    refine ⟨(kv.1, b, y) :: prs, .cons ⟨rfl, h2, ry⟩ r, by rw [List.length_cons, List.length_cons, hl], fun j q e => ?_⟩
    cases j with
    | zero =>
      obtain rfl : (kv.1, b, y) = q := Option.some.inj e
      exact ⟨p, rfl, ht⟩
    | succ j =>
      obtain ⟨c, e1, e2⟩ := hp j q (by simpa using e)
      exact ⟨c, by simpa using e1, e2⟩
theorem call_dictPT (hcalm : X.calm = true) (hu : X.A.units + 2 < cLine) : CallR X (.type "dict") (fun xs H Q => ∃ (a : Addr) (ps : List Addr) (kvs : List (List Key × V)), xs = [.ref a] ∧ SqL X.K H a (ps.map V.ref) ∧ Paired (fun p kv => ∃ b, SqT X.K H p [.ref b, kv.2] ∧ H b = some (.tup (kv.1.map kV))) ps kvs ∧
    ∀ p, H p = none → Q (.ref p) (upd H p (.dT (mergeT [] kvs)))) := by
  intro pins s σ H xs us Q I r q
  obtain ⟨a, ps, kvs, rfl, hq, hp, q⟩ := q
  rw [Vals.ref1 r]
  obtain ⟨its, rv, pl, hz⟩ := I.list hq
  obtain rfl := refs_at rv
  rw [List.length_map] at hz
  obtain ⟨prs, rel, hl, hpr⟩ := pairs_ofT I hp
  obtain ⟨o, n, ho, hc, hd, hdat⟩ := pl
  have hn : H s.heap.objs.size = none := I.hok.fresh (Nat.le_refl _)
  have PA := PairArg.list (prog := X.prog) (w := X.w) a (ps.map Value.ref).toArray (fun j => (ps[j]?).getD 0) (prs.map fun q => (Value.ref q.2.1, q.2.2))
  have items : PairItems s.heap (ps.map Value.ref).toArray (fun j => (ps[j]?).getD 0) (prs.map fun q => (Value.ref q.2.1, q.2.2)) := by
    refine ⟨by simp [hl], fun j k v e => ?_⟩
    rw [List.getElem?_map] at e
    obtain ⟨q0, e0, e1⟩ := Option.map_eq_some_iff.mp e
    obtain ⟨c, e2, e3⟩ := hpr j q0 e0
    have ek : Value.ref q0.2.1 = k := congrArg Prod.fst e1
    have ev : q0.2.2 = v := congrArg Prod.snd e1
    rw [← ek, ← ev]
    show (ps.map Value.ref).toArray[j]? = some (.ref ((ps[j]?).getD 0)) ∧ PairAt s.heap ((ps[j]?).getD 0) _ _
    rw [e2]
    exact ⟨by simp [e2], .inl (show Heap.IsTuple _ _ _ from e3)⟩
  have lp : (prs.map fun q => (Value.ref q.2.1, q.2.2)).length = prs.length := List.length_map _
  refine call_dict_pairsH (knd := tupleKind (mixKind X.prog X.w)) (ps := prs) PA (I.ok.hd hcalm) (tupleKind_room_in1 (A := X.A.in1) (show X.A.units + 1 + 1 < cLine from hu)) ⟨⟨o, n, ho, hc, hd, hdat⟩, items⟩ ⟨lp.symm, fun i key v e => ?_⟩ (fun h' hk x hx => ?_) (by rw [lp, hl]; exact hz) fun h' tk hd' hk => ?_
  · have e : (prs.map fun q => (Value.ref q.2.1, q.2.2))[i]? = some (key, v) := e
    rw [List.getElem?_map] at e
    obtain ⟨q0, e0, e1⟩ := Option.map_eq_some_iff.mp e
    have ev : q0.2.2 = v := congrArg Prod.snd e1
    exact ⟨q0.1, q0.2.1, by rw [e0, ← ev], (congrArg Prod.fst e1).symm⟩
  · have key : H x.2.1 = some (.tup (x.1.map kV)) := by
      obtain ⟨i, hi⟩ := List.mem_iff_getElem?.mp hx
      have all : ∀ {l : List (List Key × V)} {m : List (List Key × Addr × Value)}, KT H l m → ∀ y ∈ m, H y.2.1 = some (.tup (y.1.map kV)) := by
        intro l m z
        induction z with
        | nil => intro y hy; exact nomatch hy
        | @cons p q ps qs h t ih =>
          intro y hy
          rcases List.mem_cons.mp hy with rfl | hy
          · rw [← h.1]
            exact h.2.1
          · exact ih y hy
      exact all rel x hx
    obtain ⟨o1, its, n1, h1, r1⟩ := key_of I.hok key
    exact ⟨o1, its, n1, hk _ o1 (Nat.ne_of_lt (Heap.lt_size h1)) (fun z => nomatch z) h1, r1⟩
  · have hm : (s.heap.objs.size == sysModules) = false := beq_eq_false_iff_ne.mpr (Nat.ne_of_gt I.big)
    have hlen : (mergeT [] kvs).length ≤ sizeLine := by
      refine Nat.le_trans (merge_len kvs []) ?_
      rw [List.length_nil, Nat.zero_add, kt_len rel, hl]
      exact hz
    obtain ⟨p, es, ep, hq', g2, g3, g4, _, g5⟩ := hd'
    have ob : ObjOk X.prog X.w (upd H s.heap.objs.size (.dT (mergeT [] kvs))) h' s.heap.objs.size (.dT (mergeT [] kvs)) := by
      refine ⟨hlen, hm, _, (kt_merge rel .nil).keeps fun c ys ec => ?_, p, es, ep, hq', g2, g3, g4, g5⟩
      rw [upd_ne fun z => by rw [z, hn] at ec; cases ec]
      exact ec
    exact ⟨.ref s.heap.objs.size, upd H s.heap.objs.size (.dT (mergeT [] kvs)), I.laid (t' := tk) (fun b u e => hk b u (fun z => nomatch z) e) (Nat.le_refl _) ob, rfl, q _ hn⟩
end
end TDT

set_option maxHeartbeats 2000000
/- d.setdefault(k, x), the keys of d tuples -/
namespace TSD
open PySem PySem.Spec L2 PyProof.Rows
section
variable {X : Cx} {pins : List (Addr × Obj)} {σ : L2.St} {H : Hp} {s : Shared} {a b : Addr} {r : Value} {d : V} {k : List Key} {A : Around} {E : Value → Shared → Prop}
theorem d_setdT {kvs : List (List Key × V)} {Q : Value → Shared → Prop} (hu : A.units + 1 < cLine) (I : Inv X pins σ H s) (e : H a = some (.dT kvs)) (eb : H b = some (.tup (k.map kV))) (rd : RelV d r) (hl : kvs.length < sizeLine)
    (h1 : ∀ v, valV kvs k = some v → ∀ (w' : Value) (s' : Shared), Inv X pins σ H s' → RelV v w' → Q w' s') (h2 : valV kvs k = none → ∀ (w' : Value) (s' : Shared), Inv X pins σ (upd H a (.dT (putK kvs k d))) s' → RelV d w' → Q w' s') :
    wpAny (model X.prog X.w) A (call (.builtin "dict.setdefault") [.ref a, .ref b, r]) Q E s := by
  obtain ⟨z, hd, xs, rel, dd⟩ := dt_of I.hok e
  have hz : xs.length ≤ sizeLine := by rw [← Paired.length rel]; exact z
  have q := rel.val k
  refine call_setdefault_heap (hsz := hz) (tupleKind_room_in1 hu) (key_of I.hok eb) hd dd (fun p hp => ?_) (fun hn h' dd' hs => ?_)
  · rw [hp] at q
    cases q0 : valV kvs k with
    | none =>
      rw [q0] at q
      exact (show False from q).elim
    | some v0 =>
      rw [q0] at q
      exact h1 v0 q0 _ _ (I.tok _) q
  · rw [hn] at q
    cases q0 : valV kvs k with
    | some v0 =>
      rw [q0] at q
      exact (show False from q).elim
    | none =>
      have hl2 : (putK kvs k d).length ≤ sizeLine := by
        have := length_putK kvs k d
        omega
      refine h2 q0 _ _ ?_ rd
      obtain ⟨p, es, ep, hq, g2, g3, g4, _, g5⟩ := dd'
      refine d_write I (by rw [e]; exact True.intro) hs ⟨p, hq⟩ ⟨hl2, hd, _, (rel.put k eb rd).keeps fun c ys ec => ?_, p, es, ep, hq, g2, g3, g4, g5⟩
      rw [upd_ne (ne_of ec e (fun z => nomatch z))]
      exact ec
end
/-- d.setdefault(y, z), the keys of d tuples -/
def tDSetdT (td ty tx : TE) : TE := fun σ H Q => td σ H fun x H1 => ∃ a, x = .ref a ∧ IsD H1 a ∧ ty σ H1 fun y H2 => tx σ H2 fun z H3 => ∃ (kvs : List (List Key × V)) (k : List Key) (b : Addr), H3 a = some (.dT kvs) ∧ y = .ref b ∧ H3 b = some (.tup (k.map kV)) ∧ kvs.length < sizeLine ∧
  (∀ v, valV kvs k = some v → Q v H3) ∧ (valV kvs k = none → Q z (upd H3 a (.dT (putK kvs k z))))
section
variable {X : Cx} {o e f : Expr} {td ty tx : TE} {apos cpos : Pos}
theorem pe_dsetdT (hu : X.A.units + 1 < cLine) (ho : PE X o td) (he : PE X e ty) (hf : PE X f tx) (m : M2 X o "setdefault" apos e f cpos) : PE X (.Call (.Attribute o "setdefault" apos) [e, f] [] cpos) (tDSetdT td ty tx) := by
  refine ⟨fun pins s σ H Q I h => ?_⟩
  refine wpAny_Call_method m.base m.few m.line PySem.F.plainAttrs_dict PySem.F.slot_dict_setdefault PySem.F.type_dict_setdefault (thn (ho.run pins s σ H _ I h) fun u s1 ⟨x, H1, I1, rx, a, ex, d, q1⟩ => ?_)
  subst ex
  obtain rfl : u = Value.ref a := rx
  obtain ⟨t1, t2, _⟩ := isD_at I1 d
  refine ⟨t1, t2, ?_⟩
  rw [m.trees]
  refine Calls.callWith_builtin rfl (Calls.evalArgs_plain (Calls.spliced_cons (thn (he.run pins s1 σ H1 _ I1 q1) fun iv s2 ⟨y, H2, I2, ry, q2⟩ =>
    Calls.spliced_cons (thn (hf.run pins s2 σ H2 _ I2 q2) fun fv s3 ⟨z, H3, I3, rz, kvs, k, b, ea, ey, eb, hl, q3, q4⟩ => Calls.spliced_nil ?_))))
  subst ey
  cases (show iv = Value.ref b from ry)
  exact d_setdT hu I3 ea eb rz hl (fun v hv w' s4 I4 rw' => ⟨v, _, I4, rw', q3 v hv⟩) fun hn w' s4 I4 rw' => ⟨z, _, I4, rw', q4 hn⟩
end
end TSD

set_option maxHeartbeats 2000000
/-! A rule of our own: for x, y, z in zip(xs, ys, zs), xs a list, ys and zs tuples. -/
namespace TZ3
open PySem L2 PyProof.Rows
theorem three_sz : (3 : Nat) ≤ sizeLine := by decide
/-- the list xs at a, the tuples ys at b and zs at d, item by item in new triples -/
def Itm (K : PySem.W.Frag) (a b d : Addr) (xs ys zs : List V) : It where
  go i H := SqL K H a xs ∧ SqT K H b ys ∧ SqT K H d zs ∧ i < xs.length ∧ i < ys.length ∧ i < zs.length
  yld i H v H' := ∃ T x y z, v = .ref T ∧ H T = none ∧ H' = upd H T (.tup [x, y, z]) ∧ xs[i]? = some x ∧ ys[i]? = some y ∧ zs[i]? = some z
  stop i H := SqL K H a xs ∧ SqT K H b ys ∧ SqT K H d zs ∧ (xs.length ≤ i ∨ ys.length ≤ i ∨ zs.length ≤ i)
theorem turn_m {P : Program} {w : World} {K : PySem.W.Frag} {elts : List Expr} {kk : Nat} {tpos : Pos} {a b d z TI TO i1 i2 i3 : Addr} {xs ys zs : List V} (D : ZipSep3 z TI TO i1 i2 i3 [i1, a] [i2, b] [i3, d]) (ai : a ≠ i1) (bi : b ≠ i2) (di : d ≠ i3) :
    Turn P w K (.Tuple elts kk tpos) (Itm K a b d xs ys zs) [z, TI, TO, i1, i2, i3] z (fun i h => IsZip h z TI TO .none ∧ IsTupOf3 h TI (.ref i1) (.ref i2) (.ref i3) ∧ (∃ x y q, IsTupOf3 h TO x y q) ∧ h.IsListIter i1 a i ∧ h.IsTupleIter i2 b i ∧ h.IsTupleIter i3 d i ∧ i ≤ xs.length ∧ i ≤ ys.length ∧ i ≤ zs.length) where
  mem := by simp
  obj := fun i h st c hc => by
    obtain ⟨hz, hTI, ⟨x, y, q, hTO⟩, ⟨o1, e1, _, d1⟩, ⟨o2, e2, _, d2⟩, ⟨o3, e3, _, d3⟩, _⟩ := st
    have e' : c = z ∨ c = TI ∨ c = TO ∨ c = i1 ∨ c = i2 ∨ c = i3 := by simpa using hc
    rcases e' with q | q | q | q | q | q
    · rw [q]; exact ⟨_, hz, fun v q => nomatch q⟩
    · rw [q]; exact ⟨_, hTI, fun v q => nomatch q⟩
    · rw [q]; exact ⟨_, hTO, fun v q => nomatch q⟩
    · rw [q]; exact ⟨o1, e1, fun v q => by rw [d1] at q; cases q⟩
    · rw [q]; exact ⟨o2, e2, fun v q => by rw [d2] at q; cases q⟩
    · rw [q]; exact ⟨o3, e3, fun v q => by rw [d3] at q; cases q⟩
  keep := fun i h h' st k => by
    obtain ⟨hz, hTI, ⟨x, y, q, hTO⟩, h1, h2, h3, l⟩ := st
    exact ⟨k z (by simp) _ hz, k TI (by simp) _ hTI, ⟨x, y, q, k TO (by simp) _ hTO⟩, h1.at fun o q => k i1 (by simp) o q, h2.at fun o q => k i2 (by simp) o q, h3.at fun o q => k i3 (by simp) o q, l⟩
  item := by
    intro X hP hw hK hc i pins s σ H E I hf st hg
    subst hP hw hK
    obtain ⟨hz, hTI, ⟨x0, y0, q0, hTO⟩, h1, h2, h3, _⟩ := st
    obtain ⟨hqx, hqy, hqz, lx, ly, lz⟩ := hg
    obtain ⟨its, rv, p, _⟩ := I.list hqx
    obtain ⟨its2, rv2, p2, _⟩ := I.tuple hqy
    obtain ⟨its3, rv3, p3, _⟩ := I.tuple hqz
    have zl : z < s.heap.objs.size := Heap.lt_size hz
    have Tl : TI < s.heap.objs.size := Heap.lt_size hTI
    have Ol : TO < s.heap.objs.size := Heap.lt_size hTO
    have l1 : i1 < s.heap.objs.size := by obtain ⟨_, q, _⟩ := h1; exact Heap.lt_size q
    have l2 : i2 < s.heap.objs.size := by obtain ⟨_, q, _⟩ := h2; exact Heap.lt_size q
    have l3 : i3 < s.heap.objs.size := by obtain ⟨_, q, _⟩ := h3; exact Heap.lt_size q
    have sx : its.toArray.size = xs.length := by rw [List.size_toArray, rv.length]
    have sy : its2.toArray.size = ys.length := by rw [List.size_toArray, rv2.length]
    have sz : its3.toArray.size = zs.length := by rw [List.size_toArray, rv3.length]
    refine wpAny_pyNext_zipD3_item D (Draws.list (A := X.A.in1) (I.ok.hd hc) i1 a ai its.toArray) (Draws.tuple (A := X.A.in1) (I.ok.hd hc) i2 b bi its2.toArray) (Draws.tuple (A := X.A.in1) (I.ok.hd hc) i3 d di its3.toArray) hz hTI hTO ⟨h1, p.isList⟩ ⟨h2, p2⟩ ⟨h3, p3⟩ (by rw [sx]; exact lx) (by rw [sy]; exact ly) (by rw [sz]; exact lz) fun u u2 u3 h' tk hu hu2 hu3 z' TO' st1 st2 st3 hT hsz hk => ?_
    have get : ∀ {vs : List V} {js : List Value} {t : Value}, Vals vs js → i < vs.length → js.toArray[i]? = some t → ∃ x, vs[i]? = some x ∧ RelV x t := fun {vs js t} r hl e => by
      obtain ⟨u', e1, k1⟩ := r.get (List.getElem?_eq_getElem hl)
      have e2 : js[i]? = some t := by simpa using e
      rw [e1] at e2
      cases e2
      exact ⟨_, List.getElem?_eq_getElem hl, k1⟩
    obtain ⟨x, hx, ru⟩ := get rv lx hu
    obtain ⟨y, hy, ru2⟩ := get rv2 ly hu2
    obtain ⟨q, hq, ru3⟩ := get rv3 lz hu3
    refine ⟨_, rfl, wpAny_letOwnedTupleGo_zip (s := { s with heap := h', toks := tk }) z' fun h'' z'' sb => ?_⟩
    have hT2 : h''.get? s.heap.objs.size = some { cls := .type "tuple", data := .seq #[u, u2, u3] } := (sb.2 _ (Nat.ne_of_gt zl)).trans hT
    have new : ObjOk X.prog X.w (upd H s.heap.objs.size (.tup [x, y, q])) h'' s.heap.objs.size (.tup [x, y, q]) :=
      ⟨three_sz, [u, u2, u3], .cons ru (.cons ru2 (.cons ru3 .nil)), ⟨_, hT2, rfl, _, rfl⟩⟩
    have I1 : Inv X pins σ (upd H s.heap.objs.size (.tup [x, y, q])) { s with heap := h'', toks := tk } :=
      I.turnedNew (t' := tk) (ch := [z, TI, TO, i1, i2, i3]) (fun c o hb q => (sb.2 c (fun e => hb (by simp [e]))).trans (hk c o (fun e => hb (by simp [e])) (fun e => hb (by simp [e])) (fun e => hb (by simp [e])) (fun e => hb (by simp [e])) (fun e => hb (by simp [e])) q)) hf (Nat.le_refl _) new
    refine ⟨.ref s.heap.objs.size, _, I1, rfl, ⟨_, x, y, q, rfl, I.hok.fresh (Nat.le_refl _), rfl, hx, hy, hq⟩, ⟨z'', ?_, ⟨u, u2, u3, ?_⟩, ?_, ?_, ?_, lx, ly, lz⟩, fun c hcm => ?_⟩
    · exact (sb.2 _ D.TIz).trans (hk _ _ D.TIz D.TITO D.TIi1 D.TIi2 D.TIi3 hTI)
    · exact (sb.2 _ D.TOz).trans TO'
    · exact st1.1.at fun o q => (sb.2 _ (Ne.symm D.zi1)).trans q
    · exact st2.1.at fun o q => (sb.2 _ (Ne.symm D.zi2)).trans q
    · exact st3.1.at fun o q => (sb.2 _ (Ne.symm D.zi3)).trans q
    · have hlt : c < s.heap.objs.size := by
        have e' : c = z ∨ c = TI ∨ c = TO ∨ c = i1 ∨ c = i2 ∨ c = i3 := by simpa using hcm
        rcases e' with q | q | q | q | q | q <;> rw [q] <;> assumption
      rw [upd_ne (Nat.ne_of_lt hlt)]
      exact (hf c hcm).1
  done := by
    intro X hP hw hK hc i pins s σ H E I hf st hg
    subst hP hw hK
    obtain ⟨hz, hTI, ⟨x0, y0, q0, hTO⟩, h1, h2, h3, lx, ly, lz⟩ := st
    obtain ⟨hqx, hqy, hqz, hend⟩ := hg
    obtain ⟨its, rv, p, _⟩ := I.list hqx
    obtain ⟨its2, rv2, p2, _⟩ := I.tuple hqy
    obtain ⟨its3, rv3, p3, _⟩ := I.tuple hqz
    have sx : its.toArray.size = xs.length := by rw [List.size_toArray, rv.length]
    have sy : its2.toArray.size = ys.length := by rw [List.size_toArray, rv2.length]
    have sz : its3.toArray.size = zs.length := by rw [List.size_toArray, rv3.length]
    refine wpAny_pyNext_zipD3_end D (Draws.list (A := X.A.in1) (I.ok.hd hc) i1 a ai its.toArray) (Draws.tuple (A := X.A.in1) (I.ok.hd hc) i2 b bi its2.toArray) (Draws.tuple (A := X.A.in1) (I.ok.hd hc) i3 d di its3.toArray) hz hTI hTO ⟨h1, p.isList⟩ ⟨h2, p2⟩ ⟨h3, p3⟩ (by rw [sx]; exact lx) (by rw [sy]; exact ly) (by rw [sz]; exact lz) (by rw [sx, sy, sz]; omega) fun h' tk hk => ?_
    exact ⟨rfl, I.turnedL (t' := tk) (ch := [z, TI, TO, i1, i2, i3]) (fun c o hb q => hk c o (fun e => hb (by simp [e])) (fun e => hb (by simp [e])) (fun e => hb (by simp [e])) (fun e => hb (by simp [e])) (fun e => hb (by simp [e])) q) hf⟩
  self := fun A i s Q E st h => wpAny_pyIter_zip st.1 h
/-- zip(xs, ys, zs), a list and two tuples -/
def iZip3 (K : PySem.W.Frag) (ta : TA) : TI := fun σ H R => ta σ H fun vs H1 => ∃ a b d xs ys zs, vs = [.ref a, .ref b, .ref d] ∧ SqL K H1 a xs ∧ SqT K H1 b ys ∧ SqT K H1 d zs ∧ R (Itm K a b d xs ys zs) H1
theorem pi_zip3 {X : Cx} {e e2 e3 : Expr} {ta : TA} {p pos tpos : Pos} {elts : List Expr} {kk : Nat} (hg : Gl X "zip") (hm : X.mg "zip" = none) (ha : PA X [e, e2, e3] ta)
    (hs : starEach [e, e2, e3] X.env = (false, eval e X.env) :: starEach [e2, e3] X.env := by rfl) (hpl : (backTo pos (starEach [e2, e3] X.env)).any (·.1) = false := by rfl) :
    PI X (.Tuple elts kk tpos) (.Call (.Name "zip" p) [e, e2, e3] [] pos) (iZip3 X.K ta) := by
  refine ⟨fun pins s σ H R I h => ?_⟩
  refine Call_ (ld_blt I hg hm PyProof.Rows.boot_zip (PyProof.Rows.callWith_type1 (thn (ha.run pos pins s σ H _ I h) fun us s1 ⟨vs, H1, I1, r1, q1⟩ => ?_) hs hpl))
  obtain ⟨a, b, d, xs, ys, zs, rfl, hqx, hqy, hqz, q⟩ := q1
  cases r1 with
  | cons r rr =>
    cases rr with
    | cons r' rr =>
      cases rr with
      | cons r'' rr =>
        cases rr
        cases r
        cases r'
        cases r''
        obtain ⟨its, rv, p1, _⟩ := I1.list hqx
        obtain ⟨its2, rv2, p2, _⟩ := I1.tuple hqy
        obtain ⟨its3, rv3, p3, _⟩ := I1.tuple hqz
        have la : a < s1.heap.objs.size := p1.lt
        have lb : b < s1.heap.objs.size := by obtain ⟨_, q, _⟩ := id p2; exact Heap.lt_size q
        have ld : d < s1.heap.objs.size := by obtain ⟨_, q, _⟩ := id p3; exact Heap.lt_size q
        refine zip_begins3 (begins_list a its.toArray) (begins_tuple b its2.toArray) (begins_tuple d its3.toArray) p1.isList p2 p3 fun h' hz hTI hTO h1 h2 h3 hsz hk => wpAny_pyIter_zip hz ?_
        have I2 : Inv X pins σ H1 { s1 with heap := h' } := I1.kept (t' := s1.toks) hk
        refine ⟨s1.heap.objs.size + 5, [s1.heap.objs.size + 5, s1.heap.objs.size + 3, s1.heap.objs.size + 4, s1.heap.objs.size, s1.heap.objs.size + 1, s1.heap.objs.size + 2], _, _, H1, rfl, I2,
          turn_m (zip_sep3 (fun c hc => by rw [List.mem_singleton.mp hc]; exact la) (fun c hc => by rw [List.mem_singleton.mp hc]; exact lb) (fun c hc => by rw [List.mem_singleton.mp hc]; exact ld)) (Nat.ne_of_lt la) (Nat.ne_of_lt (Nat.lt_succ_of_lt lb)) (Nat.ne_of_lt (Nat.lt_succ_of_lt (Nat.lt_succ_of_lt ld))), ⟨hz, hTI, ⟨_, _, _, hTO⟩, ⟨_, h1, rfl, rfl⟩, ⟨_, h2, rfl, rfl⟩, ⟨_, h3, rfl, rfl⟩, Nat.zero_le _, Nat.zero_le _, Nat.zero_le _⟩, fun c hcm => ?_, q⟩
        have e' : c = s1.heap.objs.size + 5 ∨ c = s1.heap.objs.size + 3 ∨ c = s1.heap.objs.size + 4 ∨ c = s1.heap.objs.size ∨ c = s1.heap.objs.size + 1 ∨ c = s1.heap.objs.size + 2 := by simpa using hcm
        have hle : s1.heap.objs.size ≤ c := by
          rcases e' with q | q | q | q | q | q <;> rw [q] <;> first | exact Nat.le_refl _ | exact Nat.le_add_right _ _
        exact I1.fpOk hle (I1.hok.fresh hle)
/-- what a turn gives: three items in a new tuple -/
def YTrip (f g k : Nat → Option V) : Nat → Hp → V → Hp → Prop := fun i H v H' => ∃ T x y z, v = .ref T ∧ H T = none ∧ H' = upd H T (.tup [x, y, z]) ∧ f i = some x ∧ g i = some y ∧ k i = some z
theorem walk_zip3 {K : PySem.W.Frag} {a b d : Addr} {xs ys zs : List V} {n : Nat} (hx : xs.length = n) (hy : ys.length = n) (hz : zs.length = n) : Walk (Itm K a b d xs ys zs) n (fun H => SqL K H a xs ∧ SqT K H b ys ∧ SqT K H d zs) (YTrip (fun i => xs[i]?) (fun i => ys[i]?) (fun i => zs[i]?)) := by
  refine ⟨fun i _ hi q => ⟨q.1, q.2.1, q.2.2, by omega, by omega, by omega⟩, fun _ q => ⟨q.1, q.2.1, q.2.2, .inl (by omega)⟩, fun i H v H' _ q y => ?_⟩
  exact y
end TZ3

set_option maxHeartbeats 4000000
namespace T33
open PySem L2 PyProof.Rows TX TY TW TD TB TG TUD TE TK TNN
/-! ### rows exchanged -/
/-- a row's key: its values at some columns -/
def keyOf (order keys : List Str) (r : List Int) : List Int := ((order.zip r).filter fun p => decide (p.1 ∈ keys)).map Prod.snd
theorem key_map (order keys : List Str) (f : Str → Int) : keyOf order keys (order.map f) = (order.filter fun n => decide (n ∈ keys)).map f := by
  unfold keyOf
  rw [zip_own, List.filter_map, List.map_map]
  rfl
def swapF (inner : List Str) (g h : Str → Int) (n : Str) : Int := if n ∈ inner then h n else g n
theorem some_stay {k : List Key} : ∀ {more kvs : List (List Key × V)}, (valV kvs k).isSome = true → (valV (TDT.mergeT kvs more) k).isSome = true
  | [], _, h => h
  | p :: r, kvs, h => by
    refine some_stay (more := r) (kvs := putK kvs p.1 p.2) ?_
    rw [valV_put]
    by_cases e : k = p.1
    · rw [if_pos e]; rfl
    · rw [if_neg e]; exact h
theorem some_in {p : List Key × V} : ∀ {more kvs : List (List Key × V)}, p ∈ more → (valV (TDT.mergeT kvs more) p.1).isSome = true
  | q :: r, kvs, h => by
    rcases List.mem_cons.mp h with rfl | h
    · refine some_stay (more := r) (kvs := putK kvs p.1 p.2) ?_
      rw [valV_put, if_pos rfl]
      rfl
    · exact some_in (more := r) (kvs := putK kvs q.1 q.2) h
theorem inl_ints (xs : List Int) : (xs.map fun n => (Sum.inl n : Key)).map kV = xs.map V.int := by
  rw [List.map_map]
  rfl
theorem inl_inj : ∀ {xs ys : List Int}, xs.map (fun n => (Sum.inl n : Key)) = ys.map (fun n => (Sum.inl n : Key)) → xs = ys
  | [], [], _ => rfl
  | [], _ :: _, h => nomatch h
  | _ :: _, [], h => nomatch h
  | x :: xs, y :: ys, h => by
    rw [List.map_cons, List.map_cons] at h
    obtain ⟨h1, h2⟩ := List.cons.inj h
    rw [Sum.inl.inj h1, inl_inj h2]
section
variable {P : Program} {w : World} {K : PySem.W.Frag} {mg : Str → Option Value} {base : Heap}
theorem setd_both {order keys : List Str} {rows : List (List Int)} {r : List Int} {Kd a : Addr} {kvs : List (List Key × V)} {H3 : Hp} {i : Nat} {Q : VK} (eK : H3 Kd = some (.dT kvs)) (kl : kvs.length ≤ i)
    (kk : ∀ (k : List Key) v, valV kvs k = some v → ∃ (a : Addr) (r : List Int), v = .ref a ∧ H3 a = some (.tup (r.map V.int)) ∧ r ∈ rows ∧ k = (keyOf order keys r).map fun n => (Sum.inl n : Key)) (ha : H3 a = some (.tup (r.map V.int))) (hr : r ∈ rows)
    (h : ∀ (oa : Addr) (r1 : List Int) (kvs' : List (List Key × V)) (h5 : Hp), h5 Kd = some (.dT kvs') → kvs'.length ≤ i + 1 → (∀ (k : List Key) v, valV kvs' k = some v → ∃ (a : Addr) (r : List Int), v = .ref a ∧ h5 a = some (.tup (r.map V.int)) ∧ r ∈ rows ∧ k = (keyOf order keys r).map fun n => (Sum.inl n : Key)) →
      (∀ b o, b ≠ Kd → H3 b = some o → h5 b = some o) → h5 oa = some (.tup (r1.map V.int)) → r1 ∈ rows → keyOf order keys r1 = keyOf order keys r → Q (.ref oa) h5) :
    (∀ v, valV kvs ((keyOf order keys r).map fun n => (Sum.inl n : Key)) = some v → Q v H3) ∧ (valV kvs ((keyOf order keys r).map fun n => (Sum.inl n : Key)) = none → Q (.ref a) (upd H3 Kd (.dT (putK kvs ((keyOf order keys r).map fun n => (Sum.inl n : Key)) (.ref a))))) := by
  refine ⟨fun v hv => ?_, fun hn => ?_⟩
  · obtain ⟨a1, r1, rfl, h1, h2, h3⟩ := kk _ v hv
    exact h a1 r1 kvs H3 eK (by omega) kk (fun _ _ _ z => z) h1 h2 (inl_inj h3).symm
  · have keep : ∀ b o, b ≠ Kd → H3 b = some o → upd H3 Kd (.dT (putK kvs ((keyOf order keys r).map fun n => (Sum.inl n : Key)) (.ref a))) b = some o := fun b o hb e => by rw [upd_ne hb]; exact e
    have nt : ∀ {b : Addr} {xs : List V}, H3 b = some (.tup xs) → b ≠ Kd := fun e z => by rw [z, eK] at e; cases e
    refine h a r _ _ upd_same ?_ (fun k v hv => ?_) keep (keep _ _ (nt ha) ha) hr rfl
    · have := length_putK kvs ((keyOf order keys r).map fun n => (Sum.inl n : Key)) (.ref a)
      omega
    · rw [valV_put] at hv
      by_cases e : k = (keyOf order keys r).map fun n => (Sum.inl n : Key)
      · rw [if_pos e] at hv
        exact ⟨a, r, (Option.some.inj hv).symm, keep _ _ (nt ha) ha, hr, e⟩
      · rw [if_neg e] at hv
        obtain ⟨a1, r1, h0, h1, h2, h3⟩ := kk k v hv
        exact ⟨a1, r1, h0, keep _ _ (nt h1) h1, h2, h3⟩
abbrev N_exch : List Str := ["_law_pairs_here", "_law_order", "_law_rows_here", "_law_column", "_law_keys", "_law_inner", "_law_there", "_law_known", "_law_row", "_law_seen", "_law_other", "_law_swapped", "_law_name", "_law_value", "_law_mine", "_law_its"]
abbrev P_exch : List Str := ["_law_pairs_here", "_law_order", "_law_rows_here", "_law_column", "_law_keys"]
theorem sc_exch : FnScope N_exch P_exch (defScope s_exch) := ⟨rfl, rfl, rfl, by decide +kernel, rfl, by decide +kernel, by decide +kernel⟩
def sp_exch : Sp := fun vs H Q _ => ∃ (L O R Ky : Addr) (x : Str) (ps : List TM.Pr) (order keys : List Str) (as : List Addr) (rows : List (List Int)), vs = [.ref L, .ref O, .ref R, .str x, .ref Ky] ∧ PairsAt H L ps ∧ TM.Valid [] ps ∧ ps.length ≤ 8 ∧ x ∈ ps.map Prod.fst ∧
  H O = some (.lst (order.map V.str)) ∧ H R = some (.lst (as.map V.ref)) ∧ RowsAt H as rows ∧ H Ky = some (.lst (keys.map V.str)) ∧ order.Nodup ∧ order.length ≤ 8 ∧ rows.length ≤ 1900 ∧ (∀ r ∈ rows, r.length = order.length) ∧ (∀ n ∈ keys, n ∈ order) ∧
  (∀ g h : Str → Int, order.map g ∈ rows → order.map h ∈ rows → (∀ n ∈ keys, g n = h n) → order.map (swapF (x :: TM.ord ps (some x)) g h) ∈ rows) ∧ ∀ H', Same H H' → Q (.bl true) H'
abbrev rInt1 : List V → Hp → VK → Prop := fun xs H Q => (∃ i, xs = [.int i] ∧ Q (.int i) H) ∨ ∃ k, xs = [.bl k] ∧ Q (.int (if k then 1 else 0)) H
theorem ok_exch {f fB : Addr} {fd dB : FuncData} (F : Fn K mg "_law_exchanged" s_exch P_exch f fd) (B : Bn mg) (Zp : mg "zip" = none) (FB : Fn K mg "_law_beneath" s_lbeneath P_ben fB dB) : FnOk P w K mg base CX0 10 f fd P_exch sp_exch := by
  have GB : FnOk P w K mg base CX0 9 fB dB P_ben (sp_ben 9) := ok_ben FB B 9
  refine F.F.ok sc_exch (fun vs H Q E h => ?_) (fun cdv A outer s H vs Q E hr h => ?_)
  · obtain ⟨L, O, R, Ky, x, ps, order, keys, as, rows, rfl, _⟩ := h
    rfl
  · obtain ⟨L, O, R, Ky, x, ps, order, keys, as, rows, rfl, hP, va, l8, hx, hO, hR, hRs, hKy, ndo, o8, r19, rl, ks, cl, q⟩ := h
    have nd := sc_exch.nd
    have hu64 := hr.units
    have hu := hu_of hr
    have hu2 : (A.deeper (envOfC (Str.ofString "_law_exchanged") (defScope s_exch) s.heap.objs.size f cdv)).units + 2 < cLine := by omega
    refine ⟨_, pss_cons (ps_set (i := 5) nd rfl (Or.inr rfl) (pe_call GB hr rfl FB.g FB.F.kp FB.b .nil pass0 (pa_cons (pv 0) (pa_cons (pv 3) pa_nil))))
      (pss_cons (ps_set (i := 6) nd rfl (Or.inl rfl) (pe_callTy (TDT.call_dictPT rfl hu2) (by rfl) B.dict boot_dict (pa_cons (pe_lc (own := [("_law_row", 8)]) (g := gName 8) (tt := tYes) (te := tTup (tCons (tVar 8) (tCons (tC (.bl true)) tNil))) rfl nd (pi_list (pv 2)) (blkOk_by (N := N_exch) (sc := defScope s_exch) (by decide +kernel))
            (fun _ _ _ _ _ => pg_name (i := 8) nd rfl (Or.inl rfl)) (fun _ _ _ _ _ => pts_nil) (fun _ _ _ _ _ => pe_tup (pa_cons (pv 8) (pa_cons pe_bl pa_nil)))) pa_nil)))
      (pss_cons (ps_set (i := 7) nd rfl (Or.inl rfl) pe_dnewT)
      (pss_cons (ps_for PassesOwn.never rfl (pi_list (pv 2)) (pg_name (i := 8) nd rfl (Or.inl rfl))
        (pss_cons (ps_set (i := 9) nd rfl (Or.inl rfl) (pe_callTy call_tu (by rfl) B.tuple boot_tuple (pa_cons (pe_lc (own := [("_law_name", 12), ("_law_value", 13)]) (g := gTup K 2 (gCons (gName 12) (gCons (gName 13) gNil))) (tt := tTest (tOp (rIn K false) (tVar 12) (tVar 4))) (te := tVar 13) rfl nd (TZM.pi_zipM (by rfl) Zp (pa_cons (pv 1) (pa_cons (pv 8) pa_nil))) (blkOk_by (N := N_exch) (sc := defScope s_exch) (by decide +kernel))
            (fun _ _ _ _ _ => pg_tup rfl (pgs_cons (pg_name (i := 12) nd rfl (Or.inl rfl)) (pgs_cons (pg_name (i := 13) nd rfl (Or.inl rfl)) pgs_nil))) (fun _ _ _ _ _ => pts_one (pt_cmpR op_in_seq (pv 12) (pv 4) rfl)) (fun _ _ _ _ _ => pv 13)) pa_nil)))
        (pss_cons (ps_set (i := 10) nd rfl (Or.inl rfl) (TSD.pe_dsetdT hu (pv 7) (pv 9) (pv 8) ⟨rfl, rfl, rfl, rfl⟩))
        (pss_cons (ps_set (i := 11) nd rfl (Or.inl rfl) (pe_callTy call_tu (by rfl) B.tuple boot_tuple (pa_cons (pe_lc (own := [("_law_name", 12), ("_law_mine", 14), ("_law_its", 15)]) (g := gTup K 3 (gCons (gName 12) (gCons (gName 14) (gCons (gName 15) gNil)))) (tt := tYes)
            (te := tOp (rIxL K) (tLst (tCons (tVar 14) (tCons (tVar 15) tNil))) (tCB rInt1 (tCons (tOp (rIn K false) (tVar 12) (tVar 5)) tNil))) rfl nd (TZ3.pi_zip3 (by rfl) Zp (pa_cons (pv 1) (pa_cons (pv 10) (pa_cons (pv 8) pa_nil)))) (blkOk_by (N := N_exch) (sc := defScope s_exch) (by decide +kernel))
            (fun _ _ _ _ _ => pg_tup rfl (pgs_cons (pg_name (i := 12) nd rfl (Or.inl rfl)) (pgs_cons (pg_name (i := 14) nd rfl (Or.inl rfl)) (pgs_cons (pg_name (i := 15) nd rfl (Or.inl rfl)) pgs_nil)))) (fun _ _ _ _ _ => pts_nil)
            (fun _ _ _ _ _ => pe_ix ix_list (pe_lst (pa_cons (pv 14) (pa_cons (pv 15) pa_nil))) (pe_callTy call_int1 (by rfl) B.int boot_int (pa_cons (pe_cmpR op_in_seq (pv 12) (pv 5) rfl) pa_nil)) (fun _ _ => rfl))) pa_nil)))
        (pss_one (ps_if (pt_cmp (pc_dnotin hu (pv 11) (pv 6))) (pss_one (ps_ret pe_bl)) pss_nil))))))
      (pss_one (ps_ret pe_bl))))), ?_⟩
    have las := hRs.len
    have x9 : TM.Below ps (some x) 9 := ⟨[], ps, rfl, by omega, fun _ h => nomatch h⟩
    refine ⟨_, rfl, _, rfl, L, ps, some x, rfl, hP, va, l8, x9, fun H1 Be s1 _ eBe => ?_⟩
    have eBe : H1 Be = some (.lst ((x :: TM.ord ps (some x)).map V.str)) := eBe
    generalize hin : x :: TM.ord ps (some x) = inner at eBe cl
    have hR1 := s1 _ _ hR
    have hRs1 := hRs.same s1
    -- which rows there are
    dsimp only [gName]
    refine sq_asg ?_
    refine ⟨_, rfl, R, rfl, ⟨_, .of hR1⟩, fun Dn nDn => ?_⟩
    refine lc_it (walk_list (xs := as.map V.ref)) (fun i g => ∃ ts : List Addr, g Dn = some (.lst (ts.map V.ref)) ∧ Paired (fun p kv => ∃ b, g p = some (.tup [.ref b, kv.2]) ∧ g b = some (.tup (kv.1.map kV))) ts ((rows.take i).map fun r => (r.map fun n => (Sum.inl n : Key), V.bl true)) ∧ Same H1 g) ⟨[], upd_same, .nil, Same.new nDn⟩ (fun i g _ ⟨_, _, _, s⟩ => .of (s _ _ hR1)) ?_ ?_
    · rintro i y g g' hi ⟨ts, e4, hT, s4⟩ ⟨rfl, hy⟩
      rw [List.length_map] at hi
      obtain ⟨a, ha, rfl⟩ : ∃ a, as[i]? = some a ∧ y = V.ref a := by
        rw [List.getElem?_map, List.getElem?_eq_getElem hi] at hy
        exact ⟨_, List.getElem?_eq_getElem hi, (Option.some.inj hy).symm⟩
      obtain ⟨r, hr', hta⟩ := pr_at hRs1 ha
      refine ⟨rfl, ?_⟩
      dsimp only [tYes]
      rw [if_pos rfl]
      refine ⟨_, rfl, by show 2 ≤ sizeLine; decide, fun T nT => ?_⟩
      have sT : Same g' (upd g' T (.tup [.ref a, .bl true])) := Same.new nT
      have eT : upd g' T (.tup [.ref a, .bl true]) T = some (.tup [.ref a, .bl true]) := upd_same
      generalize upd g' T (.tup [.ref a, .bl true]) = g2 at sT eT ⊢
      have lts := Paired.length hT
      rw [List.length_map, List.length_take] at lts
      have e42 := sT _ _ e4
      have pk : Paired (fun p kv => ∃ b, g2 p = some (.tup [.ref b, kv.2]) ∧ g2 b = some (.tup (kv.1.map kV))) ts ((rows.take i).map fun r => (r.map fun n => (Sum.inl n : Key), V.bl true)) := Paired.mapP hT fun p kv ⟨b, h1, h2⟩ => ⟨b, sT _ _ h1, sT _ _ h2⟩
      have pk2 : Paired (fun p kv => ∃ b, g2 p = some (.tup [.ref b, kv.2]) ∧ g2 b = some (.tup (kv.1.map kV))) (ts ++ [T]) ((rows.take i).map (fun r => (r.map fun n => (Sum.inl n : Key), V.bl true)) ++ [(r.map fun n => (Sum.inl n : Key), V.bl true)]) := pr_snoc pk ⟨a, eT, by rw [inl_ints]; exact (s4.trans sT) _ _ hta⟩
      refine ⟨_, e42, by rw [List.length_map]; exact line100' (by omega), ts ++ [T], by rw [upd_same, List.map_append]; rfl, ?_, Same.mut (s4.trans sT) nDn⟩
      rw [List.take_add_one, hr', List.map_append]
      refine Paired.mapP pk2 fun p kv ⟨b, h1, h2⟩ => ⟨b, by rw [upd_ne (ne_of h1 e42 (by intro z; cases z))]; exact h1, by rw [upd_ne (ne_of h2 e42 (by intro z; cases z))]; exact h2⟩
    rintro H2 ⟨ts, e4, hT, s4⟩
    rw [List.length_map, las, List.take_length] at hT
    have s14 := s1.trans s4
    refine ⟨Dn, ts, _, rfl, .of e4, Paired.mapP hT fun p kv ⟨b, h1, h2⟩ => ⟨b, .of h1, h2⟩, fun Th nTh => ?_⟩
    have sTh : Same H2 (upd H2 Th (.dT (TDT.mergeT [] (rows.map fun r => (r.map fun n => (Sum.inl n : Key), V.bl true))))) := Same.new nTh
    have eTh : upd H2 Th (.dT (TDT.mergeT [] (rows.map fun r => (r.map fun n => (Sum.inl n : Key), V.bl true)))) Th = some (.dT (TDT.mergeT [] (rows.map fun r => (r.map fun n => (Sum.inl n : Key), V.bl true)))) := upd_same
    have s13 := s14.trans sTh
    generalize upd H2 Th (.dT (TDT.mergeT [] (rows.map fun r => (r.map fun n => (Sum.inl n : Key), V.bl true)))) = H3 at sTh eTh s13 ⊢
    have eBe3 := sTh _ _ (s4 _ _ eBe)
    refine fun Kd nKd => ?_
    have sK : Same H3 (upd H3 Kd (.dT [])) := Same.new nKd
    have eK : upd H3 Kd (.dT []) Kd = some (.dT []) := upd_same
    have ThK : Th ≠ Kd := ne_of_none eTh nKd
    have s3 := s13.trans sK
    have eTh4 := sK _ _ eTh
    have eBe4 := sK _ _ eBe3
    generalize upd H3 Kd (.dT []) = H4 at sK eK s3 eTh4 eBe4 ⊢
    refine ⟨_, rfl, R, rfl, ⟨_, .of (s3 _ _ hR)⟩, ?_⟩
    refine for_it (walk_list (xs := as.map V.ref)) (fun i σ h => ∃ (v8 v9 v10 v11 : Option V) (kvs : List (List Key × V)), σ = [some (.ref L), some (.ref O), some (.ref R), some (.str x), some (.ref Ky), some (.ref Be), some (.ref Th), some (.ref Kd), v8, v9, v10, v11, none, none, none, none] ∧
        h Kd = some (.dT kvs) ∧ kvs.length ≤ i ∧ (∀ (k : List Key) v, valV kvs k = some v → ∃ (a : Addr) (r : List Int), v = .ref a ∧ h a = some (.tup (r.map V.int)) ∧ r ∈ rows ∧ k = (keyOf order keys r).map fun n => (Sum.inl n : Key)) ∧
        h Th = some (.dT (TDT.mergeT [] (rows.map fun r => (r.map fun n => (Sum.inl n : Key), V.bl true)))) ∧ h Be = some (.lst (inner.map V.str)) ∧ Same H h)
      ⟨none, none, none, none, [], rfl, eK, Nat.le_refl _, (fun k v h => nomatch h), eTh4, eBe4, s3⟩ (fun i σ h _ ⟨_, _, _, _, _, _, _, _, _, _, _, s⟩ => .of (s _ _ hR)) ?_ ?_
    · rintro i y σ h h' hi ⟨v8, v9, v10, v11, kvs, rfl, eK', kl, kk, eT', eB', sh⟩ ⟨rfl, hy⟩
      rw [List.length_map] at hi
      obtain ⟨a, ha, rfl⟩ : ∃ a, as[i]? = some a ∧ y = V.ref a := by
        rw [List.getElem?_map, List.getElem?_eq_getElem hi] at hy
        exact ⟨_, List.getElem?_eq_getElem hi, (Option.some.inj hy).symm⟩
      obtain ⟨r, hr', hta⟩ := pr_at (hRs.same sh) ha
      have lr := rl r (List.mem_of_getElem? hr')
      have hrm : r ∈ rows := List.mem_of_getElem? hr'
      have eO := sh _ _ hO
      have eKy := sh _ _ hKy
      -- what is seen
      dsimp only [gName]
      refine sq_asg ?_
      refine ⟨_, rfl, _, rfl, O, a, _, _, rfl, .of eO, .of hta, fun Dn nDn => ?_⟩
      refine lc_it (TZM.walk_zipM (n := order.length) (xs := order.map V.str) (ys := r.map V.int) (List.length_map _) (by rw [List.length_map]; exact lr)) (fun n g => g Dn = some (.lst (((((order.zip r).take n).filter fun p => decide (p.1 ∈ keys)).map Prod.snd).map V.int)) ∧ Same h' g) ⟨upd_same, Same.new nDn⟩ (fun n g _ ⟨_, s⟩ => ⟨.of (s _ _ eO), .of (s _ _ hta)⟩) ?_ ?_
      · rintro n z g g' hn ⟨e5, s5⟩ ⟨T, x1, x2, rfl, nT, rfl, hx1, hx2⟩
        obtain ⟨c, hc, rfl⟩ : ∃ c, order[n]? = some c ∧ x1 = V.str c := by
          have z : (order.map V.str)[n]? = some x1 := hx1
          rw [List.getElem?_map, List.getElem?_eq_getElem hn] at z
          exact ⟨_, List.getElem?_eq_getElem hn, (Option.some.inj z).symm⟩
        obtain ⟨v, hv, rfl⟩ : ∃ v, r[n]? = some v ∧ x2 = V.int v := by
          have z : (r.map V.int)[n]? = some x2 := hx2
          rw [List.getElem?_map, List.getElem?_eq_getElem (by omega)] at z
          exact ⟨_, List.getElem?_eq_getElem (by omega), (Option.some.inj z).symm⟩
        have sT : Same g (upd g T (.tup [.str c, .int v])) := Same.new nT
        refine ⟨T, _, rfl, .of upd_same, rfl, _, _, rfl, _, _, rfl, rfl, rfl, ?_⟩
        generalize upd g T (.tup [.str c, .int v]) = g2 at sT ⊢
        have s52 := s5.trans sT
        refine ⟨_, rfl, _, rfl, Ky, _, rfl, .inl (.of (s52 _ _ eKy)), rfl, TX.flat_strs _, _, rfl, ?_⟩
        rw [if_neg Bool.false_ne_true]
        have ei : inV (V.str c) (keys.map V.str) = decide (c ∈ keys) := inV_str c _
        show (if inV (V.str c) (keys.map V.str) = true then _ else _)
        rw [ei]
        have hz : (order.zip r)[n]? = some (c, v) := by rw [List.getElem?_zip_eq_some]; exact ⟨hc, hv⟩
        have nx : ((order.zip r).take (n + 1)).filter (fun p => decide (p.1 ∈ keys)) = ((order.zip r).take n).filter (fun p => decide (p.1 ∈ keys)) ++ (if decide (c ∈ keys) = true then [(c, v)] else []) := by
          rw [List.take_add_one, hz, List.filter_append]
          congr 1
          show List.filter _ [(c, v)] = _
          rw [List.filter_cons, List.filter_nil]
        by_cases z : decide (c ∈ keys) = true
        · rw [if_pos z]
          rw [if_pos z] at nx
          have fl := List.length_filter_le (fun p : Str × Int => decide (p.1 ∈ keys)) ((order.zip r).take n)
          rw [List.length_take] at fl
          refine ⟨_, rfl, _, sT _ _ e5, by rw [List.length_map, List.length_map]; exact line100' (by omega), ?_, Same.mut s52 nDn⟩
          rw [upd_same, nx, List.map_append, List.map_append]
          rfl
        · rw [if_neg z]
          rw [if_neg z, List.append_nil] at nx
          refine ⟨?_, s52⟩
          rw [nx]
          exact sT _ _ e5
      rintro h2 ⟨e5, s5⟩
      have zl : (order.zip r).length = order.length := by rw [List.length_zip]; omega
      rw [← zl, List.take_length] at e5
      have e5 : h2 Dn = some (.lst ((keyOf order keys r).map V.int)) := e5
      refine ⟨Dn, _, rfl, .inl ⟨.of e5, fun Ts nTs => ?_⟩⟩
      have eTs : upd h2 Ts (.tup ((keyOf order keys r).map V.int)) Ts = some (.tup ((keyOf order keys r).map V.int)) := upd_same
      have sTs : Same h2 (upd h2 Ts (.tup ((keyOf order keys r).map V.int))) := Same.new nTs
      have s6 := s5.trans sTs
      generalize upd h2 Ts (.tup ((keyOf order keys r).map V.int)) = h3 at eTs sTs s6 ⊢
      -- another one
      have eK3 := s6 _ _ eK'
      have ea3 := s6 _ _ hta
      have sh6 := sh.trans s6
      refine ⟨_, rfl, Kd, rfl, .inr ⟨_, .of eK3⟩, _, rfl, _, rfl, kvs, (keyOf order keys r).map fun n => (Sum.inl n : Key), Ts, eK3, rfl, by rw [inl_ints]; exact eTs, line100' (by omega), ?_⟩
      refine setd_both (rows := rows) eK3 kl (fun k v hv => ?_) ea3 hrm fun oa r1 kvs' h5 eK5 kl5 kk5 keep eo5 ho5 ek => ?_
      · obtain ⟨a1, r1, h0, h1, h2, h3⟩ := kk k v hv
        exact ⟨a1, r1, h0, s6 _ _ h1, h2, h3⟩
      have nt : ∀ {b : Addr} {xs : List V}, h3 b = some (.tup xs) → b ≠ Kd := fun e z => by rw [z, eK3] at e; cases e
      have nl : ∀ {b : Addr} {xs : List V}, h3 b = some (.lst xs) → b ≠ Kd := fun e z => by rw [z, eK3] at e; cases e
      have HKd : H Kd = none := s13.free nKd
      have sh5 : Same H h5 := fun b o e => keep b o (ne_of_none e HKd) (sh6 _ _ e)
      have ea5 := keep _ _ (nt ea3) ea3
      have eT5 : h5 Th = _ := keep _ _ ThK (s6 _ _ eT')
      have eB5 : h5 Be = _ := keep _ _ (nl (s6 _ _ eB')) (s6 _ _ eB')
      have eO5 := sh5 _ _ hO
      have lr1 := rl r1 ho5
      clear eK3 ea3 sh6 nt nl keep eTs sTs s6 eK' kk eT' eB' sh eO eKy s5 e5
      -- exchanged
      obtain ⟨gf, rfl⟩ := row_fun ndo lr1
      obtain ⟨hf, rfl⟩ := row_fun ndo lr
      have hsw : order.map (swapF inner gf hf) ∈ rows := by
        rw [← hin]
        rw [hin]
        refine cl gf hf ho5 hrm fun n hn => ?_
        rw [key_map, key_map] at ek
        exact List.map_inj_left.mp ek n (List.mem_filter.mpr ⟨ks n hn, decide_eq_true hn⟩)
      dsimp only [gName]
      refine sq_asg ?_
      refine ⟨_, rfl, _, rfl, _, rfl, O, oa, a, _, _, _, rfl, .of eO5, .of eo5, .of ea5, fun Dm nDm => ?_⟩
      refine lc_it (TZ3.walk_zip3 (n := order.length) (xs := order.map V.str) (ys := (order.map gf).map V.int) (zs := (order.map hf).map V.int) (List.length_map _) (by rw [List.length_map, List.length_map]) (by rw [List.length_map, List.length_map]))
        (fun n g => g Dm = some (.lst (((order.take n).map (swapF inner gf hf)).map V.int)) ∧ Same h5 g) ⟨upd_same, Same.new nDm⟩ (fun n g _ ⟨_, s⟩ => ⟨.of (s _ _ eO5), .of (s _ _ eo5), .of (s _ _ ea5)⟩) ?_ ?_
      · rintro n z g g' hn ⟨e5, s5⟩ ⟨T, x1, x2, x3, rfl, nT, rfl, hx1, hx2, hx3⟩
        obtain ⟨c, hc, rfl⟩ : ∃ c, order[n]? = some c ∧ x1 = V.str c := by
          have z : (order.map V.str)[n]? = some x1 := hx1
          rw [List.getElem?_map, List.getElem?_eq_getElem hn] at z
          exact ⟨_, List.getElem?_eq_getElem hn, (Option.some.inj z).symm⟩
        obtain rfl : x2 = V.int (gf c) := by
          have z : ((order.map gf).map V.int)[n]? = some x2 := hx2
          rw [List.getElem?_map, List.getElem?_map, hc] at z
          exact (Option.some.inj z).symm
        obtain rfl : x3 = V.int (hf c) := by
          have z : ((order.map hf).map V.int)[n]? = some x3 := hx3
          rw [List.getElem?_map, List.getElem?_map, hc] at z
          exact (Option.some.inj z).symm
        have sT : Same g (upd g T (.tup [.str c, .int (gf c), .int (hf c)])) := Same.new nT
        refine ⟨T, _, rfl, .of upd_same, rfl, _, _, rfl, _, _, rfl, _, _, rfl, rfl, rfl, ?_⟩
        generalize upd g T (.tup [.str c, .int (gf c), .int (hf c)]) = g2 at sT ⊢
        dsimp only [tYes]
        rw [if_pos rfl]
        refine ⟨_, rfl, _, rfl, by show 2 ≤ sizeLine; decide, fun Pr nPr => ?_⟩
        have sP : Same g2 (upd g2 Pr (.lst [.int (gf c), .int (hf c)])) := Same.new nPr
        have eP : upd g2 Pr (.lst [.int (gf c), .int (hf c)]) Pr = some (.lst [.int (gf c), .int (hf c)]) := upd_same
        generalize upd g2 Pr (.lst [.int (gf c), .int (hf c)]) = g3 at sP eP ⊢
        have s53 := (s5.trans sT).trans sP
        have ei : inV (V.str c) (inner.map V.str) = decide (c ∈ inner) := inV_str c _
        refine ⟨_, rfl, _, rfl, Be, _, rfl, .inl (.of (s53 _ _ eB5)), rfl, TX.flat_strs _, .inr ⟨inV (V.str c) (inner.map V.str), rfl, Pr, _, _, .int (swapF inner gf hf c), rfl, rfl, .of eP, ?_, ?_⟩⟩
        · rw [ei]
          unfold swapF
          by_cases z : c ∈ inner
          · rw [decide_eq_true z, if_pos z]
            rfl
          · rw [decide_eq_false z, if_neg z]
            rfl
        · refine ⟨_, sP _ _ (sT _ _ e5), by rw [List.length_map, List.length_map, List.length_take]; exact line100' (by omega), ?_, Same.mut s53 nDm⟩
          rw [upd_same, List.take_add_one, hc, List.map_append, List.map_append]
          rfl
      rintro h6 ⟨e6, s6⟩
      rw [List.take_length] at e6
      refine ⟨Dm, _, rfl, .inl ⟨.of e6, fun Tw nTw => ?_⟩⟩
      have eTw : upd h6 Tw (.tup ((order.map (swapF inner gf hf)).map V.int)) Tw = some (.tup ((order.map (swapF inner gf hf)).map V.int)) := upd_same
      have s57 := s6.trans (Same.new (o := .tup ((order.map (swapF inner gf hf)).map V.int)) nTw)
      generalize upd h6 Tw (.tup ((order.map (swapF inner gf hf)).map V.int)) = h7 at eTw s57 ⊢
      have isin : (valV (TDT.mergeT [] (rows.map fun r => (r.map fun n => (Sum.inl n : Key), V.bl true))) ((order.map (swapF inner gf hf)).map fun n => (Sum.inl n : Key))).isSome = true :=
        some_in (p := ((order.map (swapF inner gf hf)).map fun n => (Sum.inl n : Key), V.bl true)) (List.mem_map.mpr ⟨_, hsw, rfl⟩)
      refine ⟨_, rfl, _, rfl, Th, _, rfl, DGet.t (s57 _ _ eT5) (by rw [inl_ints]; exact eTw), ?_⟩
      rw [isin]
      refine ⟨_, rfl, ?_⟩
      show (if false = true then _ else _)
      rw [if_neg Bool.false_ne_true]
      refine ⟨_, _, _, _, kvs', rfl, s57 _ _ eK5, kl5, (fun k v hv => ?_), s57 _ _ eT5, s57 _ _ eB5, sh5.trans s57⟩
      obtain ⟨a1, r2, h0, h1, h2, h3⟩ := kk5 k v hv
      exact ⟨a1, r2, h0, s57 _ _ h1, h2, h3⟩
    · rintro σ h ⟨v8, v9, v10, v11, kvs, rfl, eK', kl, kk, eT', eB', sh⟩
      exact q h sh
end
end T33

set_option maxHeartbeats 4000000
/-! Rules of our own: sets of texts: made by a comprehension of two fors, sorted. -/
namespace TST
open PySem PySem.Spec L2 PyProof.Rows PySem.Froz
/-- the set at a: the unlike texts l; its table rises and can be walked -/
def StrsR (P : Program) (w : World) (h : Heap) (a : Addr) (l : List Str) : Prop :=
  ∃ D : SD, h.get? a = some (sObj "set" D) ∧ TxOk P w D l ∧ l.Nodup ∧ Ris D.2.2.place.toList ∧ (w.params.followText "set-order" = true ∨ D.2.2.led = true)
theorem tail_walk {ep : Nat} {es : Array (Int × Value)} {t : SetTable} {b : Bool} (r : Ris t.place.toList) : Ris (tailTx ep es t b).2.2.place.toList ∧ (tailTx ep es t b).2.2.led = t.led := by
  unfold tailTx
  by_cases c : (!b && t.tooFull) = true
  · rw [if_pos c]
    exact ⟨relayAll_ris t es _, relayAll_led t es _⟩
  · rw [if_neg c]
    exact ⟨r, rfl⟩
theorem add_walk {D : SD} {k : Str} {u : Tok} {w : World} (r : Ris D.2.2.place.toList) : Ris (addTx (hashStr w k) (.str k u) D).2.2.place.toList ∧ (addTx (hashStr w k) (.str k u) D).2.2.led = D.2.2.led := by
  have h1 := layNew_ris D.2.2 D.1 (hashStr w k) (.str k u) r
  have h2 := layNew_led D.2.2 D.1 (hashStr w k) (.str k u)
  unfold addTx
  by_cases c : (layNew D.2.2 D.1 (hashStr w k) (.str k u)).2.1.plain = true
  · rw [if_pos c]
    have z := tail_walk (ep := D.2.1) (es := (layNew D.2.2 D.1 (hashStr w k) (.str k u)).1) (t := { (layNew D.2.2 D.1 (hashStr w k) (.str k u)).2.1 with plain := false }) (b := (layNew D.2.2 D.1 (hashStr w k) (.str k u)).2.2.1) h1
    exact ⟨z.1, z.2.trans h2⟩
  · rw [if_neg c]
    have z := tail_walk (ep := D.2.1) (es := (layNew D.2.2 D.1 (hashStr w k) (.str k u)).1) (b := (layNew D.2.2 D.1 (hashStr w k) (.str k u)).2.2.1) h1
    exact ⟨z.1, z.2.trans h2⟩
theorem str_is {k : Str} {v : Value} {P : Program} {w : World} (h : (PySem.strKind P w).is k v = true) : ∃ x u, v = Value.str x u := by
  cases v with
  | str x u => exact ⟨x, u, rfl⟩
  | _ => exact absurd h (by intro z; cases z)
theorem is_same {k x : Str} {u : Tok} {P : Program} {w : World} (h : (PySem.strKind P w).is k (.str x u) = true) : strOf (.str x u) = k := by
  have z : (x == k) = true := h
  exact eq_of_beq z
theorem perm_of_sub : ∀ {l m : List Str}, l.Nodup → (∀ x ∈ l, x ∈ m) → m.length ≤ l.length → l.Perm m := by
  intro l
  induction l with
  | nil =>
    intro m _ _ h
    have : m = [] := List.length_eq_zero_iff.mp (Nat.le_zero.mp h)
    rw [this]
  | cons a l ih =>
    intro m n s h
    have ha := s a List.mem_cons_self
    rw [List.nodup_cons] at n
    have z := ih (m := m.erase a) n.2 (fun x hx => (List.mem_erase_of_ne (show x ≠ a from fun e => n.1 (by rw [← e]; exact hx))).mpr (s x (List.mem_cons_of_mem _ hx))) (by rw [List.length_erase_of_mem ha]; rw [List.length_cons] at h; omega)
    exact (z.cons a).trans (List.perm_cons_erase ha).symm
section
variable {P : Program} {w : World} {A : Around} {E : Value → Shared → Prop} {s : Shared} {a : Addr} {l : List Str}
theorem StrsR.new {h : Heap} : StrsR P w (h.push { cls := .type "set", dict := none, data := .set #[] 0 (.fresh 0 0 (!w.params.followText "set-order")) }) h.objs.size [] :=
  ⟨(#[], 0, .fresh 0 0 (!w.params.followText "set-order")), Heap.get?_push_size _ rfl, TxOk.nil rfl, List.nodup_nil, List.Pairwise.nil, by
    show _ ∨ (!w.params.followText "set-order") = true
    cases w.params.followText "set-order"
    · exact .inr rfl
    · exact .inl rfl⟩
/-- a text that is there already -/
theorem add_there {D : SD} {k : Str} {u : Tok} {Q : Bool → Shared → Prop} (ho : s.heap.get? a = some (sObj "set" D)) (F : TxOk P w D l) (hk : k ∈ l) (hb : l.length < scanBound) (h : Q false s) : wpAny (model P w) A (setAddHashed a (.str k u) (hashStr w k)) Q E s := by
  obtain ⟨es, ep, t⟩ := D
  have ed : (sObj "set" (es, ep, t)).data = .set es ep t := rfl
  have ef : t.fits es.size = true := F.fit
  have ee : ElemsOf (PySem.strKind P w) es.toList := F.el
  have ez : es.size = l.length := F.sz
  have ek : (PySem.strKind P w).is k (.str k u) = true := is_str k u
  unfold setAddHashed setAddHashedIn
  refine wpAny_holding (wpAny_bind (wpAny_setState_of ho ed ef ?_))
  dsimp only
  rw [byScan_of rfl (by omega) ee]
  simp only [↓reduceIte]
  unfold setAddByScan
  refine wpAny_bind (wpAny_bind (wpAny_rule (wpAny_bind (wpAny_setScan_of (knd := PySem.strKind P w) (k := k) ek ho ed ef ee ?_))))
  obtain ⟨e, he, pe⟩ := (F.mem k).mp hk
  cases hfi : List.findIdx? (fun e => (PySem.strKind P w).is k e.2) es.toList with
  | none =>
    have c := List.findIdx?_eq_none_iff.mp hfi e he
    rw [pe] at c
    cases c
  | some j =>
    dsimp only
    exact wpAny_pure (wpAny_pure h)
/-- one put into the set -/
theorem add_text {k : Str} {u : Tok} {Q : Value → Shared → Prop} (R : StrsR P w s.heap a l) (hb : l.length + 1 < scanBound)
    (hQ : ∀ (h' : Heap) (tk : Nat) (m : List Str), Heap.SameBut a s.heap h' → StrsR P w h' a m → (k ∈ l → m = l) → (k ∉ l → m = k :: l) → Q .none { heap := h', gens := s.gens, drawn := s.drawn, toks := tk, os := s.os }) :
    wpAny (model P w) A (call (.builtin "set.add") [.ref a, .str k u]) Q E s := by
  obtain ⟨D, ho, F, nd, r, ld⟩ := R
  refine wpAny_call_entry PySem.F.slot_set_add ⟨_, ho, rfl⟩ PySem.F.entry_set_add ?_ (PySem.F.args_set_add_2 _ _)
  show wpAny _ _ ((do let y ← setAdd a (.str k u); ret .none : Sem Fin)) _ _ _
  refine wpAny_bind (wpAny_holding (wpAny_bind ((PySem.strKind P w).pyHash (k := k) (is_str _ _) ?_)))
  by_cases hk : k ∈ l
  · refine add_there (s := { s with toks := s.toks + 1 }) ho F hk (by omega) ?_
    exact wpAny_pure ⟨_, rfl, hQ s.heap _ l (Heap.SameBut.refl a s.heap) ⟨D, ho, F, nd, r, ld⟩ (fun _ => rfl) fun z => absurd hk z⟩
  · refine add_x (s := { s with toks := s.toks + 1 }) (T := "set") ho F hk hb ?_
    have ew := add_walk (k := k) (u := u) (w := w) r
    refine wpAny_pure ⟨_, rfl, hQ (s.heap.update a fun _ => sObj "set" (addTx (hashStr w k) (.str k u) D)) _ (k :: l) (Heap.SameBut.update s.heap a _) ⟨_, get_upd _ ho rfl, add_ok u F, List.nodup_cons.mpr ⟨hk, nd⟩, ew.1, ?_⟩ (fun z => absurd z hk) fun _ => rfl⟩
    rw [ew.2]
    exact ld
/-- sorted(the set) -/
theorem sorted_texts {Q : Value → Shared → Prop} (R : StrsR P w s.heap a l) (hh : A.handled = none) (hb : l.length < 64)
    (hQ : ∀ (s' : Shared) (p : Addr) (out : Array Value) (c : Nat) (ns : List Str), (∀ b o, s.heap.get? b = some o → s'.heap.get? b = some o) → s'.gens = s.gens → s'.os = s.os → s.heap.objs.size ≤ p →
      s'.heap.get? p = some (seqObj "list" out c) → StrsAre out.toList ns → ns.Perm l → sortedS ns = true → Q (.ref p) s') :
    wpAny (model P w) A (call (.builtin "sorted") [.ref a]) Q E s := by
  obtain ⟨⟨es, ep, t⟩, ho, F, nd, r, ld⟩ := R
  have ez : es.size = l.length := F.sz
  have ebs : (64 : Nat) ≤ scanBound := by decide
  refine Calls.call_function_entry kind_sorted plain_sorted entry_sorted (args_sorted1 (.ref a)) ?_
  refine wpAny_bind (wpAny_pure (wpAny_bind (L2.collect_set (A := A.in1) hh ⟨_, ho, rfl, rfl⟩ F.fit (show es.size < scanBound by omega) r ld fun s1 vs k1 hz g1 o1 pm => ?_)))
  have evl : vs.length = l.length := by rw [pm.length_eq, List.length_map, Array.length_toList]; exact ez
  have estr : ∀ v ∈ vs, ∃ x u, v = Value.str x u := fun v hv => by
    obtain ⟨e, he, rfl⟩ := List.mem_map.mp (pm.mem_iff.mp hv)
    obtain ⟨⟨k, hk, _⟩, _⟩ := F.el e he
    exact str_is hk
  have eS := strsAre_map vs estr
  have ep1 : (vs.map strOf).Perm (es.toList.map fun e => strOf e.2) := by
    have q := pm.map strOf
    rw [List.map_map] at q
    exact q
  have ep2 : l.Perm (es.toList.map fun e => strOf e.2) := by
    refine perm_of_sub nd (fun k hk => ?_) (by rw [List.length_map, Array.length_toList, ez]; exact Nat.le_refl _)
    obtain ⟨e, he, q⟩ := (F.mem k).mp hk
    obtain ⟨e1, e2⟩ := e
    obtain ⟨x, u, rfl⟩ := str_is q
    refine List.mem_map.mpr ⟨_, he, ?_⟩
    exact is_same q
  refine wpAny_bind (wpAny_newList ?_ (by rw [evl, sizeLine_eq]; omega))
  have eL := Heap.get?_push_size s1.heap (o := seqObj "list" vs.toArray 0) rfl
  refine wpAny_bind (wpAny_holding (wpAny_call_entry slot_list_sort ⟨_, eL, rfl⟩ entry_list_sort (list_sort_treeKAny strKind_oneLt eL eS.keysOf (fun x y z e => keyKind_strs (by rw [← e]; exact eS)) (by rw [evl, sizeLine_eq]; omega) fun st hp hs => ?_) (args_list_sort _)))
  obtain ⟨ns, z1, z2, z3⟩ := sorted_out_str eS hp hs
  obtain ⟨c, hc⟩ := sortedHeap_at (vs := vs) (out := (arrOf st).map (·.2)) eL
  refine ⟨_, rfl, wpAny_pure ⟨_, rfl, ?_⟩⟩
  refine hQ _ s1.heap.objs.size _ c ns (fun b u e => ?_) g1 o1 hz hc z1 (z2.trans (ep1.trans ep2.symm)) z3
  have hb1 := k1 b u e
  have hlt := Heap.lt_size hb1
  show (sortedHeap (s1.heap.push (seqObj "list" vs.toArray 0)) s1.heap.objs.size vs ((arrOf st).map (·.2))).get? b = some u
  rw [sortedHeap_old (Nat.ne_of_lt hlt) (by rw [Heap.size_push]; exact Nat.lt_succ_of_lt hlt)]
  exact Heap.get?_push_of_some _ hb1
end
/-! ### at the hand layer -/
def SetTO (P : Program) (w : World) (a : Addr) (l : List Str) : HO := .ext fun h => StrsR P w h a l
theorem setTO_ok {P : Program} {w : World} {H : Hp} {h : Heap} {a : Addr} {l : List Str} (R : StrsR P w h a l) : ObjOk P w H h a (SetTO P w a l) := by
  obtain ⟨D, ho, _⟩ := id R
  refine ⟨R, ⟨_, ho⟩, fun h1 h2 p k => ?_⟩
  obtain ⟨D', ho', z'⟩ := (show StrsR P w h1 a l from p)
  exact ⟨D', k _ ho', z'⟩
/-- sorted(a set of texts) -/
def rSortT (P : Program) (w : World) : List V → Hp → VK → Prop := fun vs H Q => ∃ (a : Addr) (l : List Str), vs = [.ref a] ∧ H a = some (SetTO P w a l) ∧ l.length < 64 ∧ ∀ (ns : List Str) (p : Addr), ns.Perm l → sortedS ns = true → H p = none → Q (.ref p) (upd H p (.lst (ns.map V.str)))
theorem cr_sortT {X : Cx} (hc : X.calm = true) : CallR X (.builtin "sorted") (rSortT X.prog X.w) := by
  intro pins s σ H vs us Q I r h
  obtain ⟨a, l, rfl, ha, hb, q⟩ := h
  have R : StrsR X.prog X.w s.heap a l := (I.hok a _ ha).1
  rw [Vals.ref1 r]
  refine sorted_texts R (I.ok.hd hc) hb fun s' p out c ns k g o hp hg hs pm so => ?_
  have hn : H p = none := HOk.fresh I.hok hp
  have hlen : (ns.map V.str).length ≤ sizeLine := by rw [List.length_map, pm.length_eq, sizeLine_eq]; omega
  have J : Inv X pins σ (upd H p (.lst (ns.map V.str))) { heap := s'.heap, gens := s'.gens, drawn := s'.drawn, toks := s'.toks, os := s.os } := by
    refine Inv.call (ch := []) I (Un.laid k hp hn) (HOk.laid I.hok k hp ⟨hlen, _, c, vals_of_strs hs, hg⟩) ?_ fun x z => nomatch z
    rw [g]
    exact I.bare
  have e : s' = { heap := s'.heap, gens := s'.gens, drawn := s'.drawn, toks := s'.toks, os := s.os } := by
    cases s'
    cases s
    cases o
    rfl
  rw [e]
  exact ⟨.ref p, _, J, rfl, q ns p pm so hn⟩
theorem addT_ok {X : Cx} {P : Program} {w : World} (e2 : X.prog = P) (e3 : X.w = w) {pins : List (Addr × Obj)} {σ : L2.St} {H : Hp} {s : Shared} {E : Value → Shared → Prop} {D : Addr} {l : List Str} {k : Str} {u : Tok} {Q : Value → Shared → Prop} (I : Inv X pins σ H s)
    (hD : H D = some (SetTO P w D l)) (room : l.length + 1 < scanBound) (h : ∀ (s' : Shared) (m : List Str), (k ∈ l → m = l) → (k ∉ l → m = k :: l) → Inv X pins σ (upd H D (SetTO P w D m)) s' → Q .none s') :
    wpAny (model X.prog X.w) X.A (call (.builtin "set.add") [.ref D, .str k u]) Q E s := by
  subst e2 e3
  have R : StrsR X.prog X.w s.heap D l := (I.hok D _ hD).1
  refine add_text R room fun h' tk m sb R' h1 h2 => ?_
  refine h _ m h1 h2 (Inv.write (e := D) I ?_ (.inl rfl) (fun b u hb hu => (sb.2 b hb).trans hu) ?_ (setTO_ok R'))
  · rw [hD]
    trivial
  · obtain ⟨_, ho, _⟩ := R'
    exact ⟨_, ho⟩
end TST

set_option maxHeartbeats 4000000
/-! A rule of our own: {text for .. in .. for .. in ..}. -/
namespace TST
open PySem PySem.Spec L2 PyProof.Rows PySem.Froz
abbrev two (x ta sa tb sb : Expr) (fa fb : List Expr) (scope : Scope) (pos : Pos) : Expr := x.SetComp [⟨ta, sa, fa, 0⟩, ⟨tb, sb, fb, 0⟩] scope pos
theorem turn_a (x ta sa tb sb : Expr) (fa fb : List Expr) (scope : Scope) (pos : Pos) (it acc : Value) (env : Env) : compTurn (two x ta sa tb sb fa fb scope pos) 0 it acc env = (do
      standAt sa.pos
      match ← pyNext it with
      | none => pure (.done .next)
      | some u =>
        letOwnedTupleGo ta it u
        assign ta env u
        let mut good := true
        for c in fa do
          if good then good ← isTrue c env (eval c env)
        if good then
          let q ← eval sb env
          standAt sb.pos
          let q ← foldedSetIterable sb env q
          let _ ← runOwn (.compStart (two x ta sa tb sb fa fb scope pos) 1 (← holding [q] (pyIter q)) acc env) env
        again (.compLoop (two x ta sa tb sb fa fb scope pos) 0 it acc env)) := by rfl
theorem turn_b (x ta sa tb sb : Expr) (fa fb : List Expr) (scope : Scope) (pos : Pos) (it acc : Value) (env : Env) : compTurn (two x ta sa tb sb fa fb scope pos) 1 it acc env = (do
      standAt sb.pos
      match ← pyNext it with
      | none => pure (.done .next)
      | some u =>
        letOwnedTupleGo tb it u
        assign tb env u
        let mut good := true
        for c in fb do
          if good then good ← isTrue c env (eval c env)
        if good then
          (do let q ← eval x env; standAt x.pos; let _ ← call (.builtin "set.add") [acc, q])
        again (.compLoop (two x ta sa tb sb fa fb scope pos) 1 it acc env)) := by rfl
section
variable {prog : Program} {w : World} {A : Around} {R : Result → Shared → Prop} {s : Shared} {x ta sa tb sb : Expr} {fa fb : List Expr} {scope : Scope} {pos : Pos} {it acc : Value} {env : Env}
/-- the tests of a clause -/
abbrev tests (env : Env) (fs : List Expr) : Sem Bool := forIn fs true fun c r => if r = true then do let ok ← isTrue c env (eval c env); pure (ForInStep.yield ok) else pure (ForInStep.yield r)
abbrev raised (prog : Program) (w : World) (A : Around) (R : Result → Shared → Prop) (env : Env) : Value → Shared → Prop := notedBy (model prog w) A env fun e s' => R (.error e) s'
theorem loop_a (hs : ∀ q, foldedSetIterable sb env q = pure q) (I : Nat → Shared → Prop)
    (turn : ∀ n s, I n s → wpAny (model prog w) A (pyNext it) (fun r u1 => match r with
      | none => R (.ok .next) u1
      | some v => wpAny (model prog w) A (letOwnedTupleGo ta it v) (fun _ u2 => wpAny (model prog w) A (assign ta env v) (fun _ u3 => wpAny (model prog w) A (tests env fa) (fun ok u4 =>
            if ok = true then wpAny (model prog w) A (eval sb env) (fun q u5 => wpAny (model prog w) A (pyIter q) (fun jt u6 =>
              codeAny (model prog w) A (.compStart (two x ta sa tb sb fa fb scope pos) 1 jt acc env) (fun r s' => match r with
                | .ok _ => ∃ m, m < n ∧ I m s'
                | .error _ => False) u6) (raised prog w A R env) u5) (raised prog w A R env) u4
            else ∃ m, m < n ∧ I m u4) (raised prog w A R env) u3) (raised prog w A R env) u2) (raised prog w A R env) u1) (raised prog w A R env) s)
    (n : Nat) (h : I n s) : codeAny (model prog w) A (.compLoop (two x ta sa tb sb fa fb scope pos) 0 it acc env) R s := by
  refine codeAny_loop rfl I (fun n s hI => ?_) n h
  show wpAny _ A ((compTurn (two x ta sa tb sb fa fb scope pos) 0 it acc env).onRaise (fun e => do noteFrame e env; theTreesLotGoes e)) _ _ s
  refine wpAny_noted ?_
  rw [turn_a]
  refine wpAny_bind (wpAny_standAt (wpAny_bind (wpAny_mono (turn n s hI) (fun r u1 h1 => ?_) fun _ _ z => z)))
  cases r with
  | none => exact wpAny_pure h1
  | some v =>
    refine wpAny_bind (wpAny_mono h1 (fun _ u2 h2 => ?_) fun _ _ z => z)
    refine wpAny_bind (wpAny_mono h2 (fun _ u3 h3 => wpAny_bind (wpAny_mono h3 (fun ok u4 h4 => ?_) fun _ _ z => z)) fun _ _ z => z)
    cases ok with
    | false => exact wpAny_pure ⟨rfl, h4⟩
    | true =>
      refine wpAny_bind (wpAny_mono h4 (fun q u5 h5 => ?_) fun _ _ z => z)
      refine wpAny_bind (wpAny_standAt (wpAny_bind (wpAny_of_eq (hs q) (wpAny_bind (wpAny_holding (wpAny_mono h5 (fun jt u6 h6 => ?_) fun _ _ z => z))))))
      refine wpAny_bind (wpAny_runOwn ?_)
      rw [Around.mark_none]
      refine codeAny_mono h6 fun r s' hr => ?_
      cases r with
      | ok f =>
        first
          | exact wpAny_pure ⟨rfl, hr⟩
          | exact wpAny_bind (wpAny_pure (wpAny_pure ⟨rfl, hr⟩))
      | error e => exact hr.elim
theorem loop_b (I : Nat → Shared → Prop)
    (turn : ∀ n s, I n s → wpAny (model prog w) A (pyNext it) (fun r u1 => match r with
      | none => R (.ok .next) u1
      | some v => wpAny (model prog w) A (letOwnedTupleGo tb it v) (fun _ u2 => wpAny (model prog w) A (assign tb env v) (fun _ u3 => wpAny (model prog w) A (tests env fb) (fun ok u4 =>
            if ok = true then wpAny (model prog w) A (eval x env) (fun q u5 =>
              wpAny (model prog w) A (call (.builtin "set.add") [acc, q]) (fun _ u6 => ∃ m, m < n ∧ I m u6) (raised prog w A R env) u5) (raised prog w A R env) u4
            else ∃ m, m < n ∧ I m u4) (raised prog w A R env) u3) (raised prog w A R env) u2) (raised prog w A R env) u1) (raised prog w A R env) s)
    (n : Nat) (h : I n s) : codeAny (model prog w) A (.compLoop (two x ta sa tb sb fa fb scope pos) 1 it acc env) R s := by
  refine codeAny_loop rfl I (fun n s hI => ?_) n h
  show wpAny _ A ((compTurn (two x ta sa tb sb fa fb scope pos) 1 it acc env).onRaise (fun e => do noteFrame e env; theTreesLotGoes e)) _ _ s
  refine wpAny_noted ?_
  rw [turn_b]
  refine wpAny_bind (wpAny_standAt (wpAny_bind (wpAny_mono (turn n s hI) (fun r u1 h1 => ?_) fun _ _ z => z)))
  cases r with
  | none => exact wpAny_pure h1
  | some v =>
    refine wpAny_bind (wpAny_mono h1 (fun _ u2 h2 => ?_) fun _ _ z => z)
    refine wpAny_bind (wpAny_mono h2 (fun _ u3 h3 => wpAny_bind (wpAny_mono h3 (fun ok u4 h4 => ?_) fun _ _ z => z)) fun _ _ z => z)
    cases ok with
    | false => exact wpAny_pure ⟨rfl, h4⟩
    | true =>
      exact wpAny_bind (wpAny_bind (wpAny_mono h4 (fun q u5 h5 => wpAny_bind (wpAny_standAt (wpAny_bind (wpAny_mono h5 (fun _ u6 h6 => wpAny_pure (wpAny_pure ⟨rfl, h6⟩)) fun _ _ z => z)))) fun _ _ z => z))
theorem start_b (h0 : codeAny (model prog w) A (.compLoop (two x ta sa tb sb fa fb scope pos) 1 it acc env) R s)
    (h : wpAny (model prog w) A (pyIter it) (fun jt s' => codeAny (model prog w) A (.compLoop (two x ta sa tb sb fa fb scope pos) 1 jt acc env) R s') (raised prog w A R env) s) :
    codeAny (model prog w) A (.compStart (two x ta sa tb sb fa fb scope pos) 1 it acc env) R s := by
  refine codeAny_of_tree ?_
  show wpAny _ _ ((compStart (two x ta sa tb sb fa fb scope pos) 1 it acc env).onRaise (fun e => do noteFrame e env; standAt theWindowsPlace)) _ _ s
  refine wpAny_notedAt ?_
  unfold compStart
  show wpAny _ _ (ask >>= _) _ _ s
  refine wpAny_bind (wpAny_askSetting (wpAny_ite ?_))
  split
  · first
      | exact wpAny_bind (wpAny_pure (wpAny_pure ⟨rfl, h0⟩))
      | exact wpAny_pure ⟨rfl, h0⟩
  · first
      | exact wpAny_bind (wpAny_rule (wpAny_bind (wpAny_standAt (wpAny_bind (wpAny_mono h (fun jt s' z => wpAny_pure ⟨rfl, z⟩) fun _ _ z => z)))))
      | (refine wpAny_bind (wpAny_rule ?_); show wpAny _ _ (standAt sb.pos >>= _) _ _ s; exact wpAny_bind (wpAny_standAt (wpAny_bind (wpAny_mono h (fun jt s' z => wpAny_pure ⟨rfl, z⟩) fun _ _ z => z))))
end
theorem wipe_off {σ : L2.St} {i : Nat} : ∀ {vs : List Nat}, i ∉ vs → (wipe σ vs)[i]? = σ[i]? := fun h => wipe_out h
/-- {x for ta in sa if .. for tb in sb if ..}, x a text -/
def tScT2 (P : Program) (w : World) (wi : TI) (g : TG) (tt : TT) (wi1 : TI) (g1 : TG) (tt1 : TT) (te : TE) (vs vs1 : List Nat) : TE := fun σ H Q => wi σ H fun J H1 => ∀ D, H1 D = none → ∃ Wt : Nat → Nat → Hp → Prop, (∃ m, Wt 0 m (upd H1 D (SetTO P w D []))) ∧
  ∀ i m H, Wt i m H → (J.stop i H ∧ Q (.ref D) H) ∨ (J.go i H ∧ ∃ Nx : Hp → Prop, (∀ H', Nx H' → ∃ m', m' < m ∧ Wt (i + 1) m' H') ∧ ∀ v H', J.yld i H v H' → g v (wipe σ vs) H' fun σ2 H2 => wipe σ2 vs = wipe σ vs ∧ tt σ2 H2 fun b H3 =>
    if b = true then wi1 σ2 H3 fun J1 H4 => ∃ W1 : Nat → Nat → Hp → Prop, (∃ m, W1 0 m H4) ∧ ∀ j k H, W1 j k H →
      (J1.stop j H ∧ Nx H) ∨ (J1.go j H ∧ ∃ Nx1 : Hp → Prop, (∀ H', Nx1 H' → ∃ k', k' < k ∧ W1 (j + 1) k' H') ∧ ∀ v H', J1.yld j H v H' → g1 v (wipe σ2 vs1) H' fun σ3 H5 => wipe σ3 vs1 = wipe σ2 vs1 ∧ tt1 σ3 H5 fun b H6 =>
        if b = true then te σ3 H6 fun y H7 => ∃ (k : Str) (l : List Str), y = .str k ∧ H7 D = some (SetTO P w D l) ∧ l.length + 1 < scanBound ∧ ∀ m : List Str, (k ∈ l → m = l) → (k ∉ l → m = k :: l) → Nx1 (upd H7 D (SetTO P w D m)) else Nx1 H6)
    else Nx H3)
theorem sc_T2 {X : Cx} {pins : List (Addr × Obj)} {s : Shared} {σ : L2.St} {H : Hp} {Q : VK} {x ta sa tb sb : Expr} {fa fb : List Expr} {scope : Scope} {own : List (Str × Nat)} {vs1 : List Nat} {pos pos' : Pos} {wi wi1 : TI} {g g1 : TG} {tt tt1 : TT} {te : TE} {use : Option (Value → Sem Unit)} {Qf : Value → Shared → Prop}
    (hc : X.calm = true) (hN : X.N.Nodup) (I : L2.Inv X pins σ H s) (hi : PI X ta sa wi) (ok : BlkOk X.N X.env.scope scope own) (hv : ∀ i ∈ vs1, i ∈ own.map (·.2))
    (hg : ∀ (s : Shared) (H : Hp) (C : Addr) (cl : List (Str × Addr)) (fp : List Addr), PG (X.blk s H scope (compEnvC scope cl C X.env) fp) ta g)
    (ht : ∀ (s : Shared) (H : Hp) (C : Addr) (cl : List (Str × Addr)) (fp : List Addr), PTs (X.blk s H scope (compEnvC scope cl C X.env) fp) fa tt)
    (he : ∀ (s : Shared) (H : Hp) (C : Addr) (cl : List (Str × Addr)) (fp : List Addr), PE (X.blk s H scope (compEnvC scope cl C X.env) fp) x te) (hs : ∀ q : Value, foldedSetIterable sa X.env q = pure q)
    (hi1 : ∀ (s : Shared) (H : Hp) (C : Addr) (cl : List (Str × Addr)) (fp : List Addr), PI (X.blk s H scope (compEnvC scope cl C X.env) fp) tb sb wi1)
    (hg1 : ∀ (s : Shared) (H : Hp) (C : Addr) (cl : List (Str × Addr)) (fp : List Addr), PG (X.blk s H scope (compEnvC scope cl C X.env) fp) tb g1)
    (ht1 : ∀ (s : Shared) (H : Hp) (C : Addr) (cl : List (Str × Addr)) (fp : List Addr), PTs (X.blk s H scope (compEnvC scope cl C X.env) fp) fb tt1) (hs1 : ∀ (env : Env) (q : Value), foldedSetIterable sb env q = pure q)
    (h : tScT2 X.prog X.w wi g tt wi1 g1 tt1 te (own.map (·.2)) vs1 σ H Q)
    (hRR : ∀ (D C : Addr) (s' : Shared) (m : Str → Option Value) (H' : Hp), L2.Inv X pins σ H' s' → Q (.ref D) H' → s'.heap.Ns C m → FpOk X pins H' C → compPost (model X.prog X.w) X.A X.xe use Qf (.ref D) C (.ok .next) s') :
    wpAny (model X.prog X.w) X.A (comprehension (two x ta sa tb sb fa fb scope pos) scope X.env pos' (newSet (.type "set")) false (eval sa X.env) use) Qf X.xe s := by
  have hfree : ∀ y ∈ scope.names, y.2 = .free → ∃ c, List.lookup y.1 X.env.cells = some c := fun y hy e => (ok.free y hy e).elim (fun k => I.ok.has _ (.inl k)) fun k => I.ok.has _ (.inr k)
  refine wpAny_comprehension_free rfl hs (closure_ok hfree) ok.kind (fun y hy e => by rw [ok.uniq y hy, e]) ?_
  refine thn (hi.run pins s σ H _ I h) fun av s1 hx => thn hx fun itv s2 h2 => ?_
  obtain ⟨it, fp, tn, J, H2, rfl, I2, T, st2, f2, q⟩ := h2
  refine PpSet.newSet_ok (newEnv_comp ?_)
  have hDn : H2 s2.heap.objs.size = none := HOk.fresh I2.hok (Nat.le_refl _)
  obtain ⟨Wt, ⟨m0, w0⟩, turn⟩ := q _ hDn
  have I3 : L2.Inv X pins σ (upd H2 s2.heap.objs.size (SetTO X.prog X.w s2.heap.objs.size [])) { heap := s2.heap.push { cls := .type "set", data := .set #[] 0 (SetTable.fresh 0 0 !X.w.params.followText "set-order") }, gens := s2.gens, drawn := s2.drawn, toks := s2.toks, os := s2.os } :=
    Inv.laid I2 (fun b o e => Heap.get?_push_of_some _ e) (Nat.le_refl _) (setTO_ok StrsR.new)
  have sz : ∀ b ∈ fp, b < s2.heap.objs.size := fun b hb => by
    obtain ⟨o, e, _⟩ := T.obj 0 s2.heap st2 b hb
    exact Heap.lt_size e
  have k3 : ∀ (b : Addr) (o : Obj), s2.heap.get? b = some o → (s2.heap.push { cls := .type "set", data := .set #[] 0 (SetTable.fresh 0 0 !X.w.params.followText "set-order") }).get? b = some o := fun b o e => Heap.get?_push_of_some _ e
  have z3 : (s2.heap.push { cls := .type "set", data := .set #[] 0 (SetTable.fresh 0 0 !X.w.params.followText "set-order") }).objs.size = s2.heap.objs.size + 1 := Heap.size_push _ _
  generalize hs3 : ({ heap := s2.heap.push { cls := .type "set", data := .set #[] 0 (SetTable.fresh 0 0 !X.w.params.followText "set-order") }, gens := s2.gens, drawn := s2.drawn, toks := s2.toks, os := s2.os } : Shared) = s3 at I3 ⊢
  have k3' : ∀ (b : Addr) (o : Obj), s2.heap.get? b = some o → s3.heap.get? b = some o := by rw [← hs3]; exact k3
  have z3' : s3.heap.objs.size = s2.heap.objs.size + 1 := by rw [← hs3]; exact z3
  generalize hH3 : upd H2 s2.heap.objs.size (SetTO X.prog X.w s2.heap.objs.size []) = H3 at I3 w0
  have f3 : ∀ b ∈ fp, FpOk X pins H3 b ∧ b < s3.heap.objs.size := fun b hb =>
    ⟨⟨by rw [← hH3, upd_ne (Nat.ne_of_lt (sz b hb))]; exact (f2 b hb).1, (f2 b hb).2⟩, by rw [z3']; exact Nat.lt_succ_of_lt (sz b hb)⟩
  have st3 : tn 0 s3.heap := T.keep 0 _ _ st2 fun b _ o e => k3' b o e
  have I4 := block_start I3 ok hN f3
  have pg := hg s3 H3 s3.heap.objs.size (cellsFrom (s3.heap.objs.size + 1) scope.names (cloFrom X.env.cells scope.names [])) fp
  have pt := ht s3 H3 s3.heap.objs.size (cellsFrom (s3.heap.objs.size + 1) scope.names (cloFrom X.env.cells scope.names [])) fp
  have pe := he s3 H3 s3.heap.objs.size (cellsFrom (s3.heap.objs.size + 1) scope.names (cloFrom X.env.cells scope.names [])) fp
  have pi1 := hi1 s3 H3 s3.heap.objs.size (cellsFrom (s3.heap.objs.size + 1) scope.names (cloFrom X.env.cells scope.names [])) fp
  have pg1 := hg1 s3 H3 s3.heap.objs.size (cellsFrom (s3.heap.objs.size + 1) scope.names (cloFrom X.env.cells scope.names [])) fp
  have pt1 := ht1 s3 H3 s3.heap.objs.size (cellsFrom (s3.heap.objs.size + 1) scope.names (cloFrom X.env.cells scope.names [])) fp
  show codeAny _ _ (Code.compStart (two x ta sa tb sb fa fb scope pos) 0 _ _ (compEnvC scope (cellsFrom (s3.heap.objs.size + 1) scope.names (cloFrom X.env.cells scope.names [])) s3.heap.objs.size X.env)) (compPost (model X.prog X.w) X.A X.xe use Qf (.ref s2.heap.objs.size) s3.heap.objs.size) _
  have cL : (compEnvC scope (cellsFrom (s3.heap.objs.size + 1) scope.names (cloFrom X.env.cells scope.names [])) s3.heap.objs.size X.env).locals = s3.heap.objs.size := rfl
  have hs4 : ∀ (b : Addr) (o : Obj), s3.heap.get? b = some o → (pushCells (s3.heap.push { cls := .type "dict", data := .dict #[] }) scope.names).get? b = some o := fun b o e => pushCells_keeps scope.names _ b o (Heap.get?_push_of_some _ e)
  generalize hce : compEnvC scope (cellsFrom (s3.heap.objs.size + 1) scope.names (cloFrom X.env.cells scope.names [])) s3.heap.objs.size X.env = ce at I4 pg pt pe pi1 pg1 pt1 cL ⊢
  have st4 : tn 0 (pushCells (s3.heap.push { cls := .type "dict", data := .dict #[] }) scope.names) := T.keep 0 _ _ st3 fun b _ o e => hs4 b o e
  have nfp : ∀ b ∈ fp, H3 b = none := fun b hb => (f3 b hb).1.1
  generalize hs4' : ({ heap := pushCells (s3.heap.push { cls := .type "dict", data := .dict #[] }) scope.names, gens := s3.gens, drawn := s3.drawn, toks := s3.toks, os := s3.os } : Shared) = s4 at I4 ⊢
  have st4' : tn 0 s4.heap := by rw [← hs4']; exact st4
  have stat : ∀ {σ' : L2.St} {H' : Hp} {s' : Shared}, L2.Inv (X.blk s3 H3 scope ce fp) [] σ' H' s' → (∀ b ∈ fp, H' b = none) → ∀ b ∈ fp, FpOk (X.blk s3 H3 scope ce fp) [] H' b := fun I' hn b hb =>
    ⟨hn b hb, (I'.ok.exf b hb).1, I'.ok.exfs b hb, .inl hb, (I'.ok.exf b hb).2, fun p hp => by simp [Cx.blk] at hp⟩
  have loop : codeAny (model X.prog X.w) X.A (Code.compLoop (two x ta sa tb sb fa fb scope pos) 0 (.ref it) (.ref s2.heap.objs.size) ce) (compPost (model X.prog X.w) X.A X.xe use Qf (.ref s2.heap.objs.size) s3.heap.objs.size) s4 := by
    refine loop_a (hs1 ce) (fun n s' => ∃ i H', L2.Inv (X.blk s3 H3 scope ce fp) [] (wipe σ (own.map (·.2))) H' s' ∧ tn i s'.heap ∧ (∀ b ∈ fp, H' b = none) ∧ Wt i n H') ?_ m0 ⟨0, H3, I4, st4', nfp, w0⟩
    rintro n s5 ⟨i, H5, I5, st5, n5, w5⟩
    rcases turn i n H5 w5 with ⟨stop, qq⟩ | ⟨go, Nx, hNx, step⟩
    · refine thnF (T.done (X.blk s3 H3 scope ce fp) rfl rfl rfl hc i [] s5 _ H5 _ I5 (stat I5 n5) st5 stop) fun r s6 z => ?_
      obtain ⟨rfl, I6⟩ := z
      have I7 : L2.Inv X pins σ H5 s6 := Inv.call' (ch := fp) I3 I6.os I6.base I6.hok I6.bare fun b hb => ⟨(f3 b hb).1.2.2.2.1, (f3 b hb).1.2.1, (f3 b hb).1.2.2.2.2.1, (f3 b hb).1.2.2.2.2.2⟩
      have nC : H5 s3.heap.objs.size = none := by
        have z : H5 ce.locals = none := I6.free
        rwa [cL] at z
      obtain ⟨m, hn, _⟩ := I6.loc
      have hn : s6.heap.Ns ce.locals m := hn
      rw [cL] at hn
      exact hRR _ _ s6 m H5 I7 qq hn (I3.fpOk (Nat.le_refl _) nC)
    · refine thnF (T.item (X.blk s3 H3 scope ce fp) rfl rfl rfl hc i [] s5 _ H5 _ I5 (stat I5 n5) st5 go) fun r s6 z => ?_
      obtain ⟨u, rfl, h6⟩ := z
      refine thnF h6 fun _ s7 z => ?_
      obtain ⟨v7, H7, I7, r7, y7, st7, n7⟩ := z
      have I7' := I7.pinned (stat I7 n7) (T.obj _ _ st7)
      refine thnF (pg.run _ s7 _ H7 v7 u _ I7' r7 (step v7 H7 y7)) fun _ s8 z => ?_
      obtain ⟨σ8, H8, I8, hw8, q8⟩ := z
      refine thnF (pt.run _ s8 σ8 H8 _ I8 q8) fun b s9 z => ?_
      obtain ⟨H9, I9, q9⟩ := z
      have fin : ∀ {σ9 : L2.St} {s' : Shared} {H' : Hp}, L2.Inv (X.blk s3 H3 scope ce fp) ([] ++ pinsAt fp s7.heap) σ9 H' s' → (wipe σ (own.map (·.2))).length = σ9.length → (∀ (j : Nat) v, (wipe σ (own.map (·.2)))[j]? = some (some v) → σ9[j]? = some (some v)) → Nx H' → ∃ m, m < n ∧ ∃ i H', L2.Inv (X.blk s3 H3 scope ce fp) [] (wipe σ (own.map (·.2))) H' s' ∧ tn i s'.heap ∧ (∀ b ∈ fp, H' b = none) ∧ Wt i m H' := by
        intro σ9 s' H' I' hl hk nx
        obtain ⟨m', hm, w'⟩ := hNx H' nx
        have pin' : ∀ b ∈ fp, ∀ o, s7.heap.get? b = some o → s'.heap.get? b = some o ∧ H' b = none := fun b hb o e => by
          have z := I'.pin (b, o) (List.mem_append_right _ (List.mem_append_right _ (mem_pinsAt hb e)))
          exact ⟨z.1, z.2.1⟩
        refine ⟨m', hm, i + 1, H', I'.unpinned.weak hl hk, T.keep _ _ _ st7 (fun b hb o e => (pin' b hb o e).1), fun b hb => ?_, w'⟩
        obtain ⟨o, e, _⟩ := T.obj _ _ st7 b hb
        exact (pin' b hb o e).2
      have l8 : (wipe σ (own.map (·.2))).length = σ8.length := by rw [← hw8, wipe_length]
      have k8 : ∀ (j : Nat) v, (wipe σ (own.map (·.2)))[j]? = some (some v) → σ8[j]? = some (some v) := fun j v e => (wipe_some (hw8 ▸ e)).1
      have k9 : ∀ (j : Nat) v, (wipe σ (own.map (·.2)))[j]? = some (some v) → (wipe σ8 vs1)[j]? = some (some v) := fun j v e => by
        rw [← hw8] at e
        rw [wipe_off fun z => (wipe_some e).2 (hv j z)]
        exact (wipe_some e).1
      cases b with
      | false =>
        rw [if_neg Bool.false_ne_true] at q9 ⊢
        exact fin I9 l8 k8 q9
      | true =>
        rw [if_pos rfl] at q9 ⊢
        refine thnF (pi1.run _ s9 σ8 H9 _ I9 q9) fun bv s10 hx => thnF hx fun jtv s11 z => ?_
        obtain ⟨jt, fp1, tn1, J1, H11, rfl, I11, T1, st11, f11, W1, ⟨m1, w1⟩, turn1⟩ := z
        have stat1 : ∀ {H' : Hp}, (∀ b ∈ fp1, H' b = none) → ∀ b ∈ fp1, FpOk (X.blk s3 H3 scope ce fp) ([] ++ pinsAt fp s7.heap) H' b := fun hn b hb => ⟨hn b hb, (f11 b hb).2⟩
        have loop1 : codeAny (model X.prog X.w) X.A (Code.compLoop (two x ta sa tb sb fa fb scope pos) 1 (.ref jt) (.ref s2.heap.objs.size) ce) (fun r s' => match r with
              | .ok _ => ∃ m, m < n ∧ ∃ i H', L2.Inv (X.blk s3 H3 scope ce fp) [] (wipe σ (own.map (·.2))) H' s' ∧ tn i s'.heap ∧ (∀ b ∈ fp, H' b = none) ∧ Wt i m H'
              | .error _ => False) s11 := by
          refine loop_b (fun k s' => ∃ j H', L2.Inv (X.blk s3 H3 scope ce fp) ([] ++ pinsAt fp s7.heap) (wipe σ8 vs1) H' s' ∧ tn1 j s'.heap ∧ (∀ b ∈ fp1, H' b = none) ∧ W1 j k H') ?_ m1 ⟨0, H11, I11.weak (wipe_length _ _) (fun j v e => (wipe_some e).1), st11, fun b hb => (f11 b hb).1, w1⟩
          rintro k s12 ⟨j, H12, I12, st12, n12, w12⟩
          rcases turn1 j k H12 w12 with ⟨stop1, nx1⟩ | ⟨go1, Nx1, hNx1, step1⟩
          · refine thnF (T1.done (X.blk s3 H3 scope ce fp) rfl rfl rfl hc j _ s12 (wipe σ8 vs1) H12 _ I12 (stat1 n12) st12 stop1) fun r s13 z => ?_
            obtain ⟨rfl, I13⟩ := z
            exact fin I13 (l8.trans (wipe_length σ8 vs1).symm) k9 nx1
          · refine thnF (T1.item (X.blk s3 H3 scope ce fp) rfl rfl rfl hc j _ s12 (wipe σ8 vs1) H12 _ I12 (stat1 n12) st12 go1) fun r s13 z => ?_
            obtain ⟨u1, rfl, h13⟩ := z
            refine thnF h13 fun _ s14 z => ?_
            obtain ⟨v14, H14, I14, r14, y14, st14, n14⟩ := z
            have I14' := I14.pinned (stat1 n14) (T1.obj _ _ st14)
            refine thnF (pg1.run _ s14 (wipe σ8 vs1) H14 v14 u1 _ I14' r14 (step1 v14 H14 y14)) fun _ s15 z => ?_
            obtain ⟨σ15, H15, I15, hw15, q15⟩ := z
            refine thnF (pt1.run _ s15 σ15 H15 _ I15 q15) fun b1 s16 z => ?_
            obtain ⟨H16, I16, q16⟩ := z
            have fin1 : ∀ {s' : Shared} {H' : Hp}, L2.Inv (X.blk s3 H3 scope ce fp) (([] ++ pinsAt fp s7.heap) ++ pinsAt fp1 s14.heap) σ15 H' s' → Nx1 H' → ∃ m, m < k ∧ ∃ j H', L2.Inv (X.blk s3 H3 scope ce fp) ([] ++ pinsAt fp s7.heap) (wipe σ8 vs1) H' s' ∧ tn1 j s'.heap ∧ (∀ b ∈ fp1, H' b = none) ∧ W1 j m H' := by
              intro s' H' I' nx
              obtain ⟨m', hm, w'⟩ := hNx1 H' nx
              have pin1 : ∀ b ∈ fp1, ∀ o, s14.heap.get? b = some o → s'.heap.get? b = some o ∧ H' b = none := fun b hb o e => by
                have z := I'.pin (b, o) (List.mem_append_right _ (List.mem_append_right _ (mem_pinsAt hb e)))
                exact ⟨z.1, z.2.1⟩
              refine ⟨m', hm, j + 1, H', I'.unpinned.weak (by rw [← hw15, wipe_length]) (fun j v e => (wipe_some (hw15 ▸ e)).1), T1.keep _ _ _ st14 (fun b hb o e => (pin1 b hb o e).1), fun b hb => ?_, w'⟩
              obtain ⟨o, e, _⟩ := T1.obj _ _ st14 b hb
              exact (pin1 b hb o e).2
            cases b1 with
            | false =>
              rw [if_neg Bool.false_ne_true] at q16 ⊢
              exact fin1 I16 q16
            | true =>
              rw [if_pos rfl] at q16 ⊢
              refine thnF (pe.run _ s16 σ15 H16 _ I16 q16) fun z s17 y => ?_
              obtain ⟨yv, H17, I17, ry, kk, l, rfl, hD, room, nx⟩ := y
              obtain ⟨tk, rfl⟩ := (show ∃ t, z = Value.str kk t from ry)
              exact addT_ok (X := X.blk s3 H3 scope ce fp) rfl rfl I17 hD room fun s' m h1 h2 I' => fin1 I' (nx m h1 h2)
        exact start_b loop1 (T1.self X.A 0 _ _ _ st11 loop1)
  exact PpSet.codeAny_compStart_set loop (T.self _ 0 _ _ _ st4' loop)
theorem pe_scT2 {X : Cx} {x ta sa tb sb : Expr} {fa fb : List Expr} {scope : Scope} {own : List (Str × Nat)} {vs1 : List Nat} {pos : Pos} {wi wi1 : TI} {g g1 : TG} {tt tt1 : TT} {te : TE} (hc : X.calm = true) (hN : X.N.Nodup) (hi : PI X ta sa wi) (ok : BlkOk X.N X.env.scope scope own) (hv : ∀ i ∈ vs1, i ∈ own.map (·.2))
    (hg : ∀ (s : Shared) (H : Hp) (C : Addr) (cl : List (Str × Addr)) (fp : List Addr), PG (X.blk s H scope (compEnvC scope cl C X.env) fp) ta g)
    (ht : ∀ (s : Shared) (H : Hp) (C : Addr) (cl : List (Str × Addr)) (fp : List Addr), PTs (X.blk s H scope (compEnvC scope cl C X.env) fp) fa tt)
    (hi1 : ∀ (s : Shared) (H : Hp) (C : Addr) (cl : List (Str × Addr)) (fp : List Addr), PI (X.blk s H scope (compEnvC scope cl C X.env) fp) tb sb wi1)
    (hg1 : ∀ (s : Shared) (H : Hp) (C : Addr) (cl : List (Str × Addr)) (fp : List Addr), PG (X.blk s H scope (compEnvC scope cl C X.env) fp) tb g1)
    (ht1 : ∀ (s : Shared) (H : Hp) (C : Addr) (cl : List (Str × Addr)) (fp : List Addr), PTs (X.blk s H scope (compEnvC scope cl C X.env) fp) fb tt1)
    (he : ∀ (s : Shared) (H : Hp) (C : Addr) (cl : List (Str × Addr)) (fp : List Addr), PE (X.blk s H scope (compEnvC scope cl C X.env) fp) x te)
    (hs : ∀ q : Value, foldedSetIterable sa X.env q = pure q := by intros; rfl) (hs1 : ∀ (env : Env) (q : Value), foldedSetIterable sb env q = pure q := by intros; rfl) :
    PE X (two x ta sa tb sb fa fb scope pos) (tScT2 X.prog X.w wi g tt wi1 g1 tt1 te (own.map (·.2)) vs1) :=
  ⟨fun pins s σ H Q I h => by
    rw [PpSet.eval_SetComp]
    refine sc_T2 hc hN I hi ok hv hg ht he hs hi1 hg1 ht1 hs1 h fun D C s' m H' I' q hn f => ?_
    obtain ⟨f0, f1, f2, f3, f4, f5⟩ := f
    exact ⟨m, hn, fun h'' sb => ⟨.ref D, H', Inv.turned I' (fun b o hb e => (sb.2 b hb).trans e) f0 f1 f3 f4 f5, rfl, q⟩⟩⟩
end TST

set_option maxHeartbeats 1000000
/-! A walk, whatever the turn does: for comprehensions of two fors. -/
namespace TL2
open PySem L2
variable {J : It} {n : Nat} {G : Hp → Prop} {Y : Nat → Hp → V → Hp → Prop}
theorem walk_any (w : Walk J n G Y) {B : (Hp → Prop) → V → Hp → Prop} {H0 : Hp} {Qd : Hp → Prop} (Pv : Nat → Hp → Prop) (h0 : Pv 0 H0) (hG : ∀ i H, i ≤ n → Pv i H → G H)
    (hs : ∀ i x H H', i < n → Pv i H → Y i H x H' → B (Pv (i + 1)) x H') (hd : ∀ H, Pv n H → Qd H) :
    ∃ W : Nat → Nat → Hp → Prop, (∃ m, W 0 m H0) ∧ ∀ i m H, W i m H → (J.stop i H ∧ Qd H) ∨ (J.go i H ∧ ∃ Nx : Hp → Prop, (∀ H', Nx H' → ∃ m', m' < m ∧ W (i + 1) m' H') ∧ ∀ x H', J.yld i H x H' → B Nx x H') := by
  refine ⟨fun i m H => m = n - i ∧ i ≤ n ∧ Pv i H, ⟨n, by simp, Nat.zero_le _, h0⟩, ?_⟩
  rintro i m H ⟨rfl, hi, p⟩
  have q := hG i H hi p
  by_cases hlt : i < n
  · refine .inr ⟨w.goes i H hlt q, Pv (i + 1), fun H' p' => ⟨n - (i + 1), by omega, rfl, hlt, p'⟩, fun x H' y => hs i x H H' hlt p (w.yields i H x H' hlt q y)⟩
  · have e : i = n := by omega
    subst e
    exact .inl ⟨w.stops H q, hd H p⟩
end TL2

set_option maxHeartbeats 4000000
namespace T33T
open PySem L2 PyProof.Rows TX TY TU
/-! ### keys_of: the tables fit -/
/-- the names of some tables, each once -/
def addL (l : List Str) (n : Str) : List Str := if n ∈ l then l else n :: l
def addsL (l cs : List Str) : List Str := cs.foldl addL l
theorem add_mem {l : List Str} {n x : Str} : x ∈ addL l n ↔ x ∈ l ∨ x = n := by
  unfold addL
  by_cases h : n ∈ l
  · rw [if_pos h]
    exact ⟨.inl, fun z => z.elim id fun e => e ▸ h⟩
  · rw [if_neg h, List.mem_cons]
    exact Or.comm
theorem add_nd {l : List Str} {n : Str} (h : l.Nodup) : (addL l n).Nodup := by
  unfold addL
  by_cases z : n ∈ l
  · rw [if_pos z]; exact h
  · rw [if_neg z]; exact List.nodup_cons.mpr ⟨z, h⟩
theorem adds_mem {x : Str} : ∀ {cs l : List Str}, x ∈ addsL l cs ↔ x ∈ l ∨ x ∈ cs
  | [], l => ⟨.inl, fun z => z.elim id fun y => nomatch y⟩
  | c :: cs, l => by
    show x ∈ addsL (addL l c) cs ↔ _
    rw [adds_mem, add_mem, List.mem_cons, or_assoc]
theorem adds_nd : ∀ {cs l : List Str}, l.Nodup → (addsL l cs).Nodup
  | [], _, h => h
  | c :: cs, l, h => adds_nd (cs := cs) (l := addL l c) (add_nd h)
theorem adds_snoc (l cs : List Str) (n : Str) : addsL l (cs ++ [n]) = addL (addsL l cs) n := by
  unfold addsL
  rw [List.foldl_append]
  rfl
def unL (css : List (List Str)) : List Str := css.foldl addsL []
theorem un_snoc (css : List (List Str)) (cs : List Str) : unL (css ++ [cs]) = addsL (unL css) cs := by
  unfold unL
  rw [List.foldl_append]
  rfl
theorem un_go {x : Str} : ∀ {css : List (List Str)} {l : List Str}, x ∈ css.foldl addsL l ↔ x ∈ l ∨ ∃ cs ∈ css, x ∈ cs
  | [], l => ⟨.inl, fun z => z.elim id fun ⟨_, y, _⟩ => nomatch y⟩
  | c :: css, l => by
    rw [List.foldl_cons, un_go, adds_mem]
    constructor
    · rintro ((h | h) | ⟨cs, h1, h2⟩)
      · exact .inl h
      · exact .inr ⟨c, List.mem_cons_self, h⟩
      · exact .inr ⟨cs, List.mem_cons_of_mem _ h1, h2⟩
    · rintro (h | ⟨cs, h1, h2⟩)
      · exact .inl (.inl h)
      · rcases List.mem_cons.mp h1 with rfl | h1
        · exact .inl (.inr h2)
        · exact .inr ⟨cs, h1, h2⟩
theorem un_mem {x : Str} {css : List (List Str)} : x ∈ unL css ↔ ∃ cs ∈ css, x ∈ cs := by
  unfold unL
  rw [un_go]
  exact ⟨fun z => z.elim (fun y => nomatch y) id, .inr⟩
theorem un_nd_go : ∀ {css : List (List Str)} {l : List Str}, l.Nodup → (css.foldl addsL l).Nodup
  | [], _, h => h
  | c :: css, l, h => by
    rw [List.foldl_cons]
    exact un_nd_go (adds_nd h)
theorem un_nd (css : List (List Str)) : (unL css).Nodup := un_nd_go List.nodup_nil
theorem sub_lenT : ∀ {l m : List Str}, l.Nodup → (∀ x ∈ l, x ∈ m) → l.length ≤ m.length := by
  intro l
  induction l with
  | nil => intro m _ _; exact Nat.zero_le _
  | cons a l ih =>
    intro m n s
    have ha := s a List.mem_cons_self
    rw [List.nodup_cons] at n
    have := ih (m := m.erase a) n.2 fun x hx => (List.mem_erase_of_ne (show x ≠ a from fun e => n.1 (by rw [← e]; exact hx))).mpr (s x (List.mem_cons_of_mem _ hx))
    rw [List.length_erase_of_mem ha] at this
    have : 0 < m.length := List.length_pos_of_mem ha
    rw [List.length_cons]
    omega
section
variable {P : Program} {w : World} {K : PySem.W.Frag} {mg : Str → Option Value} {base : Heap}
variable {fN fC fP fT fO : Addr} {dN dC dP dT dO : FuncData}
variable {C Cb Cl fl fcol fb fc fa fi fh fp fbe : Addr} {dl dcol db dc da di dh dp dbe : FuncData}
abbrev N_cfit : List Str := ["tables", "tree", "apart", "table", "name"]
theorem sc_cfit : FnScope N_cfit ["tables", "tree"] (defScope s_checkfit) := ⟨rfl, rfl, rfl, by decide +kernel, rfl, by decide +kernel, by decide +kernel⟩
/-- tables that fit, by whose columns all stand -/
structure Fit (f : TM.Fo) (css : List (List Str)) : Prop where
  le : ∀ cs ∈ css, cs.length ≤ 8
  miss : missL f css = none
  apart : apartL f css = none
  cov : ∀ n, n ∈ TM.names f ↔ ∃ cs ∈ css, n ∈ cs
theorem li_same {H : Hp} {a b : Addr} {l : List Str} {Q : VK} (h : H a = some (.lst (l.map V.str))) (k : H b = some (.lst (l.map V.str))) (q : Q (.bl false) H) : rNeSame K (.ref a) (.ref b) H Q :=
  ⟨a, b, _, rfl, rfl, .of h, .of k, List.all_eq_true.mpr fun x hx => by obtain ⟨y, _, rfl⟩ := List.mem_map.mp hx; rfl, q⟩
def sp_cfit (C Cb : Addr) : Sp := fun vs H Q _ => ∃ (L t : Addr) (f : TM.Fo) (ts : List Addr) (css : List (List Str)), vs = [.ref L, .ref t] ∧ H L = some (.lst (ts.map V.ref)) ∧ TabsAt Cb H ts css ∧ TreeAt C H t f ∧ FoOk f ∧ Fit f css ∧ ∀ H', Same H H' → Q .non H'
theorem ok_cfit {f ff : Addr} {fd df : FuncData} (F : Fn K mg "_check_fit" s_checkfit ["tables", "tree"] f fd) (FF : Fn K mg "fits" s_fits ["tree", "tables"] ff df) (T : Kd K mg fN fC fP fT fO dN dC dP dT dO) (c : Tc K mg C) (cb : Bc K mg Cb) (Z : Fd K mg C Cb Cl fl fcol fb fc fa fi fh fp dl dcol db dc da di dh dp) :
    FnOk P w K mg base CX0 8 f fd ["tables", "tree"] (sp_cfit C Cb) := by
  have B := T.B
  have GB : FnOk P w K mg base CX0 1 fb db ["self"] (sp_bcolumns Cb) := ok_bcolumns Z.MB.F B cb
  have GC : FnOk P w K mg base CX0 1 fcol dcol ["self"] (sp_tcolumns C) := ok_tcolumns Z.MC.F B c
  have GF : FnOk P w K mg base (L2.CX P w) 7 ff df ["tree", "tables"] (sp_fits C Cb Cl) := ok_fits FF T c cb Z
  refine F.F.ok sc_cfit (fun vs H Q E h => ?_) (fun cdv A outer s H vs Q E hr h => ?_)
  · obtain ⟨L, t, g, ts, css, rfl, _⟩ := h
    rfl
  · obtain ⟨L, t, g, ts, css, rfl, hL, hT, tr, ok, fit, q⟩ := h
    have nd := sc_cfit.nd
    have hu0 := hr.units0
    have r1 : Room 1 _ := hr.mono (by decide)
    refine ⟨_, pss_cons (ps_if (pt_cmpR (op_neSame hu0) (pe_callB (TST.cr_sortT rfl) (by rfl) B.sorted boot_sorted (pa_cons (TST.pe_scT2 (own := [("table", 3), ("name", 4)]) (vs1 := [4]) (g := gName 3) (tt := tYes) (wi1 := iList K (tMeth Cb "columns" (sp_bcolumns Cb) [] E0 (tVar 3) tNil)) (g1 := gName 4) (tt1 := tYes) (te := tVar 4) rfl nd (pi_list (pv 0)) (blkOk_by (N := N_cfit) (sc := defScope s_checkfit) (by decide +kernel)) (by decide)
          (fun _ _ _ _ _ => pg_name (i := 3) nd rfl (Or.inl rfl)) (fun _ _ _ _ _ => pts_nil) (fun _ _ _ _ _ => pi_list (pe_meth0 (pv 3) cb.cl Z.MB.me GB r1 Z.MB.b .nil pass0)) (fun _ _ _ _ _ => pg_name (i := 4) nd rfl (Or.inl rfl)) (fun _ _ _ _ _ => pts_nil) (fun _ _ _ _ _ => pv 4)) pa_nil))
        (pe_callB cr_sortedS (by rfl) B.sorted boot_sorted (pa_cons (pe_meth0 (pv 1) c.cl Z.MC.me GC r1 Z.MC.b .nil pass0) pa_nil)) (nomark _)) (pss_one ps_never) pss_nil)
      (pss_cons (ps_set (i := 2) nd rfl (Or.inl rfl) (pe_call GF hr rfl FF.g FF.F.kp FF.b .nil passL (pa_cons (pv 1) (pa_cons (pv 0) pa_nil))))
      (pss_one (ps_if (pt_cmp (pc_notN (pv 2))) (pss_one ps_never) pss_nil))), ?_⟩
    obtain ⟨dx, l0, d0, h1, h2, h3⟩ := id tr
    have lts : ts.length = css.length := Paired.length hT
    have n8 : (TM.names g).length ≤ 8 := ok.le
    have sb : (64 : Nat) ≤ scanBound := by decide
    have sub : ∀ l : List Str, l.Nodup → (∀ x ∈ l, ∃ cs ∈ css, x ∈ cs) → l.length ≤ 8 := fun l n s => Nat.le_trans (sub_lenT n fun x hx => (fit.cov x).mpr (s x hx)) n8
    refine ⟨_, rfl, L, rfl, ⟨_, .of hL⟩, fun D nD => ?_⟩
    refine TL2.walk_any (walk_list (xs := ts.map V.ref)) (fun i h => h D = some (TST.SetTO P w D (unL (css.take i))) ∧ Same H h) ⟨upd_same, Same.new nD⟩ (fun i h _ ⟨_, s⟩ => .of (s _ _ hL)) ?_ ?_
    · rintro i x h h' hi ⟨eD, s1⟩ ⟨rfl, hx⟩
      rw [List.length_map] at hi
      obtain ⟨b, hb, rfl⟩ : ∃ b, ts[i]? = some b ∧ x = V.ref b := by
        rw [List.getElem?_map, List.getElem?_eq_getElem hi] at hx
        exact ⟨_, List.getElem?_eq_getElem hi, (Option.some.inj hx).symm⟩
      obtain ⟨cs, hcs, tb⟩ := hT.get hb
      have tb' := tb.same s1
      obtain ⟨dy, l', r', g1, g2⟩ := id tb'
      refine ⟨rfl, ?_⟩
      dsimp only [tYes]
      rw [if_pos rfl]
      refine ⟨_, rfl, b, dy, _, rfl, g1, bflds_no _ _ (by decide +kernel) (by decide +kernel), _, _, rfl, tb', fun h3 Lc s3 _ eLc => ?_⟩
      have eD3 := s3 _ _ eD
      have LD : Lc ≠ D := ne_of eLc eD3 (by intro z; cases z)
      have un1 : unL (css.take (i + 1)) = addsL (unL (css.take i)) cs := by
        rw [List.take_add_one, hcs]
        exact un_snoc _ _
      refine ⟨Lc, rfl, ⟨_, .of eLc⟩, ?_⟩
      refine TL2.walk_any (walk_list (xs := cs.map V.str)) (fun j g => g D = some (TST.SetTO P w D (addsL (unL (css.take i)) (cs.take j))) ∧ g Lc = some (.lst (cs.map V.str)) ∧ Same H g) ⟨eD3, eLc, s1.trans s3⟩ (fun j g _ ⟨_, e, _⟩ => .of e) ?_ ?_
      · rintro j y g g' hj ⟨eD4, eL4, s4⟩ ⟨rfl, hy⟩
        rw [List.length_map] at hj
        obtain ⟨n, hn, rfl⟩ : ∃ n, cs[j]? = some n ∧ y = V.str n := by
          rw [List.getElem?_map, List.getElem?_eq_getElem hj] at hy
          exact ⟨_, List.getElem?_eq_getElem hj, (Option.some.inj hy).symm⟩
        have le8 := sub (addsL (unL (css.take i)) (cs.take j)) (adds_nd (un_nd _)) fun x hx => (adds_mem.mp hx).elim (fun z => by
          obtain ⟨c2, k1, k2⟩ := un_mem.mp z
          exact ⟨c2, List.mem_of_mem_take k1, k2⟩) fun z => ⟨cs, List.mem_of_getElem? hcs, List.mem_of_mem_take z⟩
        refine ⟨rfl, ?_⟩
        dsimp only [tYes]
        rw [if_pos rfl]
        refine ⟨_, rfl, n, _, rfl, eD4, by omega, fun m m1 m2 => ?_⟩
        have em : m = addsL (unL (css.take i)) (cs.take (j + 1)) := by
          rw [List.take_add_one, hn]
          show m = addsL _ (_ ++ [n])
          rw [adds_snoc]
          unfold addL
          by_cases z : n ∈ addsL (unL (css.take i)) (cs.take j)
          · rw [if_pos z, m1 z]
          · rw [if_neg z, m2 z]
        rw [em]
        exact ⟨upd_same, by rw [upd_ne LD]; exact eL4, Same.mut s4 nD⟩
      · rintro g ⟨eD4, _, s4⟩
        rw [List.length_map, List.take_length, ← un1] at eD4
        exact ⟨eD4, s4⟩
    rintro H1 ⟨eD, s1⟩
    rw [List.length_map, lts, List.take_length] at eD
    have ln := sub (unL css) (un_nd _) fun x hx => un_mem.mp hx
    refine ⟨D, _, rfl, eD, by omega, fun ns p pm so np => ?_⟩
    have sp : Same H1 (upd H1 p (.lst (ns.map V.str))) := Same.new np
    have ep : upd H1 p (.lst (ns.map V.str)) p = some (.lst (ns.map V.str)) := upd_same
    generalize upd H1 p (.lst (ns.map V.str)) = H2 at sp ep ⊢
    have s2 := s1.trans sp
    refine ⟨_, rfl, t, dx, _, rfl, s2 _ _ h1, tflds_no _ _ (by decide +kernel) (by decide +kernel), _, _, rfl, tr.same s2, fun H3 Lc s3 nLc eLc => ?_⟩
    refine ⟨Lc, _, rfl, .of eLc, by omega, fun ys p2 pm2 so2 np2 => ?_⟩
    have sp2 : Same H3 (upd H3 p2 (.lst (ys.map V.str))) := Same.new np2
    have ep2 : upd H3 p2 (.lst (ys.map V.str)) p2 = some (.lst (ys.map V.str)) := upd_same
    generalize upd H3 p2 (.lst (ys.map V.str)) = H4 at sp2 ep2 ⊢
    have pn : (unL css).Perm (TM.names g) := (List.perm_ext_iff_of_nodup (un_nd _) ok.nd).mpr fun x => un_mem.trans (fit.cov x).symm
    obtain rfl : ns = ys := sorted_same (pm.trans (pn.trans pm2.symm)) so so2
    refine li_same (sp2 _ _ (s3 _ _ ep)) ep2 ?_
    have s4 := s2.trans (s3.trans sp2)
    refine ⟨_, rfl, ?_⟩
    show (if false = true then _ else _)
    rw [if_neg Bool.false_ne_true]
    refine ⟨_, rfl, _, rfl, t, L, g, ts, css, rfl, tr.same s4, ok, s4 _ _ hL, hT.same s4, fit.le, (fun x hx => by rw [fit.miss] at hx; cases hx), fun _ H5 v s5 hv => ?_⟩
    rw [fit.apart] at hv
    obtain rfl : v = .non := hv
    exact ⟨_, rfl, _, rfl, q H5 (s4.trans s5)⟩
abbrev P_kof : List Str := ["tables", "tree", "column"]
theorem sc_kof : FnScope P_kof P_kof (defScope s_keysof) := ⟨rfl, rfl, rfl, by decide +kernel, rfl, by decide +kernel, by decide +kernel⟩
def sp_kof (C Cb : Addr) : Sp := fun vs H Q _ => ∃ (L t : Addr) (x : Str) (f : TM.Fo) (a : List Str) (k : TM.Fo) (ts : List Addr) (css : List (List Str)), vs = [.ref L, .ref t, .str x] ∧ H L = some (.lst (ts.map V.ref)) ∧ TabsAt Cb H ts css ∧ css.length ≤ 8 ∧ TreeAt C H t f ∧ FoOk f ∧ Fit f css ∧ TM.loc f x = some (a, k) ∧
  ∀ H' p, Same H H' → H p = none → H' p = some (.lst ((a.filter fun n => decide (n ∈ nearL (x :: TM.names k) css)).map V.str)) → Q (.ref p) H'
theorem ok_kof {f fx fg ff : Addr} {fd dx dg df : FuncData} (F : Fn K mg "keys_of" s_keysof P_kof f fd) (FX : Fn K mg "_check_fit" s_checkfit ["tables", "tree"] fx dx) (FG : Fn K mg "keys_along" s_along P_along fg dg) (FF : Fn K mg "fits" s_fits ["tree", "tables"] ff df) (T : Kd K mg fN fC fP fT fO dN dC dP dT dO) (c : Tc K mg C) (cb : Bc K mg Cb)
    (Z : Fd K mg C Cb Cl fl fcol fb fc fa fi fh fp dl dcol db dc da di dh dp) (MBe : Mt K C "beneath" "Tree.beneath" s_tbeneath ["self", "column"] fbe dbe) : FnOk P w K mg base CX0 9 f fd P_kof (sp_kof C Cb) := by
  have GX : FnOk P w K mg base CX0 8 fx dx ["tables", "tree"] (sp_cfit C Cb) := ok_cfit FX FF T c cb Z
  have GG : FnOk P w K mg base CX0 6 fg dg P_along (sp_along C Cb) := ok_along FG T c cb Z MBe
  have GK : FnOk P w K mg base CX0 3 fc dc ["self", "column"] (sp_tcheck C) := ok_tcheck Z.MK.F T c
  refine F.F.ok sc_kof (fun vs H Q E h => ?_) (fun cdv A outer s H vs Q E hr h => ?_)
  · obtain ⟨L, t, x, g, a, k, ts, css, rfl, _⟩ := h
    rfl
  · obtain ⟨L, t, x, g, a, k, ts, css, rfl, hL, hT, c8, tr, ok, fit, hloc, q⟩ := h
    have nd := sc_kof.nd
    have r3 : Room 3 _ := hr.mono (by decide)
    have r6 : Room 6 _ := hr.mono (by decide)
    refine ⟨_, pss_cons (ps_expr (pe_call GX hr rfl FX.g FX.F.kp FX.b .nil pass0 (pa_cons (pv 0) (pa_cons (pv 1) pa_nil))))
      (pss_cons (ps_expr (pe_meth (pv 1) c.cl Z.MK.me GK r3 Z.MK.b .nil pass0 (pa_cons (pv 2) pa_nil)))
      (pss_one (ps_ret (pe_call GG r6 rfl FG.g FG.F.kp FG.b .nil pass0 (pa_cons (pv 0) (pa_cons (pv 1) (pa_cons (pv 2) pa_nil))))))), ?_⟩
    obtain ⟨dx', l0, d0, h1, h2, h3⟩ := id tr
    refine ⟨_, rfl, _, rfl, L, t, g, ts, css, rfl, hL, hT, tr, ok, fit, fun H1 s1 => ?_⟩
    refine ⟨_, rfl, t, dx', _, rfl, s1 _ _ h1, tflds_no _ _ (by decide +kernel) (by decide +kernel), _, rfl, t, g, x, rfl, tr.same s1, ok, ?_, fun H2 s2 => ?_⟩
    · exact (TM.loc_sub hloc).subset (List.mem_append_right _ (by simp))
    have s12 := s1.trans s2
    refine ⟨_, rfl, _, rfl, _, rfl, L, t, x, g, a, k, ts, css, rfl, s12 _ _ hL, hT.same s12, fit.le, c8, tr.same s12, ok, hloc, fun H3 p s3 np ep => ?_⟩
    exact q H3 p (s12.trans s3) (s12.free np) ep
end
end T33T

set_option maxHeartbeats 8000000
namespace T33
open PySem L2 PyProof.Rows TX TY TW TD TB TG TUD TE TK TNN
/-! ### the law -/
theorem way_apart {f : TM.Fo} : ∀ {cs : List Str}, cs.Nodup → (∀ x ∈ cs, ∀ y ∈ cs, Way f x y) → T33T.apart f cs = none
  | [], _, _ => rfl
  | x :: r, n, h => by
    rw [List.nodup_cons] at n
    have e : r.find? (T33T.aptF f x) = none := by
      rw [List.find?_eq_none]
      intro y hy z
      unfold T33T.aptF at z
      rw [Bool.and_eq_true, Bool.not_eq_true', Bool.not_eq_true'] at z
      rcases h x List.mem_cons_self y (List.mem_cons_of_mem _ hy) with e | e | e
      · exact n.1 (e ▸ hy)
      · rw [z.1] at e; cases e
      · rw [z.2] at e; cases e
    show (match r.find? (T33T.aptF f x) with | some y => some (x, y) | none => T33T.apart f r) = none
    rw [e]
    exact way_apart n.2 fun a ha b hb => h a (List.mem_cons_of_mem _ ha) b (List.mem_cons_of_mem _ hb)
theorem fit_of {f : TM.Fo} {xs : List Int} {tabs : List LTab} (n8 : (TM.names f).length ≤ 8) (ok : ∀ t ∈ tabs, TOk f xs t) (cov : ∀ n ∈ TM.names f, ∃ t ∈ tabs, n ∈ t.1) : T33T.Fit f (tabs.map Prod.fst) := by
  refine ⟨fun cs hcs => ?_, ?_, ?_, fun n => ⟨fun hn => ?_, fun ⟨cs, h1, h2⟩ => ?_⟩⟩
  · obtain ⟨t, ht, rfl⟩ := List.mem_map.mp hcs
    have := sub_len (ok t ht).nd (ok t ht).sub
    omega
  · unfold T33T.missL
    rw [List.findSome?_eq_none_iff]
    intro cs hcs
    obtain ⟨t, ht, rfl⟩ := List.mem_map.mp hcs
    unfold T33T.miss
    rw [List.find?_eq_none]
    intro y hy z
    rw [decide_eq_true ((ok t ht).sub y hy)] at z
    cases z
  · unfold T33T.apartL
    rw [List.findSome?_eq_none_iff]
    intro cs hcs
    obtain ⟨t, ht, rfl⟩ := List.mem_map.mp hcs
    exact way_apart (ok t ht).nd (ok t ht).way
  · obtain ⟨t, ht, h⟩ := cov n hn
    exact ⟨t.1, List.mem_map.mpr ⟨t, ht, rfl⟩, h⟩
  · obtain ⟨t, ht, rfl⟩ := List.mem_map.mp h1
    exact (ok t ht).sub n h2
theorem pr_mapR {α β γ : Type} {R : α → γ → Prop} {g : β → γ} {as : List α} {bs : List β} (h : Paired (fun a b => R a (g b)) as bs) : Paired R as (bs.map g) := by
  induction h with
  | nil => exact .nil
  | cons a _ ih => exact .cons a ih
/-- lists of lists of names -/
def LsAt (H : Hp) (a : Addr) (cs : List Str) : Prop := H a = some (.lst (cs.map V.str))
/-- the same, but for one list -/
def LsN (D : Addr) (H : Hp) (a : Addr) (cs : List Str) : Prop := H a = some (.lst (cs.map V.str)) ∧ a ≠ D
theorem LsN.put {D : Addr} {H : Hp} {as : List Addr} {css : List (List Str)} {o : HO} (h : Paired (LsN D H) as css) : Paired (LsN D (upd H D o)) as css := Paired.mapP h fun a c e => ⟨by rw [upd_ne e.2]; exact e.1, e.2⟩
theorem LsN.same {D : Addr} {H H' : Hp} {as : List Addr} {css : List (List Str)} (h : Paired (LsN D H) as css) (s : Same H H') : Paired (LsN D H') as css := Paired.mapP h fun a c e => ⟨s _ _ e.1, e.2⟩
theorem LsN.ls {D : Addr} {H : Hp} {as : List Addr} {css : List (List Str)} (h : Paired (LsN D H) as css) : Paired (LsAt H) as css := Paired.mapP h fun a c e => e.1
theorem dp_names {K : PySem.W.Frag} {H : Hp} : ∀ (cs : List Str), DpAll K H (cs.map V.str) (cs.map PyData.str)
  | [] => .nil
  | c :: cs => .cons (.str c) (dp_names cs)
theorem dp_lists {K : PySem.W.Frag} {H : Hp} {as : List Addr} {css : List (List Str)} (h : Paired (LsAt H) as css) : DpAll K H (as.map V.ref) (css.map fun cs => .list (cs.map PyData.str)) := by
  induction h with
  | nil => exact .nil
  | cons a _ ih => exact .cons (.lst (.of a) (dp_names _)) ih
theorem can_names {css : List (List Str)} (h : ∀ cs ∈ css, ∀ x ∈ cs, TM.NameOk x) : PyData.canLay0 (.list (css.map fun cs => .list (cs.map PyData.str))) = true := by
  refine canL fun d hd => ?_
  obtain ⟨cs, hcs, rfl⟩ := List.mem_map.mp hd
  refine canL fun e he => ?_
  obtain ⟨x, hx, rfl⟩ := List.mem_map.mp he
  exact strOk_name (h cs hcs x hx)
theorem dep_names (css : List (List Str)) : PyData.depth (.list (css.map fun cs => .list (cs.map PyData.str))) ≤ 2 := by
  refine depL fun d hd => ?_
  obtain ⟨cs, hcs, rfl⟩ := List.mem_map.mp hd
  refine depL fun e he => ?_
  obtain ⟨x, hx, rfl⟩ := List.mem_map.mp he
  exact Nat.le_refl 0
theorem rd_lists {K : PySem.W.Frag} {H : Hp} {a b : Addr} {as bs : List Addr} {css : List (List Str)} {Q : VK} (h : ∀ cs ∈ css, ∀ x ∈ cs, TM.NameOk x) (ha : H a = some (.lst (as.map V.ref))) (hb : H b = some (.lst (bs.map V.ref))) (pa : Paired (LsAt H) as css) (pb : Paired (LsAt H) bs css) (q : Q (.bl false) H) : rNeD K (.ref a) (.ref b) H Q := by
  have sh : SeqAt.shaped (.list (css.map fun cs => .list (cs.map PyData.str))) = true := shaped_of (can_names h) (Nat.le_trans (dep_names css) (by decide))
  refine ⟨_, _, .lst (.of ha) (dp_lists pa), .lst (.of hb) (dp_lists pb), sh, sh, ?_⟩
  rw [eqv_same (can_names h) rfl]
  exact q
theorem li_same {K : PySem.W.Frag} {H : Hp} {a b : Addr} {l : List Str} {Q : VK} (h : H a = some (.lst (l.map V.str))) (k : H b = some (.lst (l.map V.str))) (q : Q (.bl false) H) : rNeSame K (.ref a) (.ref b) H Q :=
  ⟨a, b, _, rfl, rfl, .of h, .of k, List.all_eq_true.mpr fun x hx => by obtain ⟨y, _, rfl⟩ := List.mem_map.mp hx; rfl, q⟩
section
variable {P : Program} {w : World} {K : PySem.W.Frag} {mg : Str → Option Value} {base : Heap}
variable {fW fN fA fR fK fS : Addr} {dW dN dA dR dK dS : FuncData}
variable {C fI : Addr} {dI : FuncData}
variable {kN kC kP kT kO : Addr} {xN xC xP xT xO : FuncData}
variable {Ct tI te Cl fl fcol fb fc fa fi fh fp fbe : Addr} {yI ye dl dcol db dc da di dh dp dbe : FuncData}
/-- trees made and compared -/
structure Tt (K : PySem.W.Frag) (mg : Str → Option Value) (Ct tI te : Addr) (yI ye : FuncData) : Prop where
  c : Tc K mg Ct
  iF : Fun K "__init__" "Tree.__init__" T33T.s_tinit tI yI
  iM : Mk K Ct tI
  iB : Binds K yI ["self", "pairs"] []
  eq : Mt K Ct "__eq__" "Tree.__eq__" T33T.s_teq ["self", "other"] te ye
  ne : PySem.W.findIn K (.ref Ct) "__ne__" = some (some (.builtin "object.__ne__"))
  hm : PySem.W.mroIn K Ct (.type "object") = some true
  ns : PySem.W.notFirst K Ct (.ref Ct) = true
theorem rd_tmk {H : Hp} {Lp : Addr} {ps : List TM.Pr} {R : Addr → Hp → Prop} {E : XK} (hP : PairsAt H Lp ps) (va : TM.Valid [] ps) (l8 : ps.length ≤ 8) (ok : ∀ x ∈ ps.map Prod.fst, TM.NameOk x)
    (q : ∀ H' x, Same H H' → TreeAt Ct H' x (TM.mk ps none) → R x H') : ∀ x dx, H x = none → H dx = none → dx ≠ x → T33T.sp_tinit Ct [.ref x, .ref Lp] (upd (upd H dx (.own x)) x (.ins Ct dx [])) (fun v H2 => v = .non ∧ R x H2) E := by
  intro x dx nx ndx hne
  have sx : Same H (upd (upd H dx (.own x)) x (.ins Ct dx [])) := fun c o e => by rw [upd_ne (ne_of_none e nx), upd_ne (ne_of_none e ndx)]; exact e
  exact ⟨x, Lp, dx, ps, rfl, upd_same, hP.same sx, va, l8, ok, fun H' tx keep => ⟨rfl, q H' x (fun c o e => keep c o (ne_of_none e nx) (sx _ _ e)) tx⟩⟩
theorem tr_same {H : Hp} {a b : Addr} {fo : TM.Fo} {neg : Bool} {Q : VK} (ct : Tc K mg Ct) (ns : PySem.W.notFirst K Ct (.ref Ct) = true) (h : TreeAt Ct H a fo) (k : TreeAt Ct H b fo) (ok : FoOk fo)
    (q : ∀ H', Same H H' → Q (.bl (if neg = true then false else true)) H') : rOwnEq K Ct (spEq (T33T.SameTree Ct)) E0 neg (.ref a) (.ref b) H Q := by
  obtain ⟨dx, l, d, h1, _, _⟩ := id h
  obtain ⟨dx', l', d', h1', _, _⟩ := id k
  refine ⟨a, dx, _, .ref Ct, rfl, h1, .base (.ins h1' ct.cl ct.ins.ha ct.ins.hn ct.ins.htk ct.ins.hm), ns, a, b, rfl, ⟨fo, h, k, ok⟩, fun H' s => ⟨_, rfl, ?_⟩⟩
  have := q H' (fun c o e => s c o e)
  cases neg <;> exact this
abbrev N_law : List Str := ["_law_script", "_law_cell", "_law_well_here", "_law_many", "_law_pairs_here", "_law_tables_here", "_law_order", "_law_tree", "_law_handed", "_law_rows_here", "_law_column", "_law_due_here", "_law_turn", "_law_told", "_law_named", "_law_table", "_law_names_here", "_law_some"]
theorem sc_law : FnScope N_law ["_law_script"] (defScope s_law) := ⟨rfl, rfl, rfl, by decide +kernel, rfl, by decide +kernel, by decide +kernel⟩
def sp_law (K : PySem.W.Frag) : Sp := fun vs H Q _ => ∃ (a : Addr) (ns : List Int), vs = [.ref a] ∧ SqL K H a (ns.map V.int) ∧ ns.length ≤ 63 ∧ ∀ H', Q (.bl true) H'
/-- the law's own defs -/
structure Ld (K : PySem.W.Frag) (mg : Str → Option Value) (gC gW gD gO gN gP gA gB gV gR gM gT gPl gMd gDu gE : Addr) (eC eW eD eO eN eP eA eB eV eR eM eT ePl eMd eDu eE : FuncData) : Prop where
  cell : Fn K mg "_law_cell_at" s_cell ["_law_script", "_law_k"] gC eC
  well : Fn K mg "_law_well" s_well ["_law_cell"] gW eW
  draw : Fn K mg "_law_draw" s_draw P_draw gD eD
  one : Fn K mg "_law_one" s_one P_one gO eO
  names : Fn K mg "_law_names" s_names P_names gN eN
  pairs : Fn K mg "_law_pairs" s_pairs P_pairs gP eP
  above : Fn K mg "_law_above" s_labove ["_law_pairs_here", "_law_column"] gA eA
  ben : Fn K mg "_law_beneath" s_lbeneath P_ben gB eB
  vals : Fn K mg "_law_values" s_values ["_law_well_here"] gV eV
  rows : Fn K mg "_law_rows" s_rows P_rows gR eR
  mix : Fn K mg "_law_mixed_up" s_mixed P_one gM eM
  tabs : Fn K mg "_law_tables" s_tables P_tables gT eT
  plain : Fn K mg "_law_plain" s_plain P_plain gPl ePl
  made : Fn K mg "_law_made" s_made ["_law_tables_here"] gMd eMd
  due : Fn K mg "_law_due" s_due P_due gDu eDu
  exch : Fn K mg "_law_exchanged" s_exch P_exch gE eE
  max : mg "max" = none
  zip : mg "zip" = none
variable {gC gW gD gO gN gP gA gB gV gR gM gT gPl gMd gDu gE : Addr} {eC eW eD eO eN eP eA eB eV eR eM eT ePl eMd eDu eE : FuncData}
theorem ok_law {f fx fg ff fk : Addr} {fd dx dg df dk : FuncData} (F : Fn K mg "law" s_law ["_law_script"] f fd) (L : Ld K mg gC gW gD gO gN gP gA gB gV gR gM gT gPl gMd gDu gE eC eW eD eO eN eP eA eB eV eR eM eT ePl eMd eDu eE) (T : Kt K mg fW fN fA fR fK fS dW dN dA dR dK dS) (c : Bc K mg C) (I : Im K mg C fI dI)
    (T' : T33T.Kd K mg kN kC kP kT kO xN xC xP xT xO) (Dt : Tt K mg Ct tI te yI ye) (cb : T33T.Bc K mg C) (Z : T33T.Fd K mg Ct C Cl fl fcol fb fc fa fi fh fp dl dcol db dc da di dh dp) (MBe : Mt K Ct "beneath" "Tree.beneath" T33T.s_tbeneath ["self", "column"] fbe dbe)
    (FK : Fn K mg "keys_of" T33T.s_keysof T33T.P_kof fk dk) (FX : Fn K mg "_check_fit" T33T.s_checkfit ["tables", "tree"] fx dx) (FG : Fn K mg "keys_along" T33T.s_along T33T.P_along fg dg) (FF : Fn K mg "fits" T33T.s_fits ["tree", "tables"] ff df) : FnOk P w K mg base CX0 12 f fd ["_law_script"] (sp_law K) := by
  have B := T.B
  have ct := Dt.c
  have GC : FnOk P w K mg base CX0 1 gC eC ["_law_script", "_law_k"] (sp_cell K) := ok_cell L.cell B
  have GW : FnOk P w K mg base CX0 1 gW eW ["_law_cell"] sp_well := ok_well L.well B
  have GO : FnOk P w K mg base CX0 2 gO eO P_one sp_one := ok_one L.one B L.draw
  have GP : FnOk P w K mg base CX0 4 gP eP P_pairs sp_pairs := ok_pairs L.pairs B L.max L.draw L.one L.names
  have GT : FnOk P w K mg base CX0 4 gT eT P_tables sp_tables := ok_tables L.tabs B L.draw L.one L.vals L.rows L.mix L.above
  have GB : FnOk P w K mg base CX0 9 gB eB P_ben (sp_ben 9) := ok_ben L.ben B 9
  have TI : FnOk P w K mg base CX0 10 tI yI ["self", "pairs"] (T33T.sp_tinit Ct) := T33T.ok_tinit Dt.iF T' ct
  have TE : FnOk P w K mg base CX0 1 te ye ["self", "other"] (spEq (T33T.SameTree Ct)) := T33T.ok_teq Dt.eq.F T'.B ct
  have GM : FnOk P w K mg base CX0 6 gMd eMd ["_law_tables_here"] (sp_lmade C) := ok_lmade L.made T c I
  have GL : FnOk P w K mg base CX0 1 gPl ePl P_plain sp_plain := ok_plain L.plain B T.set L.zip
  have GD : FnOk P w K mg base CX0 11 gDu eDu P_due sp_due := ok_due L.due B L.above L.ben
  have GE : FnOk P w K mg base CX0 10 gE eE P_exch sp_exch := ok_exch L.exch B L.zip L.ben
  have GK : FnOk P w K mg base CX0 9 fk dk T33T.P_kof (T33T.sp_kof Ct C) := T33T.ok_kof FK FX FG FF T' ct cb Z MBe
  have GBc : FnOk P w K mg base CX0 1 fb db ["self"] (T33T.sp_bcolumns C) := T33T.ok_bcolumns Z.MB.F B cb
  refine F.F.ok sc_law (fun vs H Q E h => ?_) (fun cdv A outer s H vs Q E hr h => ?_)
  · obtain ⟨a, ns, rfl, _⟩ := h
    rfl
  · obtain ⟨a, ns, rfl, hS, hl, q⟩ := h
    have nd := sc_law.nd
    have hu64 := hr.units
    have hu0 := hr.units0
    have r1 : Room 1 _ := hr.mono (by decide)
    have r2 : Room 2 _ := hr.mono (by decide)
    have r4 : Room 4 _ := hr.mono (by decide)
    have r6 : Room 6 _ := hr.mono (by decide)
    have r9 : Room 9 _ := hr.mono (by decide)
    have r10 : Room 10 _ := hr.mono (by decide)
    refine ⟨_, pss_cons (ps_for PassesOwn.never rfl (pi_list (pe_op op_cat (pe_lst (pa_cons (pe_call GC r1 rfl L.cell.g L.cell.F.kp L.cell.b .nil pass0 (pa_cons (pv 0) (pa_cons pe_int pa_nil))) pa_nil)) (pe_slice sl_list (pv 0) (po_some pe_int) (po_some pe_int)))) (pg_name (i := 1) nd rfl (Or.inl rfl))
        (pss_cons (ps_set (i := 2) nd rfl (Or.inl rfl) (pe_call GW r1 rfl L.well.g L.well.F.kp L.well.b .nil pass0 (pa_cons (pv 1) pa_nil)))
        (pss_cons (ps_set (i := 3) nd rfl (Or.inl rfl) (pe_call GO r2 rfl L.one.g L.one.F.kp L.one.b .nil pass0 (pa_cons (pv 2) (pa_cons (pe_lst (pa_cons pe_int (pa_cons pe_int (pa_cons pe_int (pa_cons pe_int (pa_cons pe_int (pa_cons pe_int (pa_cons pe_int (pa_cons pe_int pa_nil))))))))) pa_nil))))
        (pss_cons (ps_set (i := 4) nd rfl (Or.inl rfl) (pe_call GP r4 rfl L.pairs.g L.pairs.F.kp L.pairs.b .nil pass0 (pa_cons (pv 2) (pa_cons (pv 3) pa_nil))))
        (pss_cons (ps_set (i := 5) nd rfl (Or.inl rfl) (pe_call GT r4 rfl L.tabs.g L.tabs.F.kp L.tabs.b .nil pass0 (pa_cons (pv 2) (pa_cons (pv 4) pa_nil))))
        (pss_cons (ps_set (i := 6) nd rfl (Or.inl rfl) (pe_call GB r9 rfl L.ben.g L.ben.F.kp L.ben.b .nil pass0 (pa_cons (pv 4) (pa_cons pe_non pa_nil))))
        (pss_cons (ps_set (i := 7) nd rfl (Or.inl rfl) (pe_make Dt.iM TI hr rfl ct.g Dt.iB .nil pass0 (pa_cons (pv 4) pa_nil)))
        (pss_cons (ps_set (i := 8) nd rfl (Or.inl rfl) (pe_call GM r6 rfl L.made.g L.made.F.kp L.made.b .nil pass0 (pa_cons (pv 5) pa_nil)))
        (pss_cons (ps_set (i := 9) nd rfl (Or.inl rfl) (pe_call GL r1 rfl L.plain.g L.plain.F.kp L.plain.b .nil pass0 (pa_cons (pv 5) (pa_cons (pv 6) pa_nil))))
        (pss_cons (ps_for PassesOwn.never rfl (pi_list (pv 6)) (pg_name (i := 10) nd rfl (Or.inl rfl))
          (pss_cons (ps_set (i := 11) nd rfl (Or.inl rfl) (pe_call GD hr rfl L.due.g L.due.F.kp L.due.b .nil pass0 (pa_cons (pv 4) (pa_cons (pv 5) (pa_cons (pv 10) pa_nil)))))
          (pss_cons (ps_for PassesOwn.never rfl (pi_range1 rfl B.range (pa_cons pe_int pa_nil)) (pg_name (i := 12) nd rfl (Or.inl rfl))
            (pss_cons (ps_set (i := 13) nd rfl (Or.inl rfl) (pe_call GK r9 rfl FK.g FK.F.kp FK.b .nil pass0 (pa_cons (pv 8) (pa_cons (pv 7) (pa_cons (pv 10) pa_nil)))))
            (pss_cons (ps_if (PW.pt (pw_or (pt_not (pt_val (pe_callB call_isi (by rfl) B.isi boot_isinstance (pa_cons (pv 13) (pa_cons (pe_bltn (v := .ty "list") (by rfl) B.list boot_list rfl) pa_nil))))) (pw_or1 (pt_cmpR (op_neSame hu0) (pv 13) (pv 11) (nomark _))))) (pss_one (ps_ret pe_bl)) pss_nil)
            (pss_one (ps_expr (pe_bm PySem.F.plainAttrs_list PySem.F.slot_list_append PySem.F.type_list_append mt_append (pv 13) (pa_cons pe_str pa_nil)))))))
          (pss_one (ps_if (pt_not (pt_val (pe_call GE r10 rfl L.exch.g L.exch.F.kp L.exch.b .nil pass0 (pa_cons (pv 4) (pa_cons (pv 6) (pa_cons (pv 9) (pa_cons (pv 10) (pa_cons (pv 11) pa_nil)))))))) (pss_one (ps_ret pe_bl)) pss_nil)))))
        (pss_cons (ps_setLc (i := 14) (own := [("_law_table", 15)]) (g := gName 15) (tt := tYes) (te := tMeth C "columns" (T33T.sp_bcolumns C) [] E0 (tVar 15) tNil) (by rfl) nd rfl rfl (sw_true rfl rfl rfl (by decide +kernel)) (pi_list (pv 8)) (blkOk_by (N := N_law) (sc := defScope s_law) (by decide +kernel))
            (fun _ _ _ _ _ => pg_name (i := 15) nd rfl (Or.inl rfl)) (fun _ _ _ _ _ => pts_nil) (fun _ _ _ _ _ => pe_meth0 (pv 15) cb.cl Z.MB.me GBc r1 Z.MB.b .nil pass0))
        (pss_one (ps_if (PW.pt (pw_or (pt_cmpR (op_neOwn TE Dt.hm Dt.ne Dt.eq.me.at_ Dt.eq.me.fn Dt.eq.b pass0 r2) (pv 7) (pe_make Dt.iM TI hr rfl ct.g Dt.iB .nil pass0 (pa_cons (pv 4) pa_nil)) (nomark _))
          (pw_or1 (pt_cmpR (op_neD hu64) (pv 14) (pe_lc (own := [("_law_names_here", 16), ("_law_some", 17)]) (g := gTup K 2 (gCons (gName 16) (gCons (gName 17) gNil))) (tt := tYes) (te := tVar 16) rfl nd (pi_list (pv 5)) (blkOk_by (N := N_law) (sc := defScope s_law) (by decide +kernel))
            (fun _ _ _ _ _ => pg_tup rfl (pgs_cons (pg_name (i := 16) nd rfl (Or.inl rfl)) (pgs_cons (pg_name (i := 17) nd rfl (Or.inl rfl)) pgs_nil))) (fun _ _ _ _ _ => pts_nil) (fun _ _ _ _ _ => pv 16)) (nomark _))))) (pss_one (ps_ret pe_bl)) pss_nil)))))))))))))
      (pss_one (ps_ret pe_bl)), ?_⟩
    refine ⟨_, rfl, a, ns, 0, rfl, hS, fun c0 => ?_⟩
    refine ⟨by show 1 ≤ sizeLine; decide, fun p1 n1 => ?_⟩
    have hS1 : SqL K (upd H p1 (.lst [.int c0])) a (ns.map V.int) := (Same.new n1).seq hS
    refine ⟨_, rfl, _, rfl, _, rfl, a, _, rfl, hS1, fun p2 n2 => ?_⟩
    obtain ⟨ms, ems, lms⟩ : ∃ ms : List Int, cutV (ns.map V.int) (some 1) (some 6) = ms.map V.int ∧ ms.length ≤ 63 := by
      refine ⟨(ns.drop (min 1 ns.length)).take (min 6 ns.length - min 1 ns.length), ?_, ?_⟩
      · rw [show (some (1 : Int)) = some ((1 : Nat) : Int) from rfl, show (some (6 : Int)) = some ((6 : Nat) : Int) from rfl, cut_nat, List.length_map, List.map_take, List.map_drop]
      · rw [List.length_take, List.length_drop]
        omega
    have e1 : upd (upd H p1 (.lst [.int c0])) p2 (.lst (cutV (ns.map V.int) (some 1) (some 6))) p1 = some (.lst [.int c0]) := by rw [upd_ne (ne_of_none upd_same n2)]; exact upd_same
    refine ⟨p1, p2, _, _, rfl, rfl, e1, upd_same, ?_, fun p3 n3 => ?_⟩
    · rw [ems, List.length_map]
      show 1 + _ ≤ sizeLine
      exact line100 (by omega)
    rw [ems]
    have e3 : ∀ h, upd h p3 (.lst ([V.int c0] ++ ms.map V.int)) p3 = some (.lst ((c0 :: ms).map V.int)) := fun h => upd_same
    refine ⟨p3, rfl, ⟨_, .of (e3 _)⟩, ?_⟩
    refine for_it (walk_list (xs := (c0 :: ms).map V.int)) (fun i σ H' => ∃ v1 v2 v3 v4 v5 v6 v7 v8 v9 v10 v11 v12 v13 v14 : Option V, σ = [some (.ref a), v1, v2, v3, v4, v5, v6, v7, v8, v9, v10, v11, v12, v13, v14, none, none, none] ∧ H' p3 = some (.lst ((c0 :: ms).map V.int)))
      ⟨none, none, none, none, none, none, none, none, none, none, none, none, none, none, rfl, e3 _⟩ (fun i σ H1 _ ⟨_, _, _, _, _, _, _, _, _, _, _, _, _, _, _, e⟩ => .of e) ?_ ?_
    · rintro i x σ H1 H1' hi ⟨v1, v2, v3, v4, v5, v6, v7, v8, v9, v10, v11, v12, v13, v14, rfl, e4⟩ ⟨rfl, hx⟩
      rw [List.length_map] at hi
      obtain ⟨cell, rfl⟩ : ∃ c : Int, x = V.int c := by
        rw [List.getElem?_map, List.getElem?_eq_getElem hi] at hx
        exact ⟨_, (Option.some.inj hx).symm⟩
      refine ⟨_, rfl, cell, rfl, fun H2 W s2 nW wW => ?_⟩
      have pW : p3 ≠ W := ne_of_none e4 nW
      have e5 := s2 _ _ e4
      -- how many columns
      refine ⟨_, rfl, by show 8 ≤ sizeLine; decide, fun M0 nM0 => ?_⟩
      have M0W : M0 ≠ W := (wW.ne nM0).symm
      have e5' : upd H2 M0 (.lst [V.int 3, .int 4, .int 2, .int 5, .int 6, .int 0, .int 4, .int 1]) p3 = _ := Same.new nM0 _ _ e5
      refine ⟨W, M0, _, 999000, rfl, upd_same, M0W, by decide, by decide, (wW.new nM0).mono (by decide), fun H3 r v hv s3 w3 => ?_⟩
      obtain ⟨t, rfl, t6⟩ : ∃ t : Nat, v = .int (t : Int) ∧ t ≤ 6 := by
        have : r < 8 := (List.getElem?_eq_some_iff.mp hv).1
        have : r = 0 ∨ r = 1 ∨ r = 2 ∨ r = 3 ∨ r = 4 ∨ r = 5 ∨ r = 6 ∨ r = 7 := by omega
        rcases this with e | e | e | e | e | e | e | e <;> subst e
        · exact ⟨3, (Option.some.inj hv).symm, by decide⟩
        · exact ⟨4, (Option.some.inj hv).symm, by decide⟩
        · exact ⟨2, (Option.some.inj hv).symm, by decide⟩
        · exact ⟨5, (Option.some.inj hv).symm, by decide⟩
        · exact ⟨6, (Option.some.inj hv).symm, by decide⟩
        · exact ⟨0, (Option.some.inj hv).symm, by decide⟩
        · exact ⟨4, (Option.some.inj hv).symm, by decide⟩
        · exact ⟨1, (Option.some.inj hv).symm, by decide⟩
      have e6 := s3 _ _ pW e5'
      clear hv s2 s3 e5 e5' nM0 M0W wW e4
      -- a tree's columns
      refine ⟨_, rfl, _, rfl, W, t, 900000, rfl, by omega, w3.mono (by omega), fun H4 Pp ps s4 w4 nPp PpW hP lps va okn => ?_⟩
      have e7 := s4 _ _ pW e6
      refine ⟨_, rfl, _, rfl, W, Pp, ps, 800000, rfl, hP, PpW, va, by omega, okn, w4.mono (by omega), fun H5 Mt ts tabs xs s5 w5 nMt MtW eMt hT tok x4 x8 t7 cov => ?_⟩
      have e8 := s5 _ _ pW e7
      have hP5 := hP.sm s5 ⟨_, w4⟩ PpW
      have fo := foOk_mk va (by omega) okn
      have nlen : (TM.names (TM.mk ps none)).length = ps.length := by rw [← List.length_map (f := Prod.fst) (as := ps)]; exact (TM.ord_perm va).length_eq
      have nmem : ∀ x, x ∈ TM.names (TM.mk ps none) ↔ x ∈ ps.map Prod.fst := fun x => (TM.ord_perm va).mem_iff
      clear s4 s5 w3 w4 w5 e6 e7 hP nPp nMt
      refine ⟨_, rfl, Pp, ps, none, rfl, hP5, va, by omega, TM.below_top ps (by omega), fun H6 Or s6 nOr eOr => ?_⟩
      have eOr : H6 Or = some (.lst ((TM.names (TM.mk ps none)).map V.str)) := eOr
      have hP6 := hP5.same s6
      refine ⟨_, rfl, rd_tmk hP6 va (by omega) okn fun H7 tr s7 ht => ?_⟩
      have s67 := s6.trans s7
      refine ⟨_, rfl, Mt, ts, tabs, rfl, s67 _ _ eMt, hT.same s67, (fun t ht => ⟨⟨(tok t ht).nd, ?_, fun x hx => fo.ok x ((tok t ht).sub x hx)⟩, fun r hr => ((tok t ht).rows r hr).1, (tok t ht).few⟩), by omega, fun H8 Hd us s8 nHd eHd hU => ?_⟩
      · have := sub_len (tok t ht).nd (tok t ht).sub
        omega
      have s68 := s67.trans s8
      have s78 := s7.trans s8
      have hP8 := hP5.same s68
      have eMt8 := s68 _ _ eMt
      have hT8 := hT.same s68
      have eOr8 := s78 _ _ eOr
      have ht8 := ht.same s8
      have e9 := s68 _ _ e8
      have hT' : T33T.TabsAt C H8 us (tabs.map Prod.fst) := pr_mapR (Paired.mapP hU fun a b z => z.cols)
      have fit := fit_of fo.le tok cov
      have t8 : ∀ t ∈ tabs, t.1.length ≤ 8 := fun t ht => fit.le _ (List.mem_map.mpr ⟨t, ht, rfl⟩)
      have lcs : (tabs.map Prod.fst).length ≤ 8 := by rw [List.length_map]; omega
      clear s6 s7 s8 s67 s68 s78 hT eMt eOr ht hP5 hP6 e8 nOr
      -- all plain rows
      refine ⟨_, rfl, _, rfl, Mt, Or, ts, tabs, TM.names (TM.mk ps none), xs, rfl, eMt8, hT8, eOr8, (fun t ht => ⟨⟨(tok t ht).nd, (tok t ht).sub, (tok t ht).rows⟩, (tok t ht).few⟩), fo.nd, by omega, x4, by rw [nlen]; exact x8, by omega, cov, fun H9 Rr as s9 nRr eRr hRr => ?_⟩
      have few := plain_few (m := ps.length) (xs := xs) (names := TM.names (TM.mk ps none)) (tabs := tabs) (fun t ht => ⟨(tok t ht).nd, (tok t ht).sub, (tok t ht).rows⟩) tabs.length
      rw [List.take_length] at few
      have n256 := few.few x4 x8 (by omega) nlen
      have pok := plain_ok _ tabs rfl fun t ht => ⟨(tok t ht).nd, fun r hr => ((tok t ht).rows r hr).1⟩
      have ocov : ∀ n, n ∈ TM.names (TM.mk ps none) ↔ n ∈ (plainP tabs).1 := fun n => ⟨fun hn => (pok.col n).mpr (cov n hn), fun hn => by
        obtain ⟨t, ht, h⟩ := (pok.col n).mp hn
        exact (tok t ht).sub n h⟩
      have psat := fun f => plainN_sat (order := TM.names (TM.mk ps none)) pok ocov f
      have plen : (plainN (TM.names (TM.mk ps none)) tabs).length ≤ 256 := by
        unfold plainN
        refine Nat.le_trans (norm_len _) ?_
        rw [List.length_map]
        exact n256
      have pwide : ∀ r ∈ plainN (TM.names (TM.mk ps none)) tabs, r.length = (TM.names (TM.mk ps none)).length := fun r hr => by
        unfold plainN at hr
        obtain ⟨r0, _, rfl⟩ := List.mem_map.mp (mem_norm.mp hr)
        exact List.length_map _
      refine ⟨_, rfl, Or, rfl, ⟨_, .of (s9 _ _ eOr8)⟩, ?_⟩
      refine for_it (walk_list (xs := (TM.names (TM.mk ps none)).map V.str)) (fun j σ h => ∃ v10 v11 v12 v13 : Option V, σ = [some (.ref a), some (.int cell), some (.ref W), some (.int t), some (.ref Pp), some (.ref Mt), some (.ref Or), some (.ref tr), some (.ref Hd), some (.ref Rr), v10, v11, v12, v13, v14, none, none, none] ∧ Same H9 h)
        ⟨_, _, _, _, rfl, same_rfl⟩ (fun j σ h _ ⟨_, _, _, _, _, s⟩ => .of (s _ _ (s9 _ _ eOr8))) ?_ ?_
      · rintro j y σ h h' hj ⟨v10, v11, v12, v13, rfl, sh⟩ ⟨rfl, hy⟩
        rw [List.length_map] at hj
        obtain ⟨n, hn, rfl⟩ : ∃ n, (TM.names (TM.mk ps none))[j]? = some n ∧ y = V.str n := by
          rw [List.getElem?_map, List.getElem?_eq_getElem hj] at hy
          exact ⟨_, List.getElem?_eq_getElem hj, (Option.some.inj hy).symm⟩
        have hnm := List.mem_of_getElem? hn
        obtain ⟨ab, kb, hloc⟩ := TM.loc_names hnm
        have hk : TM.ord ps (some n) = TM.names kb := TM.ord_loc va hloc
        have s89 := s9.trans sh
        refine ⟨_, rfl, _, rfl, _, rfl, Pp, Mt, n, ps, ab, kb, ts, tabs, rfl, hP8.same s89, va, by omega, okn, hloc, s89 _ _ eMt8, hT8.same s89, t8, by omega, fun h2 Du s2 nDu eDu => ?_⟩
        rw [hk] at eDu
        have s82 := s89.trans s2
        have ldue : (dueL (n :: TM.names kb) ab tabs).length ≤ 8 := by
          have z1 := List.length_filter_le (fun m => tabs.any fun t => decide (m ∈ t.1) && T33T.touch (n :: TM.names kb) t.1) ab
          have z2 := (TM.loc_sub hloc).length_le
          have z3 := fo.le
          rw [List.length_append] at z2
          unfold dueL
          omega
        -- told twice
        refine ⟨(2 : Int), rfl, by decide, by decide, ?_⟩
        refine for_it (walk_range (lo := 0) (n := (2 : Int).toNat)) (fun m σ g => ∃ v12 v13 : Option V, σ = [some (.ref a), some (.int cell), some (.ref W), some (.int t), some (.ref Pp), some (.ref Mt), some (.ref Or), some (.ref tr), some (.ref Hd), some (.ref Rr), some (.str n), some (.ref Du), v12, v13, v14, none, none, none] ∧ Same h2 g)
          ⟨_, _, rfl, same_rfl⟩ (fun _ _ _ _ _ => trivial) ?_ ?_
        · rintro m z σ g g' hm ⟨v12, v13, rfl, sg⟩ ⟨rfl, rfl⟩
          have s8g := s82.trans sg
          refine ⟨_, rfl, _, rfl, _, rfl, Hd, tr, n, _, ab, kb, us, tabs.map Prod.fst, rfl, s8g _ _ eHd, hT'.same s8g, lcs, ht8.same s8g, fo, fit, hloc, fun g2 Td s3 nTd eTd => ?_⟩
          rw [due_near] at eTd
          have eDu2 := s3 _ _ (sg _ _ eDu)
          refine ⟨_, rfl, _, _, _, _, true, rfl, .ty _, .base (.lst eTd), kit_ty (by decide +kernel), _, rfl, ?_⟩
          refine ⟨_, rfl, _, rfl, li_same eTd eDu2 ⟨_, rfl, ?_⟩⟩
          show (if false = true then _ else _)
          rw [if_neg Bool.false_ne_true]
          refine ⟨_, rfl, .inl ⟨rfl, _, .inl (.inl eTd)⟩, Td, _, _, rfl, rfl, eTd, by rw [List.length_map]; exact line100' (by omega), ?_⟩
          exact ⟨_, _, rfl, Same.mut (sg.trans s3) (sg.free nTd)⟩
        · rintro σ g ⟨v12, v13, rfl, sg⟩
          have s8g := s82.trans sg
          refine ⟨_, rfl, _, rfl, _, rfl, _, rfl, _, rfl, Pp, Or, Rr, Du, n, ps, TM.names (TM.mk ps none), dueL (n :: TM.names kb) ab tabs, as, plainN (TM.names (TM.mk ps none)) tabs, rfl, hP8.same s8g, va, by omega, (nmem n).mp hnm, s8g _ _ eOr8, (sh.trans (s2.trans sg)) _ _ eRr, hRr.same (sh.trans (s2.trans sg)), sg _ _ eDu, fo.nd, fo.le, by omega, pwide, ?_, ?_, fun h5 s5 => ⟨_, rfl, ?_⟩⟩
          · exact fun m hm => (TM.loc_sub hloc).subset (List.mem_append_left _ (List.mem_filter.mp hm).1)
          · intro gf hf h1 h2 e
            rw [hk]
            exact (psat _).mpr (exchange fo.nd hloc (fun t ht x hx y hy => (tok t ht).way x hx y hy) ((psat gf).mp h1) ((psat hf).mp h2) e)
          · show (if (!true) = true then _ else _)
            rw [if_neg (show ¬ ((!true) = true) from Bool.false_ne_true)]
            exact ⟨_, _, _, _, rfl, ((sh.trans s2).trans sg).trans s5⟩
      · rintro σ h ⟨v10, v11, v12, v13, rfl, sh⟩
        have s8h := s9.trans sh
        have hP9 := hP8.same s8h
        have eHd9 := s8h _ _ eHd
        have hT9 := hT'.same s8h
        have ht9 := ht8.same s8h
        have eMt9 := s8h _ _ eMt8
        have hTs9 := hT8.same s8h
        have e10 := s8h _ _ e9
        clear s9 sh s8h nRr eRr hRr psat pwide plen ocov pok n256 few hP8 hT' ht8 eMt8 hT8 eOr8 e9 eHd
        -- the columns that are told
        dsimp only [gName]
        refine sq_asg ?_
        refine ⟨_, rfl, Hd, rfl, ⟨_, .of eHd9⟩, fun Dn nDn => ?_⟩
        have lus : us.length = (tabs.map Prod.fst).length := Paired.length hT9
        refine lc_it (walk_list (xs := us.map V.ref)) (fun i g => ∃ ls : List Addr, g Dn = some (.lst (ls.map V.ref)) ∧ Paired (LsN Dn g) ls ((tabs.map Prod.fst).take i) ∧ Same h g) ⟨[], upd_same, .nil, Same.new nDn⟩ (fun i g _ ⟨_, _, _, s⟩ => .of (s _ _ eHd9)) ?_ ?_
        · rintro i x g g' hi ⟨ls, e4, hl4, s4⟩ ⟨rfl, hx⟩
          rw [List.length_map] at hi
          obtain ⟨b, hb, rfl⟩ : ∃ b, us[i]? = some b ∧ x = V.ref b := by
            rw [List.getElem?_map, List.getElem?_eq_getElem hi] at hx
            exact ⟨_, List.getElem?_eq_getElem hi, (Option.some.inj hx).symm⟩
          obtain ⟨cs, hcs, tb⟩ := hT9.get hb
          have tb' := tb.same s4
          obtain ⟨dy, l', r', g1, g2⟩ := id tb'
          refine ⟨rfl, ?_⟩
          dsimp only [tYes]
          rw [if_pos rfl]
          refine ⟨_, rfl, b, dy, _, rfl, g1, T33T.bflds_no _ _ (by decide +kernel) (by decide +kernel), _, _, rfl, tb', fun g3 Lc s3 nLc eLc => ?_⟩
          have lls := Paired.length hl4
          rw [List.length_take] at lls
          have e43 := s3 _ _ e4
          have nLD : Lc ≠ Dn := fun z => by rw [z] at nLc; rw [e4] at nLc; cases nLc
          refine ⟨_, e43, by rw [List.length_map]; exact line100' (by omega), ls ++ [Lc], by rw [upd_same, List.map_append]; rfl, ?_, Same.mut (s4.trans s3) nDn⟩
          rw [List.take_add_one, hcs]
          exact LsN.put (pr_snoc (LsN.same hl4 s3) ⟨eLc, nLD⟩)
        rintro g ⟨ls, e4, hl4, s4⟩
        rw [List.length_map, lus, List.take_length] at hl4
        have hl5 := LsN.ls hl4
        -- the tree
        refine ⟨_, rfl, _, rfl, rd_tmk (hP9.same s4) va (by omega) okn fun H10 t2 s10 ht2 => ?_⟩
        have s4a := s4.trans s10
        refine tr_same ct Dt.ns (ht9.same s4a) ht2 fo fun H11 s11 => ⟨_, rfl, ?_⟩
        show (if false = true then _ else _)
        rw [if_neg Bool.false_ne_true]
        have s4b := s4a.trans s11
        have s1011 := s10.trans s11
        refine ⟨_, rfl, _, rfl, Mt, rfl, ⟨_, .of (s4b _ _ eMt9)⟩, fun D2 nD2 => ?_⟩
        have lts : ts.length = tabs.length := Paired.length hTs9
        refine lc_it (walk_list (xs := ts.map V.ref)) (fun i g2 => ∃ ss : List Addr, g2 D2 = some (.lst (ss.map V.ref)) ∧ Paired (LsN D2 g2) ss ((tabs.map Prod.fst).take i) ∧ Same H11 g2) ⟨[], upd_same, .nil, Same.new nD2⟩ (fun i g2 _ ⟨_, _, _, s⟩ => .of (s _ _ (s4b _ _ eMt9))) ?_ ?_
        · rintro i x g2 g2' hi ⟨ss, e5, hl6, s5⟩ ⟨rfl, hx⟩
          rw [List.length_map] at hi
          obtain ⟨b, hb, rfl⟩ : ∃ b, ts[i]? = some b ∧ x = V.ref b := by
            rw [List.getElem?_map, List.getElem?_eq_getElem hi] at hx
            exact ⟨_, List.getElem?_eq_getElem hi, (Option.some.inj hx).symm⟩
          obtain ⟨p, hp, S, l, rs, g1, g3, g4, g5⟩ := pr_at (hTs9.same s4b) hb
          have lls := Paired.length hl6
          rw [List.length_take, List.length_map] at lls
          have SD : S ≠ D2 := ne_of_none g3 nD2
          refine ⟨b, _, rfl, .of (s5 _ _ g1), rfl, _, _, rfl, _, _, rfl, rfl, rfl, ?_⟩
          dsimp only [tYes]
          rw [if_pos rfl]
          refine ⟨_, rfl, _, e5, by rw [List.length_map]; exact line100' (by omega), ss ++ [S], by rw [upd_same, List.map_append]; rfl, ?_, Same.mut s5 nD2⟩
          rw [List.take_add_one, List.getElem?_map, hp]
          exact LsN.put (pr_snoc hl6 ⟨s5 _ _ g3, SD⟩)
        rintro g2 ⟨ss, e5, hl6, s5⟩
        rw [List.length_map, lts, ← List.length_map (f := Prod.fst) (as := tabs), List.take_length] at hl6
        have s11b := s1011.trans s5
        refine rd_lists (css := tabs.map Prod.fst) (fun cs hcs x hx => ?_) (s11b _ _ e4) e5 (Paired.mapP hl5 fun a c e => s11b _ _ e) (LsN.ls hl6) ?_
        · obtain ⟨t, ht, rfl⟩ := List.mem_map.mp hcs
          exact fo.ok x ((tok t ht).sub x hx)
        refine ⟨_, rfl, ?_⟩
        show (if false = true then _ else _)
        rw [if_neg Bool.false_ne_true]
        exact ⟨_, _, _, _, _, _, _, _, _, _, _, _, _, _, rfl, (s4.trans s11b) _ _ e10⟩
    · rintro σ H1 ⟨v1, v2, v3, v4, v5, v6, v7, v8, v9, v10, v11, v12, v13, v14, rfl, e4⟩
      exact q H1
end
end T33

set_option maxHeartbeats 4000000
namespace T33
open PySem L2 PyProof.Rows TX TY TW TD TB TG TUD TE TK TNN
theorem all_mk {l : PySem.W.OpenLaw} {w : World} {K : PySem.W.Frag} {h : Heap} {mg : Str → Option Value} {fa f_is_whole f_is_name f_is_name_in f_are_columns f_is_row f_fits f__told_overs f__is_pair f__in_order f__check_columns_in f__first_apart f_keys_along f_keys_of f__check_fit f__check_columns f__sorted_rows f__law_cell_at f__law_well f__law_draw f__law_one f__law_names f__law_pairs f__law_above f__law_beneath f__law_values f__law_rows f__law_mixed_up f__law_tables f__law_plain f__law_made f__law_due f__law_exchanged f_law c_Tree f_Tree___init__ f_Tree_columns f_Tree_above f_Tree_beneath f_Tree_is_above f_Tree_check_column f_Tree___eq__ c_Table f_Table_columns f_Table___init__ d_Table___init__ c_FoldError c_NoColumn f_NoColumn___init__ : Addr} (X : K.In h) (G : h.Ns mainGlobals mg) (hfa : mg "law" = some (.ref fa))
    {od1 an1 : Option Addr} {sl1 : Array (Option Value)} {oc1 kV1 dc1 pm1 cd1 ct1 : Value}
    {od2 an2 : Option Addr} {sl2 : Array (Option Value)} {oc2 kV2 dc2 pm2 cd2 ct2 : Value}
    {od3 an3 : Option Addr} {sl3 : Array (Option Value)} {oc3 kV3 dc3 pm3 cd3 ct3 : Value}
    {od4 an4 : Option Addr} {sl4 : Array (Option Value)} {oc4 kV4 dc4 pm4 cd4 ct4 : Value}
    {od5 an5 : Option Addr} {sl5 : Array (Option Value)} {oc5 kV5 dc5 pm5 cd5 ct5 : Value}
    {od6 an6 : Option Addr} {sl6 : Array (Option Value)} {oc6 kV6 dc6 pm6 cd6 ct6 : Value}
    {od7 an7 : Option Addr} {sl7 : Array (Option Value)} {oc7 kV7 dc7 pm7 cd7 ct7 : Value}
    {od8 an8 : Option Addr} {sl8 : Array (Option Value)} {oc8 kV8 dc8 pm8 cd8 ct8 : Value}
    {od9 an9 : Option Addr} {sl9 : Array (Option Value)} {oc9 kV9 dc9 pm9 cd9 ct9 : Value}
    {od10 an10 : Option Addr} {sl10 : Array (Option Value)} {oc10 kV10 dc10 pm10 cd10 ct10 : Value}
    {od11 an11 : Option Addr} {sl11 : Array (Option Value)} {oc11 kV11 dc11 pm11 cd11 ct11 : Value}
    {od12 an12 : Option Addr} {sl12 : Array (Option Value)} {oc12 kV12 dc12 pm12 cd12 ct12 : Value}
    {od13 an13 : Option Addr} {sl13 : Array (Option Value)} {oc13 kV13 dc13 pm13 cd13 ct13 : Value}
    {od14 an14 : Option Addr} {sl14 : Array (Option Value)} {oc14 kV14 dc14 pm14 cd14 ct14 : Value}
    {od15 an15 : Option Addr} {sl15 : Array (Option Value)} {oc15 kV15 dc15 pm15 cd15 ct15 : Value}
    {od16 an16 : Option Addr} {sl16 : Array (Option Value)} {oc16 kV16 dc16 pm16 cd16 ct16 : Value}
    {od17 an17 : Option Addr} {sl17 : Array (Option Value)} {oc17 kV17 dc17 pm17 cd17 ct17 : Value}
    {od18 an18 : Option Addr} {sl18 : Array (Option Value)} {oc18 kV18 dc18 pm18 cd18 ct18 : Value}
    {od19 an19 : Option Addr} {sl19 : Array (Option Value)} {oc19 kV19 dc19 pm19 cd19 ct19 : Value}
    {od20 an20 : Option Addr} {sl20 : Array (Option Value)} {oc20 kV20 dc20 pm20 cd20 ct20 : Value}
    {od21 an21 : Option Addr} {sl21 : Array (Option Value)} {oc21 kV21 dc21 pm21 cd21 ct21 : Value}
    {od22 an22 : Option Addr} {sl22 : Array (Option Value)} {oc22 kV22 dc22 pm22 cd22 ct22 : Value}
    {od23 an23 : Option Addr} {sl23 : Array (Option Value)} {oc23 kV23 dc23 pm23 cd23 ct23 : Value}
    {od24 an24 : Option Addr} {sl24 : Array (Option Value)} {oc24 kV24 dc24 pm24 cd24 ct24 : Value}
    {od25 an25 : Option Addr} {sl25 : Array (Option Value)} {oc25 kV25 dc25 pm25 cd25 ct25 : Value}
    {od26 an26 : Option Addr} {sl26 : Array (Option Value)} {oc26 kV26 dc26 pm26 cd26 ct26 : Value}
    {od27 an27 : Option Addr} {sl27 : Array (Option Value)} {oc27 kV27 dc27 pm27 cd27 ct27 : Value}
    {od28 an28 : Option Addr} {sl28 : Array (Option Value)} {oc28 kV28 dc28 pm28 cd28 ct28 : Value}
    {od29 an29 : Option Addr} {sl29 : Array (Option Value)} {oc29 kV29 dc29 pm29 cd29 ct29 : Value}
    {od30 an30 : Option Addr} {sl30 : Array (Option Value)} {oc30 kV30 dc30 pm30 cd30 ct30 : Value}
    {od31 an31 : Option Addr} {sl31 : Array (Option Value)} {oc31 kV31 dc31 pm31 cd31 ct31 : Value}
    {od32 an32 : Option Addr} {sl32 : Array (Option Value)} {oc32 kV32 dc32 pm32 cd32 ct32 : Value}
    {od33 an33 : Option Addr} {sl33 : Array (Option Value)} {oc33 kV33 dc33 pm33 cd33 ct33 : Value}
    {od34 an34 : Option Addr} {sl34 : Array (Option Value)} {oc34 kV34 dc34 pm34 cd34 ct34 : Value}
    {od35 an35 : Option Addr} {sl35 : Array (Option Value)} {oc35 kV35 dc35 pm35 cd35 ct35 : Value}
    {od36 an36 : Option Addr} {sl36 : Array (Option Value)} {oc36 kV36 dc36 pm36 cd36 ct36 : Value}
    {od37 an37 : Option Addr} {sl37 : Array (Option Value)} {oc37 kV37 dc37 pm37 cd37 ct37 : Value}
    {od38 an38 : Option Addr} {sl38 : Array (Option Value)} {oc38 kV38 dc38 pm38 cd38 ct38 : Value}
    {od39 an39 : Option Addr} {sl39 : Array (Option Value)} {oc39 kV39 dc39 pm39 cd39 ct39 : Value}
    {od40 an40 : Option Addr} {sl40 : Array (Option Value)} {oc40 kV40 dc40 pm40 cd40 ct40 : Value}
    {od41 an41 : Option Addr} {sl41 : Array (Option Value)} {oc41 kV41 dc41 pm41 cd41 ct41 : Value}
    {od42 an42 dd42 : Option Addr} {sl42 ds42 : Array (Option Value)} {oc42 kV42 dc42 pm42 cd42 ct42 do42 : Value} {dn42 : Nat}
    {od43 an43 : Option Addr} {sl43 : Array (Option Value)} {oc43 kV43 dc43 pm43 cd43 ct43 : Value}
    {t_longest : Tok}
    {t_most : Tok}
    (a_is_whole : PySem.W.nsIn K mainGlobals "is_whole" = some (some (.ref f_is_whole)))
    (l_is_whole : K.lookup f_is_whole = some ⟨oc1, od1, .func (PySem.W.fnOf "is_whole" "is_whole" (defArgs s_is_whole) (defBody s_is_whole) (defScope s_is_whole) .none kV1 dc1 pm1 an1 cd1 ct1), sl1⟩)
    (o_is_whole : PySem.W.codeIn K cd1 "is_whole" = true)
    (k_is_whole : PySem.W.keepIn K (.ref f_is_whole) = true)
    (a_is_name : PySem.W.nsIn K mainGlobals "is_name" = some (some (.ref f_is_name)))
    (l_is_name : K.lookup f_is_name = some ⟨oc2, od2, .func (PySem.W.fnOf "is_name" "is_name" (defArgs s_is_name) (defBody s_is_name) (defScope s_is_name) .none kV2 dc2 pm2 an2 cd2 ct2), sl2⟩)
    (o_is_name : PySem.W.codeIn K cd2 "is_name" = true)
    (k_is_name : PySem.W.keepIn K (.ref f_is_name) = true)
    (a_is_name_in : PySem.W.nsIn K mainGlobals "is_name_in" = some (some (.ref f_is_name_in)))
    (l_is_name_in : K.lookup f_is_name_in = some ⟨oc3, od3, .func (PySem.W.fnOf "is_name_in" "is_name_in" (defArgs s_is_name_in) (defBody s_is_name_in) (defScope s_is_name_in) .none kV3 dc3 pm3 an3 cd3 ct3), sl3⟩)
    (o_is_name_in : PySem.W.codeIn K cd3 "is_name_in" = true)
    (k_is_name_in : PySem.W.keepIn K (.ref f_is_name_in) = true)
    (a_are_columns : PySem.W.nsIn K mainGlobals "are_columns" = some (some (.ref f_are_columns)))
    (l_are_columns : K.lookup f_are_columns = some ⟨oc4, od4, .func (PySem.W.fnOf "are_columns" "are_columns" (defArgs s_are) (defBody s_are) (defScope s_are) .none kV4 dc4 pm4 an4 cd4 ct4), sl4⟩)
    (o_are_columns : PySem.W.codeIn K cd4 "are_columns" = true)
    (k_are_columns : PySem.W.keepIn K (.ref f_are_columns) = true)
    (a_is_row : PySem.W.nsIn K mainGlobals "is_row" = some (some (.ref f_is_row)))
    (l_is_row : K.lookup f_is_row = some ⟨oc5, od5, .func (PySem.W.fnOf "is_row" "is_row" (defArgs s_is_row) (defBody s_is_row) (defScope s_is_row) .none kV5 dc5 pm5 an5 cd5 ct5), sl5⟩)
    (o_is_row : PySem.W.codeIn K cd5 "is_row" = true)
    (k_is_row : PySem.W.keepIn K (.ref f_is_row) = true)
    (a_fits : PySem.W.nsIn K mainGlobals "fits" = some (some (.ref f_fits)))
    (l_fits : K.lookup f_fits = some ⟨oc6, od6, .func (PySem.W.fnOf "fits" "fits" (defArgs s_fits) (defBody s_fits) (defScope s_fits) .none kV6 dc6 pm6 an6 cd6 ct6), sl6⟩)
    (o_fits : PySem.W.codeIn K cd6 "fits" = true)
    (k_fits : PySem.W.keepIn K (.ref f_fits) = true)
    (a__told_overs : PySem.W.nsIn K mainGlobals "_told_overs" = some (some (.ref f__told_overs)))
    (l__told_overs : K.lookup f__told_overs = some ⟨oc7, od7, .func (PySem.W.fnOf "_told_overs" "_told_overs" (defArgs s_told) (defBody s_told) (defScope s_told) .none kV7 dc7 pm7 an7 cd7 ct7), sl7⟩)
    (o__told_overs : PySem.W.codeIn K cd7 "_told_overs" = true)
    (k__told_overs : PySem.W.keepIn K (.ref f__told_overs) = true)
    (a__is_pair : PySem.W.nsIn K mainGlobals "_is_pair" = some (some (.ref f__is_pair)))
    (l__is_pair : K.lookup f__is_pair = some ⟨oc8, od8, .func (PySem.W.fnOf "_is_pair" "_is_pair" (defArgs s_is_pair) (defBody s_is_pair) (defScope s_is_pair) .none kV8 dc8 pm8 an8 cd8 ct8), sl8⟩)
    (o__is_pair : PySem.W.codeIn K cd8 "_is_pair" = true)
    (k__is_pair : PySem.W.keepIn K (.ref f__is_pair) = true)
    (a__in_order : PySem.W.nsIn K mainGlobals "_in_order" = some (some (.ref f__in_order)))
    (l__in_order : K.lookup f__in_order = some ⟨oc9, od9, .func (PySem.W.fnOf "_in_order" "_in_order" (defArgs s_in_order) (defBody s_in_order) (defScope s_in_order) .none kV9 dc9 pm9 an9 cd9 ct9), sl9⟩)
    (o__in_order : PySem.W.codeIn K cd9 "_in_order" = true)
    (k__in_order : PySem.W.keepIn K (.ref f__in_order) = true)
    (a__check_columns_in : PySem.W.nsIn K mainGlobals "_check_columns_in" = some (some (.ref f__check_columns_in)))
    (l__check_columns_in : K.lookup f__check_columns_in = some ⟨oc10, od10, .func (PySem.W.fnOf "_check_columns_in" "_check_columns_in" (defArgs s_ccin) (defBody s_ccin) (defScope s_ccin) .none kV10 dc10 pm10 an10 cd10 ct10), sl10⟩)
    (o__check_columns_in : PySem.W.codeIn K cd10 "_check_columns_in" = true)
    (k__check_columns_in : PySem.W.keepIn K (.ref f__check_columns_in) = true)
    (a__first_apart : PySem.W.nsIn K mainGlobals "_first_apart" = some (some (.ref f__first_apart)))
    (l__first_apart : K.lookup f__first_apart = some ⟨oc11, od11, .func (PySem.W.fnOf "_first_apart" "_first_apart" (defArgs s_apart) (defBody s_apart) (defScope s_apart) .none kV11 dc11 pm11 an11 cd11 ct11), sl11⟩)
    (o__first_apart : PySem.W.codeIn K cd11 "_first_apart" = true)
    (k__first_apart : PySem.W.keepIn K (.ref f__first_apart) = true)
    (a_keys_along : PySem.W.nsIn K mainGlobals "keys_along" = some (some (.ref f_keys_along)))
    (l_keys_along : K.lookup f_keys_along = some ⟨oc12, od12, .func (PySem.W.fnOf "keys_along" "keys_along" (defArgs s_along) (defBody s_along) (defScope s_along) .none kV12 dc12 pm12 an12 cd12 ct12), sl12⟩)
    (o_keys_along : PySem.W.codeIn K cd12 "keys_along" = true)
    (k_keys_along : PySem.W.keepIn K (.ref f_keys_along) = true)
    (a_keys_of : PySem.W.nsIn K mainGlobals "keys_of" = some (some (.ref f_keys_of)))
    (l_keys_of : K.lookup f_keys_of = some ⟨oc13, od13, .func (PySem.W.fnOf "keys_of" "keys_of" (defArgs s_keysof) (defBody s_keysof) (defScope s_keysof) .none kV13 dc13 pm13 an13 cd13 ct13), sl13⟩)
    (o_keys_of : PySem.W.codeIn K cd13 "keys_of" = true)
    (k_keys_of : PySem.W.keepIn K (.ref f_keys_of) = true)
    (a__check_fit : PySem.W.nsIn K mainGlobals "_check_fit" = some (some (.ref f__check_fit)))
    (l__check_fit : K.lookup f__check_fit = some ⟨oc14, od14, .func (PySem.W.fnOf "_check_fit" "_check_fit" (defArgs s_checkfit) (defBody s_checkfit) (defScope s_checkfit) .none kV14 dc14 pm14 an14 cd14 ct14), sl14⟩)
    (o__check_fit : PySem.W.codeIn K cd14 "_check_fit" = true)
    (k__check_fit : PySem.W.keepIn K (.ref f__check_fit) = true)
    (a__check_columns : PySem.W.nsIn K mainGlobals "_check_columns" = some (some (.ref f__check_columns)))
    (l__check_columns : K.lookup f__check_columns = some ⟨oc15, od15, .func (PySem.W.fnOf "_check_columns" "_check_columns" (defArgs s_cc) (defBody s_cc) (defScope s_cc) .none kV15 dc15 pm15 an15 cd15 ct15), sl15⟩)
    (o__check_columns : PySem.W.codeIn K cd15 "_check_columns" = true)
    (k__check_columns : PySem.W.keepIn K (.ref f__check_columns) = true)
    (a__sorted_rows : PySem.W.nsIn K mainGlobals "_sorted_rows" = some (some (.ref f__sorted_rows)))
    (l__sorted_rows : K.lookup f__sorted_rows = some ⟨oc16, od16, .func (PySem.W.fnOf "_sorted_rows" "_sorted_rows" (defArgs s_sorted) (defBody s_sorted) (defScope s_sorted) .none kV16 dc16 pm16 an16 cd16 ct16), sl16⟩)
    (o__sorted_rows : PySem.W.codeIn K cd16 "_sorted_rows" = true)
    (k__sorted_rows : PySem.W.keepIn K (.ref f__sorted_rows) = true)
    (a__law_cell_at : PySem.W.nsIn K mainGlobals "_law_cell_at" = some (some (.ref f__law_cell_at)))
    (l__law_cell_at : K.lookup f__law_cell_at = some ⟨oc17, od17, .func (PySem.W.fnOf "_law_cell_at" "_law_cell_at" (defArgs s_cell) (defBody s_cell) (defScope s_cell) .none kV17 dc17 pm17 an17 cd17 ct17), sl17⟩)
    (o__law_cell_at : PySem.W.codeIn K cd17 "_law_cell_at" = true)
    (k__law_cell_at : PySem.W.keepIn K (.ref f__law_cell_at) = true)
    (a__law_well : PySem.W.nsIn K mainGlobals "_law_well" = some (some (.ref f__law_well)))
    (l__law_well : K.lookup f__law_well = some ⟨oc18, od18, .func (PySem.W.fnOf "_law_well" "_law_well" (defArgs s_well) (defBody s_well) (defScope s_well) .none kV18 dc18 pm18 an18 cd18 ct18), sl18⟩)
    (o__law_well : PySem.W.codeIn K cd18 "_law_well" = true)
    (k__law_well : PySem.W.keepIn K (.ref f__law_well) = true)
    (a__law_draw : PySem.W.nsIn K mainGlobals "_law_draw" = some (some (.ref f__law_draw)))
    (l__law_draw : K.lookup f__law_draw = some ⟨oc19, od19, .func (PySem.W.fnOf "_law_draw" "_law_draw" (defArgs s_draw) (defBody s_draw) (defScope s_draw) .none kV19 dc19 pm19 an19 cd19 ct19), sl19⟩)
    (o__law_draw : PySem.W.codeIn K cd19 "_law_draw" = true)
    (k__law_draw : PySem.W.keepIn K (.ref f__law_draw) = true)
    (a__law_one : PySem.W.nsIn K mainGlobals "_law_one" = some (some (.ref f__law_one)))
    (l__law_one : K.lookup f__law_one = some ⟨oc20, od20, .func (PySem.W.fnOf "_law_one" "_law_one" (defArgs s_one) (defBody s_one) (defScope s_one) .none kV20 dc20 pm20 an20 cd20 ct20), sl20⟩)
    (o__law_one : PySem.W.codeIn K cd20 "_law_one" = true)
    (k__law_one : PySem.W.keepIn K (.ref f__law_one) = true)
    (a__law_names : PySem.W.nsIn K mainGlobals "_law_names" = some (some (.ref f__law_names)))
    (l__law_names : K.lookup f__law_names = some ⟨oc21, od21, .func (PySem.W.fnOf "_law_names" "_law_names" (defArgs s_names) (defBody s_names) (defScope s_names) .none kV21 dc21 pm21 an21 cd21 ct21), sl21⟩)
    (o__law_names : PySem.W.codeIn K cd21 "_law_names" = true)
    (k__law_names : PySem.W.keepIn K (.ref f__law_names) = true)
    (a__law_pairs : PySem.W.nsIn K mainGlobals "_law_pairs" = some (some (.ref f__law_pairs)))
    (l__law_pairs : K.lookup f__law_pairs = some ⟨oc22, od22, .func (PySem.W.fnOf "_law_pairs" "_law_pairs" (defArgs s_pairs) (defBody s_pairs) (defScope s_pairs) .none kV22 dc22 pm22 an22 cd22 ct22), sl22⟩)
    (o__law_pairs : PySem.W.codeIn K cd22 "_law_pairs" = true)
    (k__law_pairs : PySem.W.keepIn K (.ref f__law_pairs) = true)
    (a__law_above : PySem.W.nsIn K mainGlobals "_law_above" = some (some (.ref f__law_above)))
    (l__law_above : K.lookup f__law_above = some ⟨oc23, od23, .func (PySem.W.fnOf "_law_above" "_law_above" (defArgs s_labove) (defBody s_labove) (defScope s_labove) .none kV23 dc23 pm23 an23 cd23 ct23), sl23⟩)
    (o__law_above : PySem.W.codeIn K cd23 "_law_above" = true)
    (k__law_above : PySem.W.keepIn K (.ref f__law_above) = true)
    (a__law_beneath : PySem.W.nsIn K mainGlobals "_law_beneath" = some (some (.ref f__law_beneath)))
    (l__law_beneath : K.lookup f__law_beneath = some ⟨oc24, od24, .func (PySem.W.fnOf "_law_beneath" "_law_beneath" (defArgs s_lbeneath) (defBody s_lbeneath) (defScope s_lbeneath) .none kV24 dc24 pm24 an24 cd24 ct24), sl24⟩)
    (o__law_beneath : PySem.W.codeIn K cd24 "_law_beneath" = true)
    (k__law_beneath : PySem.W.keepIn K (.ref f__law_beneath) = true)
    (a__law_values : PySem.W.nsIn K mainGlobals "_law_values" = some (some (.ref f__law_values)))
    (l__law_values : K.lookup f__law_values = some ⟨oc25, od25, .func (PySem.W.fnOf "_law_values" "_law_values" (defArgs s_values) (defBody s_values) (defScope s_values) .none kV25 dc25 pm25 an25 cd25 ct25), sl25⟩)
    (o__law_values : PySem.W.codeIn K cd25 "_law_values" = true)
    (k__law_values : PySem.W.keepIn K (.ref f__law_values) = true)
    (a__law_rows : PySem.W.nsIn K mainGlobals "_law_rows" = some (some (.ref f__law_rows)))
    (l__law_rows : K.lookup f__law_rows = some ⟨oc26, od26, .func (PySem.W.fnOf "_law_rows" "_law_rows" (defArgs s_rows) (defBody s_rows) (defScope s_rows) .none kV26 dc26 pm26 an26 cd26 ct26), sl26⟩)
    (o__law_rows : PySem.W.codeIn K cd26 "_law_rows" = true)
    (k__law_rows : PySem.W.keepIn K (.ref f__law_rows) = true)
    (a__law_mixed_up : PySem.W.nsIn K mainGlobals "_law_mixed_up" = some (some (.ref f__law_mixed_up)))
    (l__law_mixed_up : K.lookup f__law_mixed_up = some ⟨oc27, od27, .func (PySem.W.fnOf "_law_mixed_up" "_law_mixed_up" (defArgs s_mixed) (defBody s_mixed) (defScope s_mixed) .none kV27 dc27 pm27 an27 cd27 ct27), sl27⟩)
    (o__law_mixed_up : PySem.W.codeIn K cd27 "_law_mixed_up" = true)
    (k__law_mixed_up : PySem.W.keepIn K (.ref f__law_mixed_up) = true)
    (a__law_tables : PySem.W.nsIn K mainGlobals "_law_tables" = some (some (.ref f__law_tables)))
    (l__law_tables : K.lookup f__law_tables = some ⟨oc28, od28, .func (PySem.W.fnOf "_law_tables" "_law_tables" (defArgs s_tables) (defBody s_tables) (defScope s_tables) .none kV28 dc28 pm28 an28 cd28 ct28), sl28⟩)
    (o__law_tables : PySem.W.codeIn K cd28 "_law_tables" = true)
    (k__law_tables : PySem.W.keepIn K (.ref f__law_tables) = true)
    (a__law_plain : PySem.W.nsIn K mainGlobals "_law_plain" = some (some (.ref f__law_plain)))
    (l__law_plain : K.lookup f__law_plain = some ⟨oc29, od29, .func (PySem.W.fnOf "_law_plain" "_law_plain" (defArgs s_plain) (defBody s_plain) (defScope s_plain) .none kV29 dc29 pm29 an29 cd29 ct29), sl29⟩)
    (o__law_plain : PySem.W.codeIn K cd29 "_law_plain" = true)
    (k__law_plain : PySem.W.keepIn K (.ref f__law_plain) = true)
    (a__law_made : PySem.W.nsIn K mainGlobals "_law_made" = some (some (.ref f__law_made)))
    (l__law_made : K.lookup f__law_made = some ⟨oc30, od30, .func (PySem.W.fnOf "_law_made" "_law_made" (defArgs s_made) (defBody s_made) (defScope s_made) .none kV30 dc30 pm30 an30 cd30 ct30), sl30⟩)
    (o__law_made : PySem.W.codeIn K cd30 "_law_made" = true)
    (k__law_made : PySem.W.keepIn K (.ref f__law_made) = true)
    (a__law_due : PySem.W.nsIn K mainGlobals "_law_due" = some (some (.ref f__law_due)))
    (l__law_due : K.lookup f__law_due = some ⟨oc31, od31, .func (PySem.W.fnOf "_law_due" "_law_due" (defArgs s_due) (defBody s_due) (defScope s_due) .none kV31 dc31 pm31 an31 cd31 ct31), sl31⟩)
    (o__law_due : PySem.W.codeIn K cd31 "_law_due" = true)
    (k__law_due : PySem.W.keepIn K (.ref f__law_due) = true)
    (a__law_exchanged : PySem.W.nsIn K mainGlobals "_law_exchanged" = some (some (.ref f__law_exchanged)))
    (l__law_exchanged : K.lookup f__law_exchanged = some ⟨oc32, od32, .func (PySem.W.fnOf "_law_exchanged" "_law_exchanged" (defArgs s_exch) (defBody s_exch) (defScope s_exch) .none kV32 dc32 pm32 an32 cd32 ct32), sl32⟩)
    (o__law_exchanged : PySem.W.codeIn K cd32 "_law_exchanged" = true)
    (k__law_exchanged : PySem.W.keepIn K (.ref f__law_exchanged) = true)
    (a_law : PySem.W.nsIn K mainGlobals "law" = some (some (.ref f_law)))
    (l_law : K.lookup f_law = some ⟨oc33, od33, .func (PySem.W.fnOf "law" "law" (defArgs s_law) (defBody s_law) (defScope s_law) .none kV33 dc33 pm33 an33 cd33 ct33), sl33⟩)
    (o_law : PySem.W.codeIn K cd33 "law" = true)
    (k_law : PySem.W.keepIn K (.ref f_law) = true)
    (a_Tree : PySem.W.nsIn K mainGlobals "Tree" = some (some (.ref c_Tree)))
    (a_Tree___init__ : PySem.W.findIn K (.ref c_Tree) "__init__" = some (some (.ref f_Tree___init__)))
    (i_Tree___init__ : PySem.W.isFn K (.ref f_Tree___init__) = true)
    (l_Tree___init__ : K.lookup f_Tree___init__ = some ⟨oc34, od34, .func (PySem.W.fnOf "__init__" "Tree.__init__" (defArgs s_tinit) (defBody s_tinit) (defScope s_tinit) .none kV34 dc34 pm34 an34 cd34 ct34), sl34⟩)
    (o_Tree___init__ : PySem.W.codeIn K cd34 "Tree.__init__" = true)
    (k_Tree___init__ : PySem.W.keepIn K (.ref f_Tree___init__) = true)
    (a_Tree_columns : PySem.W.findIn K (.ref c_Tree) "columns" = some (some (.ref f_Tree_columns)))
    (i_Tree_columns : PySem.W.isFn K (.ref f_Tree_columns) = true)
    (l_Tree_columns : K.lookup f_Tree_columns = some ⟨oc35, od35, .func (PySem.W.fnOf "columns" "Tree.columns" (defArgs s_tcolumns) (defBody s_tcolumns) (defScope s_tcolumns) .none kV35 dc35 pm35 an35 cd35 ct35), sl35⟩)
    (o_Tree_columns : PySem.W.codeIn K cd35 "Tree.columns" = true)
    (k_Tree_columns : PySem.W.keepIn K (.ref f_Tree_columns) = true)
    (a_Tree_above : PySem.W.findIn K (.ref c_Tree) "above" = some (some (.ref f_Tree_above)))
    (i_Tree_above : PySem.W.isFn K (.ref f_Tree_above) = true)
    (l_Tree_above : K.lookup f_Tree_above = some ⟨oc36, od36, .func (PySem.W.fnOf "above" "Tree.above" (defArgs s_tabove) (defBody s_tabove) (defScope s_tabove) .none kV36 dc36 pm36 an36 cd36 ct36), sl36⟩)
    (o_Tree_above : PySem.W.codeIn K cd36 "Tree.above" = true)
    (k_Tree_above : PySem.W.keepIn K (.ref f_Tree_above) = true)
    (a_Tree_beneath : PySem.W.findIn K (.ref c_Tree) "beneath" = some (some (.ref f_Tree_beneath)))
    (i_Tree_beneath : PySem.W.isFn K (.ref f_Tree_beneath) = true)
    (l_Tree_beneath : K.lookup f_Tree_beneath = some ⟨oc37, od37, .func (PySem.W.fnOf "beneath" "Tree.beneath" (defArgs s_tbeneath) (defBody s_tbeneath) (defScope s_tbeneath) .none kV37 dc37 pm37 an37 cd37 ct37), sl37⟩)
    (o_Tree_beneath : PySem.W.codeIn K cd37 "Tree.beneath" = true)
    (k_Tree_beneath : PySem.W.keepIn K (.ref f_Tree_beneath) = true)
    (a_Tree_is_above : PySem.W.findIn K (.ref c_Tree) "is_above" = some (some (.ref f_Tree_is_above)))
    (i_Tree_is_above : PySem.W.isFn K (.ref f_Tree_is_above) = true)
    (l_Tree_is_above : K.lookup f_Tree_is_above = some ⟨oc38, od38, .func (PySem.W.fnOf "is_above" "Tree.is_above" (defArgs s_tisabove) (defBody s_tisabove) (defScope s_tisabove) .none kV38 dc38 pm38 an38 cd38 ct38), sl38⟩)
    (o_Tree_is_above : PySem.W.codeIn K cd38 "Tree.is_above" = true)
    (k_Tree_is_above : PySem.W.keepIn K (.ref f_Tree_is_above) = true)
    (a_Tree_check_column : PySem.W.findIn K (.ref c_Tree) "check_column" = some (some (.ref f_Tree_check_column)))
    (i_Tree_check_column : PySem.W.isFn K (.ref f_Tree_check_column) = true)
    (l_Tree_check_column : K.lookup f_Tree_check_column = some ⟨oc39, od39, .func (PySem.W.fnOf "check_column" "Tree.check_column" (defArgs s_tcheck) (defBody s_tcheck) (defScope s_tcheck) .none kV39 dc39 pm39 an39 cd39 ct39), sl39⟩)
    (o_Tree_check_column : PySem.W.codeIn K cd39 "Tree.check_column" = true)
    (k_Tree_check_column : PySem.W.keepIn K (.ref f_Tree_check_column) = true)
    (a_Tree___eq__ : PySem.W.findIn K (.ref c_Tree) "__eq__" = some (some (.ref f_Tree___eq__)))
    (i_Tree___eq__ : PySem.W.isFn K (.ref f_Tree___eq__) = true)
    (l_Tree___eq__ : K.lookup f_Tree___eq__ = some ⟨oc40, od40, .func (PySem.W.fnOf "__eq__" "Tree.__eq__" (defArgs s_teq) (defBody s_teq) (defScope s_teq) .none kV40 dc40 pm40 an40 cd40 ct40), sl40⟩)
    (o_Tree___eq__ : PySem.W.codeIn K cd40 "Tree.__eq__" = true)
    (k_Tree___eq__ : PySem.W.keepIn K (.ref f_Tree___eq__) = true)
    (pg_Tree : PySem.W.plainGet K c_Tree Str.empty = true)
    (hd_Tree : PySem.W.hasDictIn K c_Tree = true)
    (po_Tree : PySem.W.plainOver K c_Tree = true)
    (sa_Tree : PySem.W.findIn K (.ref c_Tree) "__setattr__" = some (some (.builtin "object.__setattr__")))
    (mk_Tree : PySem.W.makesIn K c_Tree = true)
    (kc_Tree : PySem.W.keepIn K (.ref c_Tree) = true)
    (ha_Tree : PySem.W.findIn K (.ref c_Tree) "__class__" = some (some (.builtin "object.__class__")))
    (hm_Tree : PySem.W.mroIn K c_Tree (.type "object") = some true)
    (me_Tree : PySem.W.kitOne K (.ref c_Tree) (.ref c_Tree) = some true)
    (n_Tree_columns : PySem.W.findIn K (.ref c_Tree) "_columns" = some none)
    (n_Tree_over : PySem.W.findIn K (.ref c_Tree) "_over" = some none)
    (a_Table : PySem.W.nsIn K mainGlobals "Table" = some (some (.ref c_Table)))
    (a_Table_columns : PySem.W.findIn K (.ref c_Table) "columns" = some (some (.ref f_Table_columns)))
    (i_Table_columns : PySem.W.isFn K (.ref f_Table_columns) = true)
    (l_Table_columns : K.lookup f_Table_columns = some ⟨oc41, od41, .func (PySem.W.fnOf "columns" "Table.columns" (defArgs s_bcolumns) (defBody s_bcolumns) (defScope s_bcolumns) .none kV41 dc41 pm41 an41 cd41 ct41), sl41⟩)
    (o_Table_columns : PySem.W.codeIn K cd41 "Table.columns" = true)
    (k_Table_columns : PySem.W.keepIn K (.ref f_Table_columns) = true)
    (pg_Table : PySem.W.plainGet K c_Table Str.empty = true)
    (hd_Table : PySem.W.hasDictIn K c_Table = true)
    (po_Table : PySem.W.plainOver K c_Table = true)
    (sa_Table : PySem.W.findIn K (.ref c_Table) "__setattr__" = some (some (.builtin "object.__setattr__")))
    (mk_Table : PySem.W.makesIn K c_Table = true)
    (kc_Table : PySem.W.keepIn K (.ref c_Table) = true)
    (ha_Table : PySem.W.findIn K (.ref c_Table) "__class__" = some (some (.builtin "object.__class__")))
    (hm_Table : PySem.W.mroIn K c_Table (.type "object") = some true)
    (me_Table : PySem.W.kitOne K (.ref c_Table) (.ref c_Table) = some true)
    (n_Table_columns : PySem.W.findIn K (.ref c_Table) "_columns" = some none)
    (n_Table_rows : PySem.W.findIn K (.ref c_Table) "_rows" = some none)
    (a_Table___init__ : PySem.W.findIn K (.ref c_Table) "__init__" = some (some (.ref f_Table___init__)))
    (i_Table___init__ : PySem.W.isFn K (.ref f_Table___init__) = true)
    (l_Table___init__ : K.lookup f_Table___init__ = some ⟨oc42, od42, .func (PySem.W.fnOf "__init__" "Table.__init__" (defArgs s_binit) (defBody s_binit) (defScope s_binit) (.ref d_Table___init__) kV42 dc42 pm42 an42 cd42 ct42), sl42⟩)
    (d1_Table___init__ : K.lookup d_Table___init__ = some ⟨do42, dd42, .seq #[.none] dn42, ds42⟩)
    (o_Table___init__ : PySem.W.codeIn K cd42 "Table.__init__" = true)
    (k_Table___init__ : PySem.W.keepIn K (.ref f_Table___init__) = true)
    (hn : PySem.W.specialIn K (.builtin "object.__class__") "__get__" = some (some (.builtin "getset_descriptor.__get__")))
    (ht : PySem.W.takesIn K (.builtin "object.__class__") = some true)
    (a_FoldError : PySem.W.nsIn K mainGlobals "FoldError" = some (some (.ref c_FoldError)))
    (a_NoColumn : PySem.W.nsIn K mainGlobals "NoColumn" = some (some (.ref c_NoColumn)))
    (a_NoColumn___init__ : PySem.W.findIn K (.ref c_NoColumn) "__init__" = some (some (.ref f_NoColumn___init__)))
    (l_NoColumn___init__ : K.lookup f_NoColumn___init__ = some ⟨oc43, od43, .func (PySem.W.fnOf "__init__" "NoColumn.__init__" (defArgs s_nocol) (defBody s_nocol) (defScope s_nocol) .none kV43 dc43 pm43 an43 cd43 ct43), sl43⟩)
    (o_NoColumn___init__ : PySem.W.codeIn K cd43 "NoColumn.__init__" = true)
    (k_NoColumn___init__ : PySem.W.keepIn K (.ref f_NoColumn___init__) = true)
    (y_NoColumn___init__ : PySem.W.typeIn K (.ref f_NoColumn___init__) = some (.type "function"))
    (g_longest : PySem.W.nsIn K mainGlobals "LONGEST_NAME" = some (some (.int 8 t_longest)))
    (g_most : PySem.W.nsIn K mainGlobals "MOST_COLUMNS" = some (some (.int 8 t_most)))
    (z_len : PySem.W.nsIn K mainGlobals "len" = some none)
    (z_isi : PySem.W.nsIn K mainGlobals "isinstance" = some none)
    (z_str : PySem.W.nsIn K mainGlobals "str" = some none)
    (z_list : PySem.W.nsIn K mainGlobals "list" = some none)
    (z_tuple : PySem.W.nsIn K mainGlobals "tuple" = some none)
    (z_dict : PySem.W.nsIn K mainGlobals "dict" = some none)
    (z_int : PySem.W.nsIn K mainGlobals "int" = some none)
    (z_range : PySem.W.nsIn K mainGlobals "range" = some none)
    (z_enum : PySem.W.nsIn K mainGlobals "enumerate" = some none)
    (z_all : PySem.W.nsIn K mainGlobals "all" = some none)
    (z_any : PySem.W.nsIn K mainGlobals "any" = some none)
    (z_max : PySem.W.nsIn K mainGlobals "max" = some none)
    (z_sorted : PySem.W.nsIn K mainGlobals "sorted" = some none)
    (oxNoColumn : oexB K c_NoColumn = true)
    (sxNoColumn : PySem.W.findIn K (.ref c_NoColumn) "__setattr__" = some (some (.builtin "object.__setattr__")))
    (kxNoColumn : PySem.W.keepIn K (.ref c_NoColumn) = true)
    (bxNoColumn : PySem.W.subIn K (.ref c_NoColumn) (.type "BaseException") = some true)
    (txNoColumn : PySem.W.typeIn K (.ref c_NoColumn) = some (.type "type"))
    (nxNoColumn : PySem.W.findIn K (.ref c_NoColumn) "name" = some none)
    (snfNoColumn : PySem.W.subIn K (.ref c_NoColumn) (.ref c_FoldError) = some true)
    (xgNoColumn : PySem.W.findIn K (.ref c_NoColumn) "__getattribute__" = some (some (.builtin "BaseException.__getattribute__")))
    (xkNoColumn : PySem.W.findIn K (.ref c_NoColumn) "__getattr__" = some none)
    (xdNoColumn : PySem.W.hasDictIn K c_NoColumn = true)
    (xaNoColumn : PySem.W.findIn K (.ref c_NoColumn) "__class__" = some (some (.builtin "object.__class__")))
    (xmNoColumn : PySem.W.mroIn K c_NoColumn (.type "object") = some true)
    (zbool : PySem.W.nsIn K mainGlobals "bool" = some none)
    (zset : PySem.W.nsIn K mainGlobals "set" = some none)
    (zzip : PySem.W.nsIn K mainGlobals "zip" = some none)
    (nT : PySem.W.findIn K (.ref c_Tree) "__ne__" = some (some (.builtin "object.__ne__")))
    : ∃ fd : FuncData, (∀ (s : Shared) (v : Value), BindsTo s fd ⟨[v], []⟩ [("_law_script", v)]) ∧ ∀ base : Heap, K.In base → base.Ns mainGlobals mg → FnOk l.prog w K mg base CX0 12 fa fd ["_law_script"] (sp_law K) := by
  have e := hfa.symm.trans (PySem.W.mg_of X G a_law)
  cases e
  have F_is_whole := fun_mk (st := s_is_whole) l_is_whole o_is_whole k_is_whole
  have b_is_whole := F_is_whole.binds (ps := ["thing"]) fun _ _ _ _ _ _ us hl => match us, hl with | [_], _ => rfl
  have N_is_whole : Fn K mg "is_whole" s_is_whole ["thing"] f_is_whole _ := ⟨F_is_whole, PySem.W.mg_of X G a_is_whole, b_is_whole⟩
  have F_is_name := fun_mk (st := s_is_name) l_is_name o_is_name k_is_name
  have b_is_name := F_is_name.binds (ps := ["thing"]) fun _ _ _ _ _ _ us hl => match us, hl with | [_], _ => rfl
  have N_is_name : Fn K mg "is_name" s_is_name ["thing"] f_is_name _ := ⟨F_is_name, PySem.W.mg_of X G a_is_name, b_is_name⟩
  have F_is_name_in := fun_mk (st := s_is_name_in) l_is_name_in o_is_name_in k_is_name_in
  have b_is_name_in := F_is_name_in.binds (ps := ["thing", "names"]) fun _ _ _ _ _ _ us hl => match us, hl with | [_, _], _ => rfl
  have N_is_name_in : Fn K mg "is_name_in" s_is_name_in ["thing", "names"] f_is_name_in _ := ⟨F_is_name_in, PySem.W.mg_of X G a_is_name_in, b_is_name_in⟩
  have F_are_columns := fun_mk (st := s_are) l_are_columns o_are_columns k_are_columns
  have b_are_columns := F_are_columns.binds (ps := ["thing"]) fun _ _ _ _ _ _ us hl => match us, hl with | [_], _ => rfl
  have N_are_columns : Fn K mg "are_columns" s_are ["thing"] f_are_columns _ := ⟨F_are_columns, PySem.W.mg_of X G a_are_columns, b_are_columns⟩
  have F_is_row := fun_mk (st := s_is_row) l_is_row o_is_row k_is_row
  have b_is_row := F_is_row.binds (ps := ["thing", "many"]) fun _ _ _ _ _ _ us hl => match us, hl with | [_, _], _ => rfl
  have N_is_row : Fn K mg "is_row" s_is_row ["thing", "many"] f_is_row _ := ⟨F_is_row, PySem.W.mg_of X G a_is_row, b_is_row⟩
  have F_fits := fun_mk (st := s_fits) l_fits o_fits k_fits
  have b_fits := F_fits.binds (ps := ["tree", "tables"]) fun _ _ _ _ _ _ us hl => match us, hl with | [_, _], _ => rfl
  have N_fits : Fn K mg "fits" s_fits ["tree", "tables"] f_fits _ := ⟨F_fits, PySem.W.mg_of X G a_fits, b_fits⟩
  have F__told_overs := fun_mk (st := s_told) l__told_overs o__told_overs k__told_overs
  have b__told_overs := F__told_overs.binds (ps := ["pairs"]) fun _ _ _ _ _ _ us hl => match us, hl with | [_], _ => rfl
  have N__told_overs : Fn K mg "_told_overs" s_told ["pairs"] f__told_overs _ := ⟨F__told_overs, PySem.W.mg_of X G a__told_overs, b__told_overs⟩
  have F__is_pair := fun_mk (st := s_is_pair) l__is_pair o__is_pair k__is_pair
  have b__is_pair := F__is_pair.binds (ps := ["thing", "overs"]) fun _ _ _ _ _ _ us hl => match us, hl with | [_, _], _ => rfl
  have N__is_pair : Fn K mg "_is_pair" s_is_pair ["thing", "overs"] f__is_pair _ := ⟨F__is_pair, PySem.W.mg_of X G a__is_pair, b__is_pair⟩
  have F__in_order := fun_mk (st := s_in_order) l__in_order o__in_order k__in_order
  have b__in_order := F__in_order.binds (ps := ["overs", "upper"]) fun _ _ _ _ _ _ us hl => match us, hl with | [_, _], _ => rfl
  have N__in_order : Fn K mg "_in_order" s_in_order ["overs", "upper"] f__in_order _ := ⟨F__in_order, PySem.W.mg_of X G a__in_order, b__in_order⟩
  have F__check_columns_in := fun_mk (st := s_ccin) l__check_columns_in o__check_columns_in k__check_columns_in
  have b__check_columns_in := F__check_columns_in.binds (ps := ["tree", "table"]) fun _ _ _ _ _ _ us hl => match us, hl with | [_, _], _ => rfl
  have N__check_columns_in : Fn K mg "_check_columns_in" s_ccin ["tree", "table"] f__check_columns_in _ := ⟨F__check_columns_in, PySem.W.mg_of X G a__check_columns_in, b__check_columns_in⟩
  have F__first_apart := fun_mk (st := s_apart) l__first_apart o__first_apart k__first_apart
  have b__first_apart := F__first_apart.binds (ps := ["tree", "columns"]) fun _ _ _ _ _ _ us hl => match us, hl with | [_, _], _ => rfl
  have N__first_apart : Fn K mg "_first_apart" s_apart ["tree", "columns"] f__first_apart _ := ⟨F__first_apart, PySem.W.mg_of X G a__first_apart, b__first_apart⟩
  have F_keys_along := fun_mk (st := s_along) l_keys_along o_keys_along k_keys_along
  have b_keys_along := F_keys_along.binds (ps := ["tables", "tree", "column"]) fun _ _ _ _ _ _ us hl => match us, hl with | [_, _, _], _ => rfl
  have N_keys_along : Fn K mg "keys_along" s_along ["tables", "tree", "column"] f_keys_along _ := ⟨F_keys_along, PySem.W.mg_of X G a_keys_along, b_keys_along⟩
  have F_keys_of := fun_mk (st := s_keysof) l_keys_of o_keys_of k_keys_of
  have b_keys_of := F_keys_of.binds (ps := ["tables", "tree", "column"]) fun _ _ _ _ _ _ us hl => match us, hl with | [_, _, _], _ => rfl
  have N_keys_of : Fn K mg "keys_of" s_keysof ["tables", "tree", "column"] f_keys_of _ := ⟨F_keys_of, PySem.W.mg_of X G a_keys_of, b_keys_of⟩
  have F__check_fit := fun_mk (st := s_checkfit) l__check_fit o__check_fit k__check_fit
  have b__check_fit := F__check_fit.binds (ps := ["tables", "tree"]) fun _ _ _ _ _ _ us hl => match us, hl with | [_, _], _ => rfl
  have N__check_fit : Fn K mg "_check_fit" s_checkfit ["tables", "tree"] f__check_fit _ := ⟨F__check_fit, PySem.W.mg_of X G a__check_fit, b__check_fit⟩
  have F__check_columns := fun_mk (st := s_cc) l__check_columns o__check_columns k__check_columns
  have b__check_columns := F__check_columns.binds (ps := ["columns"]) fun _ _ _ _ _ _ us hl => match us, hl with | [_], _ => rfl
  have N__check_columns : Fn K mg "_check_columns" s_cc ["columns"] f__check_columns _ := ⟨F__check_columns, PySem.W.mg_of X G a__check_columns, b__check_columns⟩
  have F__sorted_rows := fun_mk (st := s_sorted) l__sorted_rows o__sorted_rows k__sorted_rows
  have b__sorted_rows := F__sorted_rows.binds (ps := ["rows", "many"]) fun _ _ _ _ _ _ us hl => match us, hl with | [_, _], _ => rfl
  have N__sorted_rows : Fn K mg "_sorted_rows" s_sorted ["rows", "many"] f__sorted_rows _ := ⟨F__sorted_rows, PySem.W.mg_of X G a__sorted_rows, b__sorted_rows⟩
  have F__law_cell_at := fun_mk (st := s_cell) l__law_cell_at o__law_cell_at k__law_cell_at
  have b__law_cell_at := F__law_cell_at.binds (ps := ["_law_script", "_law_k"]) fun _ _ _ _ _ _ us hl => match us, hl with | [_, _], _ => rfl
  have N__law_cell_at : Fn K mg "_law_cell_at" s_cell ["_law_script", "_law_k"] f__law_cell_at _ := ⟨F__law_cell_at, PySem.W.mg_of X G a__law_cell_at, b__law_cell_at⟩
  have F__law_well := fun_mk (st := s_well) l__law_well o__law_well k__law_well
  have b__law_well := F__law_well.binds (ps := ["_law_cell"]) fun _ _ _ _ _ _ us hl => match us, hl with | [_], _ => rfl
  have N__law_well : Fn K mg "_law_well" s_well ["_law_cell"] f__law_well _ := ⟨F__law_well, PySem.W.mg_of X G a__law_well, b__law_well⟩
  have F__law_draw := fun_mk (st := s_draw) l__law_draw o__law_draw k__law_draw
  have b__law_draw := F__law_draw.binds (ps := ["_law_well_here", "_law_many"]) fun _ _ _ _ _ _ us hl => match us, hl with | [_, _], _ => rfl
  have N__law_draw : Fn K mg "_law_draw" s_draw ["_law_well_here", "_law_many"] f__law_draw _ := ⟨F__law_draw, PySem.W.mg_of X G a__law_draw, b__law_draw⟩
  have F__law_one := fun_mk (st := s_one) l__law_one o__law_one k__law_one
  have b__law_one := F__law_one.binds (ps := ["_law_well_here", "_law_some"]) fun _ _ _ _ _ _ us hl => match us, hl with | [_, _], _ => rfl
  have N__law_one : Fn K mg "_law_one" s_one ["_law_well_here", "_law_some"] f__law_one _ := ⟨F__law_one, PySem.W.mg_of X G a__law_one, b__law_one⟩
  have F__law_names := fun_mk (st := s_names) l__law_names o__law_names k__law_names
  have b__law_names := F__law_names.binds (ps := ["_law_well_here", "_law_many"]) fun _ _ _ _ _ _ us hl => match us, hl with | [_, _], _ => rfl
  have N__law_names : Fn K mg "_law_names" s_names ["_law_well_here", "_law_many"] f__law_names _ := ⟨F__law_names, PySem.W.mg_of X G a__law_names, b__law_names⟩
  have F__law_pairs := fun_mk (st := s_pairs) l__law_pairs o__law_pairs k__law_pairs
  have b__law_pairs := F__law_pairs.binds (ps := ["_law_well_here", "_law_many"]) fun _ _ _ _ _ _ us hl => match us, hl with | [_, _], _ => rfl
  have N__law_pairs : Fn K mg "_law_pairs" s_pairs ["_law_well_here", "_law_many"] f__law_pairs _ := ⟨F__law_pairs, PySem.W.mg_of X G a__law_pairs, b__law_pairs⟩
  have F__law_above := fun_mk (st := s_labove) l__law_above o__law_above k__law_above
  have b__law_above := F__law_above.binds (ps := ["_law_pairs_here", "_law_column"]) fun _ _ _ _ _ _ us hl => match us, hl with | [_, _], _ => rfl
  have N__law_above : Fn K mg "_law_above" s_labove ["_law_pairs_here", "_law_column"] f__law_above _ := ⟨F__law_above, PySem.W.mg_of X G a__law_above, b__law_above⟩
  have F__law_beneath := fun_mk (st := s_lbeneath) l__law_beneath o__law_beneath k__law_beneath
  have b__law_beneath := F__law_beneath.binds (ps := ["_law_pairs_here", "_law_column"]) fun _ _ _ _ _ _ us hl => match us, hl with | [_, _], _ => rfl
  have N__law_beneath : Fn K mg "_law_beneath" s_lbeneath ["_law_pairs_here", "_law_column"] f__law_beneath _ := ⟨F__law_beneath, PySem.W.mg_of X G a__law_beneath, b__law_beneath⟩
  have F__law_values := fun_mk (st := s_values) l__law_values o__law_values k__law_values
  have b__law_values := F__law_values.binds (ps := ["_law_well_here"]) fun _ _ _ _ _ _ us hl => match us, hl with | [_], _ => rfl
  have N__law_values : Fn K mg "_law_values" s_values ["_law_well_here"] f__law_values _ := ⟨F__law_values, PySem.W.mg_of X G a__law_values, b__law_values⟩
  have F__law_rows := fun_mk (st := s_rows) l__law_rows o__law_rows k__law_rows
  have b__law_rows := F__law_rows.binds (ps := ["_law_well_here", "_law_wide", "_law_values_here"]) fun _ _ _ _ _ _ us hl => match us, hl with | [_, _, _], _ => rfl
  have N__law_rows : Fn K mg "_law_rows" s_rows ["_law_well_here", "_law_wide", "_law_values_here"] f__law_rows _ := ⟨F__law_rows, PySem.W.mg_of X G a__law_rows, b__law_rows⟩
  have F__law_mixed_up := fun_mk (st := s_mixed) l__law_mixed_up o__law_mixed_up k__law_mixed_up
  have b__law_mixed_up := F__law_mixed_up.binds (ps := ["_law_well_here", "_law_some"]) fun _ _ _ _ _ _ us hl => match us, hl with | [_, _], _ => rfl
  have N__law_mixed_up : Fn K mg "_law_mixed_up" s_mixed ["_law_well_here", "_law_some"] f__law_mixed_up _ := ⟨F__law_mixed_up, PySem.W.mg_of X G a__law_mixed_up, b__law_mixed_up⟩
  have F__law_tables := fun_mk (st := s_tables) l__law_tables o__law_tables k__law_tables
  have b__law_tables := F__law_tables.binds (ps := ["_law_well_here", "_law_pairs_here"]) fun _ _ _ _ _ _ us hl => match us, hl with | [_, _], _ => rfl
  have N__law_tables : Fn K mg "_law_tables" s_tables ["_law_well_here", "_law_pairs_here"] f__law_tables _ := ⟨F__law_tables, PySem.W.mg_of X G a__law_tables, b__law_tables⟩
  have F__law_plain := fun_mk (st := s_plain) l__law_plain o__law_plain k__law_plain
  have b__law_plain := F__law_plain.binds (ps := ["_law_tables_here", "_law_order"]) fun _ _ _ _ _ _ us hl => match us, hl with | [_, _], _ => rfl
  have N__law_plain : Fn K mg "_law_plain" s_plain ["_law_tables_here", "_law_order"] f__law_plain _ := ⟨F__law_plain, PySem.W.mg_of X G a__law_plain, b__law_plain⟩
  have F__law_made := fun_mk (st := s_made) l__law_made o__law_made k__law_made
  have b__law_made := F__law_made.binds (ps := ["_law_tables_here"]) fun _ _ _ _ _ _ us hl => match us, hl with | [_], _ => rfl
  have N__law_made : Fn K mg "_law_made" s_made ["_law_tables_here"] f__law_made _ := ⟨F__law_made, PySem.W.mg_of X G a__law_made, b__law_made⟩
  have F__law_due := fun_mk (st := s_due) l__law_due o__law_due k__law_due
  have b__law_due := F__law_due.binds (ps := ["_law_pairs_here", "_law_tables_here", "_law_column"]) fun _ _ _ _ _ _ us hl => match us, hl with | [_, _, _], _ => rfl
  have N__law_due : Fn K mg "_law_due" s_due ["_law_pairs_here", "_law_tables_here", "_law_column"] f__law_due _ := ⟨F__law_due, PySem.W.mg_of X G a__law_due, b__law_due⟩
  have F__law_exchanged := fun_mk (st := s_exch) l__law_exchanged o__law_exchanged k__law_exchanged
  have b__law_exchanged := F__law_exchanged.binds (ps := ["_law_pairs_here", "_law_order", "_law_rows_here", "_law_column", "_law_keys"]) fun _ _ _ _ _ _ us hl => match us, hl with | [_, _, _, _, _], _ => rfl
  have N__law_exchanged : Fn K mg "_law_exchanged" s_exch ["_law_pairs_here", "_law_order", "_law_rows_here", "_law_column", "_law_keys"] f__law_exchanged _ := ⟨F__law_exchanged, PySem.W.mg_of X G a__law_exchanged, b__law_exchanged⟩
  have F_law := fun_mk (st := s_law) l_law o_law k_law
  have b_law := F_law.binds (ps := ["_law_script"]) fun _ _ _ _ _ _ us hl => match us, hl with | [_], _ => rfl
  have N_law : Fn K mg "law" s_law ["_law_script"] fa _ := ⟨F_law, PySem.W.mg_of X G a_law, b_law⟩
  have F_Tree___init__ := fun_mk (st := s_tinit) l_Tree___init__ o_Tree___init__ k_Tree___init__
  have b_Tree___init__ := F_Tree___init__.binds (ps := ["self", "pairs"]) fun _ _ _ _ _ _ us hl => match us, hl with | [_, _], _ => rfl
  have M_Tree___init__ : Mt K c_Tree "__init__" "Tree.__init__" s_tinit ["self", "pairs"] f_Tree___init__ _ := ⟨F_Tree___init__, ⟨a_Tree___init__, i_Tree___init__, k_Tree___init__⟩, b_Tree___init__⟩
  have F_Tree_columns := fun_mk (st := s_tcolumns) l_Tree_columns o_Tree_columns k_Tree_columns
  have b_Tree_columns := F_Tree_columns.binds (ps := ["self"]) fun _ _ _ _ _ _ us hl => match us, hl with | [_], _ => rfl
  have M_Tree_columns : Mt K c_Tree "columns" "Tree.columns" s_tcolumns ["self"] f_Tree_columns _ := ⟨F_Tree_columns, ⟨a_Tree_columns, i_Tree_columns, k_Tree_columns⟩, b_Tree_columns⟩
  have F_Tree_above := fun_mk (st := s_tabove) l_Tree_above o_Tree_above k_Tree_above
  have b_Tree_above := F_Tree_above.binds (ps := ["self", "column"]) fun _ _ _ _ _ _ us hl => match us, hl with | [_, _], _ => rfl
  have M_Tree_above : Mt K c_Tree "above" "Tree.above" s_tabove ["self", "column"] f_Tree_above _ := ⟨F_Tree_above, ⟨a_Tree_above, i_Tree_above, k_Tree_above⟩, b_Tree_above⟩
  have F_Tree_beneath := fun_mk (st := s_tbeneath) l_Tree_beneath o_Tree_beneath k_Tree_beneath
  have b_Tree_beneath := F_Tree_beneath.binds (ps := ["self", "column"]) fun _ _ _ _ _ _ us hl => match us, hl with | [_, _], _ => rfl
  have M_Tree_beneath : Mt K c_Tree "beneath" "Tree.beneath" s_tbeneath ["self", "column"] f_Tree_beneath _ := ⟨F_Tree_beneath, ⟨a_Tree_beneath, i_Tree_beneath, k_Tree_beneath⟩, b_Tree_beneath⟩
  have F_Tree_is_above := fun_mk (st := s_tisabove) l_Tree_is_above o_Tree_is_above k_Tree_is_above
  have b_Tree_is_above := F_Tree_is_above.binds (ps := ["self", "one", "other"]) fun _ _ _ _ _ _ us hl => match us, hl with | [_, _, _], _ => rfl
  have M_Tree_is_above : Mt K c_Tree "is_above" "Tree.is_above" s_tisabove ["self", "one", "other"] f_Tree_is_above _ := ⟨F_Tree_is_above, ⟨a_Tree_is_above, i_Tree_is_above, k_Tree_is_above⟩, b_Tree_is_above⟩
  have F_Tree_check_column := fun_mk (st := s_tcheck) l_Tree_check_column o_Tree_check_column k_Tree_check_column
  have b_Tree_check_column := F_Tree_check_column.binds (ps := ["self", "column"]) fun _ _ _ _ _ _ us hl => match us, hl with | [_, _], _ => rfl
  have M_Tree_check_column : Mt K c_Tree "check_column" "Tree.check_column" s_tcheck ["self", "column"] f_Tree_check_column _ := ⟨F_Tree_check_column, ⟨a_Tree_check_column, i_Tree_check_column, k_Tree_check_column⟩, b_Tree_check_column⟩
  have F_Tree___eq__ := fun_mk (st := s_teq) l_Tree___eq__ o_Tree___eq__ k_Tree___eq__
  have b_Tree___eq__ := F_Tree___eq__.binds (ps := ["self", "other"]) fun _ _ _ _ _ _ us hl => match us, hl with | [_, _], _ => rfl
  have M_Tree___eq__ : Mt K c_Tree "__eq__" "Tree.__eq__" s_teq ["self", "other"] f_Tree___eq__ _ := ⟨F_Tree___eq__, ⟨a_Tree___eq__, i_Tree___eq__, k_Tree___eq__⟩, b_Tree___eq__⟩
  have F_Table_columns := fun_mk (st := s_bcolumns) l_Table_columns o_Table_columns k_Table_columns
  have b_Table_columns := F_Table_columns.binds (ps := ["self"]) fun _ _ _ _ _ _ us hl => match us, hl with | [_], _ => rfl
  have M_Table_columns : Mt K c_Table "columns" "Table.columns" s_bcolumns ["self"] f_Table_columns _ := ⟨F_Table_columns, ⟨a_Table_columns, i_Table_columns, k_Table_columns⟩, b_Table_columns⟩
  have F_NoColumn___init__ := fun_mk (st := s_nocol) l_NoColumn___init__ o_NoColumn___init__ k_NoColumn___init__
  have b_NoColumn___init__ := F_NoColumn___init__.binds (ps := ["self", "name"]) fun _ _ _ _ _ _ us hl => match us, hl with | [_, _], _ => rfl
  have F_Table___init__ : FunD K "__init__" "Table.__init__" (defArgs s_binit) (defBody s_binit) (defScope s_binit) [.non] [] f_Table___init__ _ := ⟨⟨_, _, _, _, _, _, _, _, _, _, rfl, l_Table___init__, o_Table___init__, .inr ⟨(fun z => nomatch z), d_Table___init__, _, [.none], _, rfl, d1_Table___init__, rfl, .cons rfl .nil⟩, .inl rfl⟩, k_Table___init__⟩
  have B : Bn mg := ⟨PySem.W.mg_none_of X G z_len, PySem.W.mg_none_of X G z_isi, PySem.W.mg_none_of X G z_str, PySem.W.mg_none_of X G z_list, PySem.W.mg_none_of X G z_tuple, PySem.W.mg_none_of X G z_dict, PySem.W.mg_none_of X G z_int, PySem.W.mg_none_of X G z_range, PySem.W.mg_none_of X G z_enum, PySem.W.mg_none_of X G z_all, PySem.W.mg_none_of X G z_any, PySem.W.mg_none_of X G z_max, PySem.W.mg_none_of X G z_sorted⟩
  have Tk : Kt K mg f_is_whole f_is_name f_are_columns f_is_row f__check_columns f__sorted_rows _ _ _ _ _ _ := ⟨B, ⟨⟨_, PySem.W.mg_of X G g_longest⟩, ⟨_, PySem.W.mg_of X G g_most⟩⟩, PySem.W.mg_none_of X G zset, PySem.W.mg_none_of X G zbool, N_is_whole, N_is_name, N_are_columns, N_is_row, N__check_columns, N__sorted_rows⟩
  have Ck : Bc K mg c_Table := ⟨⟨pg_Table, hd_Table, po_Table, sa_Table⟩, n_Table_columns, n_Table_rows, PySem.W.mg_of X G a_Table, ⟨ha_Table, hn, ht, hm_Table, me_Table⟩⟩
  have Ik : Im K mg c_Table f_Table___init__ _ := ⟨F_Table___init__, ⟨mk_Table, a_Table___init__, i_Table___init__, kc_Table⟩, by
        obtain ⟨ds, h1, h2⟩ := F_Table___init__.binds1 (ps := ["self", "columns", "rows"]) 3 1 (by simp) rfl (fun _ _ _ _ _ _ _ us its l1 l2 => match us, its, l1, l2 with | [_, _, _], [_], _, _ => ⟨_, rfl, rfl⟩)
        cases h1
        exact h2⟩
  have Kk : T33T.Kd K mg f_is_name f_is_name_in f__is_pair f__told_overs f__in_order _ _ _ _ _ := ⟨B, ⟨⟨_, PySem.W.mg_of X G g_longest⟩, ⟨_, PySem.W.mg_of X G g_most⟩⟩, N_is_name, N_is_name_in, N__is_pair, N__told_overs, N__in_order⟩
  have ck : Tc K mg c_Tree := ⟨⟨pg_Tree, hd_Tree, po_Tree, sa_Tree⟩, n_Tree_columns, n_Tree_over, PySem.W.mg_of X G a_Tree, ⟨ha_Tree, hn, ht, hm_Tree, me_Tree⟩⟩
  have Dk : Tt K mg c_Tree f_Tree___init__ f_Tree___eq__ _ _ := ⟨ck, F_Tree___init__, ⟨mk_Tree, a_Tree___init__, i_Tree___init__, kc_Tree⟩, b_Tree___init__, M_Tree___eq__, nT, hm_Tree, by unfold PySem.W.notFirst; simp⟩
  have cb : T33T.Bc K mg c_Table := ⟨⟨pg_Table, hd_Table, po_Table, sa_Table⟩, n_Table_columns, n_Table_rows, PySem.W.mg_of X G a_Table⟩
  have Nk : T33T.Nt K mg c_NoColumn f_NoColumn___init__ _ := ⟨⟨oexB_ok oxNoColumn, sxNoColumn, bxNoColumn, txNoColumn, kxNoColumn⟩, a_NoColumn___init__, y_NoColumn___init__, F_NoColumn___init__, b_NoColumn___init__, PySem.W.mg_of X G a_NoColumn, nxNoColumn⟩
  have Fk : T33T.Fd K mg c_Tree c_Table c_NoColumn f_NoColumn___init__ f_Tree_columns f_Table_columns f_Tree_check_column f_Tree_above f_Tree_is_above f__check_columns_in f__first_apart _ _ _ _ _ _ _ _ := ⟨Nk, M_Tree_columns, M_Table_columns, M_Tree_check_column, M_Tree_above, M_Tree_is_above, N__check_columns_in, N__first_apart⟩
  have Lk : Ld K mg f__law_cell_at f__law_well f__law_draw f__law_one f__law_names f__law_pairs f__law_above f__law_beneath f__law_values f__law_rows f__law_mixed_up f__law_tables f__law_plain f__law_made f__law_due f__law_exchanged _ _ _ _ _ _ _ _ _ _ _ _ _ _ _ _ := ⟨N__law_cell_at, N__law_well, N__law_draw, N__law_one, N__law_names, N__law_pairs, N__law_above, N__law_beneath, N__law_values, N__law_rows, N__law_mixed_up, N__law_tables, N__law_plain, N__law_made, N__law_due, N__law_exchanged, PySem.W.mg_none_of X G z_max, PySem.W.mg_none_of X G zzip⟩
  exact ⟨PySem.W.fnOf "law" "law" (defArgs s_law) (defBody s_law) (defScope s_law) .none kV33 dc33 pm33 an33 cd33 ct33, fun s v => .of_eq rfl, fun base _ _ => ok_law N_law Lk Tk Ck Ik Kk Dk cb Fk M_Tree_beneath N_keys_of N__check_fit N_keys_along N_fits⟩
end T33
open PySem PySem.W PyProof.Rows
set_option maxRecDepth 100000 in
set_option maxHeartbeats 0 in
theorem PySem.Challenge.cw_foldbough_k33_what_parts_hang_on_holds : PySem.Challenge.rw_foldbough_k33_what_parts_hang_on.Holds := by
  w_on; o_law; k_head; (case hw => w_witness2)
  k_fill
  refine L2.walk_of (l := PySem.Challenge.rw_foldbough_k33_what_parts_hang_on) (n := 63) (k := 12) (x := "_law_script") (CX := fun _ => L2.CX0) (sp := fun w => T33.sp_law (_)) rfl (by decide) rfl ⟨rfl, by decide, by decide⟩ (fun w h Y => PySem.W.kIn_of Y) ?F (fun _ _ a ns hl _ hS => ⟨a, ns, rfl, hS, hl, fun _ => rfl⟩) (fun _ _ _ _ _ z => z)
  case F =>
    intro w mg fa h KX G hmg
    refine' T33.all_mk KX G hmg ?a_is_whole ?l_is_whole ?o_is_whole ?k_is_whole ?a_is_name ?l_is_name ?o_is_name ?k_is_name ?a_is_name_in ?l_is_name_in ?o_is_name_in ?k_is_name_in ?a_are_columns ?l_are_columns ?o_are_columns ?k_are_columns ?a_is_row ?l_is_row ?o_is_row ?k_is_row ?a_fits ?l_fits ?o_fits ?k_fits ?a__told_overs ?l__told_overs ?o__told_overs ?k__told_overs ?a__is_pair ?l__is_pair ?o__is_pair ?k__is_pair ?a__in_order ?l__in_order ?o__in_order ?k__in_order ?a__check_columns_in ?l__check_columns_in ?o__check_columns_in ?k__check_columns_in ?a__first_apart ?l__first_apart ?o__first_apart ?k__first_apart ?a_keys_along ?l_keys_along ?o_keys_along ?k_keys_along ?a_keys_of ?l_keys_of ?o_keys_of ?k_keys_of ?a__check_fit ?l__check_fit ?o__check_fit ?k__check_fit ?a__check_columns ?l__check_columns ?o__check_columns ?k__check_columns ?a__sorted_rows ?l__sorted_rows ?o__sorted_rows ?k__sorted_rows ?a__law_cell_at ?l__law_cell_at ?o__law_cell_at ?k__law_cell_at ?a__law_well ?l__law_well ?o__law_well ?k__law_well ?a__law_draw ?l__law_draw ?o__law_draw ?k__law_draw ?a__law_one ?l__law_one ?o__law_one ?k__law_one ?a__law_names ?l__law_names ?o__law_names ?k__law_names ?a__law_pairs ?l__law_pairs ?o__law_pairs ?k__law_pairs ?a__law_above ?l__law_above ?o__law_above ?k__law_above ?a__law_beneath ?l__law_beneath ?o__law_beneath ?k__law_beneath ?a__law_values ?l__law_values ?o__law_values ?k__law_values ?a__law_rows ?l__law_rows ?o__law_rows ?k__law_rows ?a__law_mixed_up ?l__law_mixed_up ?o__law_mixed_up ?k__law_mixed_up ?a__law_tables ?l__law_tables ?o__law_tables ?k__law_tables ?a__law_plain ?l__law_plain ?o__law_plain ?k__law_plain ?a__law_made ?l__law_made ?o__law_made ?k__law_made ?a__law_due ?l__law_due ?o__law_due ?k__law_due ?a__law_exchanged ?l__law_exchanged ?o__law_exchanged ?k__law_exchanged ?a_law ?l_law ?o_law ?k_law ?a_Tree ?a_Tree___init__ ?i_Tree___init__ ?l_Tree___init__ ?o_Tree___init__ ?k_Tree___init__ ?a_Tree_columns ?i_Tree_columns ?l_Tree_columns ?o_Tree_columns ?k_Tree_columns ?a_Tree_above ?i_Tree_above ?l_Tree_above ?o_Tree_above ?k_Tree_above ?a_Tree_beneath ?i_Tree_beneath ?l_Tree_beneath ?o_Tree_beneath ?k_Tree_beneath ?a_Tree_is_above ?i_Tree_is_above ?l_Tree_is_above ?o_Tree_is_above ?k_Tree_is_above ?a_Tree_check_column ?i_Tree_check_column ?l_Tree_check_column ?o_Tree_check_column ?k_Tree_check_column ?a_Tree___eq__ ?i_Tree___eq__ ?l_Tree___eq__ ?o_Tree___eq__ ?k_Tree___eq__ ?pg_Tree ?hd_Tree ?po_Tree ?sa_Tree ?mk_Tree ?kc_Tree ?ha_Tree ?hm_Tree ?me_Tree ?n_Tree_columns ?n_Tree_over ?a_Table ?a_Table_columns ?i_Table_columns ?l_Table_columns ?o_Table_columns ?k_Table_columns ?pg_Table ?hd_Table ?po_Table ?sa_Table ?mk_Table ?kc_Table ?ha_Table ?hm_Table ?me_Table ?n_Table_columns ?n_Table_rows ?a_Table___init__ ?i_Table___init__ ?l_Table___init__ ?d1_Table___init__ ?o_Table___init__ ?k_Table___init__ ?hn ?ht ?a_FoldError ?a_NoColumn ?a_NoColumn___init__ ?l_NoColumn___init__ ?o_NoColumn___init__ ?k_NoColumn___init__ ?y_NoColumn___init__ ?g_longest ?g_most ?z_len ?z_isi ?z_str ?z_list ?z_tuple ?z_dict ?z_int ?z_range ?z_enum ?z_all ?z_any ?z_max ?z_sorted ?oxNoColumn ?sxNoColumn ?kxNoColumn ?bxNoColumn ?txNoColumn ?nxNoColumn ?snfNoColumn ?xgNoColumn ?xkNoColumn ?xdNoColumn ?xaNoColumn ?xmNoColumn ?zbool ?zset ?zzip ?nT
    (case a_is_whole => k_is)
    (case l_is_whole => k_is)
    (case o_is_whole => k_is)
    (case k_is_whole => k_is)
    (case a_is_name => k_is)
    (case l_is_name => k_is)
    (case o_is_name => k_is)
    (case k_is_name => k_is)
    (case a_is_name_in => k_is)
    (case l_is_name_in => k_is)
    (case o_is_name_in => k_is)
    (case k_is_name_in => k_is)
    (case a_are_columns => k_is)
    (case l_are_columns => k_is)
    (case o_are_columns => k_is)
    (case k_are_columns => k_is)
    (case a_is_row => k_is)
    (case l_is_row => k_is)
    (case o_is_row => k_is)
    (case k_is_row => k_is)
    (case a_fits => k_is)
    (case l_fits => k_is)
    (case o_fits => k_is)
    (case k_fits => k_is)
    (case a__told_overs => k_is)
    (case l__told_overs => k_is)
    (case o__told_overs => k_is)
    (case k__told_overs => k_is)
    (case a__is_pair => k_is)
    (case l__is_pair => k_is)
    (case o__is_pair => k_is)
    (case k__is_pair => k_is)
    (case a__in_order => k_is)
    (case l__in_order => k_is)
    (case o__in_order => k_is)
    (case k__in_order => k_is)
    (case a__check_columns_in => k_is)
    (case l__check_columns_in => k_is)
    (case o__check_columns_in => k_is)
    (case k__check_columns_in => k_is)
    (case a__first_apart => k_is)
    (case l__first_apart => k_is)
    (case o__first_apart => k_is)
    (case k__first_apart => k_is)
    (case a_keys_along => k_is)
    (case l_keys_along => k_is)
    (case o_keys_along => k_is)
    (case k_keys_along => k_is)
    (case a_keys_of => k_is)
    (case l_keys_of => k_is)
    (case o_keys_of => k_is)
    (case k_keys_of => k_is)
    (case a__check_fit => k_is)
    (case l__check_fit => k_is)
    (case o__check_fit => k_is)
    (case k__check_fit => k_is)
    (case a__check_columns => k_is)
    (case l__check_columns => k_is)
    (case o__check_columns => k_is)
    (case k__check_columns => k_is)
    (case a__sorted_rows => k_is)
    (case l__sorted_rows => k_is)
    (case o__sorted_rows => k_is)
    (case k__sorted_rows => k_is)
    (case a__law_cell_at => k_is)
    (case l__law_cell_at => k_is)
    (case o__law_cell_at => k_is)
    (case k__law_cell_at => k_is)
    (case a__law_well => k_is)
    (case l__law_well => k_is)
    (case o__law_well => k_is)
    (case k__law_well => k_is)
    (case a__law_draw => k_is)
    (case l__law_draw => k_is)
    (case o__law_draw => k_is)
    (case k__law_draw => k_is)
    (case a__law_one => k_is)
    (case l__law_one => k_is)
    (case o__law_one => k_is)
    (case k__law_one => k_is)
    (case a__law_names => k_is)
    (case l__law_names => k_is)
    (case o__law_names => k_is)
    (case k__law_names => k_is)
    (case a__law_pairs => k_is)
    (case l__law_pairs => k_is)
    (case o__law_pairs => k_is)
    (case k__law_pairs => k_is)
    (case a__law_above => k_is)
    (case l__law_above => k_is)
    (case o__law_above => k_is)
    (case k__law_above => k_is)
    (case a__law_beneath => k_is)
    (case l__law_beneath => k_is)
    (case o__law_beneath => k_is)
    (case k__law_beneath => k_is)
    (case a__law_values => k_is)
    (case l__law_values => k_is)
    (case o__law_values => k_is)
    (case k__law_values => k_is)
    (case a__law_rows => k_is)
    (case l__law_rows => k_is)
    (case o__law_rows => k_is)
    (case k__law_rows => k_is)
    (case a__law_mixed_up => k_is)
    (case l__law_mixed_up => k_is)
    (case o__law_mixed_up => k_is)
    (case k__law_mixed_up => k_is)
    (case a__law_tables => k_is)
    (case l__law_tables => k_is)
    (case o__law_tables => k_is)
    (case k__law_tables => k_is)
    (case a__law_plain => k_is)
    (case l__law_plain => k_is)
    (case o__law_plain => k_is)
    (case k__law_plain => k_is)
    (case a__law_made => k_is)
    (case l__law_made => k_is)
    (case o__law_made => k_is)
    (case k__law_made => k_is)
    (case a__law_due => k_is)
    (case l__law_due => k_is)
    (case o__law_due => k_is)
    (case k__law_due => k_is)
    (case a__law_exchanged => k_is)
    (case l__law_exchanged => k_is)
    (case o__law_exchanged => k_is)
    (case k__law_exchanged => k_is)
    (case a_law => k_is)
    (case l_law => k_is)
    (case o_law => k_is)
    (case k_law => k_is)
    (case a_Tree => k_is)
    (case a_Tree___init__ => k_is)
    (case i_Tree___init__ => k_is)
    (case l_Tree___init__ => k_is)
    (case o_Tree___init__ => k_is)
    (case k_Tree___init__ => k_is)
    (case a_Tree_columns => k_is)
    (case i_Tree_columns => k_is)
    (case l_Tree_columns => k_is)
    (case o_Tree_columns => k_is)
    (case k_Tree_columns => k_is)
    (case a_Tree_above => k_is)
    (case i_Tree_above => k_is)
    (case l_Tree_above => k_is)
    (case o_Tree_above => k_is)
    (case k_Tree_above => k_is)
    (case a_Tree_beneath => k_is)
    (case i_Tree_beneath => k_is)
    (case l_Tree_beneath => k_is)
    (case o_Tree_beneath => k_is)
    (case k_Tree_beneath => k_is)
    (case a_Tree_is_above => k_is)
    (case i_Tree_is_above => k_is)
    (case l_Tree_is_above => k_is)
    (case o_Tree_is_above => k_is)
    (case k_Tree_is_above => k_is)
    (case a_Tree_check_column => k_is)
    (case i_Tree_check_column => k_is)
    (case l_Tree_check_column => k_is)
    (case o_Tree_check_column => k_is)
    (case k_Tree_check_column => k_is)
    (case a_Tree___eq__ => k_is)
    (case i_Tree___eq__ => k_is)
    (case l_Tree___eq__ => k_is)
    (case o_Tree___eq__ => k_is)
    (case k_Tree___eq__ => k_is)
    (case pg_Tree => k_is)
    (case hd_Tree => k_is)
    (case po_Tree => k_is)
    (case sa_Tree => k_is)
    (case mk_Tree => k_is)
    (case kc_Tree => k_is)
    (case ha_Tree => k_is)
    (case hm_Tree => k_is)
    (case me_Tree => kit_is)
    (case n_Tree_columns => k_is)
    (case n_Tree_over => k_is)
    (case a_Table => k_is)
    (case a_Table_columns => k_is)
    (case i_Table_columns => k_is)
    (case l_Table_columns => k_is)
    (case o_Table_columns => k_is)
    (case k_Table_columns => k_is)
    (case pg_Table => k_is)
    (case hd_Table => k_is)
    (case po_Table => k_is)
    (case sa_Table => k_is)
    (case mk_Table => k_is)
    (case kc_Table => k_is)
    (case ha_Table => k_is)
    (case hm_Table => k_is)
    (case me_Table => kit_is)
    (case n_Table_columns => k_is)
    (case n_Table_rows => k_is)
    (case a_Table___init__ => k_is)
    (case i_Table___init__ => k_is)
    (case l_Table___init__ => k_is)
    (case d1_Table___init__ => k_is)
    (case o_Table___init__ => k_is)
    (case k_Table___init__ => k_is)
    (case hn => k_is)
    (case ht => k_is)
    (case a_FoldError => k_is)
    (case a_NoColumn => k_is)
    (case a_NoColumn___init__ => k_is)
    (case l_NoColumn___init__ => k_is)
    (case o_NoColumn___init__ => k_is)
    (case k_NoColumn___init__ => k_is)
    (case y_NoColumn___init__ => k_is)
    (case g_longest => k_is)
    (case g_most => k_is)
    (case z_len => k_is)
    (case z_isi => k_is)
    (case z_str => k_is)
    (case z_list => k_is)
    (case z_tuple => k_is)
    (case z_dict => k_is)
    (case z_int => k_is)
    (case z_range => k_is)
    (case z_enum => k_is)
    (case z_all => k_is)
    (case z_any => k_is)
    (case z_max => k_is)
    (case z_sorted => k_is)
    (case oxNoColumn => first | decide +kernel | rfl)
    (case sxNoColumn => k_is)
    (case kxNoColumn => k_is)
    (case bxNoColumn => k_is)
    (case txNoColumn => k_is)
    (case nxNoColumn => k_is)
    (case snfNoColumn => k_is)
    (case xgNoColumn => k_is)
    (case xkNoColumn => k_is)
    (case xdNoColumn => k_is)
    (case xaNoColumn => k_is)
    (case xmNoColumn => k_is)
    (case zbool => k_is)
    (case zset => k_is)
    (case zzip => k_is)
    (case nT => k_is)

