import PyProof.Rows.All
import Wide.All
import OpenK.AllK
import Wide.FinOn
import PyProof.EqAt
import PyProof.EqKinds
import PyProof.TupleCall
import Open.SpecLaws
import KE.OsGo
import PySem.Challenge.RW_anyworths_k18_whole_pools_from_count_to
import HandS.ForMost
import HandS.ForExc
import HandS.TryMany
import HandS.ExcInit
import HandS.ExcField
import HandS.Wide
import HandS.IsInst
import HandS.Defaults
import HandS.Small
import HandS.SlotsOwn
import HandS.SetFor
import KE.GoesMore
import KE.GoesEnum
import KE.SortCalls
import PyProof.InstEq
import PyProof.TupleOfSeq
import PyProof.SumWalkG
import PyProof.WalkInts
import PyProof.Rows.SortShellAny
import PyProof.Rows.SortWalk
import KE.OsSort
import OpenK.KEqL
set_option Elab.async false
set_option linter.all false
set_option maxRecDepth 100000
set_option maxHeartbeats 4000000
/-! ## The general part: several except clauses with and without a name, own errors, defs as they stand behind the top -/
namespace Gen
open PySem PySem.Spec PyProof.Rows L2
/-- a suite's reading: the exception's place, its class, its dict -/
abbrev SU := Addr → Value → Option Addr → TS
/-- what follows a suite that has named its exception: the name's slot is empty again -/
def Ends.off (D : Ends) (i : Nat) : Ends :=
  { nx := fun z h => D.nx (z.set i none) h, rt := D.rt, bk := fun z h => D.bk (z.set i none) h, ct := fun z h => D.ct (z.set i none) h }
def suiteOf (D : Ends) (o : Option Nat) (t : SU) (a : Addr) (c : Value) (d : Option Addr) (z : L2.St) (h : Hp) : Prop :=
  match o with
  | none => t a c d D z h
  | some i => t a c d (Ends.off D i) (z.set i (some (.ref a))) h
/-- what the clauses wish, one behind the other -/
def wMix (K : PySem.W.Frag) (Wo : WX) (D : Ends) : List (Value × Option Nat × SU) → WX
  | [] => Wo
  | (c, o, t) :: rest => fun k d z h => ∃ yes, PySem.W.exmOne K k c = some yes ∧ (yes = true → ∀ a, h a = none → suiteOf D o t a k d z h) ∧ (yes = false → wMix K Wo D rest k d z h)
inductive HdsX (X : Cx) : List ExceptHandler → List (Value × Option Nat × SU) → Prop
  | nil : HdsX X [] []
  | one {x : Str} {c : Value} {t : SU} {b : Stmt} {bs : List Stmt} {p1 p2 : Pos} {hs : List ExceptHandler} {l : List (Value × Option Nat × SU)} (nm : Names X x c)
      (su : ∀ (a : Addr) (oe : Obj) (k : Value) (d : Option Addr) (pn : List (Addr × Obj)), Zc k d oe → (∃ fs, oe.data = .fields fs) → PSs (X.suite a ((a, oe) :: pn)) (b :: bs) (t a k d))
      (r : HdsX X hs l) : HdsX X (.ExceptHandler (some (.Name x p1)) none (b :: bs) p2 :: hs) ((c, none, t) :: l)
  | asn {i : Nat} {n x : Str} {c : Value} {t : SU} {b : Stmt} {bs : List Stmt} {p1 p2 : Pos} {hs : List ExceptHandler} {l : List (Value × Option Nat × SU)} (nm : Names X x c)
      (nd : X.N.Nodup) (ni : X.N[i]? = some n) (nl : X.env.kindOf n = some .local)
      (su : ∀ (a : Addr) (oe : Obj) (k : Value) (d : Option Addr) (pn : List (Addr × Obj)), Zc k d oe → (∃ fs, oe.data = .fields fs) → PSs (X.suite a ((a, oe) :: pn)) (b :: bs) (t a k d))
      (r : HdsX X hs l) : HdsX X (.ExceptHandler (some (.Name x p1)) (some n) (b :: bs) p2 :: hs) ((c, some i, t) :: l)
section
variable {X : Cx} {body : List Stmt} {h1 : ExceptHandler} {hs : List ExceptHandler} {l : List (Value × Option Nat × SU)} {pos : Pos} {tb : WX → TS} {Wo : WX}
theorem ps_try_mix (est : X.stack = X.env :: X.outer) (efr : X.env.frame = some X.env.locals) (tkO : Takes X Wo)
    (hb : ∀ (W : WX) (pn : List (Addr × Obj)) (xe : Value → Shared → Prop), Takes (X.tr pn xe) W → PassesOwn (model X.prog X.w) X.A X.env xe → PSs (X.tr pn xe) body (tb W))
    (hh : HdsX X (h1 :: hs) l) : PS X (.Try body (h1 :: hs) [] [] pos) (fun D z h => tb (wMix X.K Wo D l) D z h) := by
  refine ⟨fun pins s z h D I red => ?_⟩
  have good := I.ok
  have efs : X.A.frames = some (X.env :: X.outer) := good.frames.trans (congrArg some est)
  refine wpAny_Try_except (wpAny_mono ((hb (wMix X.K Wo D l) (X.pn ++ pins) (fun e u1 => wpAny (model X.prog X.w) X.A (noteFrame e X.env) (fun _ u2 => wpAny (model X.prog X.w) X.A (setFlight e none) (fun _ u3 =>
    wpAny (model X.prog X.w) X.A (handleBy e X.env (h1 :: hs)) (SP X pins D) X.xe u3) X.xe u2) X.xe u1) (fun u u' air => ?_) PassesOwn.looking).run [] s z h D (I.toTry _) red) (fun fl u1 sp1 => ?_) (fun e u1 q => q))
  · obtain ⟨a, B, sI, pins2, z2, g2, k, d, rfl, J0, nb, up, sky0, na, os, ag, wish⟩ := air
    have J : Inv X pins z2 g2 sI := J0.ofTry good
    have sky : Sky B (X.env :: X.outer) a (Zc k d) X.env.locals u'.heap := est ▸ sky0
    show wpAny (model X.prog X.w) X.A (noteFrame (.ref a) X.env) _ _ _
    refine Sky.land Zc.steady efs efr sky fun hp3 fl3 up3 => ?_
    have J3 : Inv X pins z2 g2 { u' with heap := hp3 } := J.landed nb fl3.1 (up.trans up3) os ag
    obtain ⟨o3, fs3, e3, zc3, d3⟩ := fl3.there
    have offFr : ∀ {hp : Heap} {o : Obj} {fs : Array Value}, hp.FunFrames B (X.env :: X.outer) → hp.get? a = some o → o.data = .fields fs → a ∉ frs (X.env :: X.outer) := fun {hp o fs} ff eo dd hm => by
      obtain ⟨_, o', eo', nf⟩ := ff.mem hm
      cases eo.symm.trans eo'
      exact nf _ dd
    have nfr := offFr fl3.2.2.1 e3 d3
    have nL : a ≠ X.env.locals := fun q => nfr (List.mem_filterMap.mpr ⟨X.env, List.mem_cons_self, efr.trans (congrArg some q.symm)⟩)
    have nF : a ∉ X.fs := fun hm => by
      obtain ⟨en, hen, q⟩ := List.mem_filterMap.mp hm
      exact nfr (List.mem_filterMap.mpr ⟨en, List.mem_cons_of_mem _ hen, q⟩)
    have S3 := J3.suite e3 d3 na nL nF
    have looksT : PySem.W.Looks (model X.prog X.w) hp3 (typeOf (.ref a)) k := fun A Q E s kp q => wpAny_typeOf_ref (kp _ _ e3) (by rw [zc3.1]; exact q)
    have named : ∀ {x : Str} {c : Value} {np : Pos} {Q : Value → Shared → Prop} {E : Value → Shared → Prop}, Names X x c → Q c { u' with heap := hp3 } →
        wpAny (model X.prog X.w) (X.A.mark (some (.ref a))) (eval (.Name x np) X.env) Q E { u' with heap := hp3 } := fun {x c np Q E} nm q => by
      rcases nm with ⟨hg, hd, hm | ⟨hm, hv, hx⟩⟩
      · exact ld_glob (X := X.suite a ((a, o3) :: (X.pn ++ pins))) S3 hg hm q hd
      · exact ld_blt (X := X.suite a ((a, o3) :: (X.pn ++ pins))) S3 hg hm hv q hx hd
    have go : ∀ {hs' : List ExceptHandler} {l' : List (Value × Option Nat × SU)}, HdsX X hs' l' → wMix X.K Wo D l' k d z2 g2 →
        wpAny (model X.prog X.w) X.A (handleBy (.ref a) X.env hs') (SP X pins D) X.xe { u' with heap := hp3 } := by
      intro hs' l' hk
      induction hk with
      | nil =>
        intro wish
        refine wpAny_handleBy_nil ?_
        obtain ⟨q1, q2, q3, oe, fs, T, oT, ts', eo, zc, dd, one, more⟩ := id fl3
        unfold PySem.passOn
        refine wpAny_bind (wpAny_field eo dd one ?_)
        rw [if_neg (show ¬ ((Value.ref T == Value.none) = true) by simp)]
        have away : wpAny (model X.prog X.w) X.A (setFlight (.ref a) X.env.frame) (fun _ u4 => wpAny (model X.prog X.w) X.A (throw (.ref a) : Sem Flow) (SP X pins D) X.xe u4) X.xe { u' with heap := hp3 } := by
          rw [efr]
          refine HandSPX.setFlight_upZ fl3 fun hp4 sky4 up4 => wpAny_throw (tkO _ _ ?_)
          exact ⟨a, B, sI, pins, z2, g2, k, d, rfl, J, nb, (up.trans up3).trans up4, .inr (.inr (est ▸ sky4)), na, os, ag, wish⟩
        first
          | exact wpAny_bind (wpAny_pure (wpAny_bind away))
          | exact wpAny_bind away
      | @one x c t b bs p1 p2 hs2 l2 nm su r ih =>
        intro wish
        obtain ⟨yes, ex, wy, wn⟩ := wish
        refine wpAny_handleBy_cons (codeAny_handlers_test (named nm ((PySem.W.exm_one (M := model X.prog X.w) J3.kIn looksT ex).here ?_))) (by intro q; cases q)
        cases yes with
        | true =>
          refine codeAny_handlers_suite (HandSPX.lands_againZ fl3 fun hp4 fl4 up4 => ?_)
          have J4 : Inv X pins z2 g2 { u' with heap := hp4 } := J.landed nb fl4.1 ((up.trans up3).trans up4) os ag
          obtain ⟨o4, fs4, e4, zc4, d4⟩ := fl4.there
          refine wpAny_mono ((su a o4 k d (X.pn ++ pins) zc4 ⟨_, d4⟩).run [] _ _ g2 _ (J4.suite e4 d4 na nL nF) (wy rfl a na)) (fun fl u6 sp6 => ?_) (fun _ _ q => False.elim q)
          cases fl with
          | ret v =>
            obtain ⟨v6, z6, g6, S6, r6, q6⟩ := sp6
            exact ⟨_, _, _, S6.unsuite good, r6, q6⟩
          | _ =>
            obtain ⟨z6, g6, S6, q6⟩ := sp6
            exact ⟨_, _, S6.unsuite good, q6⟩
        | false =>
          show wpAny _ X.A (handleBy (.ref a) X.env hs2) _ _ _
          exact ih (wn rfl)
      | @asn i n x c t b bs p1 p2 hs2 l2 nm nd ni nl su r ih =>
        intro wish
        obtain ⟨yes, ex, wy, wn⟩ := wish
        refine wpAny_handleBy_cons (codeAny_handlers_test (named nm ((PySem.W.exm_one (M := model X.prog X.w) J3.kIn looksT ex).here ?_))) (by intro q; cases q)
        cases yes with
        | true =>
          refine codeAny_handlers_suite_as (HandSPX.lands_againZ fl3 fun hp4 fl4 up4 => ?_)
          have J4 : Inv X pins z2 g2 { u' with heap := hp4 } := J.landed nb fl4.1 ((up.trans up3).trans up4) os ag
          obtain ⟨o4, fs4, e4, zc4, d4⟩ := fl4.there
          refine store_ok (X := X.suite a ((a, o4) :: (X.pn ++ pins))) (v := .ref a) (J4.suite e4 d4 na nL nF) nd ni (.inl nl) rfl (fun u5 S5 => ?_) (.inr nl)
          refine wpAny_mono ((su a o4 k d (X.pn ++ pins) zc4 ⟨_, d4⟩).run [] u5 _ g2 _ S5 (wy rfl a na)) (fun fl u6 sp6 => ?_) (fun _ _ q => False.elim q)
          have left : ∀ {z6 : L2.St} {g6 : Hp} {R : Shared → Prop}, Inv (X.suite a ((a, o4) :: (X.pn ++ pins))) [] z6 g6 u6 → (∀ u7, Inv X pins (z6.set i none) g6 u7 → R u7) →
              wpAny (model X.prog X.w) X.A (do bindName X.env n .none; unbindBehindTheSuite X.env n p2) (fun _ u7 => R u7) X.xe u6 := fun {z6 g6 R} S6 q => gone_ok (S6.unsuite good) nd ni nl q
          cases fl with
          | ret v =>
            obtain ⟨v6, z6, g6, S6, r6, q6⟩ := sp6
            exact left S6 fun u7 J7 => ⟨_, _, _, J7, r6, q6⟩
          | _ =>
            obtain ⟨z6, g6, S6, q6⟩ := sp6
            exact left S6 fun u7 J7 => ⟨_, _, J7, q6⟩
        | false =>
          show wpAny _ X.A (handleBy (.ref a) X.env hs2) _ _ _
          exact ih (wn rfl)
    exact go hh wish
  · cases fl with
    | ret v =>
      obtain ⟨v2, z2, g2, J2, r2, q2⟩ := sp1
      exact ⟨v2, z2, g2, J2.ofTry good, r2, q2⟩
    | next =>
      obtain ⟨z2, g2, J2, q2⟩ := sp1
      exact wpAny_execs_nil ⟨z2, g2, J2.ofTry good, q2⟩
    | _ =>
      obtain ⟨z2, g2, J2, q2⟩ := sp1
      exact ⟨z2, g2, J2.ofTry good, q2⟩
end
/-! ### defs as they stand behind the top -/
def Df (K : PySem.W.Frag) (mg : Str → Option Value) (x : Str) (st : Stmt) (ps : List Str) : Prop :=
  ∃ f fd, Fun K x x st f fd ∧ mg x = some (.ref f) ∧ Binds K fd ps []
/-- with defaults; one is left out in some call -/
def DfD (K : PySem.W.Frag) (mg : Str → Option Value) (x : Str) (st : Stmt) (ps : List Str) (dvs : List V) : Prop :=
  ∃ f fd, FunD K x x (defArgs st) (defBody st) (defScope st) dvs [] f fd ∧ mg x = some (.ref f) ∧ Binds K fd ps []
/-- an own error without an __init__ -/
structure XP (K : PySem.W.Frag) (mg : Str → Option Value) (x : Str) (C : Addr) : Prop where
  gC : mg x = some (.ref C)
  xC : PySem.W.excIn K C [.type "ValueError", .type "Exception", .type "BaseException", .type "object"] "ValueError.__new__" = true
  kC : PySem.W.keepIn K (.ref C) = true
  eC : PySem.W.subIn K (.ref C) (.type "BaseException") = some true
  tC : PySem.W.typeIn K (.ref C) = some (.type "type")
theorem XP.made {X : Cx} {x : Str} {C : Addr} {p pos : Pos} (T : XP X.K X.mg x C) (hg : Gl X x) (hdb : (x == ("__debug__" : Str)) = false := by decide) :
    PMk X (.Call (.Name x p) [] [] pos) (fun _ H Q => Q (.ref C) none H) := by
  intro pins s z H Q I q
  refine wpAny_Call_Name_kw (ld_glob I hg T.gC (PySem.W.callWith_K0 I.kIn T.kC ?_) hdb)
  obtain ⟨bm, N, nm, qn, bs, hdct, sn, sub, ab, col, dd, k0, k1, k2, k3, k5, mN, hC, hN, hni, tl⟩ := exc_obj I.kIn T.xC
  exact wpAny_call_exc_subT F.excBase_ValueError tl hC hN hni (fun h' e hm => mk_of I hm (raises_own T.eC T.tC) q (I.hok.gone hm.new)) (by show 0 ≤ sizeLine; exact Nat.zero_le _)
/-- an own error whose __init__ keeps its arguments -/
structure XI (K : PySem.W.Frag) (mg : Str → Option Value) (x qual : Str) (st : Stmt) (ps : List Str) (C : Addr) : Prop where
  gC : mg x = some (.ref C)
  ox : OexC K C
  ini : ∃ f fd, Fun K "__init__" qual st f fd ∧ Binds K fd ps [] ∧ PySem.W.findIn K (.ref C) "__init__" = some (some (.ref f)) ∧ PySem.W.typeIn K (.ref f) = some (.type "function")
/-- the promise of an __init__ that keeps one argument as f -/
def spI1 (K : PySem.W.Frag) (C : Addr) (f : Str) : Sp := fun vs H Q _ => ∃ a v, vs = [.ref a, v] ∧ H a = some (exo a C none) ∧ OexC K C ∧ PySem.W.findIn K (.ref C) f = some none ∧
  ∀ dx, H dx = none → dx ≠ a → Q .non (upd (upd H dx (exd dx [(f, v)])) a (exo a C (some dx)))
/-- .. two arguments as f and g -/
def spI2 (K : PySem.W.Frag) (C : Addr) (f g : Str) : Sp := fun vs H Q _ => ∃ a v u, vs = [.ref a, v, u] ∧ H a = some (exo a C none) ∧ OexC K C ∧ PySem.W.findIn K (.ref C) f = some none ∧ PySem.W.findIn K (.ref C) g = some none ∧
  ∀ dx, H dx = none → dx ≠ a → Q .non (upd (upd (upd H dx (exd dx [(f, v)])) a (exo a C (some dx))) dx (exd dx [(g, u), (f, v)]))
theorem heap_made {H : Hp} {a d : Addr} {o1 o2 o3 o : HO} (ha : H a = none) (n : d ≠ a) : upd (del (upd (upd (upd H a o1) d o2) a o3) a) d o = upd H d o := by
  funext b
  by_cases hd : b = d
  · rw [hd, upd_same, upd_same]
  · rw [upd_ne hd, upd_ne hd]
    by_cases hb : b = a
    · rw [hb, del_same, ha]
    · rw [del_ne hb, upd_ne hb, upd_ne hd, upd_ne hb]
theorem raise1 {K : PySem.W.Frag} {C : Addr} {f : Str} {H : Hp} {v : V} {Q : XK} {E : XK} (T : OexC K C) (n : PySem.W.findIn K (.ref C) f = some none) (q : ∀ d, H d = none → Q (.ref C) (some d) (upd H d (.xd [(f, v)]))) :
    [v].length ≤ 1000 ∧ ∀ a, H a = none → spI1 K C f (.ref a :: ([v] ++ [])) (upd H a (exo a C none))
      (fun y H2 => y = .non ∧ ∃ (d : Addr) (fs : List (Str × V)), H2 a = some (exo a C (some d)) ∧ H2 d = some (exd d fs) ∧ H d = none ∧ Q (.ref C) (some d) (upd (del H2 a) d (.xd fs))) E := by
  refine ⟨(show 1 ≤ 1000 by decide), fun a ha => ⟨a, v, rfl, upd_same, T, n, fun dx hx ne => ⟨rfl, dx, [(f, v)], upd_same, ?_, ?_, ?_⟩⟩⟩
  · rw [upd_ne ne, upd_same]
  · rwa [upd_ne ne] at hx
  · rw [upd_ne ne] at hx
    rw [heap_made ha ne]
    exact q dx hx
theorem heap_made2 {H : Hp} {a d : Addr} {o1 o2 o3 o4 o : HO} (ha : H a = none) (n : d ≠ a) : upd (del (upd (upd (upd (upd H a o1) d o2) a o3) d o4) a) d o = upd H d o := by
  funext b
  by_cases hd : b = d
  · rw [hd, upd_same, upd_same]
  · rw [upd_ne hd, upd_ne hd]
    by_cases hb : b = a
    · rw [hb, del_same, ha]
    · rw [del_ne hb, upd_ne hd, upd_ne hb, upd_ne hd, upd_ne hb]
theorem raise2 {K : PySem.W.Frag} {C : Addr} {f g : Str} {H : Hp} {v u : V} {Q : XK} {E : XK} (T : OexC K C) (n : PySem.W.findIn K (.ref C) f = some none) (m : PySem.W.findIn K (.ref C) g = some none)
    (q : ∀ d, H d = none → Q (.ref C) (some d) (upd H d (.xd [(g, u), (f, v)]))) :
    [v, u].length ≤ 1000 ∧ ∀ a, H a = none → spI2 K C f g (.ref a :: ([v, u] ++ [])) (upd H a (exo a C none))
      (fun y H2 => y = .non ∧ ∃ (d : Addr) (fs : List (Str × V)), H2 a = some (exo a C (some d)) ∧ H2 d = some (exd d fs) ∧ H d = none ∧ Q (.ref C) (some d) (upd (del H2 a) d (.xd fs))) E := by
  refine ⟨(show 2 ≤ 1000 by decide), fun a ha => ⟨a, v, u, rfl, upd_same, T, n, m, fun dx hx ne => ⟨rfl, dx, [(g, u), (f, v)], ?_, upd_same, ?_, ?_⟩⟩⟩
  · rw [upd_ne (Ne.symm ne), upd_same]
  · rwa [upd_ne ne] at hx
  · rw [upd_ne ne] at hx
    rw [heap_made2 ha ne]
    exact q dx hx
/-! ### numbers and kinds of things -/
theorem cdw {i j : Int} (h : 0 < j) (b : j < 9223372036854775808) : CDivW i j :=
  wide_div (b := 63) h (by have e : (2 : Nat) ^ 63 = 9223372036854775808 := by decide
                           omega) (by decide) (by decide)
theorem cml {i j : Int} (h : -18446744073709551616 < i) (b : i < 18446744073709551616) : CMul i j := by
  have e : (2 : Int) ^ 64 = 18446744073709551616 := by decide
  exact .inl ⟨by omega, by omega⟩
theorem cmr {i j : Int} (h : -18446744073709551616 < j) (b : j < 18446744073709551616) : CMul i j := by
  have e : (2 : Int) ^ 64 = 18446744073709551616 := by decide
  exact .inr ⟨by omega, by omega⟩
/-- the things that a law hands in: None, bools, ints, texts, tuples, lists, dicts -/
def Plain (H : Hp) : V → Prop
  | .non => True
  | .bl _ => True
  | .int _ => True
  | .str _ => True
  | .ref a => (∃ xs, H a = some (.tup xs)) ∨ (∃ xs, H a = some (.lst xs)) ∨ ∃ kvs, H a = some (.dK kvs)
  | _ => False
def isI : V → Bool
  | .int _ => true
  | _ => false
def isB : V → Bool
  | .bl _ => true
  | _ => false
/-- a whole number from lo to hi -/
def whole (x : V) (lo hi : Int) : Bool := match x with
  | .int i => decide (lo ≤ i) && decide (i ≤ hi)
  | _ => false
theorem Plain.same {H H' : Hp} {x : V} (s : Same H H') (h : Plain H x) : Plain H' x := by
  cases x with
  | ref a =>
    rcases h with ⟨xs, h⟩ | ⟨xs, h⟩ | ⟨xs, h⟩
    · exact .inl ⟨xs, s _ _ h⟩
    · exact .inr (.inl ⟨xs, s _ _ h⟩)
    · exact .inr (.inr ⟨xs, s _ _ h⟩)
  | _ => exact h
theorem isi_int {K : PySem.W.Frag} {H : Hp} {x : V} {Q : VK} (h : Plain H x) (q : Q (.bl (isI x || isB x)) H) : rIsi K [x, .ty "int"] H Q := by
  cases x with
  | non => exact ⟨_, _, _, _, false, rfl, .ty _, .base .non, kit_ty (by decide +kernel), q⟩
  | bl b => exact ⟨_, _, _, _, true, rfl, .ty _, .base (.bl _), kit_ty (by decide +kernel), q⟩
  | int i => exact ⟨_, _, _, _, true, rfl, .ty _, .base (.int _), kit_ty (by decide +kernel), q⟩
  | str z => exact ⟨_, _, _, _, false, rfl, .ty _, .base (.str _), kit_ty (by decide +kernel), q⟩
  | ref a =>
    rcases h with ⟨xs, h⟩ | ⟨xs, h⟩ | ⟨xs, h⟩
    · exact ⟨_, _, _, _, false, rfl, .ty _, .base (.tup h), kit_ty (by decide +kernel), q⟩
    · exact ⟨_, _, _, _, false, rfl, .ty _, .base (.lst h), kit_ty (by decide +kernel), q⟩
    · exact ⟨_, _, _, _, false, rfl, .ty _, .base (.dK h), kit_ty (by decide +kernel), q⟩
  | byt _ => exact h.elim
  | flt _ => exact h.elim
  | ty _ => exact h.elim
theorem isi_bool {K : PySem.W.Frag} {H : Hp} {x : V} {Q : VK} (h : Plain H x) (q : Q (.bl (isB x)) H) : rIsi K [x, .ty "bool"] H Q := by
  cases x with
  | non => exact ⟨_, _, _, _, false, rfl, .ty _, .base .non, kit_ty (by decide +kernel), q⟩
  | bl b => exact ⟨_, _, _, _, true, rfl, .ty _, .base (.bl _), kit_ty (by decide +kernel), q⟩
  | int i => exact ⟨_, _, _, _, false, rfl, .ty _, .base (.int _), kit_ty (by decide +kernel), q⟩
  | str z => exact ⟨_, _, _, _, false, rfl, .ty _, .base (.str _), kit_ty (by decide +kernel), q⟩
  | ref a =>
    rcases h with ⟨xs, h⟩ | ⟨xs, h⟩ | ⟨xs, h⟩
    · exact ⟨_, _, _, _, false, rfl, .ty _, .base (.tup h), kit_ty (by decide +kernel), q⟩
    · exact ⟨_, _, _, _, false, rfl, .ty _, .base (.lst h), kit_ty (by decide +kernel), q⟩
    · exact ⟨_, _, _, _, false, rfl, .ty _, .base (.dK h), kit_ty (by decide +kernel), q⟩
  | byt _ => exact h.elim
  | flt _ => exact h.elim
  | ty _ => exact h.elim
/-- T // (m - 1) + 1, again and again -/
def room (p t : Int) : Int := t / (p - 1) + 1
def grow (p : Int) : Nat → Int → Int
  | 0, a => a
  | k + 1, a => grow p k a + room p (grow p k a)
theorem grow_le {p : Int} (hp : 2 ≤ p) : ∀ (k : Nat) {a : Int}, 0 ≤ a → 0 ≤ grow p k a ∧ grow p k a ≤ 2 ^ k * (a + 1) - 1
  | 0, a, h => ⟨h, by show a ≤ 2 ^ 0 * (a + 1) - 1; omega⟩
  | k + 1, a, h => by
    obtain ⟨h1, h2⟩ := grow_le hp k h
    have e : (2 : Int) ^ (k + 1) = 2 * 2 ^ k := by rw [Int.pow_succ, Int.mul_comm]
    have r0 : 0 ≤ grow p k a / (p - 1) := Int.ediv_nonneg h1 (by omega)
    have r1 : grow p k a / (p - 1) ≤ grow p k a := Int.ediv_le_self _ h1
    show 0 ≤ grow p k a + (grow p k a / (p - 1) + 1) ∧ grow p k a + (grow p k a / (p - 1) + 1) ≤ 2 ^ (k + 1) * (a + 1) - 1
    rw [e, Int.mul_assoc]
    omega
theorem whole_of {x : V} {lo hi : Int} (h : whole x lo hi = true) : ∃ i, x = .int i ∧ lo ≤ i ∧ i ≤ hi := by
  cases x with
  | int i =>
    have h' : (decide (lo ≤ i) && decide (i ≤ hi)) = true := h
    rw [Bool.and_eq_true, decide_eq_true_eq, decide_eq_true_eq] at h'
    exact ⟨i, rfl, h'.1, h'.2⟩
  | _ => exact absurd (show false = true from h) Bool.false_ne_true
theorem whole_int {i lo hi : Int} (h1 : lo ≤ i) (h2 : i ≤ hi) : whole (.int i) lo hi = true := by
  show (decide (lo ≤ i) && decide (i ≤ hi)) = true
  rw [decide_eq_true h1, decide_eq_true h2]
  rfl
theorem whole_no {i lo hi : Int} (h : i < lo ∨ hi < i) : whole (.int i) lo hi = false := by
  show (decide (lo ≤ i) && decide (i ≤ hi)) = false
  rcases h with h | h
  · rw [decide_eq_false (by omega : ¬ lo ≤ i)]
    rfl
  · rw [decide_eq_false (by omega : ¬ i ≤ hi), Bool.and_false]
/-- a def that checks a number up to m, then the people from 2 to 5, and then does R -/
def spTwo (cX : Addr) (m : Int) (cP : Addr) (R : Int → Int → VK → Hp → Prop) : Sp := fun vs H Q E => ∃ x y : V, vs = [x, y] ∧ Plain H x ∧ Plain H y ∧
  (whole x 0 m = false → ∀ d, H d = none → E (.ref cX) (some d) (upd H d (.xd [("most", .int m)]))) ∧ (whole x 0 m = true → whole y 2 5 = false → E (.ref cP) none H) ∧
  ∀ t p : Int, x = .int t → y = .int p → 0 ≤ t → t ≤ m → 2 ≤ p → p ≤ 5 → R t p Q H
theorem len_two {cX cP : Addr} {m : Int} {R : Int → Int → VK → Hp → Prop} {vs : List V} {H : Hp} {Q : VK} {E : XK} (h : spTwo cX m cP R vs H Q E) : vs.length = 2 := by
  obtain ⟨_, _, rfl, _⟩ := h; rfl
/-- the fewest steps that reach t -/
def Least (p t : Int) (n : Nat) : Prop := (∀ k, k < n → grow p k 0 < t) ∧ t ≤ grow p n 0
/-! ### for k, x in enumerate(xs) -/
theorem for_enum {K : PySem.W.Frag} {a : Addr} {xs : List V} {g : TG} {tb : TS} {D : Ends} {z0 : L2.St} {H : Hp} (Pv : Nat → L2.St → Hp → Prop) (h0 : Pv 0 z0 H) (hl : ∀ i z h, i ≤ xs.length → Pv i z h → SqL K h a xs)
    (hs : ∀ i x T z h, xs[i]? = some x → h T = none → Pv i z h → g (.ref T) z (upd h T (.tup [.int (i : Nat), x])) fun z2 h2 => tb { D with nx := Pv (i + 1), ct := Pv (i + 1), bk := D.nx } z2 h2) (hd : ∀ z h, Pv xs.length z h → D.nx z h) :
    ∃ W : Nat → Nat → L2.St → Hp → Prop, (∃ m, W 0 m z0 H) ∧ ∀ i m z h, W i m z h →
      ((Ite K a).stop i h ∧ D.nx z h) ∨ ((Ite K a).go i h ∧ ∃ N : L2.St → Hp → Prop, (∀ z' h', N z' h' → ∃ m', m' < m ∧ W (i + 1) m' z' h') ∧ ∀ x h', (Ite K a).yld i h x h' → g x z h' fun z2 h2 => tb { D with nx := N, ct := N, bk := D.nx } z2 h2) := by
  refine ⟨fun i m z h => m = xs.length - i ∧ i ≤ xs.length ∧ Pv i z h, ⟨xs.length, by simp, Nat.zero_le _, h0⟩, ?_⟩
  rintro i m z h ⟨rfl, hi, p⟩
  have q := hl i z h hi p
  by_cases hlt : i < xs.length
  · refine .inr ⟨⟨xs, xs[i], q, by simp [hlt]⟩, Pv (i + 1), fun z' h' p' => ⟨xs.length - (i + 1), by omega, rfl, hlt, p'⟩, fun v h' y => ?_⟩
    obtain ⟨T, x, rfl, hT, rfl, hx⟩ := y
    exact hs i x T z h (hx xs q) hT p
  · obtain rfl : i = xs.length := by omega
    exact .inl ⟨⟨xs, q, Nat.le_refl _⟩, hd z h p⟩
/-! ### the hand of a law: its list [cells, place, rest, total], all of them whole numbers from 0 -/
structure HandAt (H : Hp) (h q : Addr) : Prop where
  ex : ∃ (cs : List Int) (i r t : Int), H h = some (.lst [.ref q, .int i, .int r, .int t]) ∧ H q = some (.lst (cs.map V.int)) ∧ cs.length ≤ 63 ∧ (∀ c, c ∈ cs → 0 ≤ c) ∧ 0 ≤ i ∧ i ≤ cs.length ∧ 0 ≤ r ∧ 0 ≤ t ∧ t < 2147483629
/-- all that stood stands, but for what is at h -/
def But (h : Addr) (H H' : Hp) : Prop := ∀ b o, H b = some o → b ≠ h → H' b = some o
theorem But.refl (h : Addr) (H : Hp) : But h H H := fun _ _ e _ => e
theorem But.trans {h : Addr} {H1 H2 H3 : Hp} (a : But h H1 H2) (b : But h H2 H3) : But h H1 H3 := fun c o e n => b c o (a c o e n) n
theorem But.of {h : Addr} {H H' : Hp} (s : Same H H') : But h H H' := fun b o e _ => s b o e
theorem But.new {h p : Addr} {H : Hp} {o : HO} (hp : H p = none) : But h H (upd H p o) := fun b u e _ => by
  rw [upd_ne (ne_of_none e hp)]; exact e
theorem But.upd {h : Addr} {H : Hp} {o : HO} : But h H (L2.upd H h o) := fun b u e n => by
  rw [upd_ne n]; exact e
theorem But.then {h : Addr} {H H' : Hp} {o : HO} (a : But h H H') : But h H (L2.upd H' h o) := a.trans But.upd
theorem Same.new {p : Addr} {H : Hp} {o : HO} (hp : H p = none) : Same H (upd H p o) := fun b u e => by
  rw [upd_ne (ne_of_none e hp)]; exact e
theorem HandAt.ne {H : Hp} {h q : Addr} (x : HandAt H h q) : h ≠ q := by
  obtain ⟨cs, i, r, t, h1, h2, _⟩ := x.ex
  intro e
  rw [e, h2] at h1
  cases cs with
  | nil => cases h1
  | cons c cs => cases h1
theorem HandAt.same {H H' : Hp} {h q : Addr} (x : HandAt H h q) (s : Same H H') : HandAt H' h q := by
  obtain ⟨cs, i, r, t, h1, h2, m⟩ := x.ex
  exact ⟨cs, i, r, t, s _ _ h1, s _ _ h2, m⟩
theorem HandAt.has {H : Hp} {h q : Addr} (x : HandAt H h q) : ∃ o, H h = some o := by
  obtain ⟨cs, i, r, t, h1, _⟩ := x.ex
  exact ⟨_, h1⟩
theorem HandAt.off {H : Hp} {h q p : Addr} (x : HandAt H h q) (hp : H p = none) : p ≠ h := by
  obtain ⟨o, e⟩ := x.has
  exact fun z => by rw [z, e] at hp; cases hp
/-- a draw's promise: some number below many, the hand as a hand -/
def spDraw : Sp := fun vs H Q _ => ∃ (h q : Addr) (m : Int), vs = [.ref h, .int m] ∧ HandAt H h q ∧ 0 < m ∧ m < 9223372036854775808 ∧
  ∀ d H', 0 ≤ d → d < m → HandAt H' h q → But h H H' → Q (.int d) H'
def spHand (K : PySem.W.Frag) : Sp := fun vs H Q _ => ∃ (a : Addr) (ns : List Int), vs = [.ref a] ∧ SqL K H a (ns.map V.int) ∧ ns.length ≤ 63 ∧
  ∀ h q H', Same H H' → HandAt H' h q → Q (.ref h) H'
def spMix : Sp := fun vs H Q _ => ∃ n t : Int, vs = [.int n, .int t] ∧ 0 ≤ n ∧ n < 2147483648 ∧ 0 ≤ t ∧ t ≤ 1000 ∧ ∀ r, 0 ≤ r → Q (.int r) H
theorem nat_map {ns : List Int} {i : Nat} {y : V} (h : (ns.map V.int)[i]? = some y) : ∃ c, ns[i]? = some c ∧ y = .int c := by
  rw [List.getElem?_map] at h
  cases e : ns[i]? with
  | none => rw [e] at h; cases h
  | some c => rw [e] at h; exact ⟨c, rfl, (Option.some.inj h).symm⟩
theorem two_ok {cX cP : Addr} {m : Int} {R : Int → Int → VK → Hp → Prop} {t p : Int} {H : Hp} {Q : VK} {E : XK} (t0 : 0 ≤ t) (t1 : t ≤ m) (p0 : 2 ≤ p) (p1 : p ≤ 5) (r : R t p Q H) : spTwo cX m cP R [.int t, .int p] H Q E :=
  ⟨_, _, rfl, True.intro, True.intro, fun a => absurd (a.symm.trans (whole_int t0 t1)) (by decide), fun _ b => absurd (b.symm.trans (whole_int p0 p1)) (by decide), fun t' p' e1 e2 _ _ _ _ => by
    cases e1
    cases e2
    exact r⟩
theorem isi_tuple {K : PySem.W.Frag} {H : Hp} {a : Addr} {xs : List V} {Q : VK} (h : H a = some (.tup xs)) (q : Q (.bl true) H) : rIsi K [.ref a, .ty "tuple"] H Q :=
  ⟨_, _, _, _, true, rfl, .ty _, .base (.tup h), kit_ty (by decide +kernel), q⟩
theorem pow2_le {k n : Nat} (h : k ≤ n) : (2 : Int) ^ k ≤ 2 ^ n := by
  have e : (2 : Nat) ^ k ≤ 2 ^ n := Nat.pow_le_pow_right (by decide) h
  have c : ∀ j : Nat, (2 : Int) ^ j = ((2 ^ j : Nat) : Int) := fun j => by
    induction j with
    | zero => rfl
    | succ j ih => rw [Int.pow_succ, ih, Nat.pow_succ]; omega
  rw [c, c]
  omega
/-- two tuples (text, number) with the same data -/
theorem ne_pair {K : PySem.W.Frag} {H : Hp} {a b : Addr} {x : Str} {n : Int} {Q : VK} (ha : H a = some (.tup [.str x, .int n])) (hb : H b = some (.tup [.str x, .int n])) (sx : SeqAt.shaped (.tuple [.str x, .int n]) = true) (q : Q (.bl false) H) : rNeD K (.ref a) (.ref b) H Q := by
  refine ⟨.tuple [.str x, .int n], .tuple [.str x, .int n], .tup (SqT.of ha) (.cons (.str _) (.cons (.int _) .nil)), .tup (SqT.of hb) (.cons (.str _) (.cons (.int _) .nil)), sx, sx, ?_⟩
  have e : PyData.eqv (.tuple [.str x, .int n]) (.tuple [.str x, .int n]) = true := by simp [PyData.eqv, PyData.eqvAll]
  rw [e]
  exact q
theorem Least.one {p t : Int} {n m : Nat} (a : Least p t n) (b : Least p t m) : n = m := by
  rcases Nat.lt_trichotomy n m with h | h | h
  · have z := b.1 n h
    have y := a.2
    omega
  · exact h
  · have z := a.1 m h
    have y := b.2
    omega
/-- what «except» asks of two classes -/
theorem exm_mk {K : PySem.W.Frag} {S R : Addr} {b : Bool} (h1 : PySem.W.subIn K (.ref S) (.type "BaseException") = some true) (h2 : PySem.W.isClsIn K S = true) (h3 : PySem.W.typeIn K (.ref S) = some (.type "type")) (h4 : PySem.W.subIn K (.ref R) (.ref S) = some b) :
    PySem.W.exmOne K (.ref R) (.ref S) = some b := by
  have e1 : (PySem.W.subIn K (.ref S) (.type "BaseException") == some true) = true := by rw [h1]; rfl
  have h2' : (PySem.W.clsIn K S).isSome = true := h2
  have e2 : ((PySem.W.clsIn K S).isSome && PySem.W.typeIn K (.ref S) == some (.type "type")) = true := by rw [h2', h3]; rfl
  show (if _ then (if _ then _ else none) else none) = some b
  rw [if_pos e1, if_pos e2]
  exact h4
end Gen
set_option Elab.async false
set_option linter.all false
set_option maxRecDepth 100000
set_option maxHeartbeats 4000000
/-! ## More rules: == and != of own instances, sorted and sum of tuples, enumerate of tuples -/
namespace Gen
open PySem PySem.Spec PyProof.Rows L2
section
variable {X : Cx} {pins : List (Addr × Obj)} {z : L2.St} {H : Hp} {s : Shared} {n : Nat} {f C : Addr} {fd : FuncData} {ps : List Str} {sp : Sp} {vs : List V} {us : List Value} {Q : VK}
theorem call_below {A : Around} (F : FnOk X.prog X.w X.K X.mg X.base CX0 n f fd ps sp) (hb : L2.Binds X.K fd ps []) (room : Room n A) (efr : A.frames = X.A.frames) (I : Inv X pins z H s) (r : Vals vs us) (q : sp vs H Q E0) :
    wpAny (model X.prog X.w) A (call (.ref f) us) (EP X pins z Q) X.xe s := by
  have e0 : Env0 X.prog X.w X.K X.mg X.base A X.stack s H := by
    have e := I.env0
    exact ⟨by rw [efr]; exact e.frames, e.mod, e.bs, e.bsz, e.funs, e.frf, e.hok, e.bare⟩
  have hl := F.len _ _ _ _ q
  have b := hb s us I.kIn (by rw [List.append_nil, ← r.length]; exact hl)
  rw [List.append_nil] at b
  refine wpAny_call (codeAny_mono (F.run A X.stack s H ⟨us, []⟩ us vs Q E0 room e0 b r q) fun o s' hq => ?_)
  cases o with
  | error e => exact False.elim hq
  | ok fl =>
    cases fl with
    | ret u => exact I.after hq
    | _ => exact False.elim hq
/-- == (neg: !=) of an instance of the class at C by its own __eq__, whatever stands on the right -/
def rOwnEq (K : PySem.W.Frag) (C : Addr) (sp : Sp) (neg : Bool) : R2 := fun x y H Q => ∃ a dx fs t, x = .ref a ∧ H a = some (.ins C dx fs) ∧ TyX K H y t ∧ PySem.W.notFirst K C t = true ∧
  sp [x, y] H (fun r H' => ∃ b : Bool, r = .bl b ∧ Q (.bl (if neg = true then !b else b)) H') E0
theorem op_eqI (F : FnOk X.prog X.w X.K X.mg X.base CX0 n f fd ps sp) (hb : L2.Binds X.K fd ps []) (hs : PySem.W.findIn X.K (.ref C) "__eq__" = some (some (.ref f))) (hf : PySem.W.isFn X.K (.ref f) = true) (hr : Room n X.A) :
    OpR X (compareOp .Eq) (rOwnEq X.K C sp false) := by
  intro pins s z H x y v u Q I rx ry h
  obtain ⟨a, dx, fs, t, rfl, ha, ty, nf, q⟩ := h
  cases (show v = Value.ref a from rx)
  obtain ⟨mA, J, _⟩ := ins_get I.hok ha
  obtain ⟨od, J, _⟩ := J.look
  obtain ⟨m, hF⟩ := I.fr
  obtain ⟨P, Z, p, _⟩ := kit_of I ry ty
  show wpAny _ X.A (richCompare .Eq (.ref a) u) _ _ s
  refine PySem.W.cmp_K (op := .Eq) (tb := t) hr.units0 hF I.ok.mod.kin J (Z.ty _ _ I.kIn p) nf hs hf ?_
  refine wpAny_mono (call_below F hb hr rfl I (show Vals [V.ref a, y] [Value.ref a, u] from .cons rfl (.cons ry .nil)) q) (fun w s' e => ?_) fun _ _ e => e
  obtain ⟨r, H', I', rr, b, rfl, qz⟩ := e
  cases (show w = Value.bool b from rr)
  exact ⟨.bl b, H', I', rfl, qz⟩
end
section
variable {M : Model} {A : Around} {E : Value → Shared → Prop} {s : Shared} {K : PySem.W.Frag} {x C : Addr} {ox : Obj} {od : Option Obj} {name : Str} {id : String}
theorem ifBound_B {args : List Value} {Q : Option Value → Shared → Prop} (Xk : K.In s.heap) (I : PySem.W.InstAt s.heap x ox C od) (hs : PySem.W.findIn K (.ref C) name = some (some (.builtin id)))
    (bd : ∀ self, bindSpecial (.builtin id) self = pure (.builtin id, [self])) (h : wpAny M A (call (.builtin id) (.ref x :: args)) (fun v => Q (some v)) E s) : wpAny M A (callSpecialIfBound? (.ref x) name args) Q E s := by
  simp only [callSpecialIfBound?, bindSpecialIfBound?]
  refine wpAny_holding (wpAny_bind (wpAny_bind (wpAny_bind (I.type.here ((PySem.W.looks_findIn Xk hs).here ?_)))))
  simp only [bd]
  refine wpAny_bind (wpAny_askSetting (wpAny_ite ?_))
  have done : wpAny M A (call (.builtin id) ([.ref x] ++ args) >>= fun v => pure (some v)) Q E s := wpAny_bind (wpAny_mono h (fun v s' q => wpAny_pure q) fun _ _ q => q)
  split
  · exact wpAny_bind (wpAny_pure (wpAny_pure done))
  · exact wpAny_tryCatch (wpAny_bind (wpAny_pure (wpAny_pure done)))
end
section
variable {prog : Program} {w : World} {A : Around} {E : Value → Shared → Prop} {s : Shared} {K : PySem.W.Frag} {x C f : Addr} {ox : Obj} {od : Option Obj} {u tb : Value}
theorem ne_below {Q : Value → Shared → Prop} (hu : A.units + 1 < cLine) (Xk : K.In s.heap) (I : PySem.W.InstAt s.heap x ox C od) (hb : PySem.W.Looks (model prog w) s.heap (typeOf u) tb) (hn : PySem.W.notFirst K C tb = true)
    (hs : PySem.W.findIn K (.ref C) "__ne__" = some (some (.builtin "object.__ne__"))) (he : PySem.W.findIn K (.ref C) "__eq__" = some (some (.ref f))) (hf : PySem.W.isFn K (.ref f) = true) (hm : PySem.W.mroIn K C (.type "object") = some true)
    (h : wpAny (model prog w) A.in1 (call (.ref f) [.ref x, u]) (fun v s' => ∃ b, v = .bool b ∧ Q (.bool (!b)) s') E s) : wpAny (model prog w) A (richCompare .NotEq (.ref x) u) Q E s := by
  have sub : PySem.W.Looks (model prog w) s.heap (isInstance (.ref x) (.type "object")) true := I.type.andThen (PySem.W.looks_mroIn Xk hm)
  have inner : wpAny (model prog w) A.in1 (Builtin.«object.__ne__» ⟨[.ref x, u], []⟩) (fun fin s' => ∃ v, fin = .done (.ret v) ∧ v ≠ .notImplemented ∧ Q v s') E s := by
    unfold Builtin.«object.__ne__»
    repeat (first
      | with_reducible refine wpAny_cRoomFor (show A.in1.units < cLine from hu) ?_
      | (refine wpAny_bind (m := callSpecialIfBound? (.ref x) (Str.ofString "__eq__") [u])
          (PySem.W.ifBound_K Xk I he hf (wpAny_mono h (fun r s' hr => by
            obtain ⟨b, rfl, hq⟩ := hr
            repeat (first | exact ⟨_, rfl, (fun e => nomatch e), hq⟩ | exact wpAny_pure ⟨_, rfl, (fun e => nomatch e), hq⟩ | (refine wpAny_bind (m := truthy (.bool _)) (wpAny_truthy_bool ?_)) | wp_step)) fun _ _ e => e)))
      | wp_step)
  have one : wpAny (model prog w) A (tryCompare (.ref x) (cmpInfo .NotEq).2.1 u) (fun r s' => ∃ v, r = some v ∧ Q v s') E s := by
    unfold tryCompare
    refine wpAny_bind (ifBound_B Xk I hs F.slot_object_ne.bind (wpAny_call (codeAny_call_builtin F.slot_object_ne.plain F.cmpEntry_ne
      (@PySem.W.check_slot (model prog w) _ _ s "object.__ne__" "object" "__ne__" (.ref x) [u] [] _ F.cmpKind_ne F.cmpSplit_ne sub (F.cmpArgs_ne _ _) (wpAny_mono inner (fun fin s' q => ?_) fun _ _ q => q)))))
    obtain ⟨v, rfl, nv, q⟩ := q
    cases v <;> first | exact absurd rfl nv | exact wpAny_pure ⟨_, rfl, q⟩ | exact ⟨_, rfl, wpAny_pure ⟨_, rfl, q⟩⟩
  unfold richCompare
  simp only [oneThing_ref]
  refine wpAny_holding (wpAny_bind (wpAny_cRoomFor (Nat.lt_of_succ_lt hu) ?_))
  refine wpAny_bind (I.type.here (wpAny_bind (hb.here ?_)))
  split
  · rename_i q
    have e : PySem.W.subIn K tb (.ref C) = some false := by
      rcases Bool.or_eq_true_iff.mp hn with e | e
      · rw [beq_iff_eq.mp e] at q
        simp at q
      · exact beq_iff_eq.mp e
    refine wpAny_bind ((PySem.W.looks_subIn Xk e).here ?_)
    simp only [Bool.false_eq_true, if_false]
    refine wpAny_bind (wpAny_mono one (fun r s' y => ?_) fun _ _ e => e)
    obtain ⟨v, rfl, hq⟩ := y
    exact wpAny_pure hq
  · refine wpAny_bind (wpAny_pure ?_)
    simp only [Bool.false_eq_true, if_false]
    refine wpAny_bind (wpAny_mono one (fun r s' y => ?_) fun _ _ e => e)
    obtain ⟨v, rfl, hq⟩ := y
    exact wpAny_pure hq
end
section
variable {X : Cx} {n : Nat} {f C : Addr} {fd : FuncData} {ps : List Str} {sp : Sp}
theorem op_neI (F : FnOk X.prog X.w X.K X.mg X.base CX0 n f fd ps sp) (hb : L2.Binds X.K fd ps []) (hs : PySem.W.findIn X.K (.ref C) "__ne__" = some (some (.builtin "object.__ne__"))) (he : PySem.W.findIn X.K (.ref C) "__eq__" = some (some (.ref f)))
    (hf : PySem.W.isFn X.K (.ref f) = true) (hm : PySem.W.mroIn X.K C (.type "object") = some true) (hr : Room (n + 1) X.A) : OpR X (compareOp .NotEq) (rOwnEq X.K C sp true) := by
  intro pins s z H x y v u Q I rx ry h
  obtain ⟨a, dx, fs, t, rfl, ha, ty, nf, q⟩ := h
  cases (show v = Value.ref a from rx)
  obtain ⟨mA, J, _⟩ := ins_get I.hok ha
  obtain ⟨od, J, _⟩ := J.look
  obtain ⟨P, Z, p, _⟩ := kit_of I ry ty
  show wpAny _ X.A (richCompare .NotEq (.ref a) u) _ _ s
  refine ne_below (by have e := hr.un; omega) I.kIn J (Z.ty _ _ I.kIn p) nf hs he hf hm ?_
  refine wpAny_mono (call_below F hb hr.in1 rfl I (show Vals [V.ref a, y] [Value.ref a, u] from .cons rfl (.cons ry .nil)) q) (fun w s' e => ?_) fun _ _ e => e
  obtain ⟨r, H', I', rr, b, rfl, qz⟩ := e
  cases (show w = Value.bool b from rr)
  exact ⟨b, rfl, .bl (!b), H', I', rfl, qz⟩
end
/-! ### sorted(t), sum(t) -/
section
variable {prog : Program} {w : World} {A : Around} {E : Value → Shared → Prop} {s : Shared} {t : Addr}
theorem sorted_tup {vs : List Value} {ns : List Int} {Q : Value → Shared → Prop} (ht : s.heap.IsTuple t vs.toArray) (hi : IntsAre vs ns) (hz : vs.length ≤ sizeLine)
    (h : ∀ (h1 h' : Heap) (out : Array Value) (ns' : List Int) (e : Nat), (∀ b o, s.heap.get? b = some o → h1.get? b = some o) → (∀ b o, h1.get? b = some o → h'.get? b = some o) → h'.get? h1.objs.size = some (seqObj "list" out e) → IntsAre out.toList ns' → ns'.Perm ns → ns'.Pairwise (· ≤ ·) → Q (.ref h1.objs.size) { s with heap := h' }) :
    wpAny (model prog w) A (call (.builtin "sorted") [.ref t]) Q E s := by
  obtain ⟨o, ho, hc, n, hd⟩ := ht
  refine Calls.call_function_entry kind_sorted plain_sorted entry_sorted (args_sorted1 _) ?_
  unfold Builtin.«sorted»
  refine wpAny_bind (m := checkCount "sorted" 1 1 _) (wpAny_pure ?_)
  refine wpAny_bind (wpAny_collect_seq t (.inr rfl) ho hc hd (fun h1 kp => ?_) (by simpa using hz))
  have e1 : vs.toArray.toList = vs := by simp
  rw [e1]
  refine wpAny_bind (wpAny_newList ?_)
  have at0 : (h1.push (seqObj "list" vs.toArray 0)).get? h1.objs.size = some (seqObj "list" vs.toArray 0) := Heap.get?_push_size _ rfl
  show wpAny _ _ _ _ _ { s with heap := h1.push (seqObj "list" vs.toArray 0) }
  refine wpAny_bind (wpAny_holding (wpAny_call_entry slot_list_sort ⟨_, at0, rfl⟩ entry_list_sort (list_sort_treeAny at0 hi hz fun out ns' a1 a2 a3 => ⟨_, rfl, ?_⟩) (args_list_sort _)))
  obtain ⟨e, he⟩ := sortedHeap_at (out := out) at0
  exact wpAny_pure ⟨_, rfl, h h1 _ out ns' e kp (fun b u hb => by
    have lt := Heap.lt_size hb
    rw [sortedHeap_old (Nat.ne_of_lt lt) (by rw [size_push']; exact Nat.lt_succ_of_lt lt)]
    exact Heap.get?_push_of_some _ hb) he a1 a2 a3⟩
theorem sum_tup {its : List Value} {ns : List Int} {Q : Value → Shared → Prop} (hh : A.handled = none) (ht : s.heap.IsTuple t its.toArray) (hi : IntsAre its ns)
    (h : ∀ h' tk t', (∀ b o, s.heap.get? b = some o → h'.get? b = some o) → Q (.int ns.sum t') { s with heap := h', toks := tk }) : wpAny (model prog w) A (call (.builtin "sum") [.ref t]) Q E s := by
  obtain ⟨xs, e⟩ := hi.allInts.items
  have hn : numsOf (intItems xs).toList = ns := by rw [← e]; exact hi.numsOf
  rw [nums_intItems] at hn
  rw [e] at ht
  have lt : t < s.heap.objs.size := by obtain ⟨_, q, _⟩ := ht; exact Heap.lt_size q
  refine call_sum_walkG (wpAny_pyIter_tuple ht ?_)
  refine ⟨_, _, _, _, _, _, numAt xs, rfl, Walks.tuple (A := A.in1) hh _ t (Nat.ne_of_lt lt) (intItems xs), ⟨⟨_, Heap.get?_push_size _ rfl, rfl, rfl⟩, ht.push _⟩, fun b hb => ?_, (fun _ _ => intItems_at), fun h' tk t' hk => ?_⟩
  · show b < (s.heap.push _).objs.size
    rw [Heap.size_push]
    rcases List.mem_cons.mp hb with rfl | hb
    · exact Nat.lt_succ_self _
    · rw [List.mem_singleton.mp hb]
      exact Nat.lt_succ_of_lt lt
  · have old : ∀ b o, s.heap.get? b = some o → h'.get? b = some o := fun b o q => by
      refine hk b o (fun hm => ?_) (Heap.get?_push_of_some _ q)
      rw [List.mem_singleton.mp hm] at q
      exact absurd (Heap.lt_size q) (Nat.lt_irrefl _)
    have r := h h' tk t' old
    have e2 : (intItems xs).size = xs.size := by simp [intItems]
    rw [e2, preSum_eq, List.take_of_length_le (by simp), hn]
    exact r
end
/-- a list or a tuple -/
def SqE (K : PySem.W.Frag) (H : Hp) (a : Addr) (xs : List V) : Prop := SqL K H a xs ∨ SqT K H a xs
theorem SqE.same {K : PySem.W.Frag} {H H' : Hp} {a : Addr} {xs : List V} (h : SqE K H a xs) (s : Same H H') : SqE K H' a xs := by
  rcases h with h | (h | ⟨o, h⟩) | h
  · exact .inl (s.seq h)
  · exact .inr (.inl (.inl (s _ _ h)))
  · exact .inr (.inl (.inr ⟨o, s _ _ h⟩))
  · exact .inr (.inr h)
section
variable {X : Cx}
/-- sorted of ints, a list or a tuple, of any length -/
def rSortedE (K : PySem.W.Frag) : List V → Hp → VK → Prop := fun vs H Q => ∃ (a : Addr) (ns : List Int), vs = [V.ref a] ∧ SqE K H a (ns.map V.int) ∧
  ∀ (ns' : List Int) (p : Addr), ns'.Perm ns → ns'.Pairwise (· ≤ ·) → H p = none → Q (.ref p) (upd H p (.lst (ns'.map V.int)))
theorem cr_sortedE : CallR X (.builtin "sorted") (rSortedE X.K) := by
  intro pins s z H vs us Q I r h
  obtain ⟨a, ns, rfl, hs, q⟩ := h
  rw [Vals.ref1 r]
  rcases hs with hs | hs
  · obtain ⟨its, rv, hl, hz⟩ := I.list hs
    have hi := rv.ints
    have ln := rv.length
    refine PyProof.Rows.sorted_intsAny hl.isList hi (by omega) fun out ns' h1 h2 h3 => ?_
    obtain ⟨ep, he⟩ := PyProof.Rows.sortedAll_at s.heap its out
    have hlen : (ns'.map V.int).length ≤ sizeLine := by rw [List.length_map, h2.length_eq]; rw [List.length_map] at hz; exact hz
    exact ⟨.ref _, upd H (s.heap.objs.size + 1) (.lst (ns'.map V.int)), I.laid (t' := s.toks) (fun _ _ => PyProof.Rows.sortedAll_old) (Nat.le_succ _) ⟨hlen, out.toList, ep, vals_of_ints h1, he⟩, rfl, q ns' _ h2 h3 (I.hok.fresh (Nat.le_succ _))⟩
  · obtain ⟨its, rv, hl, hz⟩ := I.tuple hs
    have hi := rv.ints
    have ln := rv.length
    refine sorted_tup (show s.heap.IsTuple a its.toArray from hl) hi (by omega) fun h1 h' out ns' e k1 k2 at_ i1 i2 i3 => ?_
    have hlen : (ns'.map V.int).length ≤ sizeLine := by rw [List.length_map, i2.length_eq]; rw [List.length_map] at hz; exact hz
    have I1 : Inv X pins z H { s with heap := h1 } := I.kept (t' := s.toks) k1
    exact ⟨.ref _, upd H h1.objs.size (.lst (ns'.map V.int)), I1.laid (t' := s.toks) k2 (Nat.le_refl _) ⟨hlen, out.toList, e, vals_of_ints i1, at_⟩, rfl, q ns' _ i2 i3 (I1.hok.fresh (Nat.le_refl _))⟩
def rSumE (K : PySem.W.Frag) : List V → Hp → VK → Prop := fun vs H Q => ∃ (a : Addr) (ns : List Int), vs = [V.ref a] ∧ SqE K H a (ns.map V.int) ∧ Q (.int ns.sum) H
theorem cr_sumE (hc : X.calm = true) : CallR X (.builtin "sum") (rSumE X.K) := by
  intro pins s z H vs us Q I r h
  obtain ⟨a, ns, rfl, hs, q⟩ := h
  rcases hs with hs | hs
  · exact cr_sum hc pins s z H _ us Q I r ⟨a, ns, rfl, hs, q⟩
  · obtain ⟨its, rv, hl, _⟩ := I.tuple hs
    rw [Vals.ref1 r]
    exact sum_tup (I.ok.hd hc) (show s.heap.IsTuple a its.toArray from hl) rv.ints fun h' tk t' hk => ⟨.int _, H, I.kept hk, ⟨_, rfl⟩, q⟩
end
end Gen
namespace Gen
open PySem PySem.Spec PyProof.Rows L2
/-- an own class as the top has written it -/
structure Own (K : PySem.W.Frag) (mg : Str → Option Value) (x : Str) (C : Addr) : Prop where
  gC : mg x = some (.ref C)
  cl : Cls K C
  mkI : PySem.W.makesIn K C = true
  kp : PySem.W.keepIn K (.ref C) = true
  ha : PySem.W.findIn K (.ref C) "__class__" = some (some (.builtin "object.__class__"))
  hn : PySem.W.specialIn K (.builtin "object.__class__") "__get__" = some (some (.builtin "getset_descriptor.__get__"))
  ht : PySem.W.takesIn K (.builtin "object.__class__") = some true
  hm : PySem.W.mroIn K C (.type "object") = some true
  ci : PySem.W.isClsIn K C = true
  ct : PySem.W.typeIn K (.ref C) = some (.type "type")
  ne : PySem.W.findIn K (.ref C) "__ne__" = some (some (.builtin "object.__ne__"))
def OwnI (K : PySem.W.Frag) (qual : Str) (st : Stmt) (ps : List Str) (C : Addr) : Prop := ∃ f fd, Fun K "__init__" qual st f fd ∧ Binds K fd ps [] ∧ Mk K C f
def OwnE (K : PySem.W.Frag) (qual : Str) (st : Stmt) (ps : List Str) (C : Addr) : Prop :=
  ∃ f fd, Fun K "__eq__" qual st f fd ∧ Binds K fd ps [] ∧ PySem.W.findIn K (.ref C) "__eq__" = some (some (.ref f)) ∧ PySem.W.isFn K (.ref f) = true
section
variable {K : PySem.W.Frag} {mg : Str → Option Value} {x : Str} {C : Addr} {H : Hp}
theorem Own.ty (o : Own K mg x C) {a dx : Addr} {fs : List (Str × V)} (h : H a = some (.ins C dx fs)) : TyX K H (.ref a) (.ref C) := .base (.ins h o.cl o.ha o.hn o.ht o.hm)
theorem nf_self : PySem.W.notFirst K C (.ref C) = true := by
  unfold PySem.W.notFirst
  rw [show (Value.ref C == Value.ref C) = true from beq_self_eq_true _]
  rfl
theorem nf_tup : PySem.W.notFirst K C (.type "tuple") = true := rfl
theorem nf_non : PySem.W.notFirst K C (.type "NoneType") = true := rfl
theorem Own.kit_self (o : Own K mg x C) : PySem.W.kitOne K (.ref C) (.ref C) = some true := by
  unfold PySem.W.kitOne
  rw [if_pos (beq_self_eq_true _)]
theorem Own.kit_ty (o : Own K mg x C) {T : String} (h : PySem.W.subIn K (.type T) (.ref C) = some false) : PySem.W.kitOne K (.type T) (.ref C) = some false := by
  have e : ((PySem.W.clsIn K C).isSome && PySem.W.typeIn K (.ref C) == some (.type "type")) = true := by
    have a : (PySem.W.clsIn K C).isSome = true := o.ci
    rw [a, o.ct]
    rfl
  show (if _ then _ else (if _ then _ else none)) = some false
  rw [if_neg (fun z => by cases z), if_pos e]
  exact h
theorem sub_tup : PySem.W.subIn K (.type "tuple") (.ref C) = some false := rfl
theorem sub_non : PySem.W.subIn K (.type "NoneType") (.ref C) = some false := rfl
/-- isinstance(x, C) of an instance, a tuple, None -/
theorem isi_self (o : Own K mg x C) {a dx : Addr} {fs : List (Str × V)} {Q : VK} (h : H a = some (.ins C dx fs)) (q : Q (.bl true) H) : rIsi K [.ref a, .ref C] H Q :=
  ⟨_, _, _, _, true, rfl, .own _, o.ty h, o.kit_self, q⟩
theorem isi_tup_own (o : Own K mg x C) {a : Addr} {xs : List V} {Q : VK} (h : H a = some (.tup xs)) (q : Q (.bl false) H) : rIsi K [.ref a, .ref C] H Q :=
  ⟨_, _, _, _, false, rfl, .own _, .base (.tup h), o.kit_ty sub_tup, q⟩
theorem isi_non_own (o : Own K mg x C) {Q : VK} (q : Q (.bl false) H) : rIsi K [.non, .ref C] H Q :=
  ⟨_, _, _, _, false, rfl, .own _, .base .non, o.kit_ty sub_non, q⟩
/-- how an instance with two attributes is made -/
theorem made2 {f g : Str} {C a dx : Addr} {x y : V} {H : Hp} (ha : H a = none) (hd : H dx = none) (n : dx ≠ a) : Same H (upd (upd (upd H dx (.own a)) a (.ins C dx [])) a (.ins C dx [(f, x), (g, y)])) := fun b o e => by
  rw [upd_ne (ne_of_none e ha), upd_ne (ne_of_none e ha), upd_ne (ne_of_none e hd)]
  exact e
theorem upd_at {a : Addr} {u : HO} : upd H a u a = some u := upd_same
end
end Gen
set_option Elab.async false
set_option linter.all false
set_option maxRecDepth 100000
set_option maxHeartbeats 4000000

/-! ### coins that serve, greatest first -/
namespace Gen
open PySem PySem.Spec PyProof.Rows L2
section
variable {X : Cx} {n : Nat} {f C : Addr} {fd : FuncData} {ps : List Str} {sp : Sp}
/-- the same, K named (within a comprehension) -/
theorem op_eqK {K : PySem.W.Frag} (hK : X.K = K) (F : FnOk X.prog X.w X.K X.mg X.base CX0 n f fd ps sp) (hb : L2.Binds X.K fd ps []) (hs : PySem.W.findIn X.K (.ref C) "__eq__" = some (some (.ref f))) (hf : PySem.W.isFn X.K (.ref f) = true) (hr : Room n X.A) :
    OpR X (compareOp .Eq) (rOwnEq K C sp false) := hK ▸ op_eqI F hb hs hf hr
theorem op_neK {K : PySem.W.Frag} (hK : X.K = K) (F : FnOk X.prog X.w X.K X.mg X.base CX0 n f fd ps sp) (hb : L2.Binds X.K fd ps []) (hs : PySem.W.findIn X.K (.ref C) "__ne__" = some (some (.builtin "object.__ne__"))) (he : PySem.W.findIn X.K (.ref C) "__eq__" = some (some (.ref f)))
    (hf : PySem.W.isFn X.K (.ref f) = true) (hm : PySem.W.mroIn X.K C (.type "object") = some true) (hr : Room (n + 1) X.A) : OpR X (compareOp .NotEq) (rOwnEq K C sp true) := hK ▸ op_neI F hb hs he hf hm hr
end
def Srv (p : Int) : Int → List Int → Prop
  | _, [] => True
  | r, c :: cs => c ≤ room p r ∧ Srv p (r + c) cs
def insI (c : Int) : List Int → List Int
  | [] => [c]
  | d :: ds => if c ≤ d then c :: d :: ds else d :: insI c ds
theorem insI_perm (c : Int) : ∀ l : List Int, (insI c l).Perm (c :: l)
  | [] => .refl _
  | d :: ds => by
    unfold insI
    split
    · exact .refl _
    · exact ((insI_perm c ds).cons d).trans (List.Perm.swap c d ds)
theorem insI_mem {c x : Int} {l : List Int} (h : x ∈ insI c l) : x = c ∨ x ∈ l := List.mem_cons.mp ((insI_perm c l).subset h)
theorem insI_sorted {c : Int} : ∀ {l : List Int}, l.Pairwise (· ≤ ·) → (insI c l).Pairwise (· ≤ ·)
  | [], _ => List.pairwise_cons.mpr ⟨fun _ h => absurd h List.not_mem_nil, List.Pairwise.nil⟩
  | d :: ds, h => by
    obtain ⟨h1, h2⟩ := List.pairwise_cons.mp h
    unfold insI
    split
    · rename_i e
      refine List.pairwise_cons.mpr ⟨fun x hx => ?_, h⟩
      rcases List.mem_cons.mp hx with rfl | hx
      · exact e
      · exact Int.le_trans e (h1 x hx)
    · rename_i e
      refine List.pairwise_cons.mpr ⟨fun x hx => ?_, insI_sorted h2⟩
      rcases insI_mem hx with rfl | hx
      · omega
      · exact h1 x hx
theorem room_mono {p r s : Int} (hp : 2 ≤ p) (h : r ≤ s) : room p r ≤ room p s := by
  unfold room
  have := Int.ediv_le_ediv (c := p - 1) (by omega) h
  omega
theorem Srv.mono {p : Int} (hp : 2 ≤ p) : ∀ {l : List Int} {r s : Int}, r ≤ s → Srv p r l → Srv p s l
  | [], _, _, _, _ => True.intro
  | c :: cs, r, s, h, ⟨h1, h2⟩ => ⟨Int.le_trans h1 (room_mono hp h), Srv.mono hp (by omega) h2⟩
theorem Srv.ins {p c : Int} (hp : 2 ≤ p) (c0 : 0 ≤ c) : ∀ {l : List Int} {r : Int}, Srv p r l → c ≤ room p (r + l.sum) → Srv p r (insI c l)
  | [], r, _, h => by
    rw [List.sum_nil, Int.add_zero] at h
    exact ⟨h, True.intro⟩
  | d :: ds, r, ⟨h1, h2⟩, h => by
    unfold insI
    split
    · rename_i e
      refine ⟨by omega, Int.le_trans h1 (room_mono hp (by omega)), ?_⟩
      exact Srv.mono hp (by omega) h2
    · rw [List.sum_cons, ← Int.add_assoc] at h
      exact ⟨h1, Srv.ins hp c0 h2 h⟩
theorem room_pos {p r : Int} (hp : 2 ≤ p) (r0 : 0 ≤ r) : 1 ≤ room p r := by
  unfold room
  have := Int.ediv_nonneg r0 (show 0 ≤ p - 1 by omega)
  omega
theorem grow_front {p : Int} : ∀ (k : Nat) (a : Int), grow p (k + 1) a = grow p k (a + room p a)
  | 0, _ => rfl
  | k + 1, a => by
    show grow p (k + 1) a + room p (grow p (k + 1) a) = grow p k (a + room p a) + room p (grow p k (a + room p a))
    rw [grow_front k a]
theorem grow_add {p : Int} (hp : 2 ≤ p) : ∀ (k : Nat) {a : Int}, 0 ≤ a → a + k ≤ grow p k a
  | 0, a, _ => by show a + (0 : Nat) ≤ a; omega
  | k + 1, a, h => by
    have h1 := grow_add hp k h
    have h2 := room_pos hp (show 0 ≤ grow p k a by omega)
    show a + ((k + 1 : Nat) : Int) ≤ grow p k a + room p (grow p k a)
    omega
/-- a step of the greatest coins first -/
theorem coin_step {p t l c : Int} {k : Nat} (hp : 2 ≤ p) (h1 : (k : Int) + 1 ≤ l) (h2 : l ≤ t) (h3 : t ≤ grow p (k + 1) (t - l)) (hc : c = if l - k < room p (t - l) then l - k else room p (t - l)) :
    1 ≤ c ∧ c ≤ room p (t - l) ∧ (k : Int) ≤ l - c ∧ t ≤ grow p k (t - (l - c)) := by
  have r0 := room_pos hp (show 0 ≤ t - l by omega)
  by_cases e : l - k < room p (t - l)
  · rw [if_pos e] at hc
    have g := grow_add hp k (show 0 ≤ t - (l - c) by omega)
    refine ⟨by omega, by omega, by omega, by omega⟩
  · rw [if_neg e] at hc
    rw [grow_front] at h3
    have e2 : t - (l - c) = t - l + room p (t - l) := by omega
    rw [e2]
    exact ⟨by omega, by omega, by omega, h3⟩
theorem srv_up {p c r : Int} (p0 : 2 ≤ p) (p1 : p ≤ 5) (h : c ≤ room p r) : ¬ (r + c + p - 1) / p < c := by
  unfold room at h
  have e : p = 2 ∨ p = 3 ∨ p = 4 ∨ p = 5 := by omega
  rcases e with rfl | rfl | rfl | rfl <;> omega
theorem sum_perm {a b : List Int} (h : a.Perm b) : a.sum = b.sum := by
  induction h with
  | nil => rfl
  | cons x _ ih => rw [List.sum_cons, List.sum_cons, ih]
  | swap x y l => simp only [List.sum_cons]; omega
  | trans _ _ h1 h2 => exact h1.trans h2
/-- coins so far, in some order: sorted they serve -/
structure Good (p t l : Int) (ns : List Int) : Prop where
  pos : ∀ n, n ∈ ns → 1 ≤ n
  sum : ns.sum = t - l
  srt : ∃ ms : List Int, ms.Perm ns ∧ ms.Pairwise (· ≤ ·) ∧ Srv p 0 ms
theorem Good.nil {p t : Int} : Good p t t [] := ⟨fun _ h => absurd h List.not_mem_nil, by rw [List.sum_nil]; omega, [], .refl _, List.Pairwise.nil, True.intro⟩
theorem Good.put {p t l c : Int} {ns : List Int} (hp : 2 ≤ p) (g : Good p t l ns) (c1 : 1 ≤ c) (c2 : c ≤ room p (t - l)) : Good p t (l - c) (ns ++ [c]) := by
  obtain ⟨ms, h1, h2, h3⟩ := g.srt
  have es : ms.sum = t - l := by rw [sum_perm h1]; exact g.sum
  refine ⟨fun n hn => ?_, by rw [List.sum_append, g.sum]; simp; omega, insI c ms, (insI_perm c ms).trans ((h1.cons c).trans (List.perm_append_comm (l₁ := [c]))), insI_sorted h2, Srv.ins hp (by omega) h3 (by rw [es]; rwa [Int.zero_add])⟩
  rcases List.mem_append.mp hn with h | h
  · exact g.pos n h
  · rw [List.mem_singleton.mp h]; exact c1
theorem Good.out {p t l : Int} {ns ms : List Int} (g : Good p t l ns) (h1 : ms.Perm ns) (h2 : ms.Pairwise (· ≤ ·)) : Srv p 0 ms := by
  obtain ⟨ks, k1, k2, k3⟩ := g.srt
  rw [PySem.W.os_sorted_one (h1.trans k1.symm) h2 k2]
  exact k3
theorem dp_ints {K : PySem.W.Frag} {H : Hp} : ∀ ns : List Int, DpAll K H (ns.map V.int) (ns.map PyData.int)
  | [] => .nil
  | n :: ns => .cons (.int n) (dp_ints ns)
theorem eqv_ints : ∀ ns : List Int, PyData.eqvAll (ns.map PyData.int) (ns.map PyData.int) = true
  | [] => by simp [PyData.eqvAll]
  | n :: ns => by simp [PyData.eqvAll, PyData.eqv, eqv_ints ns]
theorem eq_ints {K : PySem.W.Frag} {H : Hp} {a b : Addr} {ns : List Int} {Q : VK} (ha : SqL K H a (ns.map V.int)) (hb : SqL K H b (ns.map V.int)) (q : Q (.bl true) H) : rEqD K (.ref a) (.ref b) H Q := by
  refine ⟨_, _, .lst ha (dp_ints ns), .lst hb (dp_ints ns), PySem.W.shaped_ints ns, PySem.W.shaped_ints ns, ?_⟩
  rw [show PyData.eqv (.list (ns.map PyData.int)) (.list (ns.map PyData.int)) = true by simp only [PyData.eqv]; exact eqv_ints ns]
  exact q
theorem ne_ints {K : PySem.W.Frag} {H : Hp} {a b : Addr} {ns : List Int} {Q : VK} (ha : SqL K H a (ns.map V.int)) (hb : SqL K H b (ns.map V.int)) (q : Q (.bl false) H) : rNeD K (.ref a) (.ref b) H Q := by
  refine ⟨_, _, .lst ha (dp_ints ns), .lst hb (dp_ints ns), PySem.W.shaped_ints ns, PySem.W.shaped_ints ns, ?_⟩
  rw [show PyData.eqv (.list (ns.map PyData.int)) (.list (ns.map PyData.int)) = true by simp only [PyData.eqv]; exact eqv_ints ns]
  exact q
theorem Srv.take {p : Int} : ∀ {ns : List Int} {r c : Int} {i : Nat}, Srv p r ns → ns[i]? = some c → c ≤ room p (r + (ns.take i).sum)
  | d :: ds, r, c, 0, h, e => by
    cases e
    rw [List.take_zero, List.sum_nil, Int.add_zero]
    exact h.1
  | d :: ds, r, c, i + 1, h, e => by
    rw [List.take_succ_cons, List.sum_cons, ← Int.add_assoc]
    exact Srv.take h.2 e
end Gen
set_option Elab.async false
set_option linter.all false
set_option maxRecDepth 100000
set_option maxHeartbeats 4000000
namespace My
open PySem PySem.Spec PyProof.Rows L2 Gen
/-! ### the text by places -/
def top (i : Nat) : Stmt := PySem.Challenge.pw_anyworths_k18_whole_pools_from_count_to.main.body.getD i (.Pass ⟨0, 0, 0, 0⟩)
abbrev s_i_BadCount : Stmt := inClass (top 3) 0
abbrev nm_i_BadCount : List Str := ["self", "most"]
abbrev ps_i_BadCount : List Str := ["self", "most"]
theorem sc_i_BadCount : FnScope nm_i_BadCount ps_i_BadCount (defScope s_i_BadCount) := ⟨rfl, rfl, rfl, by decide +kernel, rfl, by decide +kernel, by decide +kernel⟩
abbrev s_i_BadTotal : Stmt := inClass (top 4) 0
abbrev nm_i_BadTotal : List Str := ["self", "most"]
abbrev ps_i_BadTotal : List Str := ["self", "most"]
theorem sc_i_BadTotal : FnScope nm_i_BadTotal ps_i_BadTotal (defScope s_i_BadTotal) := ⟨rfl, rfl, rfl, by decide +kernel, rfl, by decide +kernel, by decide +kernel⟩
abbrev s_is_number : Stmt := top 8
abbrev nm_is_number : List Str := ["thing"]
abbrev ps_is_number : List Str := ["thing"]
theorem sc_is_number : FnScope nm_is_number ps_is_number (defScope s_is_number) := ⟨rfl, rfl, rfl, by decide +kernel, rfl, by decide +kernel, by decide +kernel⟩
abbrev s_is_whole : Stmt := top 9
abbrev nm_is_whole : List Str := ["thing", "low", "high"]
abbrev ps_is_whole : List Str := ["thing", "low", "high"]
theorem sc_is_whole : FnScope nm_is_whole ps_is_whole (defScope s_is_whole) := ⟨rfl, rfl, rfl, by decide +kernel, rfl, by decide +kernel, by decide +kernel⟩
abbrev s_check_people : Stmt := top 10
abbrev nm_check_people : List Str := ["people", "low"]
abbrev ps_check_people : List Str := ["people", "low"]
theorem sc_check_people : FnScope nm_check_people ps_check_people (defScope s_check_people) := ⟨rfl, rfl, rfl, by decide +kernel, rfl, by decide +kernel, by decide +kernel⟩
abbrev s_i_NoPool : Stmt := inClass (top 14) 0
abbrev nm_i_NoPool : List Str := ["self", "low", "high"]
abbrev ps_i_NoPool : List Str := ["self", "low", "high"]
theorem sc_i_NoPool : FnScope nm_i_NoPool ps_i_NoPool (defScope s_i_NoPool) := ⟨rfl, rfl, rfl, by decide +kernel, rfl, by decide +kernel, by decide +kernel⟩
abbrev s_e_NoPool : Stmt := inClass (top 14) 1
abbrev nm_e_NoPool : List Str := ["self", "other"]
abbrev ps_e_NoPool : List Str := ["self", "other"]
theorem sc_e_NoPool : FnScope nm_e_NoPool ps_e_NoPool (defScope s_e_NoPool) := ⟨rfl, rfl, rfl, by decide +kernel, rfl, by decide +kernel, by decide +kernel⟩
abbrev s_check_count : Stmt := top 15
abbrev nm_check_count : List Str := ["count", "most"]
abbrev ps_check_count : List Str := ["count", "most"]
theorem sc_check_count : FnScope nm_check_count ps_check_count (defScope s_check_count) := ⟨rfl, rfl, rfl, by decide +kernel, rfl, by decide +kernel, by decide +kernel⟩
abbrev s_check_total : Stmt := top 16
abbrev nm_check_total : List Str := ["total", "most"]
abbrev ps_check_total : List Str := ["total", "most"]
theorem sc_check_total : FnScope nm_check_total ps_check_total (defScope s_check_total) := ⟨rfl, rfl, rfl, by decide +kernel, rfl, by decide +kernel, by decide +kernel⟩
abbrev s_room_at : Stmt := top 17
abbrev nm_room_at : List Str := ["total", "people"]
abbrev ps_room_at : List Str := ["total", "people"]
theorem sc_room_at : FnScope nm_room_at ps_room_at (defScope s_room_at) := ⟨rfl, rfl, rfl, by decide +kernel, rfl, by decide +kernel, by decide +kernel⟩
abbrev s_greatest_behind : Stmt := top 18
abbrev nm_greatest_behind : List Str := ["ahead", "count", "people", "total", "_"]
abbrev ps_greatest_behind : List Str := ["ahead", "count", "people"]
theorem sc_greatest_behind : FnScope nm_greatest_behind ps_greatest_behind (defScope s_greatest_behind) := ⟨rfl, rfl, rfl, by decide +kernel, rfl, by decide +kernel, by decide +kernel⟩
abbrev s_pool_for : Stmt := top 19
abbrev nm_pool_for : List Str := ["count", "total", "people", "high", "coins", "left", "still", "coin"]
abbrev ps_pool_for : List Str := ["count", "total", "people"]
theorem sc_pool_for : FnScope nm_pool_for ps_pool_for (defScope s_pool_for) := ⟨rfl, rfl, rfl, by decide +kernel, rfl, by decide +kernel, by decide +kernel⟩
abbrev s_l_mix : Stmt := top 21
abbrev nm_l_mix : List Str := ["_law_number", "_law_turn", "_law_once", "_law_twice"]
abbrev ps_l_mix : List Str := ["_law_number", "_law_turn"]
theorem sc_l_mix : FnScope nm_l_mix ps_l_mix (defScope s_l_mix) := ⟨rfl, rfl, rfl, by decide +kernel, rfl, by decide +kernel, by decide +kernel⟩
abbrev s_l_hand : Stmt := top 22
abbrev nm_l_hand : List Str := ["_law_script", "_law_total", "_law_k", "_law_cell"]
abbrev ps_l_hand : List Str := ["_law_script"]
theorem sc_l_hand : FnScope nm_l_hand ps_l_hand (defScope s_l_hand) := ⟨rfl, rfl, rfl, by decide +kernel, rfl, by decide +kernel, by decide +kernel⟩
abbrev s_l_draw : Stmt := top 23
abbrev nm_l_draw : List Str := ["_law_hand_here", "_law_many", "_law_cell", "_law_rest"]
abbrev ps_l_draw : List Str := ["_law_hand_here", "_law_many"]
theorem sc_l_draw : FnScope nm_l_draw ps_l_draw (defScope s_l_draw) := ⟨rfl, rfl, rfl, by decide +kernel, rfl, by decide +kernel, by decide +kernel⟩
abbrev s_l_pick : Stmt := top 24
abbrev nm_l_pick : List Str := ["_law_hand_here", "_law_things"]
abbrev ps_l_pick : List Str := ["_law_hand_here", "_law_things"]
theorem sc_l_pick : FnScope nm_l_pick ps_l_pick (defScope s_l_pick) := ⟨rfl, rfl, rfl, by decide +kernel, rfl, by decide +kernel, by decide +kernel⟩
abbrev s_l_is_whole : Stmt := top 25
abbrev nm_l_is_whole : List Str := ["_law_thing"]
abbrev ps_l_is_whole : List Str := ["_law_thing"]
theorem sc_l_is_whole : FnScope nm_l_is_whole ps_l_is_whole (defScope s_l_is_whole) := ⟨rfl, rfl, rfl, by decide +kernel, rfl, by decide +kernel, by decide +kernel⟩
abbrev s_l_is_coins : Stmt := top 26
abbrev nm_l_is_coins : List Str := ["_law_thing", "_law_coin"]
abbrev ps_l_is_coins : List Str := ["_law_thing"]
theorem sc_l_is_coins : FnScope nm_l_is_coins ps_l_is_coins (defScope s_l_is_coins) := ⟨rfl, rfl, rfl, by decide +kernel, rfl, by decide +kernel, by decide +kernel⟩
abbrev s_l_up : Stmt := top 27
abbrev nm_l_up : List Str := ["_law_total", "_law_people"]
abbrev ps_l_up : List Str := ["_law_total", "_law_people"]
theorem sc_l_up : FnScope nm_l_up ps_l_up (defScope s_l_up) := ⟨rfl, rfl, rfl, by decide +kernel, rfl, by decide +kernel, by decide +kernel⟩
abbrev s_l_serves : Stmt := top 28
abbrev nm_l_serves : List Str := ["_law_coins", "_law_people", "_law_reached", "_law_coin"]
abbrev ps_l_serves : List Str := ["_law_coins", "_law_people"]
theorem sc_l_serves : FnScope nm_l_serves ps_l_serves (defScope s_l_serves) := ⟨rfl, rfl, rfl, by decide +kernel, rfl, by decide +kernel, by decide +kernel⟩
abbrev s_l_next : Stmt := top 29
abbrev nm_l_next : List Str := ["_law_total", "_law_people"]
abbrev ps_l_next : List Str := ["_law_total", "_law_people"]
theorem sc_l_next : FnScope nm_l_next ps_l_next (defScope s_l_next) := ⟨rfl, rfl, rfl, by decide +kernel, rfl, by decide +kernel, by decide +kernel⟩
abbrev s_l_great : Stmt := top 30
abbrev nm_l_great : List Str := ["_law_count", "_law_people", "_law_total", "_law_k"]
abbrev ps_l_great : List Str := ["_law_count", "_law_people"]
theorem sc_l_great : FnScope nm_l_great ps_l_great (defScope s_l_great) := ⟨rfl, rfl, rfl, by decide +kernel, rfl, by decide +kernel, by decide +kernel⟩
abbrev s_l_odd_people : Stmt := top 31
abbrev nm_l_odd_people : List Str := ["_law_hand_here"]
abbrev ps_l_odd_people : List Str := ["_law_hand_here"]
theorem sc_l_odd_people : FnScope nm_l_odd_people ps_l_odd_people (defScope s_l_odd_people) := ⟨rfl, rfl, rfl, by decide +kernel, rfl, by decide +kernel, by decide +kernel⟩
abbrev s_l_odd_number : Stmt := top 32
abbrev nm_l_odd_number : List Str := ["_law_hand_here", "_law_most"]
abbrev ps_l_odd_number : List Str := ["_law_hand_here", "_law_most"]
theorem sc_l_odd_number : FnScope nm_l_odd_number ps_l_odd_number (defScope s_l_odd_number) := ⟨rfl, rfl, rfl, by decide +kernel, rfl, by decide +kernel, by decide +kernel⟩
abbrev s_l_told : Stmt := top 33
abbrev nm_l_told : List Str := ["_law_count", "_law_total", "_law_people", "e"]
abbrev ps_l_told : List Str := ["_law_count", "_law_total", "_law_people"]
theorem sc_l_told : FnScope nm_l_told ps_l_told (defScope s_l_told) := ⟨rfl, rfl, rfl, by decide +kernel, rfl, by decide +kernel, by decide +kernel⟩
abbrev s_l_right : Stmt := top 34
abbrev nm_l_right : List Str := ["_law_count", "_law_total", "_law_people", "_law_told_here", "_law_high"]
abbrev ps_l_right : List Str := ["_law_count", "_law_total", "_law_people"]
theorem sc_l_right : FnScope nm_l_right ps_l_right (defScope s_l_right) := ⟨rfl, rfl, rfl, by decide +kernel, rfl, by decide +kernel, by decide +kernel⟩
abbrev s_l_equals_right : Stmt := top 35
abbrev nm_l_equals_right : List Str := ["_law_hand_here", "_law_low", "_law_high", "_law_one", "_law_others", "_law_other"]
abbrev ps_l_equals_right : List Str := ["_law_hand_here"]
theorem sc_l_equals_right : FnScope nm_l_equals_right ps_l_equals_right (defScope s_l_equals_right) := ⟨rfl, rfl, rfl, by decide +kernel, rfl, by decide +kernel, by decide +kernel⟩
abbrev s_l_refusals_right : Stmt := top 36
abbrev nm_l_refusals_right : List Str := ["_law_hand_here", "_law_people", "_law_count", "_law_total", "_law_odd_count", "_law_odd_total", "_law_odd_people_here"]
abbrev ps_l_refusals_right : List Str := ["_law_hand_here", "_law_people"]
theorem sc_l_refusals_right : FnScope nm_l_refusals_right ps_l_refusals_right (defScope s_l_refusals_right) := ⟨rfl, rfl, rfl, by decide +kernel, rfl, by decide +kernel, by decide +kernel⟩
abbrev s_law : Stmt := top 37
abbrev nm_law : List Str := ["_law_script", "_law_hand_here", "_law_people", "_law_count", "_law_high", "_law_totals", "_law_k", "_law_total"]
abbrev ps_law : List Str := ["_law_script"]
theorem sc_law : FnScope nm_law ps_law (defScope s_law) := ⟨rfl, rfl, rfl, by decide +kernel, rfl, by decide +kernel, by decide +kernel⟩
/-! ### what the top has written -/
structure Txt (K : PySem.W.Frag) (mg : Str → Option Value) (cBadPeople : Addr) (cBadCount : Addr) (cBadTotal : Addr) (cNoPool : Addr) : Prop where
  d_is_number : Df K mg "is_number" s_is_number ps_is_number
  d_is_whole : Df K mg "is_whole" s_is_whole ps_is_whole
  d_check_people : DfD K mg "check_people" s_check_people ps_check_people [(V.int 1)]
  d_check_count : Df K mg "check_count" s_check_count ps_check_count
  d_check_total : Df K mg "check_total" s_check_total ps_check_total
  d_room_at : Df K mg "room_at" s_room_at ps_room_at
  d_greatest_behind : Df K mg "greatest_behind" s_greatest_behind ps_greatest_behind
  d_pool_for : Df K mg "pool_for" s_pool_for ps_pool_for
  d_l_mix : Df K mg "_law_mix" s_l_mix ps_l_mix
  d_l_hand : Df K mg "_law_hand" s_l_hand ps_l_hand
  d_l_draw : Df K mg "_law_draw" s_l_draw ps_l_draw
  d_l_pick : Df K mg "_law_pick" s_l_pick ps_l_pick
  d_l_is_whole : Df K mg "_law_is_whole" s_l_is_whole ps_l_is_whole
  d_l_is_coins : Df K mg "_law_is_coins" s_l_is_coins ps_l_is_coins
  d_l_up : Df K mg "_law_up" s_l_up ps_l_up
  d_l_serves : Df K mg "_law_serves" s_l_serves ps_l_serves
  d_l_next : Df K mg "_law_next" s_l_next ps_l_next
  d_l_great : Df K mg "_law_great" s_l_great ps_l_great
  d_l_odd_people : Df K mg "_law_odd_people" s_l_odd_people ps_l_odd_people
  d_l_odd_number : Df K mg "_law_odd_number" s_l_odd_number ps_l_odd_number
  d_l_told : Df K mg "_law_told" s_l_told ps_l_told
  d_l_right : Df K mg "_law_right" s_l_right ps_l_right
  d_l_equals_right : Df K mg "_law_equals_right" s_l_equals_right ps_l_equals_right
  d_l_refusals_right : Df K mg "_law_refusals_right" s_l_refusals_right ps_l_refusals_right
  d_law : Df K mg "law" s_law ps_law
  c_MOST_PEOPLE : ∃ u, mg "MOST_PEOPLE" = some u ∧ RelV (.int 5) u
  c_MOST_COINS : ∃ u, mg "MOST_COINS" = some u ∧ RelV (.int 12) u
  c_GREATEST_TOTAL : ∃ u, mg "GREATEST_TOTAL" = some u ∧ RelV (.int 1000000000) u
  c_LEAST_PEOPLE : ∃ u, mg "LEAST_PEOPLE" = some u ∧ RelV (.int 2) u
  n_isinstance : mg "isinstance" = none
  n_int : mg "int" = none
  n_bool : mg "bool" = none
  n_range : mg "range" = none
  n_tuple : mg "tuple" = none
  n_min : mg "min" = none
  n_sorted : mg "sorted" = none
  n_enumerate : mg "enumerate" = none
  n_abs : mg "abs" = none
  n_len : mg "len" = none
  n_list : mg "list" = none
  n_sum : mg "sum" = none
  n_max : mg "max" = none
  y_BadPeople : XP K mg "BadPeople" cBadPeople
  y_BadCount : XI K mg "BadCount" "BadCount.__init__" s_i_BadCount ps_i_BadCount cBadCount
  x_BadCount : XfC K cBadCount
  f_BadCount_most : PySem.W.findIn K (.ref cBadCount) "most" = some none
  y_BadTotal : XI K mg "BadTotal" "BadTotal.__init__" s_i_BadTotal ps_i_BadTotal cBadTotal
  x_BadTotal : XfC K cBadTotal
  f_BadTotal_most : PySem.W.findIn K (.ref cBadTotal) "most" = some none
  o_NoPool : Own K mg "NoPool" cNoPool
  i_NoPool : OwnI K "NoPool.__init__" s_i_NoPool ps_i_NoPool cNoPool
  e_NoPool : OwnE K "NoPool.__eq__" s_e_NoPool ps_e_NoPool cNoPool
  f_NoPool_low : NoAttr K cNoPool "low"
  f_NoPool_high : NoAttr K cNoPool "high"
  m_BadPeople_BadPeople : PySem.W.exmOne K (.ref cBadPeople) (.ref cBadPeople) = some true
  m_BadPeople_BadCount : PySem.W.exmOne K (.ref cBadPeople) (.ref cBadCount) = some false
  m_BadPeople_BadTotal : PySem.W.exmOne K (.ref cBadPeople) (.ref cBadTotal) = some false
  m_BadCount_BadPeople : PySem.W.exmOne K (.ref cBadCount) (.ref cBadPeople) = some false
  m_BadCount_BadCount : PySem.W.exmOne K (.ref cBadCount) (.ref cBadCount) = some true
  m_BadCount_BadTotal : PySem.W.exmOne K (.ref cBadCount) (.ref cBadTotal) = some false
  m_BadTotal_BadPeople : PySem.W.exmOne K (.ref cBadTotal) (.ref cBadPeople) = some false
  m_BadTotal_BadCount : PySem.W.exmOne K (.ref cBadTotal) (.ref cBadCount) = some false
  m_BadTotal_BadTotal : PySem.W.exmOne K (.ref cBadTotal) (.ref cBadTotal) = some true
end My
set_option Elab.async false
set_option linter.all false
set_option maxRecDepth 100000
set_option maxHeartbeats 4000000
namespace My
open PySem PySem.Spec PyProof.Rows L2 Gen
section
variable {P : Program} {w : World} {K : PySem.W.Frag} {mg : Str → Option Value} {base : Heap} { cBadPeople cBadCount cBadTotal cNoPool : Addr}
theorem ok_i_BadCount {f : Addr} {fd : FuncData} (F : Fun K "__init__" "BadCount.__init__" s_i_BadCount f fd) (T : Txt K mg cBadPeople cBadCount cBadTotal cNoPool) : FnOk P w K mg base CX0 1 f fd ps_i_BadCount (spI1 K cBadCount "most") := by
  refine F.ok (k := 0) sc_i_BadCount (fun vs H Q E h => by obtain ⟨_, _, rfl, _⟩ := h; rfl) (fun cdv A outer s H vs Q E hr h => ?_)
  refine ⟨_, (pss_one (ps_ost (pv 0) (pv 1))), ?_⟩
  obtain ⟨a, v, rfl, ha, ox, hn, q⟩ := h
  refine ⟨_, rfl, _, rfl, a, _, rfl, ox, hn, .inl ⟨ha, fun dx hx ne => q dx hx ne⟩⟩
theorem ok_i_BadTotal {f : Addr} {fd : FuncData} (F : Fun K "__init__" "BadTotal.__init__" s_i_BadTotal f fd) (T : Txt K mg cBadPeople cBadCount cBadTotal cNoPool) : FnOk P w K mg base CX0 1 f fd ps_i_BadTotal (spI1 K cBadTotal "most") := by
  refine F.ok (k := 0) sc_i_BadTotal (fun vs H Q E h => by obtain ⟨_, _, rfl, _⟩ := h; rfl) (fun cdv A outer s H vs Q E hr h => ?_)
  refine ⟨_, (pss_one (ps_ost (pv 0) (pv 1))), ?_⟩
  obtain ⟨a, v, rfl, ha, ox, hn, q⟩ := h
  refine ⟨_, rfl, _, rfl, a, _, rfl, ox, hn, .inl ⟨ha, fun dx hx ne => q dx hx ne⟩⟩
def sp_is_number (_ : PySem.W.Frag) : Sp := fun vs H Q _ => ∃ x : V, vs = [x] ∧ Plain H x ∧ Q (.bl (isI x)) H
theorem len_is_number {vs H Q E} (h : sp_is_number K vs H Q E) : vs.length = 1 := by
  obtain ⟨_, rfl, _⟩ := h; rfl
theorem ok_is_number {f : Addr} {fd : FuncData} (F : Fun K "is_number" "is_number" s_is_number f fd) (T : Txt K mg cBadPeople cBadCount cBadTotal cNoPool) : FnOk P w K mg base CX0 1 f fd ps_is_number (sp_is_number K) := by
  refine F.ok (k := 0) sc_is_number (fun vs H Q E h => len_is_number h) (fun cdv A outer s H vs Q E hr h => ?_)
  refine ⟨_, (pss_one (ps_ret (pe_and (pe_callB call_isi (by rfl) T.n_isinstance (by decide +kernel) (pa_cons (pv 0) (pa_cons (pe_bltn (v := .ty "int") (by rfl) T.n_int (by decide +kernel) rfl) pa_nil))) (pe_one (pe_not (pe_callB call_isi (by rfl) T.n_isinstance (by decide +kernel) (pa_cons (pv 0) (pa_cons (pe_bltn (v := .ty "bool") (by rfl) T.n_bool (by decide +kernel) rfl) pa_nil)))))))), ?_⟩
  obtain ⟨x, rfl, hp, q⟩ := h
  simp only [tSeq, tAsg, tDrop, tRet, tRetN, tIfS, tNext, tTest, tB, tNot, tAnd, tOr, tChain, tIf, tAndV, tOrV, tNotV, tOp, tUn, tCB, tCons, tNil, tVar, tC, tCall, tCallS, gName, rI, rI0, rU, rEq, rNe, tTup, tLst, gSub, rSetL, rIxL, rIxT, L2.start, List.map_cons, List.map_nil, List.length_cons, List.length_nil, Nat.reduceAdd, Nat.reduceSub, List.replicate_succ, List.replicate_zero, List.getElem?_cons_zero, List.getElem?_cons_succ, List.set_cons_zero, List.set_cons_succ, Option.some.injEq, exists_eq_left', exists_eq_left, exists_and_left, V.int.injEq, V.bl.injEq, V.ref.injEq, V.str.injEq, List.cons.injEq, and_true, true_and, List.nil_append, List.cons_append, List.append_nil, reduceCtorEq, false_and, exists_false, or_false, false_or, and_false, Int.reduceNeg, decide_eq_true_eq, Bool.not_eq_true', decide_eq_false_iff_not, and_assoc, tYes, ↓reduceIte, wipe, Bool.false_eq_true, Bool.true_eq_false, cxOf, false_implies, true_implies, implies_true, forall_const]
  refine isi_int hp ?_
  cases x with
  | int i => exact ⟨true, rfl, iteT (isi_bool hp ⟨false, rfl, q⟩)⟩
  | bl i => exact ⟨true, rfl, iteT (isi_bool hp ⟨true, rfl, q⟩)⟩
  | _ => exact ⟨false, rfl, iteF q⟩
def sp_is_whole (_ : PySem.W.Frag) : Sp := fun vs H Q _ => ∃ (x : V) (lo hi : Int), vs = [x, .int lo, .int hi] ∧ Plain H x ∧ Q (.bl (whole x lo hi)) H
theorem len_is_whole {vs H Q E} (h : sp_is_whole K vs H Q E) : vs.length = 3 := by
  obtain ⟨_, _, _, rfl, _⟩ := h; rfl
theorem ok_is_whole {f : Addr} {fd : FuncData} (F : Fun K "is_whole" "is_whole" s_is_whole f fd) (T : Txt K mg cBadPeople cBadCount cBadTotal cNoPool) : FnOk P w K mg base CX0 2 f fd ps_is_whole (sp_is_whole K) := by
  obtain ⟨f_is_number, fd_is_number, F_is_number, m_is_number, b_is_number⟩ := T.d_is_number
  have G_is_number : FnOk P w K mg base CX0 1 f_is_number fd_is_number ps_is_number (sp_is_number K) := ok_is_number F_is_number T
  refine F.ok (k := 1) sc_is_whole (fun vs H Q E h => len_is_whole h) (fun cdv A outer s H vs Q E hr h => ?_)
  refine ⟨_, (pss_one (ps_ret (pe_and (pe_call G_is_number (hr.mono (by decide)) (by rfl) m_is_number F_is_number.kp b_is_number .nil pass0 (pa_cons (pv 0) pa_nil)) (pe_one (pe_chain op_le op_le (pv 1) (pv 0) (pv 2)))))), ?_⟩
  obtain ⟨x, lo, hi, rfl, hp, q⟩ := h
  simp only [tSeq, tAsg, tDrop, tRet, tRetN, tIfS, tNext, tTest, tB, tNot, tAnd, tOr, tChain, tIf, tAndV, tOrV, tNotV, tOp, tUn, tCB, tCons, tNil, tVar, tC, tCall, tCallS, gName, rI, rI0, rU, rEq, rNe, tTup, tLst, gSub, rSetL, rIxL, rIxT, L2.start, List.map_cons, List.map_nil, List.length_cons, List.length_nil, Nat.reduceAdd, Nat.reduceSub, List.replicate_succ, List.replicate_zero, List.getElem?_cons_zero, List.getElem?_cons_succ, List.set_cons_zero, List.set_cons_succ, Option.some.injEq, exists_eq_left', exists_eq_left, exists_and_left, V.int.injEq, V.bl.injEq, V.ref.injEq, V.str.injEq, List.cons.injEq, and_true, true_and, List.nil_append, List.cons_append, List.append_nil, reduceCtorEq, false_and, exists_false, or_false, false_or, and_false, Int.reduceNeg, decide_eq_true_eq, Bool.not_eq_true', decide_eq_false_iff_not, and_assoc, tYes, ↓reduceIte, wipe, Bool.false_eq_true, Bool.true_eq_false, cxOf, false_implies, true_implies, implies_true, forall_const, sp_is_number]
  refine ⟨hp, ?_⟩
  cases x with
  | int i =>
    refine iteT ?_
    simp only [tSeq, tAsg, tDrop, tRet, tRetN, tIfS, tNext, tTest, tB, tNot, tAnd, tOr, tChain, tIf, tAndV, tOrV, tNotV, tOp, tUn, tCB, tCons, tNil, tVar, tC, tCall, tCallS, gName, rI, rI0, rU, rEq, rNe, tTup, tLst, gSub, rSetL, rIxL, rIxT, L2.start, List.map_cons, List.map_nil, List.length_cons, List.length_nil, Nat.reduceAdd, Nat.reduceSub, List.replicate_succ, List.replicate_zero, List.getElem?_cons_zero, List.getElem?_cons_succ, List.set_cons_zero, List.set_cons_succ, Option.some.injEq, exists_eq_left', exists_eq_left, exists_and_left, V.int.injEq, V.bl.injEq, V.ref.injEq, V.str.injEq, List.cons.injEq, and_true, true_and, List.nil_append, List.cons_append, List.append_nil, reduceCtorEq, false_and, exists_false, or_false, false_or, and_false, Int.reduceNeg, decide_eq_true_eq, Bool.not_eq_true', decide_eq_false_iff_not, and_assoc, tYes, ↓reduceIte, wipe, Bool.false_eq_true, Bool.true_eq_false, cxOf, false_implies, true_implies, implies_true, forall_const]
    by_cases c : lo ≤ i
    · rw [if_pos c]
      have e : whole (.int i) lo hi = decide (i ≤ hi) := by show (decide (lo ≤ i) && decide (i ≤ hi)) = _; rw [decide_eq_true c, Bool.true_and]
      rw [e] at q
      exact q
    · rw [if_neg c]
      have e : whole (.int i) lo hi = false := by show (decide (lo ≤ i) && decide (i ≤ hi)) = _; rw [decide_eq_false c, Bool.false_and]
      rw [e] at q
      exact q
  | _ => exact iteF q
def sp_check_people (_ : PySem.W.Frag) (cP : Addr) : Sp := fun vs H Q E => ∃ (x : V) (lo : Int), vs = [x, .int lo] ∧ Plain H x ∧ (whole x lo 5 = true → Q x H) ∧ (whole x lo 5 = false → E (.ref cP) none H)
theorem len_check_people {vs H Q E} (h : sp_check_people K cBadPeople vs H Q E) : vs.length = 2 := by
  obtain ⟨_, _, rfl, _⟩ := h; rfl
theorem ok_check_people {f : Addr} {fd : FuncData} (F : FunD K "check_people" "check_people" (defArgs s_check_people) (defBody s_check_people) (defScope s_check_people) [(V.int 1)] [] f fd) (T : Txt K mg cBadPeople cBadCount cBadTotal cNoPool) : FnOk P w K mg base (L2.CX P w) 3 f fd ps_check_people (sp_check_people K cBadPeople) := by
  obtain ⟨f_is_whole, fd_is_whole, F_is_whole, m_is_whole, b_is_whole⟩ := T.d_is_whole
  have G_is_whole : FnOk P w K mg base CX0 2 f_is_whole fd_is_whole ps_is_whole (sp_is_whole K) := ok_is_whole F_is_whole T
  obtain ⟨u_MOST_PEOPLE, c_MOST_PEOPLE, r_MOST_PEOPLE⟩ := T.c_MOST_PEOPLE
  refine F.ok (k := 2) sc_check_people (fun vs H Q E h => len_check_people h) (fun cdv A outer s H vs Q E hr h => ?_)
  refine ⟨_, (pss_cons (ps_if (pt_not (pt_val (pe_call G_is_whole (hr.mono (by decide)) (by rfl) m_is_whole F_is_whole.kp b_is_whole .nil pass0 (pa_cons (pv 0) (pa_cons (pv 1) (pa_cons (pe_glob rfl c_MOST_PEOPLE r_MOST_PEOPLE) pa_nil)))))) (pss_one (ps_raise rfl (takes_of rfl rfl rfl rfl) (T.y_BadPeople.made (by rfl)))) pss_nil)
      (pss_one (ps_ret (pv 0)))), ?_⟩
  obtain ⟨x, lo, rfl, hp, q1, q2⟩ := h
  simp only [tSeq, tAsg, tDrop, tRet, tRetN, tIfS, tNext, tTest, tB, tNot, tAnd, tOr, tChain, tIf, tAndV, tOrV, tNotV, tOp, tUn, tCB, tCons, tNil, tVar, tC, tCall, tCallS, gName, rI, rI0, rU, rEq, rNe, tTup, tLst, gSub, rSetL, rIxL, rIxT, L2.start, List.map_cons, List.map_nil, List.length_cons, List.length_nil, Nat.reduceAdd, Nat.reduceSub, List.replicate_succ, List.replicate_zero, List.getElem?_cons_zero, List.getElem?_cons_succ, List.set_cons_zero, List.set_cons_succ, Option.some.injEq, exists_eq_left', exists_eq_left, exists_and_left, V.int.injEq, V.bl.injEq, V.ref.injEq, V.str.injEq, List.cons.injEq, and_true, true_and, List.nil_append, List.cons_append, List.append_nil, reduceCtorEq, false_and, exists_false, or_false, false_or, and_false, Int.reduceNeg, decide_eq_true_eq, Bool.not_eq_true', decide_eq_false_iff_not, and_assoc, tYes, ↓reduceIte, wipe, Bool.false_eq_true, Bool.true_eq_false, cxOf, false_implies, true_implies, implies_true, forall_const, sp_is_whole]
  refine ⟨hp, ?_⟩
  split
  · rename_i e; exact q2 e
  · rename_i e; exact q1 (by simpa using e)
def sp_check_count (_ : PySem.W.Frag) (cC : Addr) : Sp := fun vs H Q E => ∃ (x : V) (m : Int), vs = [x, .int m] ∧ Plain H x ∧ (whole x 0 m = true → Q x H) ∧ (whole x 0 m = false → ∀ d, H d = none → E (.ref cC) (some d) (upd H d (.xd [("most", .int m)])))
theorem len_check_count {vs H Q E} (h : sp_check_count K cBadCount vs H Q E) : vs.length = 2 := by
  obtain ⟨_, _, rfl, _⟩ := h; rfl
theorem ok_check_count {f : Addr} {fd : FuncData} (F : Fun K "check_count" "check_count" s_check_count f fd) (T : Txt K mg cBadPeople cBadCount cBadTotal cNoPool) : FnOk P w K mg base (L2.CX P w) 3 f fd ps_check_count (sp_check_count K cBadCount) := by
  obtain ⟨f_is_whole, fd_is_whole, F_is_whole, m_is_whole, b_is_whole⟩ := T.d_is_whole
  have G_is_whole : FnOk P w K mg base CX0 2 f_is_whole fd_is_whole ps_is_whole (sp_is_whole K) := ok_is_whole F_is_whole T
  obtain ⟨f_i_BadCount, fd_i_BadCount, F_i_BadCount, b_i_BadCount, iC_BadCount, tI_BadCount⟩ := T.y_BadCount.ini
  have G_i_BadCount : FnOk P w K mg base CX0 1 f_i_BadCount fd_i_BadCount ps_i_BadCount (spI1 K cBadCount "most") := ok_i_BadCount F_i_BadCount T
  refine F.okX (k := 2) sc_check_count (fun vs H Q E h => len_check_count h) (fun cdv A outer s H vs Q E hr h => ?_)
  refine ⟨_, (pss_cons (ps_if (pt_not (pt_val (pe_call G_is_whole (hr.mono (by decide)) (by rfl) m_is_whole F_is_whole.kp b_is_whole .nil pass0 (pa_cons (pv 0) (pa_cons pe_int (pa_cons (pv 1) pa_nil)))))) (pss_one (ps_raise rfl (takes_of rfl rfl rfl rfl) (pmk_oex T.y_BadCount.ox iC_BadCount tI_BadCount G_i_BadCount (hr.mono (by decide)) b_i_BadCount .nil pass0 (by rfl) T.y_BadCount.gC (pa_cons (pv 1) pa_nil)))) pss_nil)
      (pss_one (ps_ret (pv 0)))), ?_⟩
  obtain ⟨x, m, rfl, hp, q1, q2⟩ := h
  simp only [tSeq, tAsg, tDrop, tRet, tRetN, tIfS, tNext, tTest, tB, tNot, tAnd, tOr, tChain, tIf, tAndV, tOrV, tNotV, tOp, tUn, tCB, tCons, tNil, tVar, tC, tCall, tCallS, gName, rI, rI0, rU, rEq, rNe, tTup, tLst, gSub, rSetL, rIxL, rIxT, L2.start, List.map_cons, List.map_nil, List.length_cons, List.length_nil, Nat.reduceAdd, Nat.reduceSub, List.replicate_succ, List.replicate_zero, List.getElem?_cons_zero, List.getElem?_cons_succ, List.set_cons_zero, List.set_cons_succ, Option.some.injEq, exists_eq_left', exists_eq_left, exists_and_left, V.int.injEq, V.bl.injEq, V.ref.injEq, V.str.injEq, List.cons.injEq, and_true, true_and, List.nil_append, List.cons_append, List.append_nil, reduceCtorEq, false_and, exists_false, or_false, false_or, and_false, Int.reduceNeg, decide_eq_true_eq, Bool.not_eq_true', decide_eq_false_iff_not, and_assoc, tYes, ↓reduceIte, wipe, Bool.false_eq_true, Bool.true_eq_false, cxOf, false_implies, true_implies, implies_true, forall_const, sp_is_whole]
  refine ⟨hp, ?_⟩
  split
  · rename_i e
    exact ⟨_, rfl, raise1 T.y_BadCount.ox T.f_BadCount_most (q2 e)⟩
  · rename_i e; exact q1 (by simpa using e)
def sp_check_total (_ : PySem.W.Frag) (cC : Addr) : Sp := fun vs H Q E => ∃ (x : V) (m : Int), vs = [x, .int m] ∧ Plain H x ∧ (whole x 0 m = true → Q x H) ∧ (whole x 0 m = false → ∀ d, H d = none → E (.ref cC) (some d) (upd H d (.xd [("most", .int m)])))
theorem len_check_total {vs H Q E} (h : sp_check_total K cBadTotal vs H Q E) : vs.length = 2 := by
  obtain ⟨_, _, rfl, _⟩ := h; rfl
theorem ok_check_total {f : Addr} {fd : FuncData} (F : Fun K "check_total" "check_total" s_check_total f fd) (T : Txt K mg cBadPeople cBadCount cBadTotal cNoPool) : FnOk P w K mg base (L2.CX P w) 3 f fd ps_check_total (sp_check_total K cBadTotal) := by
  obtain ⟨f_is_whole, fd_is_whole, F_is_whole, m_is_whole, b_is_whole⟩ := T.d_is_whole
  have G_is_whole : FnOk P w K mg base CX0 2 f_is_whole fd_is_whole ps_is_whole (sp_is_whole K) := ok_is_whole F_is_whole T
  obtain ⟨f_i_BadTotal, fd_i_BadTotal, F_i_BadTotal, b_i_BadTotal, iC_BadTotal, tI_BadTotal⟩ := T.y_BadTotal.ini
  have G_i_BadTotal : FnOk P w K mg base CX0 1 f_i_BadTotal fd_i_BadTotal ps_i_BadTotal (spI1 K cBadTotal "most") := ok_i_BadTotal F_i_BadTotal T
  refine F.okX (k := 2) sc_check_total (fun vs H Q E h => len_check_total h) (fun cdv A outer s H vs Q E hr h => ?_)
  refine ⟨_, (pss_cons (ps_if (pt_not (pt_val (pe_call G_is_whole (hr.mono (by decide)) (by rfl) m_is_whole F_is_whole.kp b_is_whole .nil pass0 (pa_cons (pv 0) (pa_cons pe_int (pa_cons (pv 1) pa_nil)))))) (pss_one (ps_raise rfl (takes_of rfl rfl rfl rfl) (pmk_oex T.y_BadTotal.ox iC_BadTotal tI_BadTotal G_i_BadTotal (hr.mono (by decide)) b_i_BadTotal .nil pass0 (by rfl) T.y_BadTotal.gC (pa_cons (pv 1) pa_nil)))) pss_nil)
      (pss_one (ps_ret (pv 0)))), ?_⟩
  obtain ⟨x, m, rfl, hp, q1, q2⟩ := h
  simp only [tSeq, tAsg, tDrop, tRet, tRetN, tIfS, tNext, tTest, tB, tNot, tAnd, tOr, tChain, tIf, tAndV, tOrV, tNotV, tOp, tUn, tCB, tCons, tNil, tVar, tC, tCall, tCallS, gName, rI, rI0, rU, rEq, rNe, tTup, tLst, gSub, rSetL, rIxL, rIxT, L2.start, List.map_cons, List.map_nil, List.length_cons, List.length_nil, Nat.reduceAdd, Nat.reduceSub, List.replicate_succ, List.replicate_zero, List.getElem?_cons_zero, List.getElem?_cons_succ, List.set_cons_zero, List.set_cons_succ, Option.some.injEq, exists_eq_left', exists_eq_left, exists_and_left, V.int.injEq, V.bl.injEq, V.ref.injEq, V.str.injEq, List.cons.injEq, and_true, true_and, List.nil_append, List.cons_append, List.append_nil, reduceCtorEq, false_and, exists_false, or_false, false_or, and_false, Int.reduceNeg, decide_eq_true_eq, Bool.not_eq_true', decide_eq_false_iff_not, and_assoc, tYes, ↓reduceIte, wipe, Bool.false_eq_true, Bool.true_eq_false, cxOf, false_implies, true_implies, implies_true, forall_const, sp_is_whole]
  refine ⟨hp, ?_⟩
  split
  · rename_i e
    exact ⟨_, rfl, raise1 T.y_BadTotal.ox T.f_BadTotal_most (q2 e)⟩
  · rename_i e; exact q1 (by simpa using e)
def sp_room_at (_ : PySem.W.Frag) : Sp := fun vs H Q _ => ∃ t p : Int, vs = [.int t, .int p] ∧ 2 ≤ p ∧ p ≤ 5 ∧ Q (.int (room p t)) H
theorem len_room_at {vs H Q E} (h : sp_room_at K vs H Q E) : vs.length = 2 := by
  obtain ⟨_, _, rfl, _⟩ := h; rfl
theorem ok_room_at {f : Addr} {fd : FuncData} (F : Fun K "room_at" "room_at" s_room_at f fd) (T : Txt K mg cBadPeople cBadCount cBadTotal cNoPool) : FnOk P w K mg base CX0 1 f fd ps_room_at (sp_room_at K) := by
  refine F.ok (k := 0) sc_room_at (fun vs H Q E h => len_room_at h) (fun cdv A outer s H vs Q E hr h => ?_)
  refine ⟨_, (pss_one (ps_ret (pe_op op_add (pe_op op_fdivW (pv 0) (pe_op op_sub (pv 1) pe_int)) pe_int))), ?_⟩
  obtain ⟨t, p, rfl, h2, h5, q⟩ := h
  simp only [tSeq, tAsg, tDrop, tRet, tRetN, tIfS, tNext, tTest, tB, tNot, tAnd, tOr, tChain, tIf, tAndV, tOrV, tNotV, tOp, tUn, tCB, tCons, tNil, tVar, tC, tCall, tCallS, gName, rI, rI0, rU, rEq, rNe, tTup, tLst, gSub, rSetL, rIxL, rIxT, L2.start, List.map_cons, List.map_nil, List.length_cons, List.length_nil, Nat.reduceAdd, Nat.reduceSub, List.replicate_succ, List.replicate_zero, List.getElem?_cons_zero, List.getElem?_cons_succ, List.set_cons_zero, List.set_cons_succ, Option.some.injEq, exists_eq_left', exists_eq_left, exists_and_left, V.int.injEq, V.bl.injEq, V.ref.injEq, V.str.injEq, List.cons.injEq, and_true, true_and, List.nil_append, List.cons_append, List.append_nil, reduceCtorEq, false_and, exists_false, or_false, false_or, and_false, Int.reduceNeg, decide_eq_true_eq, Bool.not_eq_true', decide_eq_false_iff_not, and_assoc, tYes, ↓reduceIte, wipe, Bool.false_eq_true, Bool.true_eq_false, cxOf, false_implies, true_implies, implies_true, forall_const]
  exact ⟨cdw (by omega) (by omega), q⟩
def sp_greatest_behind (_ : PySem.W.Frag) : Sp := fun vs H Q _ => ∃ a n p : Int, vs = [.int a, .int n, .int p] ∧ 0 ≤ n ∧ n ≤ 60 ∧ 2 ≤ p ∧ p ≤ 5 ∧ Q (.int (grow p n.toNat a)) H
theorem len_greatest_behind {vs H Q E} (h : sp_greatest_behind K vs H Q E) : vs.length = 3 := by
  obtain ⟨_, _, _, rfl, _⟩ := h; rfl
theorem ok_greatest_behind {f : Addr} {fd : FuncData} (F : Fun K "greatest_behind" "greatest_behind" s_greatest_behind f fd) (T : Txt K mg cBadPeople cBadCount cBadTotal cNoPool) : FnOk P w K mg base CX0 2 f fd ps_greatest_behind (sp_greatest_behind K) := by
  obtain ⟨f_room_at, fd_room_at, F_room_at, m_room_at, b_room_at⟩ := T.d_room_at
  have G_room_at : FnOk P w K mg base CX0 1 f_room_at fd_room_at ps_room_at (sp_room_at K) := ok_room_at F_room_at T
  refine F.ok (k := 1) sc_greatest_behind (fun vs H Q E h => len_greatest_behind h) (fun cdv A outer s H vs Q E hr h => ?_)
  refine ⟨_, (pss_cons (ps_set (i := 3) sc_greatest_behind.nd rfl (Or.inl rfl) (pv 0))
      (pss_cons (ps_for PassesOwn.never rfl (pi_range1 (by rfl) T.n_range (pa_cons (pv 1) pa_nil)) (pg_name (i := 4) sc_greatest_behind.nd rfl (Or.inl rfl))
      (pss_one (ps_set (i := 3) sc_greatest_behind.nd rfl (Or.inl rfl) (pe_op op_add (pv 3) (pe_call G_room_at (hr.mono (by decide)) (by rfl) m_room_at F_room_at.kp b_room_at .nil pass0 (pa_cons (pv 3) (pa_cons (pv 2) pa_nil)))))))
      (pss_one (ps_ret (pv 3))))), ?_⟩
  obtain ⟨a, n, p, rfl, n0, n1, p0, p1, q⟩ := h
  simp only [tSeq, tAsg, tDrop, tRet, tRetN, tIfS, tNext, tTest, tB, tNot, tAnd, tOr, tChain, tIf, tAndV, tOrV, tNotV, tOp, tUn, tCB, tCons, tNil, tVar, tC, tCall, tCallS, gName, rI, rI0, rU, rEq, rNe, tTup, tLst, gSub, rSetL, rIxL, rIxT, L2.start, List.map_cons, List.map_nil, List.length_cons, List.length_nil, Nat.reduceAdd, Nat.reduceSub, List.replicate_succ, List.replicate_zero, List.getElem?_cons_zero, List.getElem?_cons_succ, List.set_cons_zero, List.set_cons_succ, Option.some.injEq, exists_eq_left', exists_eq_left, exists_and_left, V.int.injEq, V.bl.injEq, V.ref.injEq, V.str.injEq, List.cons.injEq, and_true, true_and, List.nil_append, List.cons_append, List.append_nil, reduceCtorEq, false_and, exists_false, or_false, false_or, and_false, Int.reduceNeg, decide_eq_true_eq, Bool.not_eq_true', decide_eq_false_iff_not, and_assoc, tYes, ↓reduceIte, wipe, Bool.false_eq_true, Bool.true_eq_false, cxOf, false_implies, true_implies, implies_true, forall_const]
  refine ⟨_, rfl, n, rfl, by omega, by omega, for_range (lo := 0) (n := n.toNat) (fun i z h => ∃ v, z = [some (.int a), some (.int n), some (.int p), some (.int (grow p i a)), v] ∧ h = H) ⟨none, rfl, rfl⟩ ?_ ?_⟩
  · rintro i z h hi ⟨v, rfl, rfl⟩
    simp only [tSeq, tAsg, tDrop, tRet, tRetN, tIfS, tNext, tTest, tB, tNot, tAnd, tOr, tChain, tIf, tAndV, tOrV, tNotV, tOp, tUn, tCB, tCons, tNil, tVar, tC, tCall, tCallS, gName, rI, rI0, rU, rEq, rNe, tTup, tLst, gSub, rSetL, rIxL, rIxT, L2.start, List.map_cons, List.map_nil, List.length_cons, List.length_nil, Nat.reduceAdd, Nat.reduceSub, List.replicate_succ, List.replicate_zero, List.getElem?_cons_zero, List.getElem?_cons_succ, List.set_cons_zero, List.set_cons_succ, Option.some.injEq, exists_eq_left', exists_eq_left, exists_and_left, V.int.injEq, V.bl.injEq, V.ref.injEq, V.str.injEq, List.cons.injEq, and_true, true_and, List.nil_append, List.cons_append, List.append_nil, reduceCtorEq, false_and, exists_false, or_false, false_or, and_false, Int.reduceNeg, decide_eq_true_eq, Bool.not_eq_true', decide_eq_false_iff_not, and_assoc, tYes, ↓reduceIte, wipe, Bool.false_eq_true, Bool.true_eq_false, cxOf, false_implies, true_implies, implies_true, forall_const, sp_room_at]
    exact ⟨p0, p1, rfl, _, rfl⟩
  · rintro z h ⟨v, rfl, rfl⟩
    exact ⟨_, rfl, q⟩
def sp_i_NoPool (_ : PySem.W.Frag) (C : Addr) : Sp := fun vs H Q _ => ∃ (a dx : Addr) (x y : V), vs = [.ref a, x, y] ∧ H a = some (.ins C dx []) ∧ Q .non (upd H a (.ins C dx [("low", x), ("high", y)]))
theorem len_i_NoPool {vs H Q E} (h : sp_i_NoPool K cNoPool vs H Q E) : vs.length = 3 := by
  obtain ⟨_, _, _, _, rfl, _⟩ := h; rfl
theorem ok_i_NoPool {f : Addr} {fd : FuncData} (F : Fun K "__init__" "NoPool.__init__" s_i_NoPool f fd) (T : Txt K mg cBadPeople cBadCount cBadTotal cNoPool) : FnOk P w K mg base CX0 1 f fd ps_i_NoPool (sp_i_NoPool K cNoPool) := by
  refine F.ok (k := 0) sc_i_NoPool (fun vs H Q E h => len_i_NoPool h) (fun cdv A outer s H vs Q E hr h => ?_)
  refine ⟨_, (pss_cons (ps_fld (pv 0) (pv 1) rfl)
      (pss_one (ps_fld (pv 0) (pv 2) rfl))), ?_⟩
  obtain ⟨a, dx, x, y, rfl, ha, q⟩ := h
  simp only [tSeq, tAsg, tDrop, tRet, tRetN, tIfS, tNext, tTest, tB, tNot, tAnd, tOr, tChain, tIf, tAndV, tOrV, tNotV, tOp, tUn, tCB, tCons, tNil, tVar, tC, tCall, tCallS, gName, rI, rI0, rU, rEq, rNe, tTup, tLst, gSub, rSetL, rIxL, rIxT, L2.start, List.map_cons, List.map_nil, List.length_cons, List.length_nil, Nat.reduceAdd, Nat.reduceSub, List.replicate_succ, List.replicate_zero, List.getElem?_cons_zero, List.getElem?_cons_succ, List.set_cons_zero, List.set_cons_succ, Option.some.injEq, exists_eq_left', exists_eq_left, exists_and_left, V.int.injEq, V.bl.injEq, V.ref.injEq, V.str.injEq, List.cons.injEq, and_true, true_and, List.nil_append, List.cons_append, List.append_nil, reduceCtorEq, false_and, exists_false, or_false, false_or, and_false, Int.reduceNeg, decide_eq_true_eq, Bool.not_eq_true', decide_eq_false_iff_not, and_assoc, tYes, ↓reduceIte, wipe, Bool.false_eq_true, Bool.true_eq_false, cxOf, false_implies, true_implies, implies_true, forall_const, sFld]
  refine ⟨cNoPool, dx, _, ha, T.o_NoPool.cl, T.f_NoPool_low, by decide, cNoPool, dx, _, upd_at, T.o_NoPool.cl, T.f_NoPool_high, show 1 < 1000 by decide, ?_⟩
  rw [L2.upd_upd]
  exact q
/-- == of an instance: with another one of the class, with a tuple or None -/
def sp_e_NoPool (K : PySem.W.Frag) (C : Addr) : Sp := fun vs H Q _ => ∃ (a dx : Addr) (l u : Int) (y : V), vs = [.ref a, y] ∧ H a = some (.ins C dx [("low", .int l), ("high", .int u)]) ∧
  ((∃ b dy l2 u2, y = .ref b ∧ H b = some (.ins C dy [("low", .int l2), ("high", .int u2)]) ∧ Q (.bl (decide (l = l2) && decide (u = u2))) H) ∨ (((∃ b xs, y = .ref b ∧ H b = some (.tup xs)) ∨ y = .non) ∧ Q (.bl false) H))
theorem len_e_NoPool {vs H Q E} (h : sp_e_NoPool K cNoPool vs H Q E) : vs.length = 2 := by
  obtain ⟨_, _, _, _, _, rfl, _⟩ := h; rfl
theorem look_low {x y : V} : List.lookup ("low" : Str) [(("low" : Str), x), (("high" : Str), y)] = some x := by simp [List.lookup]
theorem look_high {x y : V} : List.lookup ("high" : Str) [(("low" : Str), x), (("high" : Str), y)] = some y := by
  have e : (("high" : Str) == ("low" : Str)) = false := by decide
  simp [List.lookup, e]
theorem ok_e_NoPool {f : Addr} {fd : FuncData} (F : Fun K "__eq__" "NoPool.__eq__" s_e_NoPool f fd) (T : Txt K mg cBadPeople cBadCount cBadTotal cNoPool) : FnOk P w K mg base CX0 1 f fd ps_e_NoPool (sp_e_NoPool K cNoPool) := by
  refine F.ok (k := 0) sc_e_NoPool (fun vs H Q E h => len_e_NoPool h) (fun cdv A outer s H vs Q E hr h => ?_)
  refine ⟨_, (pss_one (ps_ret (pe_and (pe_callB call_isi (by rfl) T.n_isinstance (by decide +kernel) (pa_cons (pv 1) (pa_cons (pe_glob (v := .ref cNoPool) rfl T.o_NoPool.gC rfl) pa_nil))) (pe_and (pe_cmpR op_eq (pe_fld (pv 0) rfl) (pe_fld (pv 1) rfl) (nomark _)) (pe_one (pe_cmpR op_eq (pe_fld (pv 0) rfl) (pe_fld (pv 1) rfl) (nomark _))))))), ?_⟩
  obtain ⟨a, dx, l, u, y, rfl, ha, k⟩ := h
  simp only [tSeq, tAsg, tDrop, tRet, tRetN, tIfS, tNext, tTest, tB, tNot, tAnd, tOr, tChain, tIf, tAndV, tOrV, tNotV, tOp, tUn, tCB, tCons, tNil, tVar, tC, tCall, tCallS, gName, rI, rI0, rU, rEq, rNe, tTup, tLst, gSub, rSetL, rIxL, rIxT, L2.start, List.map_cons, List.map_nil, List.length_cons, List.length_nil, Nat.reduceAdd, Nat.reduceSub, List.replicate_succ, List.replicate_zero, List.getElem?_cons_zero, List.getElem?_cons_succ, List.set_cons_zero, List.set_cons_succ, Option.some.injEq, exists_eq_left', exists_eq_left, exists_and_left, V.int.injEq, V.bl.injEq, V.ref.injEq, V.str.injEq, List.cons.injEq, and_true, true_and, List.nil_append, List.cons_append, List.append_nil, reduceCtorEq, false_and, exists_false, or_false, false_or, and_false, Int.reduceNeg, decide_eq_true_eq, Bool.not_eq_true', decide_eq_false_iff_not, and_assoc, tYes, ↓reduceIte, wipe, Bool.false_eq_true, Bool.true_eq_false, cxOf, false_implies, true_implies, implies_true, forall_const, tFld]
  rcases k with ⟨b, dy, l2, u2, rfl, hb, q⟩ | ⟨⟨b, xs, rfl, hb⟩ | rfl, q⟩
  · refine isi_self T.o_NoPool hb ⟨true, rfl, iteT ?_⟩
    refine ⟨cNoPool, dx, _, ha, T.o_NoPool.cl, T.f_NoPool_low, _, look_low, _, rfl, cNoPool, dy, _, hb, T.o_NoPool.cl, T.f_NoPool_low, _, look_low, ?_⟩
    simp only [tSeq, tAsg, tDrop, tRet, tRetN, tIfS, tNext, tTest, tB, tNot, tAnd, tOr, tChain, tIf, tAndV, tOrV, tNotV, tOp, tUn, tCB, tCons, tNil, tVar, tC, tCall, tCallS, gName, rI, rI0, rU, rEq, rNe, tTup, tLst, gSub, rSetL, rIxL, rIxT, L2.start, List.map_cons, List.map_nil, List.length_cons, List.length_nil, Nat.reduceAdd, Nat.reduceSub, List.replicate_succ, List.replicate_zero, List.getElem?_cons_zero, List.getElem?_cons_succ, List.set_cons_zero, List.set_cons_succ, Option.some.injEq, exists_eq_left', exists_eq_left, exists_and_left, V.int.injEq, V.bl.injEq, V.ref.injEq, V.str.injEq, List.cons.injEq, and_true, true_and, List.nil_append, List.cons_append, List.append_nil, reduceCtorEq, false_and, exists_false, or_false, false_or, and_false, Int.reduceNeg, decide_eq_true_eq, Bool.not_eq_true', decide_eq_false_iff_not, and_assoc, tYes, ↓reduceIte, wipe, Bool.false_eq_true, Bool.true_eq_false, cxOf, false_implies, true_implies, implies_true, forall_const]
    refine ⟨rfl, ?_⟩
    by_cases e : l = l2
    · rw [if_pos e]
      rw [decide_eq_true e, Bool.true_and] at q
      refine ⟨cNoPool, dx, _, ha, T.o_NoPool.cl, T.f_NoPool_high, _, look_high, cNoPool, dy, _, hb, T.o_NoPool.cl, T.f_NoPool_high, _, look_high, rfl, ?_⟩
      have e2 : decide (V.int u = V.int u2) = decide (u = u2) := by simp only [V.int.injEq]
      rw [e2]
      exact q
    · rw [if_neg e]
      rw [decide_eq_false e, Bool.false_and] at q
      exact q
  · exact isi_tup_own T.o_NoPool hb ⟨false, rfl, iteF q⟩
  · exact isi_non_own T.o_NoPool ⟨false, rfl, iteF q⟩
end
end My
set_option Elab.async false
set_option linter.all false
set_option maxRecDepth 100000
set_option maxHeartbeats 4000000
namespace My
open PySem PySem.Spec PyProof.Rows L2 Gen
section
variable {P : Program} {w : World} {K : PySem.W.Frag} {mg : Str → Option Value} {base : Heap} { cBadPeople cBadCount cBadTotal cNoPool : Addr}
abbrev sp_l_mix (_ : PySem.W.Frag) : Sp := spMix
theorem len_l_mix {vs H Q E} (h : sp_l_mix K vs H Q E) : vs.length = 2 := by
  obtain ⟨_, _, rfl, _⟩ := h; rfl
theorem ok_l_mix {f : Addr} {fd : FuncData} (F : Fun K "_law_mix" "_law_mix" s_l_mix f fd) (T : Txt K mg cBadPeople cBadCount cBadTotal cNoPool) : FnOk P w K mg base CX0 1 f fd ps_l_mix (sp_l_mix K) := by
  refine F.ok (k := 0) sc_l_mix (fun vs H Q E h => len_l_mix h) (fun cdv A outer s H vs Q E hr h => ?_)
  refine ⟨_, (pss_cons (ps_set (i := 2) sc_l_mix.nd rfl (Or.inl rfl) (pe_op op_mod (pe_callTy call_int1 (by rfl) T.n_int (by decide +kernel) (pa_cons (pe_op op_add (pe_op op_add (pe_op op_mul (pv 0) pe_int) (pe_op op_mul (pv 1) pe_int)) pe_int) pa_nil)) pe_int))
      (pss_cons (ps_set (i := 3) sc_l_mix.nd rfl (Or.inl rfl) (pe_op op_mod (pe_callTy call_int1 (by rfl) T.n_int (by decide +kernel) (pa_cons (pe_op op_add (pe_op op_add (pe_op op_mul (pv 2) (pv 2)) (pe_op op_mul (pe_op op_fdivW (pv 2) pe_int) pe_int)) (pe_op op_mul (pv 1) pe_int)) pa_nil)) pe_int))
      (pss_one (ps_ret (pe_op op_fdivW (pe_op op_mod (pe_callTy call_int1 (by rfl) T.n_int (by decide +kernel) (pa_cons (pe_op op_add (pe_op op_fdivW (pe_op op_mul (pv 3) (pv 3)) pe_int) (pv 2)) pa_nil)) pe_int) pe_int))))), ?_⟩
  obtain ⟨n, t, rfl, n0, n1, t0, t1, q⟩ := h
  simp only [tSeq, tAsg, tDrop, tRet, tRetN, tIfS, tNext, tTest, tB, tNot, tAnd, tOr, tChain, tIf, tAndV, tOrV, tNotV, tOp, tUn, tCB, tCons, tNil, tVar, tC, tCall, tCallS, gName, rI, rI0, rU, rEq, rNe, tTup, tLst, gSub, rSetL, rIxL, rIxT, L2.start, List.map_cons, List.map_nil, List.length_cons, List.length_nil, Nat.reduceAdd, Nat.reduceSub, List.replicate_succ, List.replicate_zero, List.getElem?_cons_zero, List.getElem?_cons_succ, List.set_cons_zero, List.set_cons_succ, Option.some.injEq, exists_eq_left', exists_eq_left, exists_and_left, V.int.injEq, V.bl.injEq, V.ref.injEq, V.str.injEq, List.cons.injEq, and_true, true_and, List.nil_append, List.cons_append, List.append_nil, reduceCtorEq, false_and, exists_false, or_false, false_or, and_false, Int.reduceNeg, decide_eq_true_eq, Bool.not_eq_true', decide_eq_false_iff_not, and_assoc, tYes, ↓reduceIte, wipe, Bool.false_eq_true, Bool.true_eq_false, cxOf, false_implies, true_implies, implies_true, forall_const]
  have a0 := Int.emod_nonneg (n * 48271 + t * 16807 + 11) (b := 2147483647) (by decide)
  have a1 := Int.emod_lt_of_pos (n * 48271 + t * 16807 + 11) (b := 2147483647) (by decide)
  generalize (n * 48271 + t * 16807 + 11) % 2147483647 = x at a0 a1 ⊢
  refine ⟨cmr (by decide) (by decide), cmr (by decide) (by decide), by decide, cml (by omega) (by omega), cdw (by decide) (by decide), cmr (by decide) (by decide), cmr (by decide) (by decide), by decide, ?_⟩
  have b0 := Int.emod_nonneg (x * x + x / 127 * 40692 + t * 69621) (b := 2147483399) (by decide)
  have b1 := Int.emod_lt_of_pos (x * x + x / 127 * 40692 + t * 69621) (b := 2147483399) (by decide)
  generalize (x * x + x / 127 * 40692 + t * 69621) % 2147483399 = y at b0 b1 ⊢
  exact ⟨cml (by omega) (by omega), cdw (by decide) (by decide), by decide, cdw (by decide) (by decide), q _ (Int.ediv_nonneg (Int.emod_nonneg _ (by decide)) (by decide))⟩
theorem abs_take {ns : List Int} {i : Nat} {c : Int} (h : ns[i]? = some c) : ((ns.take (i + 1)).map fun c => V.int (if c < 0 then -c else c)) = ((ns.take i).map fun c => V.int (if c < 0 then -c else c)) ++ [V.int (if c < 0 then -c else c)] := by
  rw [List.take_add_one, h, List.map_append]
  rfl
abbrev sp_l_hand (K : PySem.W.Frag) : Sp := spHand K
theorem len_l_hand {vs H Q E} (h : sp_l_hand K vs H Q E) : vs.length = 1 := by
  obtain ⟨_, _, rfl, _⟩ := h; rfl
theorem ok_l_hand {f : Addr} {fd : FuncData} (F : Fun K "_law_hand" "_law_hand" s_l_hand f fd) (T : Txt K mg cBadPeople cBadCount cBadTotal cNoPool) : FnOk P w K mg base CX0 1 f fd ps_l_hand (sp_l_hand K) := by
  refine F.ok (k := 0) sc_l_hand (fun vs H Q E h => len_l_hand h) (fun cdv A outer s H vs Q E hr h => ?_)
  refine ⟨_, (pss_cons (ps_set (i := 1) sc_l_hand.nd rfl (Or.inl rfl) pe_int)
      (pss_cons (ps_for PassesOwn.never rfl (pi_enum (by rfl) T.n_enumerate (pa_cons (pv 0) pa_nil)) (pg_tup rfl (pgs_cons (pg_name (i := 2) sc_l_hand.nd rfl (Or.inl rfl)) (pgs_cons (pg_name (i := 3) sc_l_hand.nd rfl (Or.inl rfl)) pgs_nil)))
      (pss_one (ps_set (i := 1) sc_l_hand.nd rfl (Or.inl rfl) (pe_op op_mod (pe_callTy call_int1 (by rfl) T.n_int (by decide +kernel) (pa_cons (pe_op op_add (pe_op op_mul (pv 1) pe_int) (pe_op op_mul (pe_callTy call_int1 (by rfl) T.n_int (by decide +kernel) (pa_cons (pv 3) pa_nil)) (pe_op op_add (pv 2) pe_int))) pa_nil)) pe_int))))
      (pss_one (ps_ret (pe_lst (pa_cons (pe_lc (own := [("_law_cell", 3)]) (g := gName 3) (tt := tYes) rfl sc_l_hand.nd (pi_list (pv 0)) (blkOk_by (N := nm_l_hand) (sc := defScope s_l_hand) (by decide +kernel)) (fun _ _ _ _ _ => (pg_name (i := 3) sc_l_hand.nd rfl (Or.inl rfl))) (fun _ _ _ _ _ => pts_nil) (fun _ _ _ _ _ => (pe_callB call_abs (by rfl) T.n_abs (by decide +kernel) (pa_cons (pe_callTy call_int1 (by rfl) T.n_int (by decide +kernel) (pa_cons (pv 3) pa_nil)) pa_nil)))) (pa_cons pe_int (pa_cons pe_int (pa_cons (pv 1) pa_nil))))))))), ?_⟩
  obtain ⟨a, ns, rfl, hS, hn, q⟩ := h
  simp only [tSeq, tAsg, tDrop, tRet, tRetN, tIfS, tNext, tTest, tB, tNot, tAnd, tOr, tChain, tIf, tAndV, tOrV, tNotV, tOp, tUn, tCB, tCons, tNil, tVar, tC, tCall, tCallS, gName, rI, rI0, rU, rEq, rNe, tTup, tLst, gSub, rSetL, rIxL, rIxT, L2.start, List.map_cons, List.map_nil, List.length_cons, List.length_nil, Nat.reduceAdd, Nat.reduceSub, List.replicate_succ, List.replicate_zero, List.getElem?_cons_zero, List.getElem?_cons_succ, List.set_cons_zero, List.set_cons_succ, Option.some.injEq, exists_eq_left', exists_eq_left, exists_and_left, V.int.injEq, V.bl.injEq, V.ref.injEq, V.str.injEq, List.cons.injEq, and_true, true_and, List.nil_append, List.cons_append, List.append_nil, reduceCtorEq, false_and, exists_false, or_false, false_or, and_false, Int.reduceNeg, decide_eq_true_eq, Bool.not_eq_true', decide_eq_false_iff_not, and_assoc, tYes, ↓reduceIte, wipe, Bool.false_eq_true, Bool.true_eq_false, cxOf, false_implies, true_implies, implies_true, forall_const]
  refine ⟨_, rfl, a, _, rfl, hS, for_enum (K := K) (a := a) (xs := ns.map V.int) (fun i z h => ∃ (t : Int) (v u : Option V), z = [some (.ref a), some (.int t), v, u] ∧ 0 ≤ t ∧ t < 2147483629 ∧ Same H h)
    ⟨0, none, none, rfl, by decide, by decide, Same.refl H⟩ (fun i z h _ ⟨_, _, _, _, _, _, s⟩ => s.seq hS) ?_ ?_⟩
  · rintro i y T z h hi hT ⟨t, v, u, rfl, t0, t1, s⟩
    obtain ⟨c, hc, rfl⟩ := nat_map hi
    have hil := (List.getElem?_eq_some_iff.mp hc).1
    refine ⟨T, _, rfl, SqT.of upd_same, rfl, _, _, rfl, _, _, rfl, rfl, ?_⟩
    simp only [tSeq, tAsg, tDrop, tRet, tRetN, tIfS, tNext, tTest, tB, tNot, tAnd, tOr, tChain, tIf, tAndV, tOrV, tNotV, tOp, tUn, tCB, tCons, tNil, tVar, tC, tCall, tCallS, gName, rI, rI0, rU, rEq, rNe, tTup, tLst, gSub, rSetL, rIxL, rIxT, L2.start, List.map_cons, List.map_nil, List.length_cons, List.length_nil, Nat.reduceAdd, Nat.reduceSub, List.replicate_succ, List.replicate_zero, List.getElem?_cons_zero, List.getElem?_cons_succ, List.set_cons_zero, List.set_cons_succ, Option.some.injEq, exists_eq_left', exists_eq_left, exists_and_left, V.int.injEq, V.bl.injEq, V.ref.injEq, V.str.injEq, List.cons.injEq, and_true, true_and, List.nil_append, List.cons_append, List.append_nil, reduceCtorEq, false_and, exists_false, or_false, false_or, and_false, Int.reduceNeg, decide_eq_true_eq, Bool.not_eq_true', decide_eq_false_iff_not, and_assoc, tYes, ↓reduceIte, wipe, Bool.false_eq_true, Bool.true_eq_false, cxOf, false_implies, true_implies, implies_true, forall_const]
    exact ⟨cmr (by decide) (by decide), cmr (by omega) (by omega), by decide, Int.emod_nonneg _ (by decide), Int.emod_lt_of_pos _ (by decide), s.trans (Same.new hT)⟩
  · rintro z h ⟨t, v, u, rfl, t0, t1, s⟩
    simp only [tSeq, tAsg, tDrop, tRet, tRetN, tIfS, tNext, tTest, tB, tNot, tAnd, tOr, tChain, tIf, tAndV, tOrV, tNotV, tOp, tUn, tCB, tCons, tNil, tVar, tC, tCall, tCallS, gName, rI, rI0, rU, rEq, rNe, tTup, tLst, gSub, rSetL, rIxL, rIxT, L2.start, List.map_cons, List.map_nil, List.length_cons, List.length_nil, Nat.reduceAdd, Nat.reduceSub, List.replicate_succ, List.replicate_zero, List.getElem?_cons_zero, List.getElem?_cons_succ, List.set_cons_zero, List.set_cons_succ, Option.some.injEq, exists_eq_left', exists_eq_left, exists_and_left, V.int.injEq, V.bl.injEq, V.ref.injEq, V.str.injEq, List.cons.injEq, and_true, true_and, List.nil_append, List.cons_append, List.append_nil, reduceCtorEq, false_and, exists_false, or_false, false_or, and_false, Int.reduceNeg, decide_eq_true_eq, Bool.not_eq_true', decide_eq_false_iff_not, and_assoc, tYes, ↓reduceIte, wipe, Bool.false_eq_true, Bool.true_eq_false, cxOf, false_implies, true_implies, implies_true, forall_const]
    refine ⟨_, rfl, a, rfl, ⟨_, s.seq hS⟩, fun D hD => lc_list (K := K) (a := a) (xs := ns.map V.int) (fun i h' => Same h h' ∧ h' D = some (.lst ((ns.take i).map fun c => V.int (if c < 0 then -c else c)))) ⟨Same.new hD, upd_same⟩ (fun i h' _ ⟨s', _⟩ => (s.trans s').seq hS) ?_ ?_⟩
    · rintro i y h' hi ⟨s', e'⟩
      obtain ⟨c, hc, rfl⟩ := nat_map hi
      have hil := (List.getElem?_eq_some_iff.mp hc).1
      simp only [tSeq, tAsg, tDrop, tRet, tRetN, tIfS, tNext, tTest, tB, tNot, tAnd, tOr, tChain, tIf, tAndV, tOrV, tNotV, tOp, tUn, tCB, tCons, tNil, tVar, tC, tCall, tCallS, gName, rI, rI0, rU, rEq, rNe, tTup, tLst, gSub, rSetL, rIxL, rIxT, L2.start, List.map_cons, List.map_nil, List.length_cons, List.length_nil, Nat.reduceAdd, Nat.reduceSub, List.replicate_succ, List.replicate_zero, List.getElem?_cons_zero, List.getElem?_cons_succ, List.set_cons_zero, List.set_cons_succ, Option.some.injEq, exists_eq_left', exists_eq_left, exists_and_left, V.int.injEq, V.bl.injEq, V.ref.injEq, V.str.injEq, List.cons.injEq, and_true, true_and, List.nil_append, List.cons_append, List.append_nil, reduceCtorEq, false_and, exists_false, or_false, false_or, and_false, Int.reduceNeg, decide_eq_true_eq, Bool.not_eq_true', decide_eq_false_iff_not, and_assoc, tYes, ↓reduceIte, wipe, Bool.false_eq_true, Bool.true_eq_false, cxOf, false_implies, true_implies, implies_true, forall_const]
      refine ⟨_, e', by rw [List.length_map, List.length_take]; exact small1000 (by omega), fun b o e => ?_, by rw [upd_same, abs_take hc]⟩
      rw [upd_ne (ne_of_none e hD)]
      exact s' b o e
    · rintro h' ⟨s', e'⟩
      refine ⟨by decide, fun p hp => q p D _ (s.trans (s'.trans (Same.new hp))) ⟨ns.map fun c => if c < 0 then -c else c, 0, 0, t, upd_same, ?_, by rw [List.length_map]; exact hn, ?_, by omega, by omega, by omega, t0, t1⟩⟩
      · rw [upd_ne (ne_of_none e' hp), e', List.length_map, List.take_length, List.map_map]
        rfl
      · intro c hc
        obtain ⟨b, _, rfl⟩ := List.mem_map.mp hc
        split <;> omega
abbrev sp_l_draw (_ : PySem.W.Frag) : Sp := spDraw
theorem len_l_draw {vs H Q E} (h : sp_l_draw K vs H Q E) : vs.length = 2 := by
  obtain ⟨_, _, _, rfl, _⟩ := h; rfl
theorem ok_l_draw {f : Addr} {fd : FuncData} (F : Fun K "_law_draw" "_law_draw" s_l_draw f fd) (T : Txt K mg cBadPeople cBadCount cBadTotal cNoPool) : FnOk P w K mg base CX0 2 f fd ps_l_draw (sp_l_draw K) := by
  obtain ⟨f_l_mix, fd_l_mix, F_l_mix, m_l_mix, b_l_mix⟩ := T.d_l_mix
  have G_l_mix : FnOk P w K mg base CX0 1 f_l_mix fd_l_mix ps_l_mix (sp_l_mix K) := ok_l_mix F_l_mix T
  refine F.ok (k := 1) sc_l_draw (fun vs H Q E h => len_l_draw h) (fun cdv A outer s H vs Q E hr h => ?_)
  refine ⟨_, (pss_cons (ps_if (PW.pt (pw_and (pt_cmpR op_eq (pe_ix ix_list (pv 0) pe_int (fun _ _ => rfl)) pe_int (nomark _)) (pw_and1 (pt_cmpR op_lt (pe_ix ix_list (pv 0) pe_int (fun _ _ => rfl)) (pe_callB call_len_seq (by rfl) T.n_len (by decide +kernel) (pa_cons (pe_ix ix_list (pv 0) pe_int (fun _ _ => rfl)) pa_nil)) (nomark _))))) (pss_cons (ps_set (i := 2) sc_l_draw.nd rfl (Or.inl rfl) (pe_ix ix_list (pe_ix ix_list (pv 0) pe_int (fun _ _ => rfl)) (pe_ix ix_list (pv 0) pe_int (fun _ _ => rfl)) (fun _ _ => rfl)))
      (pss_cons (ps_asg (pe_op op_add (pe_ix ix_list (pv 0) pe_int (fun _ _ => rfl)) pe_int) (pg_sub (pv 0) pe_int set_list))
      (pss_cons (ps_if (pt_cmpR op_lt (pv 2) (pe_op op_pow pe_int pe_int) (nomark _)) (pss_one (ps_ret (pe_op op_mod (pe_callTy call_int1 (by rfl) T.n_int (by decide +kernel) (pa_cons (pe_call G_l_mix (hr.mono (by decide)) (by rfl) m_l_mix F_l_mix.kp b_l_mix .nil pass0 (pa_cons (pe_op op_mod (pe_callTy call_int1 (by rfl) T.n_int (by decide +kernel) (pa_cons (pv 2) pa_nil)) pe_int) (pa_cons (pe_ix ix_list (pv 0) pe_int (fun _ _ => rfl)) pa_nil))) pa_nil)) (pv 1)))) pss_nil)
      (pss_one (ps_asg (pv 2) (pg_sub (pv 0) pe_int set_list)))))) pss_nil)
      (pss_cons (ps_if (pt_cmpR op_gt (pe_ix ix_list (pv 0) pe_int (fun _ _ => rfl)) pe_int (nomark _)) (pss_cons (ps_set (i := 3) sc_l_draw.nd rfl (Or.inl rfl) (pe_ix ix_list (pv 0) pe_int (fun _ _ => rfl)))
      (pss_cons (ps_asg (pe_op op_fdivW (pv 3) (pv 1)) (pg_sub (pv 0) pe_int set_list))
      (pss_one (ps_ret (pe_op op_mod (pe_callTy call_int1 (by rfl) T.n_int (by decide +kernel) (pa_cons (pv 3) pa_nil)) (pv 1)))))) pss_nil)
      (pss_cons (ps_asg (pe_op op_mod (pe_callTy call_int1 (by rfl) T.n_int (by decide +kernel) (pa_cons (pe_op op_add (pe_ix ix_list (pv 0) pe_int (fun _ _ => rfl)) pe_int) pa_nil)) pe_int) (pg_sub (pv 0) pe_int set_list))
      (pss_one (ps_ret (pe_op op_mod (pe_callTy call_int1 (by rfl) T.n_int (by decide +kernel) (pa_cons (pe_call G_l_mix (hr.mono (by decide)) (by rfl) m_l_mix F_l_mix.kp b_l_mix .nil pass0 (pa_cons (pe_ix ix_list (pv 0) pe_int (fun _ _ => rfl)) (pa_cons (pe_ix ix_list (pv 0) pe_int (fun _ _ => rfl)) pa_nil))) pa_nil)) (pv 1))))))), ?_⟩
  obtain ⟨h, q, m, rfl, hh, m0, m1, k⟩ := h
  obtain ⟨cs, i, r, t, h1, h2, cl, c0, i0, il, r0, t0, t1⟩ := hh.ex
  simp only [tSeq, tAsg, tDrop, tRet, tRetN, tIfS, tNext, tTest, tB, tNot, tAnd, tOr, tChain, tIf, tAndV, tOrV, tNotV, tOp, tUn, tCB, tCons, tNil, tVar, tC, tCall, tCallS, gName, rI, rI0, rU, rEq, rNe, tTup, tLst, gSub, rSetL, rIxL, rIxT, L2.start, List.map_cons, List.map_nil, List.length_cons, List.length_nil, Nat.reduceAdd, Nat.reduceSub, List.replicate_succ, List.replicate_zero, List.getElem?_cons_zero, List.getElem?_cons_succ, List.set_cons_zero, List.set_cons_succ, Option.some.injEq, exists_eq_left', exists_eq_left, exists_and_left, V.int.injEq, V.bl.injEq, V.ref.injEq, V.str.injEq, List.cons.injEq, and_true, true_and, List.nil_append, List.cons_append, List.append_nil, reduceCtorEq, false_and, exists_false, or_false, false_or, and_false, Int.reduceNeg, decide_eq_true_eq, Bool.not_eq_true', decide_eq_false_iff_not, and_assoc, tYes, ↓reduceIte, wipe, Bool.false_eq_true, Bool.true_eq_false, cxOf, false_implies, true_implies, implies_true, forall_const, spMix]
  refine ⟨_, SqL.of h1, _, rfl, rfl, ?_⟩
  split
  · rename_i e
    obtain rfl : r = 0 := by injection e
    refine ⟨_, SqL.of h1, _, rfl, _, SqL.of h1, _, rfl, q, rfl, _, .inl (SqL.of h2), i, rfl, ?_⟩
    split
    · rename_i hi
      obtain ⟨j, rfl⟩ := Int.eq_ofNat_of_zero_le i0
      have hj : j < cs.length := by
        rw [List.length_map] at hi
        omega
      have hc' : (cs.map V.int)[j]? = some (.int cs[j]) := by rw [List.getElem?_map, List.getElem?_eq_getElem hj]; rfl
      have cj : 0 ≤ cs[j] := c0 _ (List.getElem_mem hj)
      have e18 : (10 : Int) ^ Int.toNat 18 = 1000000000000000000 := by decide
      refine ⟨_, SqL.of h1, _, rfl, _, SqL.of h1, _, rfl, q, rfl, _, _, rfl, SqL.of h2, _, atI_nat hc', _, SqL.of h1, _, rfl, _, rfl, _, h1, 1, rfl, ⟨by decide, by decide, by decide⟩, cs[j], rfl, ?_⟩
      split
      · refine .inl ⟨cs[j], rfl, by decide, _, SqL.of upd_same, _, rfl, _, rfl, Int.emod_nonneg _ (by decide), Int.lt_trans (Int.emod_lt_of_pos _ (by decide)) (by decide), by omega, by omega, fun r' hr' => ⟨m0, k _ _ (Int.emod_nonneg _ (by omega)) (Int.emod_lt_of_pos _ m0) ?_ But.upd⟩⟩
        exact ⟨cs, (j : Int) + 1, 0, t, upd_same, by rw [upd_ne hh.ne.symm]; exact h2, cl, c0, by omega, by omega, by omega, t0, t1⟩
      · rename_i e2
        rw [e18] at e2
        refine ⟨_, upd_same, 2, rfl, _, SqL.of upd_same, _, rfl, cs[j], rfl, ?_⟩
        rw [if_pos (by omega)]
        refine ⟨_, SqL.of upd_same, _, rfl, cs[j], rfl, cdw m0 m1, _, upd_same, 2, rfl, .inl ⟨cs[j], rfl, m0, k _ _ (Int.emod_nonneg _ (by omega)) (Int.emod_lt_of_pos _ m0) ?_ But.upd.then.then⟩⟩
        exact ⟨cs, (j : Int) + 1, cs[j] / m, t, upd_same, by rw [upd_ne hh.ne.symm, upd_ne hh.ne.symm, upd_ne hh.ne.symm]; exact h2, cl, c0, by omega, by omega, Int.ediv_nonneg cj (by omega), t0, t1⟩
    · rename_i hi
      refine ⟨_, SqL.of h1, _, rfl, 0, rfl, ?_⟩
      rw [if_neg (by decide)]
      refine ⟨_, SqL.of h1, _, rfl, t, rfl, by decide, _, h1, 3, rfl, _, SqL.of upd_same, _, rfl, _, SqL.of upd_same, _, rfl, _, rfl, _, rfl, Int.emod_nonneg _ (by decide), Int.lt_trans (Int.emod_lt_of_pos _ (by decide)) (by decide), by omega, by omega,
        fun r' hr' => ⟨m0, k _ _ (Int.emod_nonneg _ (by omega)) (Int.emod_lt_of_pos _ m0) ?_ But.upd⟩⟩
      exact ⟨cs, i, 0, (t + 1) % 2147483629, upd_same, by rw [upd_ne hh.ne.symm]; exact h2, cl, c0, by omega, by omega, by omega, Int.emod_nonneg _ (by decide), Int.emod_lt_of_pos _ (by decide)⟩
  · rename_i e
    have e' : r ≠ 0 := fun z => e (by rw [z])
    refine ⟨_, SqL.of h1, _, rfl, r, rfl, ?_⟩
    rw [if_pos (by omega)]
    refine ⟨_, SqL.of h1, _, rfl, r, rfl, cdw m0 m1, _, h1, 2, rfl, .inl ⟨r, rfl, m0, k _ _ (Int.emod_nonneg _ (by omega)) (Int.emod_lt_of_pos _ m0) ?_ But.upd⟩⟩
    exact ⟨cs, i, r / m, t, upd_same, by rw [upd_ne hh.ne.symm]; exact h2, cl, c0, by omega, by omega, Int.ediv_nonneg r0 (by omega), t0, t1⟩
end
end My
set_option Elab.async false
set_option linter.all false
set_option maxRecDepth 100000
set_option maxHeartbeats 4000000
namespace My
open PySem PySem.Spec PyProof.Rows L2 Gen
section
variable {P : Program} {w : World} {K : PySem.W.Frag} {mg : Str → Option Value} {base : Heap} { cBadPeople cBadCount cBadTotal cNoPool : Addr}
def sp_pool_for (_ : PySem.W.Frag) (cC cT cP cN : Addr) : Sp := fun vs H Q E => ∃ x y z : V, vs = [x, y, z] ∧ Plain H x ∧ Plain H y ∧ Plain H z ∧
  (whole x 0 12 = false → ∀ d, H d = none → E (.ref cC) (some d) (upd H d (.xd [("most", .int 12)]))) ∧
  (whole x 0 12 = true → whole y 0 1000000000 = false → ∀ d, H d = none → E (.ref cT) (some d) (upd H d (.xd [("most", .int 1000000000)]))) ∧
  (whole x 0 12 = true → whole y 0 1000000000 = true → whole z 2 5 = false → E (.ref cP) none H) ∧
  ∀ c t p : Int, x = .int c → y = .int t → z = .int p → 0 ≤ c → c ≤ 12 → 0 ≤ t → t ≤ 1000000000 → 2 ≤ p → p ≤ 5 →
    (c ≤ t → t ≤ grow p c.toNat 0 → ∀ H' a ns, Same H H' → H' a = some (.tup (ns.map V.int)) → ns.length = c.toNat → ns.sum = t → (∀ n, n ∈ ns → 1 ≤ n) → ns.Pairwise (· ≤ ·) → Srv p 0 ns → Q (.ref a) H') ∧
    (¬ (c ≤ t ∧ t ≤ grow p c.toNat 0) → ∀ H' a dx, Same H H' → H' a = some (.ins cN dx [("low", .int c), ("high", .int (grow p c.toNat 0))]) → Q (.ref a) H')
theorem len_pool_for {vs H Q E} (h : sp_pool_for K cBadCount cBadTotal cBadPeople cNoPool vs H Q E) : vs.length = 3 := by
  obtain ⟨_, _, _, rfl, _⟩ := h; rfl
theorem ok_pool_for {f : Addr} {fd : FuncData} (F : Fun K "pool_for" "pool_for" s_pool_for f fd) (T : Txt K mg cBadPeople cBadCount cBadTotal cNoPool) : FnOk P w K mg base (L2.CX P w) 4 f fd ps_pool_for (sp_pool_for K cBadCount cBadTotal cBadPeople cNoPool) := by
  obtain ⟨f_check_count, fd_check_count, F_check_count, m_check_count, b_check_count⟩ := T.d_check_count
  have G_check_count : FnOk P w K mg base (L2.CX P w) 3 f_check_count fd_check_count ps_check_count (sp_check_count K cBadCount) := ok_check_count F_check_count T
  obtain ⟨f_check_total, fd_check_total, F_check_total, m_check_total, b_check_total⟩ := T.d_check_total
  have G_check_total : FnOk P w K mg base (L2.CX P w) 3 f_check_total fd_check_total ps_check_total (sp_check_total K cBadTotal) := ok_check_total F_check_total T
  obtain ⟨f_check_people, fd_check_people, F_check_people, m_check_people, b_check_people⟩ := T.d_check_people
  have G_check_people : FnOk P w K mg base (L2.CX P w) 3 f_check_people fd_check_people ps_check_people (sp_check_people K cBadPeople) := ok_check_people F_check_people T
  obtain ⟨f_greatest_behind, fd_greatest_behind, F_greatest_behind, m_greatest_behind, b_greatest_behind⟩ := T.d_greatest_behind
  have G_greatest_behind : FnOk P w K mg base CX0 2 f_greatest_behind fd_greatest_behind ps_greatest_behind (sp_greatest_behind K) := ok_greatest_behind F_greatest_behind T
  obtain ⟨f_room_at, fd_room_at, F_room_at, m_room_at, b_room_at⟩ := T.d_room_at
  have G_room_at : FnOk P w K mg base CX0 1 f_room_at fd_room_at ps_room_at (sp_room_at K) := ok_room_at F_room_at T
  obtain ⟨f_i_NoPool, fd_i_NoPool, F_i_NoPool, b_i_NoPool, M_i_NoPool⟩ := T.i_NoPool
  have G_i_NoPool : FnOk P w K mg base CX0 1 f_i_NoPool fd_i_NoPool ps_i_NoPool (sp_i_NoPool K cNoPool) := ok_i_NoPool F_i_NoPool T
  obtain ⟨f_e_NoPool, fd_e_NoPool, F_e_NoPool, b_e_NoPool, q_NoPool, n_NoPool⟩ := T.e_NoPool
  have G_e_NoPool : FnOk P w K mg base CX0 1 f_e_NoPool fd_e_NoPool ps_e_NoPool (sp_e_NoPool K cNoPool) := ok_e_NoPool F_e_NoPool T
  obtain ⟨u_MOST_COINS, c_MOST_COINS, r_MOST_COINS⟩ := T.c_MOST_COINS
  obtain ⟨u_GREATEST_TOTAL, c_GREATEST_TOTAL, r_GREATEST_TOTAL⟩ := T.c_GREATEST_TOTAL
  obtain ⟨u_LEAST_PEOPLE, c_LEAST_PEOPLE, r_LEAST_PEOPLE⟩ := T.c_LEAST_PEOPLE
  refine F.okX (k := 3) sc_pool_for (fun vs H Q E h => len_pool_for h) (fun cdv A outer s H vs Q E hr h => ?_)
  refine ⟨_, (pss_cons (ps_expr (pe_call G_check_count (hr.mono (by decide)) (by rfl) m_check_count F_check_count.kp b_check_count .nil (passes_call (takes_of rfl rfl rfl rfl) fun _ _ _ _ z => z) (pa_cons (pv 0) (pa_cons (pe_glob rfl c_MOST_COINS r_MOST_COINS) pa_nil))))
      (pss_cons (ps_expr (pe_call G_check_total (hr.mono (by decide)) (by rfl) m_check_total F_check_total.kp b_check_total .nil (passes_call (takes_of rfl rfl rfl rfl) fun _ _ _ _ z => z) (pa_cons (pv 1) (pa_cons (pe_glob rfl c_GREATEST_TOTAL r_GREATEST_TOTAL) pa_nil))))
      (pss_cons (ps_expr (pe_call G_check_people (hr.mono (by decide)) (by rfl) m_check_people F_check_people.kp b_check_people .nil (passes_call (takes_of rfl rfl rfl rfl) fun _ _ _ _ z => z) (pa_cons (pv 2) (pa_cons (pe_glob rfl c_LEAST_PEOPLE r_LEAST_PEOPLE) pa_nil))))
      (pss_cons (ps_set (i := 3) sc_pool_for.nd rfl (Or.inl rfl) (pe_call G_greatest_behind (hr.mono (by decide)) (by rfl) m_greatest_behind F_greatest_behind.kp b_greatest_behind .nil pass0 (pa_cons pe_int (pa_cons (pv 0) (pa_cons (pv 2) pa_nil)))))
      (pss_cons (ps_if (pt_not (pt_chain op_le op_le (pv 0) (pv 1) (pv 3))) (pss_one (ps_ret (pe_make M_i_NoPool G_i_NoPool (hr.mono (by decide)) (by rfl) T.o_NoPool.gC b_i_NoPool .nil pass0 (pa_cons (pv 0) (pa_cons (pv 3) pa_nil))))) pss_nil)
      (pss_cons (ps_set (i := 4) sc_pool_for.nd rfl (Or.inl rfl) (pe_lst pa_nil))
      (pss_cons (ps_set (i := 5) sc_pool_for.nd rfl (Or.inl rfl) (pv 1))
      (pss_cons (ps_for (passes_of rfl) rfl (pi_range3 (by rfl) T.n_range (pa_cons (pe_op op_sub (pv 0) pe_int) (pa_cons (pe_un un_neg pe_int) (pa_cons (pe_un un_neg pe_int) pa_nil)))) (pg_name (i := 6) sc_pool_for.nd rfl (Or.inl rfl))
      (pss_cons (ps_set (i := 7) sc_pool_for.nd rfl (Or.inl rfl) (pe_callB (call_min2 rfl) (by rfl) T.n_min (by decide +kernel) (pa_cons (pe_call G_room_at (hr.mono (by decide)) (by rfl) m_room_at F_room_at.kp b_room_at .nil pass0 (pa_cons (pe_op op_sub (pv 1) (pv 5)) (pa_cons (pv 2) pa_nil))) (pa_cons (pe_op op_sub (pv 5) (pv 6)) pa_nil))))
      (pss_cons (ps_expr (pe_bm PySem.F.plainAttrs_list PySem.F.slot_list_append PySem.F.type_list_append mt_append (pv 4) (pa_cons (pv 7) pa_nil)))
      (pss_one (ps_set (i := 5) sc_pool_for.nd rfl (Or.inl rfl) (pe_op op_sub (pv 5) (pv 7)))))))
      (pss_one (ps_ret (pe_callTy call_tuple_of (by rfl) T.n_tuple (by decide +kernel) (pa_cons (pe_callB cr_sortedE (by rfl) T.n_sorted (by decide +kernel) (pa_cons (pv 4) pa_nil)) pa_nil)))))))))))), ?_⟩
  obtain ⟨x, y, z, rfl, hx, hy, hz, q1, q2, q3, q4⟩ := h
  simp only [tSeq, tAsg, tDrop, tRet, tRetN, tIfS, tNext, tTest, tB, tNot, tAnd, tOr, tChain, tIf, tAndV, tOrV, tNotV, tOp, tUn, tCB, tCons, tNil, tVar, tC, tCall, tCallS, gName, rI, rI0, rU, rEq, rNe, tTup, tLst, gSub, rSetL, rIxL, rIxT, L2.start, List.map_cons, List.map_nil, List.length_cons, List.length_nil, Nat.reduceAdd, Nat.reduceSub, List.replicate_succ, List.replicate_zero, List.getElem?_cons_zero, List.getElem?_cons_succ, List.set_cons_zero, List.set_cons_succ, Option.some.injEq, exists_eq_left', exists_eq_left, exists_and_left, V.int.injEq, V.bl.injEq, V.ref.injEq, V.str.injEq, List.cons.injEq, and_true, true_and, List.nil_append, List.cons_append, List.append_nil, reduceCtorEq, false_and, exists_false, or_false, false_or, and_false, Int.reduceNeg, decide_eq_true_eq, Bool.not_eq_true', decide_eq_false_iff_not, and_assoc, tYes, ↓reduceIte, wipe, Bool.false_eq_true, Bool.true_eq_false, cxOf, false_implies, true_implies, implies_true, forall_const, sp_check_count, sp_check_total, sp_check_people, sp_greatest_behind]
  refine ⟨hx, fun a => ⟨hy, fun b => ⟨hz, fun e => ?_, fun c => q3 a b c⟩, fun b => q2 a b⟩, q1⟩
  obtain ⟨c, rfl, c0, c1⟩ := whole_of a
  obtain ⟨t, rfl, t0, t1⟩ := whole_of b
  obtain ⟨p, rfl, p0, p1⟩ := whole_of e
  obtain ⟨k1, k2⟩ := q4 c t p rfl rfl rfl c0 c1 t0 t1 p0 p1
  simp only [tSeq, tAsg, tDrop, tRet, tRetN, tIfS, tNext, tTest, tB, tNot, tAnd, tOr, tChain, tIf, tAndV, tOrV, tNotV, tOp, tUn, tCB, tCons, tNil, tVar, tC, tCall, tCallS, gName, rI, rI0, rU, rEq, rNe, tTup, tLst, gSub, rSetL, rIxL, rIxT, L2.start, List.map_cons, List.map_nil, List.length_cons, List.length_nil, Nat.reduceAdd, Nat.reduceSub, List.replicate_succ, List.replicate_zero, List.getElem?_cons_zero, List.getElem?_cons_succ, List.set_cons_zero, List.set_cons_succ, Option.some.injEq, exists_eq_left', exists_eq_left, exists_and_left, V.int.injEq, V.bl.injEq, V.ref.injEq, V.str.injEq, List.cons.injEq, and_true, true_and, List.nil_append, List.cons_append, List.append_nil, reduceCtorEq, false_and, exists_false, or_false, false_or, and_false, Int.reduceNeg, decide_eq_true_eq, Bool.not_eq_true', decide_eq_false_iff_not, and_assoc, tYes, ↓reduceIte, wipe, Bool.false_eq_true, Bool.true_eq_false, cxOf, false_implies, true_implies, implies_true, forall_const, tMake, sp_i_NoPool]
  refine ⟨c0, by omega, p0, p1, ?_⟩
  have no : ¬ (c ≤ t ∧ t ≤ grow p c.toNat 0) → ∀ x dx : Addr, H x = none → H dx = none → dx ≠ x →
      ∃ d, upd (upd H dx (.own x)) x (.ins cNoPool dx []) x = some (.ins cNoPool d []) ∧ Q (.ref x) (upd (upd (upd H dx (.own x)) x (.ins cNoPool dx [])) x (.ins cNoPool d [("low", .int c), ("high", .int (grow p c.toNat 0))])) :=
    fun n x dx hx hd ne => ⟨dx, upd_at, k2 n _ x dx (made2 hx hd ne) upd_at⟩
  split
  · rename_i g1
    split
    · rename_i g2
      exact no fun z => g2 z.2
    · rename_i g2
      refine ⟨Nat.zero_le _, fun q hq => ?_⟩
      have hc : (c - 1 - -1).toNat = c.toNat := by omega
      refine ⟨_, rfl, _, _, rfl, rfl, _, rfl, _, rfl, c - 1, -1, -1, (c - 1 - -1).toNat, rfl, RgC.neg (by omega) (by omega) (by decide) (by decide), for_rangeC (lo := c - 1) (c := -1) (n := (c - 1 - -1).toNat)
        (fun i z h => ∃ (l : Int) (ns : List Int) (v u : Option V), z = [some (.int c), some (.int t), some (.int p), some (.int (grow p c.toNat 0)), some (.ref q), some (.int l), v, u] ∧ Same H h ∧ h q = some (.lst (ns.map V.int)) ∧
          ns.length = i ∧ Good p t l ns ∧ c - (i : Nat) ≤ l ∧ l ≤ t ∧ t ≤ grow p (c.toNat - i) (t - l)) ⟨t, [], none, none, rfl, Same.new hq, upd_same, rfl, Good.nil, by omega, Int.le_refl _, ?_⟩ ?_ ?_⟩
      · rw [Int.sub_self]
        exact Classical.not_not.mp g2
      · rintro i z h hi ⟨l, ns, v, u, rfl, s, hl, hn, g, l0, l1, l2⟩
        simp only [tSeq, tAsg, tDrop, tRet, tRetN, tIfS, tNext, tTest, tB, tNot, tAnd, tOr, tChain, tIf, tAndV, tOrV, tNotV, tOp, tUn, tCB, tCons, tNil, tVar, tC, tCall, tCallS, gName, rI, rI0, rU, rEq, rNe, tTup, tLst, gSub, rSetL, rIxL, rIxT, L2.start, List.map_cons, List.map_nil, List.length_cons, List.length_nil, Nat.reduceAdd, Nat.reduceSub, List.replicate_succ, List.replicate_zero, List.getElem?_cons_zero, List.getElem?_cons_succ, List.set_cons_zero, List.set_cons_succ, Option.some.injEq, exists_eq_left', exists_eq_left, exists_and_left, V.int.injEq, V.bl.injEq, V.ref.injEq, V.str.injEq, List.cons.injEq, and_true, true_and, List.nil_append, List.cons_append, List.append_nil, reduceCtorEq, false_and, exists_false, or_false, false_or, and_false, Int.reduceNeg, decide_eq_true_eq, Bool.not_eq_true', decide_eq_false_iff_not, and_assoc, tYes, ↓reduceIte, wipe, Bool.false_eq_true, Bool.true_eq_false, cxOf, false_implies, true_implies, implies_true, forall_const, sp_room_at]
        have ek : c - 1 + (i : Int) * -1 = ((c.toNat - (i + 1) : Nat) : Int) := by omega
        obtain ⟨s1, s2, s3, s4⟩ := coin_step (k := c.toNat - (i + 1)) p0 (show ((c.toNat - (i + 1) : Nat) : Int) + 1 ≤ l by omega) l1 (by rw [show c.toNat - (i + 1) + 1 = c.toNat - i by omega]; exact l2) rfl
        rw [ek]
        generalize (if l - ((c.toNat - (i + 1) : Nat) : Int) < room p (t - l) then l - ((c.toNat - (i + 1) : Nat) : Int) else room p (t - l)) = d at s1 s2 s3 s4 ⊢
        refine ⟨p0, p1, ?_⟩
        simp only [tSeq, tAsg, tDrop, tRet, tRetN, tIfS, tNext, tTest, tB, tNot, tAnd, tOr, tChain, tIf, tAndV, tOrV, tNotV, tOp, tUn, tCB, tCons, tNil, tVar, tC, tCall, tCallS, gName, rI, rI0, rU, rEq, rNe, tTup, tLst, gSub, rSetL, rIxL, rIxT, L2.start, List.map_cons, List.map_nil, List.length_cons, List.length_nil, Nat.reduceAdd, Nat.reduceSub, List.replicate_succ, List.replicate_zero, List.getElem?_cons_zero, List.getElem?_cons_succ, List.set_cons_zero, List.set_cons_succ, Option.some.injEq, exists_eq_left', exists_eq_left, exists_and_left, V.int.injEq, V.bl.injEq, V.ref.injEq, V.str.injEq, List.cons.injEq, and_true, true_and, List.nil_append, List.cons_append, List.append_nil, reduceCtorEq, false_and, exists_false, or_false, false_or, and_false, Int.reduceNeg, decide_eq_true_eq, Bool.not_eq_true', decide_eq_false_iff_not, and_assoc, tYes, ↓reduceIte, wipe, Bool.false_eq_true, Bool.true_eq_false, cxOf, false_implies, true_implies, implies_true, forall_const, tBM, rAppend]
        refine ⟨.inl ⟨rfl, _, SqL.of hl⟩, _, hl, by rw [List.length_map]; exact small1000 (by omega), fun b o e => ?_, ns ++ [d], ?_, by rw [List.length_append, hn]; rfl, g.put p0 s1 s2, by omega, by omega, s4⟩
        · rw [upd_ne (ne_of_none e hq)]
          exact s b o e
        · rw [upd_same, List.map_append]
          rfl
      · rintro z h ⟨l, ns, v, u, rfl, s, hl, hn, g, l0, l1, l2⟩
        simp only [tSeq, tAsg, tDrop, tRet, tRetN, tIfS, tNext, tTest, tB, tNot, tAnd, tOr, tChain, tIf, tAndV, tOrV, tNotV, tOp, tUn, tCB, tCons, tNil, tVar, tC, tCall, tCallS, gName, rI, rI0, rU, rEq, rNe, tTup, tLst, gSub, rSetL, rIxL, rIxT, L2.start, List.map_cons, List.map_nil, List.length_cons, List.length_nil, Nat.reduceAdd, Nat.reduceSub, List.replicate_succ, List.replicate_zero, List.getElem?_cons_zero, List.getElem?_cons_succ, List.set_cons_zero, List.set_cons_succ, Option.some.injEq, exists_eq_left', exists_eq_left, exists_and_left, V.int.injEq, V.bl.injEq, V.ref.injEq, V.str.injEq, List.cons.injEq, and_true, true_and, List.nil_append, List.cons_append, List.append_nil, reduceCtorEq, false_and, exists_false, or_false, false_or, and_false, Int.reduceNeg, decide_eq_true_eq, Bool.not_eq_true', decide_eq_false_iff_not, and_assoc, tYes, ↓reduceIte, wipe, Bool.false_eq_true, Bool.true_eq_false, cxOf, false_implies, true_implies, implies_true, forall_const, rSortedE]
        have gt : l = 0 := by
          have e : c.toNat - (c - 1 - -1).toNat = 0 := by omega
          rw [e] at l2
          have l3 : t ≤ t - l := l2
          omega
        have gs := g.sum
        refine ⟨ns, .inl (SqL.of hl), fun ms b h1 h2 hb => ⟨_, .inl ⟨SqL.of upd_same, fun k hk => ?_⟩⟩⟩
        refine k1 g1 (Classical.not_not.mp g2) _ k ms (s.trans ((Same.new hb).trans (Same.new hk))) upd_same ?_ ?_ ?_ h2 (g.out h1 h2)
        · rw [h1.length_eq, hn]; omega
        · rw [sum_perm h1]; omega
        · exact fun n hn' => g.pos n (h1.subset hn')
  · rename_i g1
    exact no fun z => g1 z.1
end
end My
set_option Elab.async false
set_option linter.all false
set_option maxRecDepth 100000
set_option maxHeartbeats 4000000
namespace My
open PySem PySem.Spec PyProof.Rows L2 Gen
section
variable {P : Program} {w : World} {K : PySem.W.Frag} {mg : Str → Option Value} {base : Heap} { cBadPeople cBadCount cBadTotal cNoPool : Addr}
def sp_l_pick (_ : PySem.W.Frag) : Sp := fun vs H Q _ => ∃ (h q l : Addr) (xs : List V), vs = [.ref h, .ref l] ∧ HandAt H h q ∧ H l = some (.lst xs) ∧ 0 < xs.length ∧ xs.length ≤ 1000 ∧ l ≠ h ∧
  ∀ v H', v ∈ xs → HandAt H' h q → But h H H' → Q v H'
theorem len_l_pick {vs H Q E} (h : sp_l_pick K vs H Q E) : vs.length = 2 := by
  obtain ⟨_, _, _, _, rfl, _⟩ := h; rfl
theorem ok_l_pick {f : Addr} {fd : FuncData} (F : Fun K "_law_pick" "_law_pick" s_l_pick f fd) (T : Txt K mg cBadPeople cBadCount cBadTotal cNoPool) : FnOk P w K mg base CX0 3 f fd ps_l_pick (sp_l_pick K) := by
  obtain ⟨f_l_draw, fd_l_draw, F_l_draw, m_l_draw, b_l_draw⟩ := T.d_l_draw
  have G_l_draw : FnOk P w K mg base CX0 2 f_l_draw fd_l_draw ps_l_draw (sp_l_draw K) := ok_l_draw F_l_draw T
  refine F.ok (k := 2) sc_l_pick (fun vs H Q E h => len_l_pick h) (fun cdv A outer s H vs Q E hr h => ?_)
  refine ⟨_, (pss_one (ps_ret (pe_ix ix_list (pv 1) (pe_call G_l_draw (hr.mono (by decide)) (by rfl) m_l_draw F_l_draw.kp b_l_draw .nil pass0 (pa_cons (pv 0) (pa_cons (pe_callB call_len_seq (by rfl) T.n_len (by decide +kernel) (pa_cons (pv 1) pa_nil)) pa_nil))) (fun _ _ => rfl)))), ?_⟩
  obtain ⟨h, q, l, xs, rfl, hh, hl, l0, l1, ne, k⟩ := h
  simp only [tSeq, tAsg, tDrop, tRet, tRetN, tIfS, tNext, tTest, tB, tNot, tAnd, tOr, tChain, tIf, tAndV, tOrV, tNotV, tOp, tUn, tCB, tCons, tNil, tVar, tC, tCall, tCallS, gName, rI, rI0, rU, rEq, rNe, tTup, tLst, gSub, rSetL, rIxL, rIxT, L2.start, List.map_cons, List.map_nil, List.length_cons, List.length_nil, Nat.reduceAdd, Nat.reduceSub, List.replicate_succ, List.replicate_zero, List.getElem?_cons_zero, List.getElem?_cons_succ, List.set_cons_zero, List.set_cons_succ, Option.some.injEq, exists_eq_left', exists_eq_left, exists_and_left, V.int.injEq, V.bl.injEq, V.ref.injEq, V.str.injEq, List.cons.injEq, and_true, true_and, List.nil_append, List.cons_append, List.append_nil, reduceCtorEq, false_and, exists_false, or_false, false_or, and_false, Int.reduceNeg, decide_eq_true_eq, Bool.not_eq_true', decide_eq_false_iff_not, and_assoc, tYes, ↓reduceIte, wipe, Bool.false_eq_true, Bool.true_eq_false, cxOf, false_implies, true_implies, implies_true, forall_const, spDraw]
  refine ⟨_, .inl (SqL.of hl), q, hh, by omega, by omega, fun d H' d0 d1 hh' bt => ?_⟩
  obtain ⟨j, rfl⟩ := Int.eq_ofNat_of_zero_le d0
  have hj : j < xs.length := by omega
  exact ⟨xs, SqL.of (bt _ _ hl ne), xs[j], atI_nat (List.getElem?_eq_getElem hj), k _ _ (List.getElem_mem hj) hh' bt⟩
def sp_l_is_whole (_ : PySem.W.Frag) : Sp := fun vs H Q _ => ∃ x : V, vs = [x] ∧ Plain H x ∧ Q (.bl (isI x)) H
theorem len_l_is_whole {vs H Q E} (h : sp_l_is_whole K vs H Q E) : vs.length = 1 := by
  obtain ⟨_, rfl, _⟩ := h; rfl
theorem ok_l_is_whole {f : Addr} {fd : FuncData} (F : Fun K "_law_is_whole" "_law_is_whole" s_l_is_whole f fd) (T : Txt K mg cBadPeople cBadCount cBadTotal cNoPool) : FnOk P w K mg base CX0 1 f fd ps_l_is_whole (sp_l_is_whole K) := by
  refine F.ok (k := 0) sc_l_is_whole (fun vs H Q E h => len_l_is_whole h) (fun cdv A outer s H vs Q E hr h => ?_)
  refine ⟨_, (pss_one (ps_ret (pe_and (pe_callB call_isi (by rfl) T.n_isinstance (by decide +kernel) (pa_cons (pv 0) (pa_cons (pe_bltn (v := .ty "int") (by rfl) T.n_int (by decide +kernel) rfl) pa_nil))) (pe_one (pe_not (pe_callB call_isi (by rfl) T.n_isinstance (by decide +kernel) (pa_cons (pv 0) (pa_cons (pe_bltn (v := .ty "bool") (by rfl) T.n_bool (by decide +kernel) rfl) pa_nil)))))))), ?_⟩
  obtain ⟨x, rfl, hp, q⟩ := h
  simp only [tSeq, tAsg, tDrop, tRet, tRetN, tIfS, tNext, tTest, tB, tNot, tAnd, tOr, tChain, tIf, tAndV, tOrV, tNotV, tOp, tUn, tCB, tCons, tNil, tVar, tC, tCall, tCallS, gName, rI, rI0, rU, rEq, rNe, tTup, tLst, gSub, rSetL, rIxL, rIxT, L2.start, List.map_cons, List.map_nil, List.length_cons, List.length_nil, Nat.reduceAdd, Nat.reduceSub, List.replicate_succ, List.replicate_zero, List.getElem?_cons_zero, List.getElem?_cons_succ, List.set_cons_zero, List.set_cons_succ, Option.some.injEq, exists_eq_left', exists_eq_left, exists_and_left, V.int.injEq, V.bl.injEq, V.ref.injEq, V.str.injEq, List.cons.injEq, and_true, true_and, List.nil_append, List.cons_append, List.append_nil, reduceCtorEq, false_and, exists_false, or_false, false_or, and_false, Int.reduceNeg, decide_eq_true_eq, Bool.not_eq_true', decide_eq_false_iff_not, and_assoc, tYes, ↓reduceIte, wipe, Bool.false_eq_true, Bool.true_eq_false, cxOf, false_implies, true_implies, implies_true, forall_const]
  refine isi_int hp ?_
  cases x with
  | int i => exact ⟨true, rfl, iteT (isi_bool hp ⟨false, rfl, q⟩)⟩
  | bl i => exact ⟨true, rfl, iteT (isi_bool hp ⟨true, rfl, q⟩)⟩
  | _ => exact ⟨false, rfl, iteF q⟩
def sp_l_up (_ : PySem.W.Frag) : Sp := fun vs H Q _ => ∃ t p : Int, vs = [.int t, .int p] ∧ 2 ≤ p ∧ p ≤ 5 ∧ Q (.int ((t + p - 1) / p)) H
theorem len_l_up {vs H Q E} (h : sp_l_up K vs H Q E) : vs.length = 2 := by
  obtain ⟨_, _, rfl, _⟩ := h; rfl
theorem ok_l_up {f : Addr} {fd : FuncData} (F : Fun K "_law_up" "_law_up" s_l_up f fd) (T : Txt K mg cBadPeople cBadCount cBadTotal cNoPool) : FnOk P w K mg base CX0 1 f fd ps_l_up (sp_l_up K) := by
  refine F.ok (k := 0) sc_l_up (fun vs H Q E h => len_l_up h) (fun cdv A outer s H vs Q E hr h => ?_)
  refine ⟨_, (pss_one (ps_ret (pe_op op_fdivW (pe_op op_sub (pe_op op_add (pv 0) (pv 1)) pe_int) (pv 1)))), ?_⟩
  obtain ⟨t, p, rfl, h2, h5, q⟩ := h
  simp only [tSeq, tAsg, tDrop, tRet, tRetN, tIfS, tNext, tTest, tB, tNot, tAnd, tOr, tChain, tIf, tAndV, tOrV, tNotV, tOp, tUn, tCB, tCons, tNil, tVar, tC, tCall, tCallS, gName, rI, rI0, rU, rEq, rNe, tTup, tLst, gSub, rSetL, rIxL, rIxT, L2.start, List.map_cons, List.map_nil, List.length_cons, List.length_nil, Nat.reduceAdd, Nat.reduceSub, List.replicate_succ, List.replicate_zero, List.getElem?_cons_zero, List.getElem?_cons_succ, List.set_cons_zero, List.set_cons_succ, Option.some.injEq, exists_eq_left', exists_eq_left, exists_and_left, V.int.injEq, V.bl.injEq, V.ref.injEq, V.str.injEq, List.cons.injEq, and_true, true_and, List.nil_append, List.cons_append, List.append_nil, reduceCtorEq, false_and, exists_false, or_false, false_or, and_false, Int.reduceNeg, decide_eq_true_eq, Bool.not_eq_true', decide_eq_false_iff_not, and_assoc, tYes, ↓reduceIte, wipe, Bool.false_eq_true, Bool.true_eq_false, cxOf, false_implies, true_implies, implies_true, forall_const]
  exact ⟨cdw (by omega) (by omega), q⟩
def sp_l_next (_ : PySem.W.Frag) : Sp := fun vs H Q _ => ∃ t p : Int, vs = [.int t, .int p] ∧ 2 ≤ p ∧ p ≤ 5 ∧ Q (.int (room p t)) H
theorem len_l_next {vs H Q E} (h : sp_l_next K vs H Q E) : vs.length = 2 := by
  obtain ⟨_, _, rfl, _⟩ := h; rfl
theorem ok_l_next {f : Addr} {fd : FuncData} (F : Fun K "_law_next" "_law_next" s_l_next f fd) (T : Txt K mg cBadPeople cBadCount cBadTotal cNoPool) : FnOk P w K mg base CX0 1 f fd ps_l_next (sp_l_next K) := by
  refine F.ok (k := 0) sc_l_next (fun vs H Q E h => len_l_next h) (fun cdv A outer s H vs Q E hr h => ?_)
  refine ⟨_, (pss_one (ps_ret (pe_op op_add (pe_op op_fdivW (pv 0) (pe_op op_sub (pv 1) pe_int)) pe_int))), ?_⟩
  obtain ⟨t, p, rfl, h2, h5, q⟩ := h
  simp only [tSeq, tAsg, tDrop, tRet, tRetN, tIfS, tNext, tTest, tB, tNot, tAnd, tOr, tChain, tIf, tAndV, tOrV, tNotV, tOp, tUn, tCB, tCons, tNil, tVar, tC, tCall, tCallS, gName, rI, rI0, rU, rEq, rNe, tTup, tLst, gSub, rSetL, rIxL, rIxT, L2.start, List.map_cons, List.map_nil, List.length_cons, List.length_nil, Nat.reduceAdd, Nat.reduceSub, List.replicate_succ, List.replicate_zero, List.getElem?_cons_zero, List.getElem?_cons_succ, List.set_cons_zero, List.set_cons_succ, Option.some.injEq, exists_eq_left', exists_eq_left, exists_and_left, V.int.injEq, V.bl.injEq, V.ref.injEq, V.str.injEq, List.cons.injEq, and_true, true_and, List.nil_append, List.cons_append, List.append_nil, reduceCtorEq, false_and, exists_false, or_false, false_or, and_false, Int.reduceNeg, decide_eq_true_eq, Bool.not_eq_true', decide_eq_false_iff_not, and_assoc, tYes, ↓reduceIte, wipe, Bool.false_eq_true, Bool.true_eq_false, cxOf, false_implies, true_implies, implies_true, forall_const]
  exact ⟨cdw (by omega) (by omega), q⟩
def sp_l_great (_ : PySem.W.Frag) : Sp := fun vs H Q _ => ∃ n p : Int, vs = [.int n, .int p] ∧ 0 ≤ n ∧ n ≤ 60 ∧ 2 ≤ p ∧ p ≤ 5 ∧ Q (.int (grow p n.toNat 0)) H
theorem len_l_great {vs H Q E} (h : sp_l_great K vs H Q E) : vs.length = 2 := by
  obtain ⟨_, _, rfl, _⟩ := h; rfl
theorem ok_l_great {f : Addr} {fd : FuncData} (F : Fun K "_law_great" "_law_great" s_l_great f fd) (T : Txt K mg cBadPeople cBadCount cBadTotal cNoPool) : FnOk P w K mg base CX0 2 f fd ps_l_great (sp_l_great K) := by
  obtain ⟨f_l_next, fd_l_next, F_l_next, m_l_next, b_l_next⟩ := T.d_l_next
  have G_l_next : FnOk P w K mg base CX0 1 f_l_next fd_l_next ps_l_next (sp_l_next K) := ok_l_next F_l_next T
  refine F.ok (k := 1) sc_l_great (fun vs H Q E h => len_l_great h) (fun cdv A outer s H vs Q E hr h => ?_)
  refine ⟨_, (pss_cons (ps_set (i := 2) sc_l_great.nd rfl (Or.inl rfl) pe_int)
      (pss_cons (ps_for PassesOwn.never rfl (pi_range1 (by rfl) T.n_range (pa_cons (pv 0) pa_nil)) (pg_name (i := 3) sc_l_great.nd rfl (Or.inl rfl))
      (pss_one (ps_set (i := 2) sc_l_great.nd rfl (Or.inl rfl) (pe_op op_add (pv 2) (pe_call G_l_next (hr.mono (by decide)) (by rfl) m_l_next F_l_next.kp b_l_next .nil pass0 (pa_cons (pv 2) (pa_cons (pv 1) pa_nil)))))))
      (pss_one (ps_ret (pv 2))))), ?_⟩
  obtain ⟨n, p, rfl, n0, n1, p0, p1, q⟩ := h
  simp only [tSeq, tAsg, tDrop, tRet, tRetN, tIfS, tNext, tTest, tB, tNot, tAnd, tOr, tChain, tIf, tAndV, tOrV, tNotV, tOp, tUn, tCB, tCons, tNil, tVar, tC, tCall, tCallS, gName, rI, rI0, rU, rEq, rNe, tTup, tLst, gSub, rSetL, rIxL, rIxT, L2.start, List.map_cons, List.map_nil, List.length_cons, List.length_nil, Nat.reduceAdd, Nat.reduceSub, List.replicate_succ, List.replicate_zero, List.getElem?_cons_zero, List.getElem?_cons_succ, List.set_cons_zero, List.set_cons_succ, Option.some.injEq, exists_eq_left', exists_eq_left, exists_and_left, V.int.injEq, V.bl.injEq, V.ref.injEq, V.str.injEq, List.cons.injEq, and_true, true_and, List.nil_append, List.cons_append, List.append_nil, reduceCtorEq, false_and, exists_false, or_false, false_or, and_false, Int.reduceNeg, decide_eq_true_eq, Bool.not_eq_true', decide_eq_false_iff_not, and_assoc, tYes, ↓reduceIte, wipe, Bool.false_eq_true, Bool.true_eq_false, cxOf, false_implies, true_implies, implies_true, forall_const]
  refine ⟨_, rfl, n, rfl, by omega, by omega, for_range (lo := 0) (n := n.toNat) (fun i z h => ∃ v, z = [some (.int n), some (.int p), some (.int (grow p i 0)), v] ∧ h = H) ⟨none, rfl, rfl⟩ ?_ ?_⟩
  · rintro i z h hi ⟨v, rfl, rfl⟩
    simp only [tSeq, tAsg, tDrop, tRet, tRetN, tIfS, tNext, tTest, tB, tNot, tAnd, tOr, tChain, tIf, tAndV, tOrV, tNotV, tOp, tUn, tCB, tCons, tNil, tVar, tC, tCall, tCallS, gName, rI, rI0, rU, rEq, rNe, tTup, tLst, gSub, rSetL, rIxL, rIxT, L2.start, List.map_cons, List.map_nil, List.length_cons, List.length_nil, Nat.reduceAdd, Nat.reduceSub, List.replicate_succ, List.replicate_zero, List.getElem?_cons_zero, List.getElem?_cons_succ, List.set_cons_zero, List.set_cons_succ, Option.some.injEq, exists_eq_left', exists_eq_left, exists_and_left, V.int.injEq, V.bl.injEq, V.ref.injEq, V.str.injEq, List.cons.injEq, and_true, true_and, List.nil_append, List.cons_append, List.append_nil, reduceCtorEq, false_and, exists_false, or_false, false_or, and_false, Int.reduceNeg, decide_eq_true_eq, Bool.not_eq_true', decide_eq_false_iff_not, and_assoc, tYes, ↓reduceIte, wipe, Bool.false_eq_true, Bool.true_eq_false, cxOf, false_implies, true_implies, implies_true, forall_const, sp_l_next]
    exact ⟨p0, p1, rfl, _, rfl⟩
  · rintro z h ⟨v, rfl, rfl⟩
    exact ⟨_, rfl, q⟩
def sp_l_odd_people (_ : PySem.W.Frag) : Sp := fun vs H Q _ => ∃ h q : Addr, vs = [.ref h] ∧ HandAt H h q ∧ ∀ x H', Plain H' x → whole x 2 5 = false → HandAt H' h q → But h H H' → Q x H'
theorem len_l_odd_people {vs H Q E} (h : sp_l_odd_people K vs H Q E) : vs.length = 1 := by
  obtain ⟨_, _, rfl, _⟩ := h; rfl
theorem ok_l_odd_people {f : Addr} {fd : FuncData} (F : Fun K "_law_odd_people" "_law_odd_people" s_l_odd_people f fd) (T : Txt K mg cBadPeople cBadCount cBadTotal cNoPool) : FnOk P w K mg base CX0 4 f fd ps_l_odd_people (sp_l_odd_people K) := by
  obtain ⟨f_l_pick, fd_l_pick, F_l_pick, m_l_pick, b_l_pick⟩ := T.d_l_pick
  have G_l_pick : FnOk P w K mg base CX0 3 f_l_pick fd_l_pick ps_l_pick (sp_l_pick K) := ok_l_pick F_l_pick T
  refine F.ok (k := 3) sc_l_odd_people (fun vs H Q E h => len_l_odd_people h) (fun cdv A outer s H vs Q E hr h => ?_)
  refine ⟨_, (pss_one (ps_ret (pe_call G_l_pick (hr.mono (by decide)) (by rfl) m_l_pick F_l_pick.kp b_l_pick .nil pass0 (pa_cons (pv 0) (pa_cons (pe_lst (pa_cons pe_int (pa_cons pe_int (pa_cons pe_int (pa_cons (pe_un un_neg pe_int) (pa_cons pe_non (pa_cons pe_bl (pa_cons pe_str (pa_cons (pe_tup (pa_cons pe_int pa_nil)) (pa_cons (pe_op op_pow pe_int pe_int) pa_nil)))))))))) pa_nil))))), ?_⟩
  obtain ⟨h, q, rfl, hh, k⟩ := h
  simp only [tSeq, tAsg, tDrop, tRet, tRetN, tIfS, tNext, tTest, tB, tNot, tAnd, tOr, tChain, tIf, tAndV, tOrV, tNotV, tOp, tUn, tCB, tCons, tNil, tVar, tC, tCall, tCallS, gName, rI, rI0, rU, rEq, rNe, tTup, tLst, gSub, rSetL, rIxL, rIxT, L2.start, List.map_cons, List.map_nil, List.length_cons, List.length_nil, Nat.reduceAdd, Nat.reduceSub, List.replicate_succ, List.replicate_zero, List.getElem?_cons_zero, List.getElem?_cons_succ, List.set_cons_zero, List.set_cons_succ, Option.some.injEq, exists_eq_left', exists_eq_left, exists_and_left, V.int.injEq, V.bl.injEq, V.ref.injEq, V.str.injEq, List.cons.injEq, and_true, true_and, List.nil_append, List.cons_append, List.append_nil, reduceCtorEq, false_and, exists_false, or_false, false_or, and_false, Int.reduceNeg, decide_eq_true_eq, Bool.not_eq_true', decide_eq_false_iff_not, and_assoc, tYes, ↓reduceIte, wipe, Bool.false_eq_true, Bool.true_eq_false, cxOf, false_implies, true_implies, implies_true, forall_const, sp_l_pick]
  refine ⟨by decide, fun p hp => ⟨⟨by decide, by decide, by decide⟩, by decide, fun l hl => ?_⟩⟩
  have hl' : H l = none := Same.free (Same.new hp) hl
  have st := (Same.new hp).trans (Same.new (o := HO.lst [V.int 1, V.int 0, V.int 6, V.int (-2), V.non, V.bl true, V.str (Str.ofString "2"), V.ref p, V.int (10 ^ Int.toNat 20)]) hl)
  refine ⟨q, hh.same st, _, upd_same, by show 0 < 9; decide, by show 9 ≤ 1000; decide, hh.off hl', fun v H' hv hh' bt => ?_⟩
  have bt' : But h H H' := (But.of st).trans bt
  have hpp : H' p = some (.tup [V.int 2]) := bt _ _ (by rw [upd_ne (ne_of_none upd_same hl), upd_same]) (hh.off hp)
  simp only [List.mem_cons, List.not_mem_nil, or_false] at hv
  rcases hv with rfl | rfl | rfl | rfl | rfl | rfl | rfl | rfl | rfl
  all_goals first
    | exact k _ _ trivial (by decide +kernel) hh' bt'
    | exact k _ _ (.inl ⟨_, hpp⟩) rfl hh' bt'
def sp_l_odd_number (_ : PySem.W.Frag) : Sp := fun vs H Q _ => ∃ (h q : Addr) (m : Int), vs = [.ref h, .int m] ∧ HandAt H h q ∧ 0 ≤ m ∧ ∀ x H', Plain H' x → whole x 0 m = false → HandAt H' h q → But h H H' → Q x H'
theorem len_l_odd_number {vs H Q E} (h : sp_l_odd_number K vs H Q E) : vs.length = 2 := by
  obtain ⟨_, _, _, rfl, _⟩ := h; rfl
theorem ok_l_odd_number {f : Addr} {fd : FuncData} (F : Fun K "_law_odd_number" "_law_odd_number" s_l_odd_number f fd) (T : Txt K mg cBadPeople cBadCount cBadTotal cNoPool) : FnOk P w K mg base CX0 4 f fd ps_l_odd_number (sp_l_odd_number K) := by
  obtain ⟨f_l_pick, fd_l_pick, F_l_pick, m_l_pick, b_l_pick⟩ := T.d_l_pick
  have G_l_pick : FnOk P w K mg base CX0 3 f_l_pick fd_l_pick ps_l_pick (sp_l_pick K) := ok_l_pick F_l_pick T
  refine F.ok (k := 3) sc_l_odd_number (fun vs H Q E h => len_l_odd_number h) (fun cdv A outer s H vs Q E hr h => ?_)
  refine ⟨_, (pss_one (ps_ret (pe_call G_l_pick (hr.mono (by decide)) (by rfl) m_l_pick F_l_pick.kp b_l_pick .nil pass0 (pa_cons (pv 0) (pa_cons (pe_lst (pa_cons (pe_un un_neg pe_int) (pa_cons (pe_op op_add (pv 1) pe_int) (pa_cons pe_non (pa_cons pe_bl (pa_cons pe_bl (pa_cons pe_str (pa_cons (pe_tup (pa_cons pe_int pa_nil)) (pa_cons (pe_un un_neg (pe_op op_pow pe_int pe_int)) (pa_cons (pe_op op_add (pv 1) (pe_op op_pow pe_int pe_int)) pa_nil)))))))))) pa_nil))))), ?_⟩
  obtain ⟨h, q, m, rfl, hh, m0, k⟩ := h
  simp only [tSeq, tAsg, tDrop, tRet, tRetN, tIfS, tNext, tTest, tB, tNot, tAnd, tOr, tChain, tIf, tAndV, tOrV, tNotV, tOp, tUn, tCB, tCons, tNil, tVar, tC, tCall, tCallS, gName, rI, rI0, rU, rEq, rNe, tTup, tLst, gSub, rSetL, rIxL, rIxT, L2.start, List.map_cons, List.map_nil, List.length_cons, List.length_nil, Nat.reduceAdd, Nat.reduceSub, List.replicate_succ, List.replicate_zero, List.getElem?_cons_zero, List.getElem?_cons_succ, List.set_cons_zero, List.set_cons_succ, Option.some.injEq, exists_eq_left', exists_eq_left, exists_and_left, V.int.injEq, V.bl.injEq, V.ref.injEq, V.str.injEq, List.cons.injEq, and_true, true_and, List.nil_append, List.cons_append, List.append_nil, reduceCtorEq, false_and, exists_false, or_false, false_or, and_false, Int.reduceNeg, decide_eq_true_eq, Bool.not_eq_true', decide_eq_false_iff_not, and_assoc, tYes, ↓reduceIte, wipe, Bool.false_eq_true, Bool.true_eq_false, cxOf, false_implies, true_implies, implies_true, forall_const, sp_l_pick]
  refine ⟨by decide, fun p hp => ⟨⟨by decide, by decide, by decide⟩, ⟨by decide, by decide, by decide⟩, by decide, fun l hl => ?_⟩⟩
  have e20 : (10 : Int) ^ Int.toNat 20 = 100000000000000000000 := by decide
  have e9 : (10 : Int) ^ Int.toNat 9 = 1000000000 := by decide
  rw [e20, e9]
  have hl' : H l = none := Same.free (Same.new hp) hl
  have st := (Same.new hp).trans (Same.new (o := HO.lst [V.int (-1), V.int (m + 1), V.non, V.bl true, V.bl false, V.str (Str.ofString "1"), V.ref p, V.int (-100000000000000000000), V.int (m + 1000000000)]) hl)
  refine ⟨q, hh.same st, _, upd_same, by show 0 < 9; decide, by show 9 ≤ 1000; decide, hh.off hl', fun v H' hv hh' bt => ?_⟩
  have bt' : But h H H' := (But.of st).trans bt
  have hpp : H' p = some (.tup [V.int 1]) := bt _ _ (by rw [upd_ne (ne_of_none upd_same hl), upd_same]) (hh.off hp)
  simp only [List.mem_cons, List.not_mem_nil, or_false] at hv
  rcases hv with rfl | rfl | rfl | rfl | rfl | rfl | rfl | rfl | rfl
  all_goals first
    | exact k _ _ trivial rfl hh' bt'
    | exact k _ _ (.inl ⟨_, hpp⟩) rfl hh' bt'
    | exact k _ _ trivial (whole_no (.inl (by omega))) hh' bt'
    | exact k _ _ trivial (whole_no (.inr (by omega))) hh' bt'
def sp_l_is_coins (_ : PySem.W.Frag) : Sp := fun vs H Q _ => ∃ (a : Addr) (ns : List Int), vs = [.ref a] ∧ H a = some (.tup (ns.map V.int)) ∧ ns.length ≤ 900 ∧ (∀ n, n ∈ ns → 1 ≤ n) ∧ ns.Pairwise (· ≤ ·) ∧ ∀ H', Same H H' → Q (.bl true) H'
theorem len_l_is_coins {vs H Q E} (h : sp_l_is_coins K vs H Q E) : vs.length = 1 := by
  obtain ⟨_, _, rfl, _⟩ := h; rfl
theorem ok_l_is_coins {f : Addr} {fd : FuncData} (F : Fun K "_law_is_coins" "_law_is_coins" s_l_is_coins f fd) (T : Txt K mg cBadPeople cBadCount cBadTotal cNoPool) : FnOk P w K mg base CX0 2 f fd ps_l_is_coins (sp_l_is_coins K) := by
  obtain ⟨f_l_is_whole, fd_l_is_whole, F_l_is_whole, m_l_is_whole, b_l_is_whole⟩ := T.d_l_is_whole
  have G_l_is_whole : FnOk P w K mg base CX0 1 f_l_is_whole fd_l_is_whole ps_l_is_whole (sp_l_is_whole K) := ok_l_is_whole F_l_is_whole T
  refine F.ok (k := 1) sc_l_is_coins (fun vs H Q E h => len_l_is_coins h) (fun cdv A outer s H vs Q E hr h => ?_)
  refine ⟨_, (pss_cons (ps_if (PW.pt (pw_or (pt_not (pt_val (pe_callB call_isi (by rfl) T.n_isinstance (by decide +kernel) (pa_cons (pv 0) (pa_cons (pe_bltn (v := .ty "tuple") (by rfl) T.n_tuple (by decide +kernel) rfl) pa_nil))))) (pw_or1 (pt_cmpR (op_neD hr.units) (pe_lc (own := [("_law_coin", 1)]) (g := gName 1) (tt := _) rfl sc_l_is_coins.nd (pi_tup (pv 0)) (blkOk_by (N := nm_l_is_coins) (sc := defScope s_l_is_coins) (by decide +kernel)) (fun _ _ _ _ _ => (pg_name (i := 1) sc_l_is_coins.nd rfl (Or.inl rfl))) (fun _ _ _ _ _ => (pts_one (PW.pt (pw_or (pt_not (pt_val (pe_call G_l_is_whole (hr.mono (by decide)) (by rfl) m_l_is_whole F_l_is_whole.kp b_l_is_whole .nil pass0 (pa_cons (pv 1) pa_nil)))) (pw_or1 (pt_cmpR op_lt (pv 1) pe_int (nomark _))))))) (fun _ _ _ _ _ => (pv 1))) (pe_lst pa_nil) (nomark _))))) (pss_one (ps_ret pe_bl)) pss_nil)
      (pss_one (ps_ret (pe_cmpR (op_eqD hr.units) (pe_callTy call_list_of (by rfl) T.n_list (by decide +kernel) (pa_cons (pv 0) pa_nil)) (pe_callB cr_sortedE (by rfl) T.n_sorted (by decide +kernel) (pa_cons (pe_callTy call_list_of (by rfl) T.n_list (by decide +kernel) (pa_cons (pv 0) pa_nil)) pa_nil)) (nomark _))))), ?_⟩
  obtain ⟨a, ns, rfl, ha, hn, h1, hs, k⟩ := h
  simp only [tSeq, tAsg, tDrop, tRet, tRetN, tIfS, tNext, tTest, tB, tNot, tAnd, tOr, tChain, tIf, tAndV, tOrV, tNotV, tOp, tUn, tCB, tCons, tNil, tVar, tC, tCall, tCallS, gName, rI, rI0, rU, rEq, rNe, tTup, tLst, gSub, rSetL, rIxL, rIxT, L2.start, List.map_cons, List.map_nil, List.length_cons, List.length_nil, Nat.reduceAdd, Nat.reduceSub, List.replicate_succ, List.replicate_zero, List.getElem?_cons_zero, List.getElem?_cons_succ, List.set_cons_zero, List.set_cons_succ, Option.some.injEq, exists_eq_left', exists_eq_left, exists_and_left, V.int.injEq, V.bl.injEq, V.ref.injEq, V.str.injEq, List.cons.injEq, and_true, true_and, List.nil_append, List.cons_append, List.append_nil, reduceCtorEq, false_and, exists_false, or_false, false_or, and_false, Int.reduceNeg, decide_eq_true_eq, Bool.not_eq_true', decide_eq_false_iff_not, and_assoc, tYes, ↓reduceIte, wipe, Bool.false_eq_true, Bool.true_eq_false, cxOf, false_implies, true_implies, implies_true, forall_const]
  refine isi_tuple ha ⟨true, rfl, ?_⟩
  rw [if_neg (fun z => by cases z)]
  refine ⟨_, rfl, a, rfl, ⟨_, SqT.of ha⟩, fun D hD => lc_tup (K := K) (a := a) (xs := ns.map V.int) (fun i h' => Same H h' ∧ h' D = some (.lst [])) ⟨Same.new hD, upd_same⟩ (fun i h' _ ⟨s, _⟩ => SqT.of (s _ _ ha)) ?_ ?_⟩
  · rintro i x h' hi ⟨s, e⟩
    obtain ⟨c, hc, rfl⟩ := nat_map hi
    have c1 := h1 c (List.mem_of_getElem? hc)
    simp only [tSeq, tAsg, tDrop, tRet, tRetN, tIfS, tNext, tTest, tB, tNot, tAnd, tOr, tChain, tIf, tAndV, tOrV, tNotV, tOp, tUn, tCB, tCons, tNil, tVar, tC, tCall, tCallS, gName, rI, rI0, rU, rEq, rNe, tTup, tLst, gSub, rSetL, rIxL, rIxT, L2.start, List.map_cons, List.map_nil, List.length_cons, List.length_nil, Nat.reduceAdd, Nat.reduceSub, List.replicate_succ, List.replicate_zero, List.getElem?_cons_zero, List.getElem?_cons_succ, List.set_cons_zero, List.set_cons_succ, Option.some.injEq, exists_eq_left', exists_eq_left, exists_and_left, V.int.injEq, V.bl.injEq, V.ref.injEq, V.str.injEq, List.cons.injEq, and_true, true_and, List.nil_append, List.cons_append, List.append_nil, reduceCtorEq, false_and, exists_false, or_false, false_or, and_false, Int.reduceNeg, decide_eq_true_eq, Bool.not_eq_true', decide_eq_false_iff_not, and_assoc, tYes, ↓reduceIte, wipe, Bool.false_eq_true, Bool.true_eq_false, cxOf, false_implies, true_implies, implies_true, forall_const, sp_l_is_whole, isI]
    rw [if_neg (show ¬ c < 1 by omega)]
    exact ⟨True.intro, s, e⟩
  · rintro h' ⟨s, e⟩
    refine ⟨Nat.zero_le _, fun l hl => ne_ints (ns := []) (SqL.of (by rw [upd_ne (ne_of_none e hl)]; exact e)) (SqL.of upd_same) ⟨false, rfl, iteF ?_⟩⟩
    have s2 := s.trans (Same.new (o := HO.lst []) hl)
    generalize upd h' l (.lst []) = H2 at s2 ⊢
    simp only [tSeq, tAsg, tDrop, tRet, tRetN, tIfS, tNext, tTest, tB, tNot, tAnd, tOr, tChain, tIf, tAndV, tOrV, tNotV, tOp, tUn, tCB, tCons, tNil, tVar, tC, tCall, tCallS, gName, rI, rI0, rU, rEq, rNe, tTup, tLst, gSub, rSetL, rIxL, rIxT, L2.start, List.map_cons, List.map_nil, List.length_cons, List.length_nil, Nat.reduceAdd, Nat.reduceSub, List.replicate_succ, List.replicate_zero, List.getElem?_cons_zero, List.getElem?_cons_succ, List.set_cons_zero, List.set_cons_succ, Option.some.injEq, exists_eq_left', exists_eq_left, exists_and_left, V.int.injEq, V.bl.injEq, V.ref.injEq, V.str.injEq, List.cons.injEq, and_true, true_and, List.nil_append, List.cons_append, List.append_nil, reduceCtorEq, false_and, exists_false, or_false, false_or, and_false, Int.reduceNeg, decide_eq_true_eq, Bool.not_eq_true', decide_eq_false_iff_not, and_assoc, tYes, ↓reduceIte, wipe, Bool.false_eq_true, Bool.true_eq_false, cxOf, false_implies, true_implies, implies_true, forall_const, rSortedE]
    refine ⟨_, .inr (SqT.of (s2 _ _ ha)), fun l1 hl1 => ⟨_, .inr (SqT.of ((Same.new hl1) _ _ (s2 _ _ ha))), fun l2 hl2 => ⟨ns, .inl (SqL.of upd_same), fun ms b p1 p2 hb => ?_⟩⟩⟩
    obtain rfl := PySem.W.os_sorted_one p1 p2 hs
    refine eq_ints (SqL.of ((Same.new hb) _ _ ((Same.new hl2) _ _ upd_same))) (SqL.of upd_same) (k _ (s2.trans ((Same.new hl1).trans ((Same.new hl2).trans (Same.new hb)))))
def sp_l_serves (_ : PySem.W.Frag) : Sp := fun vs H Q _ => ∃ (a : Addr) (ns : List Int) (p : Int), vs = [.ref a, .int p] ∧ H a = some (.tup (ns.map V.int)) ∧ ns.length ≤ 900 ∧ ns.Pairwise (· ≤ ·) ∧ Srv p 0 ns ∧ 2 ≤ p ∧ p ≤ 5 ∧ ∀ H', Same H H' → Q (.bl true) H'
theorem len_l_serves {vs H Q E} (h : sp_l_serves K vs H Q E) : vs.length = 2 := by
  obtain ⟨_, _, _, rfl, _⟩ := h; rfl
theorem ok_l_serves {f : Addr} {fd : FuncData} (F : Fun K "_law_serves" "_law_serves" s_l_serves f fd) (T : Txt K mg cBadPeople cBadCount cBadTotal cNoPool) : FnOk P w K mg base CX0 2 f fd ps_l_serves (sp_l_serves K) := by
  obtain ⟨f_l_up, fd_l_up, F_l_up, m_l_up, b_l_up⟩ := T.d_l_up
  have G_l_up : FnOk P w K mg base CX0 1 f_l_up fd_l_up ps_l_up (sp_l_up K) := ok_l_up F_l_up T
  refine F.ok (k := 1) sc_l_serves (fun vs H Q E h => len_l_serves h) (fun cdv A outer s H vs Q E hr h => ?_)
  refine ⟨_, (pss_cons (ps_set (i := 2) sc_l_serves.nd rfl (Or.inl rfl) pe_int)
      (pss_cons (ps_for PassesOwn.never rfl (pi_list (pe_callB cr_sortedE (by rfl) T.n_sorted (by decide +kernel) (pa_cons (pe_callTy call_list_of (by rfl) T.n_list (by decide +kernel) (pa_cons (pv 0) pa_nil)) pa_nil))) (pg_name (i := 3) sc_l_serves.nd rfl (Or.inl rfl))
      (pss_cons (ps_set (i := 2) sc_l_serves.nd rfl (Or.inl rfl) (pe_op op_add (pv 2) (pv 3)))
      (pss_one (ps_if (pt_cmpR op_gt (pv 3) (pe_call G_l_up (hr.mono (by decide)) (by rfl) m_l_up F_l_up.kp b_l_up .nil pass0 (pa_cons (pv 2) (pa_cons (pv 1) pa_nil))) (nomark _)) (pss_one (ps_ret pe_bl)) pss_nil))))
      (pss_one (ps_ret pe_bl)))), ?_⟩
  obtain ⟨a, ns, p, rfl, ha, hn, hs, hv, p0, p1, k⟩ := h
  simp only [tSeq, tAsg, tDrop, tRet, tRetN, tIfS, tNext, tTest, tB, tNot, tAnd, tOr, tChain, tIf, tAndV, tOrV, tNotV, tOp, tUn, tCB, tCons, tNil, tVar, tC, tCall, tCallS, gName, rI, rI0, rU, rEq, rNe, tTup, tLst, gSub, rSetL, rIxL, rIxT, L2.start, List.map_cons, List.map_nil, List.length_cons, List.length_nil, Nat.reduceAdd, Nat.reduceSub, List.replicate_succ, List.replicate_zero, List.getElem?_cons_zero, List.getElem?_cons_succ, List.set_cons_zero, List.set_cons_succ, Option.some.injEq, exists_eq_left', exists_eq_left, exists_and_left, V.int.injEq, V.bl.injEq, V.ref.injEq, V.str.injEq, List.cons.injEq, and_true, true_and, List.nil_append, List.cons_append, List.append_nil, reduceCtorEq, false_and, exists_false, or_false, false_or, and_false, Int.reduceNeg, decide_eq_true_eq, Bool.not_eq_true', decide_eq_false_iff_not, and_assoc, tYes, ↓reduceIte, wipe, Bool.false_eq_true, Bool.true_eq_false, cxOf, false_implies, true_implies, implies_true, forall_const]
  refine ⟨_, rfl, a, rfl, ns.map V.int, .inr (SqT.of ha), fun l hl => ⟨l, ns, rfl, .inl (SqL.of upd_same), fun ms b h1 h2 hb => ⟨b, rfl, ⟨_, SqL.of upd_same⟩, ?_⟩⟩⟩
  obtain rfl := PySem.W.os_sorted_one h1 h2 hs
  have s := (Same.new (o := HO.lst (ms.map V.int)) hl).trans (Same.new (o := HO.lst (ms.map V.int)) hb)
  have eb : upd (upd H l (HO.lst (ms.map V.int))) b (HO.lst (ms.map V.int)) b = some (HO.lst (ms.map V.int)) := upd_same
  generalize upd (upd H l (HO.lst (ms.map V.int))) b (HO.lst (ms.map V.int)) = H2 at s eb ⊢
  refine for_list (K := K) (a := b) (xs := ms.map V.int) (fun i z h' => ∃ v, z = [some (.ref a), some (.int p), some (.int (ms.take i).sum), v] ∧ h' = H2)
    ⟨none, rfl, rfl⟩ (fun i z h' _ ⟨_, _, e⟩ => e ▸ SqL.of eb) ?_ ?_
  · rintro i x z h' hi ⟨v, rfl, rfl⟩
    obtain ⟨c, hc, rfl⟩ := nat_map hi
    have t := hv.take hc
    rw [Int.zero_add] at t
    simp only [tSeq, tAsg, tDrop, tRet, tRetN, tIfS, tNext, tTest, tB, tNot, tAnd, tOr, tChain, tIf, tAndV, tOrV, tNotV, tOp, tUn, tCB, tCons, tNil, tVar, tC, tCall, tCallS, gName, rI, rI0, rU, rEq, rNe, tTup, tLst, gSub, rSetL, rIxL, rIxT, L2.start, List.map_cons, List.map_nil, List.length_cons, List.length_nil, Nat.reduceAdd, Nat.reduceSub, List.replicate_succ, List.replicate_zero, List.getElem?_cons_zero, List.getElem?_cons_succ, List.set_cons_zero, List.set_cons_succ, Option.some.injEq, exists_eq_left', exists_eq_left, exists_and_left, V.int.injEq, V.bl.injEq, V.ref.injEq, V.str.injEq, List.cons.injEq, and_true, true_and, List.nil_append, List.cons_append, List.append_nil, reduceCtorEq, false_and, exists_false, or_false, false_or, and_false, Int.reduceNeg, decide_eq_true_eq, Bool.not_eq_true', decide_eq_false_iff_not, and_assoc, tYes, ↓reduceIte, wipe, Bool.false_eq_true, Bool.true_eq_false, cxOf, false_implies, true_implies, implies_true, forall_const, sp_l_up]
    refine ⟨p0, p1, ?_⟩
    rw [if_neg (srv_up p0 p1 t)]
    exact ⟨by rw [L2.sum_take hc], _, rfl⟩
  · rintro z h' ⟨v, rfl, rfl⟩
    exact k _ s
end
end My
set_option Elab.async false
set_option linter.all false
set_option maxRecDepth 100000
set_option maxHeartbeats 4000000
namespace My
open PySem PySem.Spec PyProof.Rows L2 Gen
section
variable {P : Program} {w : World} {K : PySem.W.Frag} {mg : Str → Option Value} {base : Heap} { cBadPeople cBadCount cBadTotal cNoPool : Addr}
def sp_l_told (_ : PySem.W.Frag) : Sp := fun vs H Q _ => ∃ (x y z : V), vs = [x, y, z] ∧ Plain H x ∧ Plain H y ∧ Plain H z ∧
  ((whole x 0 12 = false ∧ ∀ H' p, Same H H' → H p = none → H' p = some (.tup [.str "count", .int 12]) → Q (.ref p) H') ∨
    (whole x 0 12 = true ∧ whole y 0 1000000000 = false ∧ ∀ H' p, Same H H' → H p = none → H' p = some (.tup [.str "total", .int 1000000000]) → Q (.ref p) H') ∨
    (whole x 0 12 = true ∧ whole y 0 1000000000 = true ∧ whole z 2 5 = false ∧ ∀ H' p, Same H H' → H p = none → H' p = some (.tup [.str "people", .int 0]) → Q (.ref p) H'))
theorem len_l_told {vs H Q E} (h : sp_l_told K vs H Q E) : vs.length = 3 := by
  obtain ⟨_, _, _, rfl, _⟩ := h; rfl
theorem ok_l_told {f : Addr} {fd : FuncData} (F : Fun K "_law_told" "_law_told" s_l_told f fd) (T : Txt K mg cBadPeople cBadCount cBadTotal cNoPool) : FnOk P w K mg base CX0 5 f fd ps_l_told (sp_l_told K) := by
  obtain ⟨f_pool_for, fd_pool_for, F_pool_for, m_pool_for, b_pool_for⟩ := T.d_pool_for
  have G_pool_for : FnOk P w K mg base (L2.CX P w) 4 f_pool_for fd_pool_for ps_pool_for (sp_pool_for K cBadCount cBadTotal cBadPeople cNoPool) := ok_pool_for F_pool_for T
  refine F.ok (k := 4) sc_l_told (fun vs H Q E h => len_l_told h) (fun cdv A outer s H vs Q E hr h => ?_)
  refine ⟨_, (pss_one (ps_try_mix rfl rfl takes0 (fun W pn xe tk _ => (pss_one (ps_ret (by exact (pe_callS G_pool_for (hr.mono (by decide)) (by rfl) m_pool_for F_pool_for.kp b_pool_for (fun σ => passAt tk σ) (pa_cons (pv 0) (pa_cons (pv 1) (pa_cons (pv 2) pa_nil)))))))) (HdsX.asn (i := 3) ⟨rfl, by decide, Or.inl T.y_BadCount.gC⟩ sc_l_told.nd rfl rfl (fun a oe cls d pn hz hf => (pss_one (ps_ret (pe_tup (pa_cons pe_str (pa_cons (pe_xf T.x_BadCount T.f_BadCount_most hz hf (pv 3)) pa_nil)))))) (HdsX.asn (i := 3) ⟨rfl, by decide, Or.inl T.y_BadTotal.gC⟩ sc_l_told.nd rfl rfl (fun a oe cls d pn hz hf => (pss_one (ps_ret (pe_tup (pa_cons pe_str (pa_cons (pe_xf T.x_BadTotal T.f_BadTotal_most hz hf (pv 3)) pa_nil)))))) (HdsX.one ⟨rfl, by decide, Or.inl T.y_BadPeople.gC⟩ (fun a oe cls d pn hz hf => (pss_one (ps_ret (pe_tup (pa_cons pe_str (pa_cons pe_int pa_nil)))))) HdsX.nil))))), ?_⟩
  obtain ⟨x, y, z, rfl, hx, hy, hz, k⟩ := h
  have look : ∀ m : Int, List.lookup ("most" : Str) [(("most" : Str), V.int m)] = some (V.int m) := fun m => by simp [List.lookup]
  have told : ∀ {wd : Str} {m : Int}, (∀ H' p, Same H H' → H p = none → H' p = some (.tup [.str wd, .int m]) → Q (.ref p) H') → ∀ d, H d = none → ∀ a, upd H d (HO.xd [("most", V.int m)]) a = none →
      ∃ x, upd H d (HO.xd [("most", V.int m)]) d = some (HO.xd x) ∧ ∃ v, List.lookup ("most" : Str) x = some v ∧ 2 ≤ sizeLine ∧ ∀ p, upd H d (HO.xd [("most", V.int m)]) p = none → Q (.ref p) (upd (upd H d (HO.xd [("most", V.int m)])) p (.tup [.str wd, v])) :=
    fun k d hd a ha => ⟨_, upd_same, _, look _, by decide, fun p hp => k _ p ((Same.new hd).trans (Same.new hp)) (Same.free (Same.new hd) hp) upd_same⟩
  have none : (∀ H' p, Same H H' → H p = none → H' p = some (.tup [.str "people", .int 0]) → Q (.ref p) H') → ∀ a, H a = none → 2 ≤ sizeLine ∧ ∀ p, H p = none → Q (.ref p) (upd H p (.tup [.str "people", .int 0])) :=
    fun k a ha => ⟨by decide, fun p hp => k _ p (Same.new hp) hp upd_same⟩
  have no : ∀ {A : Prop} {v : V} {l h : Int}, whole v l h = true → whole v l h = false → A := fun a b => absurd (a.symm.trans b) (by decide)
  have nx : ∀ {A : Prop} {v : V} {l h t : Int}, whole v l h = false → v = .int t → l ≤ t → t ≤ h → A := fun a e p0 p1 => absurd ((whole_int p0 p1).symm.trans (e ▸ a)) (by decide)
  simp only [tSeq, tAsg, tDrop, tRet, tRetN, tIfS, tNext, tTest, tB, tNot, tAnd, tOr, tChain, tIf, tAndV, tOrV, tNotV, tOp, tUn, tCB, tCons, tNil, tVar, tC, tCall, tCallS, gName, rI, rI0, rU, rEq, rNe, tTup, tLst, gSub, rSetL, rIxL, rIxT, L2.start, List.map_cons, List.map_nil, List.length_cons, List.length_nil, Nat.reduceAdd, Nat.reduceSub, List.replicate_succ, List.replicate_zero, List.getElem?_cons_zero, List.getElem?_cons_succ, List.set_cons_zero, List.set_cons_succ, Option.some.injEq, exists_eq_left', exists_eq_left, exists_and_left, V.int.injEq, V.bl.injEq, V.ref.injEq, V.str.injEq, List.cons.injEq, and_true, true_and, List.nil_append, List.cons_append, List.append_nil, reduceCtorEq, false_and, exists_false, or_false, false_or, and_false, Int.reduceNeg, decide_eq_true_eq, Bool.not_eq_true', decide_eq_false_iff_not, and_assoc, tYes, ↓reduceIte, wipe, Bool.false_eq_true, Bool.true_eq_false, cxOf, false_implies, true_implies, implies_true, forall_const, sp_pool_for, WE, wMix, suiteOf, Ends.off, tXf, T.m_BadTotal_BadCount, T.m_BadTotal_BadTotal, T.m_BadCount_BadCount, T.m_BadPeople_BadCount, T.m_BadPeople_BadTotal, T.m_BadPeople_BadPeople]
  rcases k with ⟨a, k⟩ | ⟨a, b, k⟩ | ⟨a, b, c, k⟩
  · exact ⟨hx, hy, hz, fun _ => told k, fun c => no c a, fun c => no c a, fun c t p e1 _ _ c0 c1 _ _ _ _ => nx a e1 c0 c1⟩
  · exact ⟨hx, hy, hz, fun c => no a c, fun _ _ => told k, fun _ c => no c b, fun c t p _ e1 _ _ _ c0 c1 _ _ => nx b e1 c0 c1⟩
  · exact ⟨hx, hy, hz, fun d => no a d, fun _ d => no b d, fun _ _ _ => none k, fun _ t p _ _ e1 _ _ _ _ c0 c1 => nx c e1 c0 c1⟩
def sp_l_right (_ : PySem.W.Frag) : Sp := fun vs H Q _ => ∃ (c t p : Int), vs = [.int c, .int t, .int p] ∧ 0 ≤ c ∧ c ≤ 12 ∧ 0 ≤ t ∧ t ≤ 1000000000 ∧ 2 ≤ p ∧ p ≤ 5 ∧ ∀ H', Same H H' → Q (.bl true) H'
theorem len_l_right {vs H Q E} (h : sp_l_right K vs H Q E) : vs.length = 3 := by
  obtain ⟨_, _, _, rfl, _⟩ := h; rfl
theorem ok_l_right {f : Addr} {fd : FuncData} (F : Fun K "_law_right" "_law_right" s_l_right f fd) (T : Txt K mg cBadPeople cBadCount cBadTotal cNoPool) : FnOk P w K mg base CX0 5 f fd ps_l_right (sp_l_right K) := by
  obtain ⟨f_pool_for, fd_pool_for, F_pool_for, m_pool_for, b_pool_for⟩ := T.d_pool_for
  have G_pool_for : FnOk P w K mg base (L2.CX P w) 4 f_pool_for fd_pool_for ps_pool_for (sp_pool_for K cBadCount cBadTotal cBadPeople cNoPool) := ok_pool_for F_pool_for T
  obtain ⟨f_l_great, fd_l_great, F_l_great, m_l_great, b_l_great⟩ := T.d_l_great
  have G_l_great : FnOk P w K mg base CX0 2 f_l_great fd_l_great ps_l_great (sp_l_great K) := ok_l_great F_l_great T
  obtain ⟨f_l_serves, fd_l_serves, F_l_serves, m_l_serves, b_l_serves⟩ := T.d_l_serves
  have G_l_serves : FnOk P w K mg base CX0 2 f_l_serves fd_l_serves ps_l_serves (sp_l_serves K) := ok_l_serves F_l_serves T
  obtain ⟨f_l_is_whole, fd_l_is_whole, F_l_is_whole, m_l_is_whole, b_l_is_whole⟩ := T.d_l_is_whole
  have G_l_is_whole : FnOk P w K mg base CX0 1 f_l_is_whole fd_l_is_whole ps_l_is_whole (sp_l_is_whole K) := ok_l_is_whole F_l_is_whole T
  obtain ⟨f_l_is_coins, fd_l_is_coins, F_l_is_coins, m_l_is_coins, b_l_is_coins⟩ := T.d_l_is_coins
  have G_l_is_coins : FnOk P w K mg base CX0 2 f_l_is_coins fd_l_is_coins ps_l_is_coins (sp_l_is_coins K) := ok_l_is_coins F_l_is_coins T
  obtain ⟨f_i_NoPool, fd_i_NoPool, F_i_NoPool, b_i_NoPool, M_i_NoPool⟩ := T.i_NoPool
  have G_i_NoPool : FnOk P w K mg base CX0 1 f_i_NoPool fd_i_NoPool ps_i_NoPool (sp_i_NoPool K cNoPool) := ok_i_NoPool F_i_NoPool T
  obtain ⟨f_e_NoPool, fd_e_NoPool, F_e_NoPool, b_e_NoPool, q_NoPool, n_NoPool⟩ := T.e_NoPool
  have G_e_NoPool : FnOk P w K mg base CX0 1 f_e_NoPool fd_e_NoPool ps_e_NoPool (sp_e_NoPool K cNoPool) := ok_e_NoPool F_e_NoPool T
  refine F.ok (k := 4) sc_l_right (fun vs H Q E h => len_l_right h) (fun cdv A outer s H vs Q E hr h => ?_)
  refine ⟨_, (pss_cons (ps_set (i := 3) sc_l_right.nd rfl (Or.inl rfl) (pe_call G_pool_for (hr.mono (by decide)) (by rfl) m_pool_for F_pool_for.kp b_pool_for .nil passL (pa_cons (pv 0) (pa_cons (pv 1) (pa_cons (pv 2) pa_nil)))))
      (pss_cons (ps_set (i := 4) sc_l_right.nd rfl (Or.inl rfl) (pe_call G_l_great (hr.mono (by decide)) (by rfl) m_l_great F_l_great.kp b_l_great .nil pass0 (pa_cons (pv 0) (pa_cons (pv 2) pa_nil))))
      (pss_cons (ps_if (pt_chain op_le op_le (pv 0) (pv 1) (pv 4)) (pss_cons (ps_if (PW.pt (pw_or (pt_not (pt_val (pe_call G_l_is_coins (hr.mono (by decide)) (by rfl) m_l_is_coins F_l_is_coins.kp b_l_is_coins .nil pass0 (pa_cons (pv 3) pa_nil)))) (pw_or (pt_cmpR op_ne (pe_callB call_len_seq (by rfl) T.n_len (by decide +kernel) (pa_cons (pv 3) pa_nil)) (pv 0) (nomark _)) (pw_or1 (pt_cmpR op_ne (pe_callB (cr_sumE rfl) (by rfl) T.n_sum (by decide +kernel) (pa_cons (pv 3) pa_nil)) (pv 1) (nomark _)))))) (pss_one (ps_ret pe_bl)) pss_nil)
      (pss_one (ps_ret (pe_call G_l_serves (hr.mono (by decide)) (by rfl) m_l_serves F_l_serves.kp b_l_serves .nil pass0 (pa_cons (pv 3) (pa_cons (pv 2) pa_nil)))))) pss_nil)
      (pss_cons (ps_if (PW.pt (pw_or (pt_not (pt_val (pe_callB call_isi (by rfl) T.n_isinstance (by decide +kernel) (pa_cons (pv 3) (pa_cons (pe_glob (v := .ref cNoPool) rfl T.o_NoPool.gC rfl) pa_nil))))) (pw_or (pt_not (pt_val (pe_call G_l_is_whole (hr.mono (by decide)) (by rfl) m_l_is_whole F_l_is_whole.kp b_l_is_whole .nil pass0 (pa_cons (pe_fld (pv 3) rfl) pa_nil)))) (pw_or1 (pt_not (pt_val (pe_call G_l_is_whole (hr.mono (by decide)) (by rfl) m_l_is_whole F_l_is_whole.kp b_l_is_whole .nil pass0 (pa_cons (pe_fld (pv 3) rfl) pa_nil)))))))) (pss_one (ps_ret pe_bl)) pss_nil)
      (pss_one (ps_ret (pe_and (pe_cmpR op_eq (pe_fld (pv 3) rfl) (pv 0) (nomark _)) (pe_and (pe_cmpR op_eq (pe_fld (pv 3) rfl) (pv 4) (nomark _)) (pe_one (pe_cmpR (op_eqK (K := K) (C := cNoPool) (sp := sp_e_NoPool K cNoPool) rfl G_e_NoPool b_e_NoPool q_NoPool n_NoPool (hr.mono (by decide))) (pv 3) (pe_make M_i_NoPool G_i_NoPool (hr.mono (by decide)) (by rfl) T.o_NoPool.gC b_i_NoPool .nil pass0 (pa_cons (pv 0) (pa_cons (pv 4) pa_nil))) (nomark _))))))))))), ?_⟩
  obtain ⟨c, t, p, rfl, c0, c1, t0, t1, p0, p1, k⟩ := h
  simp only [tSeq, tAsg, tDrop, tRet, tRetN, tIfS, tNext, tTest, tB, tNot, tAnd, tOr, tChain, tIf, tAndV, tOrV, tNotV, tOp, tUn, tCB, tCons, tNil, tVar, tC, tCall, tCallS, gName, rI, rI0, rU, rEq, rNe, tTup, tLst, gSub, rSetL, rIxL, rIxT, L2.start, List.map_cons, List.map_nil, List.length_cons, List.length_nil, Nat.reduceAdd, Nat.reduceSub, List.replicate_succ, List.replicate_zero, List.getElem?_cons_zero, List.getElem?_cons_succ, List.set_cons_zero, List.set_cons_succ, Option.some.injEq, exists_eq_left', exists_eq_left, exists_and_left, V.int.injEq, V.bl.injEq, V.ref.injEq, V.str.injEq, List.cons.injEq, and_true, true_and, List.nil_append, List.cons_append, List.append_nil, reduceCtorEq, false_and, exists_false, or_false, false_or, and_false, Int.reduceNeg, decide_eq_true_eq, Bool.not_eq_true', decide_eq_false_iff_not, and_assoc, tYes, ↓reduceIte, wipe, Bool.false_eq_true, Bool.true_eq_false, cxOf, false_implies, true_implies, implies_true, forall_const]
  refine ⟨_, _, _, rfl, True.intro, True.intro, True.intro, fun a => absurd (a.symm.trans (whole_int c0 c1)) (by decide), fun _ a => absurd (a.symm.trans (whole_int t0 t1)) (by decide), fun _ _ a => absurd (a.symm.trans (whole_int p0 p1)) (by decide), ?_⟩
  rintro c' t' p' e1 e2 e3 - - - - - -
  cases e1; cases e2; cases e3
  refine ⟨fun g1 g2 H' a ns s ha n1 n2 n3 n4 n5 => ?_, fun g H' a dx s ha => ?_⟩
  · simp only [tSeq, tAsg, tDrop, tRet, tRetN, tIfS, tNext, tTest, tB, tNot, tAnd, tOr, tChain, tIf, tAndV, tOrV, tNotV, tOp, tUn, tCB, tCons, tNil, tVar, tC, tCall, tCallS, gName, rI, rI0, rU, rEq, rNe, tTup, tLst, gSub, rSetL, rIxL, rIxT, L2.start, List.map_cons, List.map_nil, List.length_cons, List.length_nil, Nat.reduceAdd, Nat.reduceSub, List.replicate_succ, List.replicate_zero, List.getElem?_cons_zero, List.getElem?_cons_succ, List.set_cons_zero, List.set_cons_succ, Option.some.injEq, exists_eq_left', exists_eq_left, exists_and_left, V.int.injEq, V.bl.injEq, V.ref.injEq, V.str.injEq, List.cons.injEq, and_true, true_and, List.nil_append, List.cons_append, List.append_nil, reduceCtorEq, false_and, exists_false, or_false, false_or, and_false, Int.reduceNeg, decide_eq_true_eq, Bool.not_eq_true', decide_eq_false_iff_not, and_assoc, tYes, ↓reduceIte, wipe, Bool.false_eq_true, Bool.true_eq_false, cxOf, false_implies, true_implies, implies_true, forall_const, sp_l_great, sp_l_is_coins, sp_l_serves]
    refine ⟨c0, by omega, p0, p1, ?_⟩
    rw [if_pos g1, if_pos g2]
    have hl : ns.length ≤ 900 := by omega
    refine ⟨ns, ha, hl, n3, n4, fun H2 s2 => ⟨_, .inr (SqT.of (s2 _ _ ha)), rfl, ?_⟩⟩
    rw [if_neg (fun z => z (by rw [List.length_map, n1]; omega))]
    refine ⟨a, ns, rfl, .inr (SqT.of (s2 _ _ ha)), rfl, ?_⟩
    rw [if_neg (fun z => z (by rw [n2]))]
    exact ⟨ns, s2 _ _ ha, hl, n4, n5, p0, p1, fun H3 s3 => k _ (s.trans (s2.trans s3))⟩
  · simp only [tSeq, tAsg, tDrop, tRet, tRetN, tIfS, tNext, tTest, tB, tNot, tAnd, tOr, tChain, tIf, tAndV, tOrV, tNotV, tOp, tUn, tCB, tCons, tNil, tVar, tC, tCall, tCallS, gName, rI, rI0, rU, rEq, rNe, tTup, tLst, gSub, rSetL, rIxL, rIxT, L2.start, List.map_cons, List.map_nil, List.length_cons, List.length_nil, Nat.reduceAdd, Nat.reduceSub, List.replicate_succ, List.replicate_zero, List.getElem?_cons_zero, List.getElem?_cons_succ, List.set_cons_zero, List.set_cons_succ, Option.some.injEq, exists_eq_left', exists_eq_left, exists_and_left, V.int.injEq, V.bl.injEq, V.ref.injEq, V.str.injEq, List.cons.injEq, and_true, true_and, List.nil_append, List.cons_append, List.append_nil, reduceCtorEq, false_and, exists_false, or_false, false_or, and_false, Int.reduceNeg, decide_eq_true_eq, Bool.not_eq_true', decide_eq_false_iff_not, and_assoc, tYes, ↓reduceIte, wipe, Bool.false_eq_true, Bool.true_eq_false, cxOf, false_implies, true_implies, implies_true, forall_const, sp_l_great]
    refine ⟨c0, by omega, p0, p1, ?_⟩
    have tail : ∀ {A : Prop}, A → A := fun a => a
    split
    · rename_i g1
      split
      · rename_i g2
        exact absurd ⟨g1, g2⟩ g
      · refine isi_self T.o_NoPool ha ⟨true, rfl, ?_⟩
        simp only [tSeq, tAsg, tDrop, tRet, tRetN, tIfS, tNext, tTest, tB, tNot, tAnd, tOr, tChain, tIf, tAndV, tOrV, tNotV, tOp, tUn, tCB, tCons, tNil, tVar, tC, tCall, tCallS, gName, rI, rI0, rU, rEq, rNe, tTup, tLst, gSub, rSetL, rIxL, rIxT, L2.start, List.map_cons, List.map_nil, List.length_cons, List.length_nil, Nat.reduceAdd, Nat.reduceSub, List.replicate_succ, List.replicate_zero, List.getElem?_cons_zero, List.getElem?_cons_succ, List.set_cons_zero, List.set_cons_succ, Option.some.injEq, exists_eq_left', exists_eq_left, exists_and_left, V.int.injEq, V.bl.injEq, V.ref.injEq, V.str.injEq, List.cons.injEq, and_true, true_and, List.nil_append, List.cons_append, List.append_nil, reduceCtorEq, false_and, exists_false, or_false, false_or, and_false, Int.reduceNeg, decide_eq_true_eq, Bool.not_eq_true', decide_eq_false_iff_not, and_assoc, tYes, ↓reduceIte, wipe, Bool.false_eq_true, Bool.true_eq_false, cxOf, false_implies, true_implies, implies_true, forall_const, tFld, sp_l_is_whole, tMake, sp_i_NoPool, rOwnEq, sp_e_NoPool]
        refine ⟨cNoPool, dx, _, ha, T.o_NoPool.cl, T.f_NoPool_low, _, look_low, True.intro, ?_⟩
        rw [if_neg (fun z => by cases z)]
        refine ⟨cNoPool, dx, _, ha, T.o_NoPool.cl, T.f_NoPool_high, _, look_high, True.intro, ?_⟩
        rw [if_neg (fun z => by cases z)]
        refine ⟨cNoPool, dx, _, ha, T.o_NoPool.cl, T.f_NoPool_low, _, look_low, rfl, ?_⟩
        rw [if_pos rfl]
        refine ⟨cNoPool, dx, _, ha, T.o_NoPool.cl, T.f_NoPool_high, _, look_high, rfl, ?_⟩
        rw [if_pos rfl]
        intro b db hb hdb ne
        have sb := made2 (f := "low") (g := "high") (C := cNoPool) (x := V.int c) (y := V.int (grow p c.toNat 0)) hb hdb ne
        refine ⟨db, upd_at, dx, _, sb _ _ ha, _, T.o_NoPool.ty upd_at, nf_self, dx, c, _, sb _ _ ha, .inl ⟨db, c, _, upd_at, ?_⟩⟩
        rw [decide_eq_true rfl, decide_eq_true rfl]
        exact k _ (s.trans sb)
    · refine isi_self T.o_NoPool ha ⟨true, rfl, ?_⟩
      simp only [tSeq, tAsg, tDrop, tRet, tRetN, tIfS, tNext, tTest, tB, tNot, tAnd, tOr, tChain, tIf, tAndV, tOrV, tNotV, tOp, tUn, tCB, tCons, tNil, tVar, tC, tCall, tCallS, gName, rI, rI0, rU, rEq, rNe, tTup, tLst, gSub, rSetL, rIxL, rIxT, L2.start, List.map_cons, List.map_nil, List.length_cons, List.length_nil, Nat.reduceAdd, Nat.reduceSub, List.replicate_succ, List.replicate_zero, List.getElem?_cons_zero, List.getElem?_cons_succ, List.set_cons_zero, List.set_cons_succ, Option.some.injEq, exists_eq_left', exists_eq_left, exists_and_left, V.int.injEq, V.bl.injEq, V.ref.injEq, V.str.injEq, List.cons.injEq, and_true, true_and, List.nil_append, List.cons_append, List.append_nil, reduceCtorEq, false_and, exists_false, or_false, false_or, and_false, Int.reduceNeg, decide_eq_true_eq, Bool.not_eq_true', decide_eq_false_iff_not, and_assoc, tYes, ↓reduceIte, wipe, Bool.false_eq_true, Bool.true_eq_false, cxOf, false_implies, true_implies, implies_true, forall_const, tFld, sp_l_is_whole, tMake, sp_i_NoPool, rOwnEq, sp_e_NoPool]
      refine ⟨cNoPool, dx, _, ha, T.o_NoPool.cl, T.f_NoPool_low, _, look_low, True.intro, ?_⟩
      rw [if_neg (fun z => by cases z)]
      refine ⟨cNoPool, dx, _, ha, T.o_NoPool.cl, T.f_NoPool_high, _, look_high, True.intro, ?_⟩
      rw [if_neg (fun z => by cases z)]
      refine ⟨cNoPool, dx, _, ha, T.o_NoPool.cl, T.f_NoPool_low, _, look_low, rfl, ?_⟩
      rw [if_pos rfl]
      refine ⟨cNoPool, dx, _, ha, T.o_NoPool.cl, T.f_NoPool_high, _, look_high, rfl, ?_⟩
      rw [if_pos rfl]
      intro b db hb hdb ne
      have sb := made2 (f := "low") (g := "high") (C := cNoPool) (x := V.int c) (y := V.int (grow p c.toNat 0)) hb hdb ne
      refine ⟨db, upd_at, dx, _, sb _ _ ha, _, T.o_NoPool.ty upd_at, nf_self, dx, c, _, sb _ _ ha, .inl ⟨db, c, _, upd_at, ?_⟩⟩
      rw [decide_eq_true rfl, decide_eq_true rfl]
      exact k _ (s.trans sb)
theorem tMake2 {t : TA} {z : L2.St} {H : Hp} {x y : V} {Q : VK} {E : XK} {C : Addr} (ht : ∀ R : List V → Hp → Prop, R [x, y] H → t z H R) (k : ∀ a dx H', Same H H' → H a = none → H' a = some (.ins C dx [("low", x), ("high", y)]) → Q (.ref a) H') :
    tMake C (sp_i_NoPool K C) [] E t z H Q :=
  ht _ fun a dx ha hd ne => ⟨a, dx, x, y, rfl, upd_at, rfl, k a dx _ (made2 ha hd ne) ha upd_at⟩
theorem eq_own {mg : Str → Option Value} {C : Addr} (o : Own K mg "NoPool" C) {H : Hp} {a b dx dy : Addr} {l u l2 u2 : Int} {neg c : Bool} {Q : VK} (ha : H a = some (.ins C dx [("low", .int l), ("high", .int u)])) (hb : H b = some (.ins C dy [("low", .int l2), ("high", .int u2)]))
    (hc : (decide (l = l2) && decide (u = u2)) = c) (q : Q (.bl (if neg = true then !c else c)) H) : rOwnEq K C (sp_e_NoPool K C) neg (.ref a) (.ref b) H Q :=
  ⟨a, dx, _, _, rfl, ha, o.ty hb, nf_self, a, dx, l, u, _, rfl, ha, .inl ⟨b, dy, l2, u2, rfl, hb, c, by rw [hc], q⟩⟩
theorem eq_own_tup {mg : Str → Option Value} {C : Addr} (_ : Own K mg "NoPool" C) {H : Hp} {a b dx : Addr} {l u : Int} {xs : List V} {neg : Bool} {Q : VK} (ha : H a = some (.ins C dx [("low", .int l), ("high", .int u)])) (hb : H b = some (.tup xs))
    (q : Q (.bl (if neg = true then !false else false)) H) : rOwnEq K C (sp_e_NoPool K C) neg (.ref a) (.ref b) H Q :=
  ⟨a, dx, _, _, rfl, ha, .base (.tup hb), nf_tup, a, dx, l, u, _, rfl, ha, .inr ⟨.inl ⟨b, xs, rfl, hb⟩, false, rfl, q⟩⟩
theorem eq_own_non {mg : Str → Option Value} {C : Addr} (_ : Own K mg "NoPool" C) {H : Hp} {a dx : Addr} {l u : Int} {neg : Bool} {Q : VK} (ha : H a = some (.ins C dx [("low", .int l), ("high", .int u)]))
    (q : Q (.bl (if neg = true then !false else false)) H) : rOwnEq K C (sp_e_NoPool K C) neg (.ref a) .non H Q :=
  ⟨a, dx, _, _, rfl, ha, .base .non, nf_non, a, dx, l, u, _, rfl, ha, .inr ⟨.inr rfl, false, rfl, q⟩⟩
def sp_l_equals_right (_ : PySem.W.Frag) : Sp := fun vs H Q _ => ∃ (h q : Addr), vs = [.ref h] ∧ HandAt H h q ∧ ∀ H', HandAt H' h q → But h H H' → Q (.bl true) H'
theorem len_l_equals_right {vs H Q E} (h : sp_l_equals_right K vs H Q E) : vs.length = 1 := by
  obtain ⟨_, _, rfl, _⟩ := h; rfl
theorem ok_l_equals_right {f : Addr} {fd : FuncData} (F : Fun K "_law_equals_right" "_law_equals_right" s_l_equals_right f fd) (T : Txt K mg cBadPeople cBadCount cBadTotal cNoPool) : FnOk P w K mg base CX0 3 f fd ps_l_equals_right (sp_l_equals_right K) := by
  obtain ⟨f_l_draw, fd_l_draw, F_l_draw, m_l_draw, b_l_draw⟩ := T.d_l_draw
  have G_l_draw : FnOk P w K mg base CX0 2 f_l_draw fd_l_draw ps_l_draw (sp_l_draw K) := ok_l_draw F_l_draw T
  obtain ⟨f_i_NoPool, fd_i_NoPool, F_i_NoPool, b_i_NoPool, M_i_NoPool⟩ := T.i_NoPool
  have G_i_NoPool : FnOk P w K mg base CX0 1 f_i_NoPool fd_i_NoPool ps_i_NoPool (sp_i_NoPool K cNoPool) := ok_i_NoPool F_i_NoPool T
  obtain ⟨f_e_NoPool, fd_e_NoPool, F_e_NoPool, b_e_NoPool, q_NoPool, n_NoPool⟩ := T.e_NoPool
  have G_e_NoPool : FnOk P w K mg base CX0 1 f_e_NoPool fd_e_NoPool ps_e_NoPool (sp_e_NoPool K cNoPool) := ok_e_NoPool F_e_NoPool T
  refine F.ok (k := 2) sc_l_equals_right (fun vs H Q E h => len_l_equals_right h) (fun cdv A outer s H vs Q E hr h => ?_)
  refine ⟨_, (pss_cons (ps_set (i := 1) sc_l_equals_right.nd rfl (Or.inl rfl) (pe_call G_l_draw (hr.mono (by decide)) (by rfl) m_l_draw F_l_draw.kp b_l_draw .nil pass0 (pa_cons (pv 0) (pa_cons pe_int pa_nil))))
      (pss_cons (ps_set (i := 2) sc_l_equals_right.nd rfl (Or.inl rfl) (pe_op op_add (pv 1) (pe_call G_l_draw (hr.mono (by decide)) (by rfl) m_l_draw F_l_draw.kp b_l_draw .nil pass0 (pa_cons (pv 0) (pa_cons pe_int pa_nil)))))
      (pss_cons (ps_set (i := 3) sc_l_equals_right.nd rfl (Or.inr rfl) (pe_make M_i_NoPool G_i_NoPool (hr.mono (by decide)) (by rfl) T.o_NoPool.gC b_i_NoPool .nil pass0 (pa_cons (pv 1) (pa_cons (pv 2) pa_nil))))
      (pss_cons (ps_if (PW.pt (pw_or (pt_cmpR op_ne (pe_fld (pv 3) rfl) (pv 1) (nomark _)) (pw_or (pt_cmpR op_ne (pe_fld (pv 3) rfl) (pv 2) (nomark _)) (pw_or (pt_not (pt_cmpR (op_eqK (K := K) (C := cNoPool) (sp := sp_e_NoPool K cNoPool) rfl G_e_NoPool b_e_NoPool q_NoPool n_NoPool (hr.mono (by decide))) (pv 3) (pe_make M_i_NoPool G_i_NoPool (hr.mono (by decide)) (by rfl) T.o_NoPool.gC b_i_NoPool .nil pass0 (pa_cons (pv 1) (pa_cons (pv 2) pa_nil))) (nomark _))) (pw_or1 (pt_cmpR (op_neK (K := K) (C := cNoPool) (sp := sp_e_NoPool K cNoPool) rfl G_e_NoPool b_e_NoPool T.o_NoPool.ne q_NoPool n_NoPool T.o_NoPool.hm (hr.mono (by decide))) (pv 3) (pe_make M_i_NoPool G_i_NoPool (hr.mono (by decide)) (by rfl) T.o_NoPool.gC b_i_NoPool .nil pass0 (pa_cons (pv 1) (pa_cons (pv 2) pa_nil))) (nomark _))))))) (pss_one (ps_ret pe_bl)) pss_nil)
      (pss_cons (ps_set (i := 4) sc_l_equals_right.nd rfl (Or.inl rfl) (pe_lst (pa_cons (pe_make M_i_NoPool G_i_NoPool (hr.mono (by decide)) (by rfl) T.o_NoPool.gC b_i_NoPool .nil pass0 (pa_cons (pe_op op_add (pv 1) pe_int) (pa_cons (pv 2) pa_nil))) (pa_cons (pe_make M_i_NoPool G_i_NoPool (hr.mono (by decide)) (by rfl) T.o_NoPool.gC b_i_NoPool .nil pass0 (pa_cons (pv 1) (pa_cons (pe_op op_add (pv 2) pe_int) pa_nil))) (pa_cons (pe_make M_i_NoPool G_i_NoPool (hr.mono (by decide)) (by rfl) T.o_NoPool.gC b_i_NoPool .nil pass0 (pa_cons (pe_op op_add (pv 2) pe_int) (pa_cons (pv 1) pa_nil))) (pa_cons (pe_tup (pa_cons (pv 1) (pa_cons (pv 2) pa_nil))) (pa_cons pe_non pa_nil)))))))
      (pss_one (ps_ret (pe_cmpR (op_eqD hr.units) (pe_lc (own := [("_law_other", 5)]) (g := gName 5) (tt := _) rfl sc_l_equals_right.nd (pi_list (pv 4)) (blkOk_by (N := nm_l_equals_right) (sc := defScope s_l_equals_right) (by decide +kernel)) (fun _ _ _ _ _ => (pg_name (i := 5) sc_l_equals_right.nd rfl (Or.inl rfl))) (fun _ _ _ _ _ => (pts_one (PW.pt (pw_or (pt_cmpR (op_eqK (K := K) (C := cNoPool) (sp := sp_e_NoPool K cNoPool) rfl G_e_NoPool b_e_NoPool q_NoPool n_NoPool (hr.mono (by decide))) (pv 3) (pv 5) (nomark _)) (pw_or1 (pt_not (pt_cmpR (op_neK (K := K) (C := cNoPool) (sp := sp_e_NoPool K cNoPool) rfl G_e_NoPool b_e_NoPool T.o_NoPool.ne q_NoPool n_NoPool T.o_NoPool.hm (hr.mono (by decide))) (pv 3) (pv 5) (nomark _)))))))) (fun _ _ _ _ _ => (pv 5))) (pe_lst pa_nil) (nomark _))))))))), ?_⟩
  obtain ⟨h, q, rfl, hh, k⟩ := h
  simp only [tSeq, tAsg, tDrop, tRet, tRetN, tIfS, tNext, tTest, tB, tNot, tAnd, tOr, tChain, tIf, tAndV, tOrV, tNotV, tOp, tUn, tCB, tCons, tNil, tVar, tC, tCall, tCallS, gName, rI, rI0, rU, rEq, rNe, tTup, tLst, gSub, rSetL, rIxL, rIxT, L2.start, List.map_cons, List.map_nil, List.length_cons, List.length_nil, Nat.reduceAdd, Nat.reduceSub, List.replicate_succ, List.replicate_zero, List.getElem?_cons_zero, List.getElem?_cons_succ, List.set_cons_zero, List.set_cons_succ, Option.some.injEq, exists_eq_left', exists_eq_left, exists_and_left, V.int.injEq, V.bl.injEq, V.ref.injEq, V.str.injEq, List.cons.injEq, and_true, true_and, List.nil_append, List.cons_append, List.append_nil, reduceCtorEq, false_and, exists_false, or_false, false_or, and_false, Int.reduceNeg, decide_eq_true_eq, Bool.not_eq_true', decide_eq_false_iff_not, and_assoc, tYes, ↓reduceIte, wipe, Bool.false_eq_true, Bool.true_eq_false, cxOf, false_implies, true_implies, implies_true, forall_const, spDraw]
  refine ⟨q, hh, by decide, by decide, fun l H1 l0 l1 hh1 b1 => ⟨q, hh1, by decide, by decide, fun u H2 u0 u1 hh2 b2 => ?_⟩⟩
  refine tMake2 (fun R r => ⟨_, rfl, _, rfl, r⟩) fun a dx H3 s3 _ e3 => ?_
  simp only [tSeq, tAsg, tDrop, tRet, tRetN, tIfS, tNext, tTest, tB, tNot, tAnd, tOr, tChain, tIf, tAndV, tOrV, tNotV, tOp, tUn, tCB, tCons, tNil, tVar, tC, tCall, tCallS, gName, rI, rI0, rU, rEq, rNe, tTup, tLst, gSub, rSetL, rIxL, rIxT, L2.start, List.map_cons, List.map_nil, List.length_cons, List.length_nil, Nat.reduceAdd, Nat.reduceSub, List.replicate_succ, List.replicate_zero, List.getElem?_cons_zero, List.getElem?_cons_succ, List.set_cons_zero, List.set_cons_succ, Option.some.injEq, exists_eq_left', exists_eq_left, exists_and_left, V.int.injEq, V.bl.injEq, V.ref.injEq, V.str.injEq, List.cons.injEq, and_true, true_and, List.nil_append, List.cons_append, List.append_nil, reduceCtorEq, false_and, exists_false, or_false, false_or, and_false, Int.reduceNeg, decide_eq_true_eq, Bool.not_eq_true', decide_eq_false_iff_not, and_assoc, tYes, ↓reduceIte, wipe, Bool.false_eq_true, Bool.true_eq_false, cxOf, false_implies, true_implies, implies_true, forall_const, tFld]
  refine ⟨cNoPool, dx, _, e3, T.o_NoPool.cl, T.f_NoPool_low, _, look_low, rfl, ?_⟩
  rw [if_neg (fun z => z rfl)]
  refine ⟨cNoPool, dx, _, e3, T.o_NoPool.cl, T.f_NoPool_high, _, look_high, rfl, ?_⟩
  rw [if_neg (fun z => z rfl)]
  refine tMake2 (fun R r => ⟨_, rfl, _, rfl, r⟩) fun b db H4 s4 _ e4 => eq_own (c := true) T.o_NoPool (s4 _ _ e3) e4 (by simp) ⟨true, rfl, ?_⟩
  rw [if_neg (fun z => by cases z)]
  refine tMake2 (fun R r => ⟨_, rfl, _, rfl, r⟩) fun c dc H5 s5 _ e5 => eq_own (c := true) T.o_NoPool (s5 _ _ (s4 _ _ e3)) e5 (by simp) ⟨false, rfl, ?_⟩
  rw [if_neg (fun z => by cases z)]
  have e3' := s5 _ _ (s4 _ _ e3)
  have sA := s3.trans (s4.trans s5)
  refine tMake2 (fun R r => ⟨_, rfl, _, _, rfl, rfl, _, rfl, r⟩) fun o1 d1 H6 s6 _ e6 => tMake2 (fun R r => ⟨_, rfl, _, rfl, _, _, rfl, rfl, r⟩) fun o2 d2 H7 s7 _ e7 =>
    tMake2 (fun R r => ⟨_, rfl, _, _, rfl, rfl, _, rfl, r⟩) fun o3 d3 H8 s8 _ e8 => ⟨by decide, fun tp htp => ⟨by decide, fun ls hls => ?_⟩⟩
  have sB := (Same.new (o := HO.tup [V.int l, V.int (l + u)]) htp).trans (Same.new (o := HO.lst [V.ref o1, V.ref o2, V.ref o3, V.ref tp, V.non]) hls)
  have s69 := s6.trans (s7.trans (s8.trans sB))
  have eA := s69 _ _ e3'
  have E1 := sB _ _ (s8 _ _ (s7 _ _ e6))
  have E2 := sB _ _ (s8 _ _ e7)
  have E3 := sB _ _ e8
  have eT := (Same.new (o := HO.lst [V.ref o1, V.ref o2, V.ref o3, V.ref tp, V.non]) hls) tp _ upd_same
  have eL : upd (upd H8 tp (HO.tup [V.int l, V.int (l + u)])) ls (HO.lst [V.ref o1, V.ref o2, V.ref o3, V.ref tp, V.non]) ls = some (HO.lst [V.ref o1, V.ref o2, V.ref o3, V.ref tp, V.non]) := upd_same
  have sZ := sA.trans s69
  generalize upd (upd H8 tp (HO.tup [V.int l, V.int (l + u)])) ls (HO.lst [V.ref o1, V.ref o2, V.ref o3, V.ref tp, V.non]) = H9 at eA E1 E2 E3 eT eL sZ ⊢
  clear sB s69 e3' e6 e7 e8
  refine ⟨_, rfl, ls, rfl, ⟨_, SqL.of eL⟩, fun D hD => lc_list (K := K) (a := ls) (xs := [V.ref o1, V.ref o2, V.ref o3, V.ref tp, V.non]) (fun i h' => Same H9 h' ∧ h' D = some (.lst [])) ⟨Same.new hD, upd_same⟩ (fun i h' _ ⟨s, _⟩ => SqL.of (s _ _ eL)) ?_ ?_⟩
  · rintro i x h' hi ⟨s, e⟩
    have hm := List.mem_of_getElem? hi
    simp only [List.mem_cons, List.not_mem_nil, or_false] at hm
    simp only [tSeq, tAsg, tDrop, tRet, tRetN, tIfS, tNext, tTest, tB, tNot, tAnd, tOr, tChain, tIf, tAndV, tOrV, tNotV, tOp, tUn, tCB, tCons, tNil, tVar, tC, tCall, tCallS, gName, rI, rI0, rU, rEq, rNe, tTup, tLst, gSub, rSetL, rIxL, rIxT, L2.start, List.map_cons, List.map_nil, List.length_cons, List.length_nil, Nat.reduceAdd, Nat.reduceSub, List.replicate_succ, List.replicate_zero, List.getElem?_cons_zero, List.getElem?_cons_succ, List.set_cons_zero, List.set_cons_succ, Option.some.injEq, exists_eq_left', exists_eq_left, exists_and_left, V.int.injEq, V.bl.injEq, V.ref.injEq, V.str.injEq, List.cons.injEq, and_true, true_and, List.nil_append, List.cons_append, List.append_nil, reduceCtorEq, false_and, exists_false, or_false, false_or, and_false, Int.reduceNeg, decide_eq_true_eq, Bool.not_eq_true', decide_eq_false_iff_not, and_assoc, tYes, ↓reduceIte, wipe, Bool.false_eq_true, Bool.true_eq_false, cxOf, false_implies, true_implies, implies_true, forall_const]
    have aA := s _ _ eA
    rcases hm with rfl | rfl | rfl | rfl | rfl
    · have c : (decide (l = l + 1) && decide (l + u = l + u)) = false := by rw [decide_eq_false (by omega), Bool.false_and]
      refine eq_own (c := false) T.o_NoPool aA (s _ _ E1) c ⟨false, rfl, ?_⟩
      rw [if_neg (fun z => by cases z)]
      refine eq_own (c := false) T.o_NoPool aA (s _ _ E1) c ⟨true, rfl, ?_⟩
      rw [if_neg (fun z => by cases z)]
      exact ⟨s, e⟩
    · have c : (decide (l = l) && decide (l + u = l + u + 1)) = false := by rw [decide_eq_false (show ¬ l + u = l + u + 1 by omega), Bool.and_false]
      refine eq_own (c := false) T.o_NoPool aA (s _ _ E2) c ⟨false, rfl, ?_⟩
      rw [if_neg (fun z => by cases z)]
      refine eq_own (c := false) T.o_NoPool aA (s _ _ E2) c ⟨true, rfl, ?_⟩
      rw [if_neg (fun z => by cases z)]
      exact ⟨s, e⟩
    · have c : (decide (l = l + u + 1) && decide (l + u = l)) = false := by rw [decide_eq_false (by omega), Bool.false_and]
      refine eq_own (c := false) T.o_NoPool aA (s _ _ E3) c ⟨false, rfl, ?_⟩
      rw [if_neg (fun z => by cases z)]
      refine eq_own (c := false) T.o_NoPool aA (s _ _ E3) c ⟨true, rfl, ?_⟩
      rw [if_neg (fun z => by cases z)]
      exact ⟨s, e⟩
    · refine eq_own_tup T.o_NoPool aA (s _ _ eT) ⟨false, rfl, ?_⟩
      rw [if_neg (fun z => by cases z)]
      refine eq_own_tup T.o_NoPool aA (s _ _ eT) ⟨true, rfl, ?_⟩
      rw [if_neg (fun z => by cases z)]
      exact ⟨s, e⟩
    · refine eq_own_non T.o_NoPool aA ⟨false, rfl, ?_⟩
      rw [if_neg (fun z => by cases z)]
      refine eq_own_non T.o_NoPool aA ⟨true, rfl, ?_⟩
      rw [if_neg (fun z => by cases z)]
      exact ⟨s, e⟩
  · rintro h' ⟨s, e⟩
    exact ⟨Nat.zero_le _, fun l hl => eq_ints (ns := []) (SqL.of (by rw [upd_ne (ne_of_none e hl)]; exact e)) (SqL.of upd_same) (k _ ((hh2.same (sZ.trans s)).same (Same.new hl)) (((b1.trans b2).trans (But.of (sZ.trans s))).trans (But.new hl)))⟩
end
end My
set_option Elab.async false
set_option linter.all false
set_option maxRecDepth 100000
set_option maxHeartbeats 4000000
namespace My
open PySem PySem.Spec PyProof.Rows L2 Gen
section
variable {P : Program} {w : World} {K : PySem.W.Frag} {mg : Str → Option Value} {base : Heap} { cBadPeople cBadCount cBadTotal cNoPool : Addr}
def sp_l_refusals_right (_ : PySem.W.Frag) : Sp := fun vs H Q _ => ∃ (h q : Addr) (p : Int), vs = [.ref h, .int p] ∧ HandAt H h q ∧ 2 ≤ p ∧ p ≤ 5 ∧ ∀ H', Q (.bl true) H'
theorem len_l_refusals_right {vs H Q E} (h : sp_l_refusals_right K vs H Q E) : vs.length = 2 := by
  obtain ⟨_, _, _, rfl, _⟩ := h; rfl
theorem plain_but {h q : Addr} {H H' : Hp} {x : V} (hd : HandAt H' h q) (b : But h H H') (p : Plain H x) : Plain H' x := by
  cases x with
  | ref a =>
    by_cases e : a = h
    · obtain ⟨_, _, _, _, h1, _⟩ := hd.ex
      rw [e]
      exact .inr (.inl ⟨_, h1⟩)
    · rcases p with ⟨xs, p⟩ | ⟨xs, p⟩ | ⟨xs, p⟩
      · exact .inl ⟨xs, b _ _ p e⟩
      · exact .inr (.inl ⟨xs, b _ _ p e⟩)
      · exact .inr (.inr ⟨xs, b _ _ p e⟩)
  | _ => exact p
theorem told_c {x y z : V} {H : Hp} {Q : VK} {E : XK} (hx : Plain H x) (hy : Plain H y) (hz : Plain H z) (a : whole x 0 12 = false) (k : ∀ H' p, Same H H' → H p = none → H' p = some (.tup [.str "count", .int 12]) → Q (.ref p) H') :
    sp_l_told K [x, y, z] H Q E := ⟨x, y, z, rfl, hx, hy, hz, .inl ⟨a, k⟩⟩
theorem told_t {x y z : V} {H : Hp} {Q : VK} {E : XK} (hx : Plain H x) (hy : Plain H y) (hz : Plain H z) (a : whole x 0 12 = true) (b : whole y 0 1000000000 = false) (k : ∀ H' p, Same H H' → H p = none → H' p = some (.tup [.str "total", .int 1000000000]) → Q (.ref p) H') :
    sp_l_told K [x, y, z] H Q E := ⟨x, y, z, rfl, hx, hy, hz, .inr (.inl ⟨a, b, k⟩)⟩
theorem told_p {x y z : V} {H : Hp} {Q : VK} {E : XK} (hx : Plain H x) (hy : Plain H y) (hz : Plain H z) (a : whole x 0 12 = true) (b : whole y 0 1000000000 = true) (c : whole z 2 5 = false) (k : ∀ H' p, Same H H' → H p = none → H' p = some (.tup [.str "people", .int 0]) → Q (.ref p) H') :
    sp_l_told K [x, y, z] H Q E := ⟨x, y, z, rfl, hx, hy, hz, .inr (.inr ⟨a, b, c, k⟩)⟩
theorem eq_pair {H : Hp} {a b : Addr} {x : Str} {n : Int} {Q : VK} (ha : H a = some (.tup [.str x, .int n])) (hb : H b = some (.tup [.str x, .int n])) (sx : SeqAt.shaped (.tuple [.str x, .int n]) = true) (q : Q (.bl true) H) : rEqD K (.ref a) (.ref b) H Q := by
  refine ⟨.tuple [.str x, .int n], .tuple [.str x, .int n], .tup (SqT.of ha) (.cons (.str _) (.cons (.int _) .nil)), .tup (SqT.of hb) (.cons (.str _) (.cons (.int _) .nil)), sx, sx, ?_⟩
  have e : PyData.eqv (.tuple [.str x, .int n]) (.tuple [.str x, .int n]) = true := by simp [PyData.eqv, PyData.eqvAll]
  rw [e]
  exact q
theorem ok_l_refusals_right {f : Addr} {fd : FuncData} (F : Fun K "_law_refusals_right" "_law_refusals_right" s_l_refusals_right f fd) (T : Txt K mg cBadPeople cBadCount cBadTotal cNoPool) : FnOk P w K mg base CX0 6 f fd ps_l_refusals_right (sp_l_refusals_right K) := by
  obtain ⟨f_l_draw, fd_l_draw, F_l_draw, m_l_draw, b_l_draw⟩ := T.d_l_draw
  have G_l_draw : FnOk P w K mg base CX0 2 f_l_draw fd_l_draw ps_l_draw (sp_l_draw K) := ok_l_draw F_l_draw T
  obtain ⟨f_l_odd_number, fd_l_odd_number, F_l_odd_number, m_l_odd_number, b_l_odd_number⟩ := T.d_l_odd_number
  have G_l_odd_number : FnOk P w K mg base CX0 4 f_l_odd_number fd_l_odd_number ps_l_odd_number (sp_l_odd_number K) := ok_l_odd_number F_l_odd_number T
  obtain ⟨f_l_odd_people, fd_l_odd_people, F_l_odd_people, m_l_odd_people, b_l_odd_people⟩ := T.d_l_odd_people
  have G_l_odd_people : FnOk P w K mg base CX0 4 f_l_odd_people fd_l_odd_people ps_l_odd_people (sp_l_odd_people K) := ok_l_odd_people F_l_odd_people T
  obtain ⟨f_l_told, fd_l_told, F_l_told, m_l_told, b_l_told⟩ := T.d_l_told
  have G_l_told : FnOk P w K mg base CX0 5 f_l_told fd_l_told ps_l_told (sp_l_told K) := ok_l_told F_l_told T
  refine F.ok (k := 5) sc_l_refusals_right (fun vs H Q E h => len_l_refusals_right h) (fun cdv A outer s H vs Q E hr h => ?_)
  refine ⟨_, (pss_cons (ps_set (i := 2) sc_l_refusals_right.nd rfl (Or.inl rfl) (pe_call G_l_draw (hr.mono (by decide)) (by rfl) m_l_draw F_l_draw.kp b_l_draw .nil pass0 (pa_cons (pv 0) (pa_cons pe_int pa_nil))))
      (pss_cons (ps_set (i := 3) sc_l_refusals_right.nd rfl (Or.inl rfl) (pe_call G_l_draw (hr.mono (by decide)) (by rfl) m_l_draw F_l_draw.kp b_l_draw .nil pass0 (pa_cons (pv 0) (pa_cons pe_int pa_nil))))
      (pss_cons (ps_set (i := 4) sc_l_refusals_right.nd rfl (Or.inl rfl) (pe_call G_l_odd_number (hr.mono (by decide)) (by rfl) m_l_odd_number F_l_odd_number.kp b_l_odd_number .nil pass0 (pa_cons (pv 0) (pa_cons pe_int pa_nil))))
      (pss_cons (ps_set (i := 5) sc_l_refusals_right.nd rfl (Or.inl rfl) (pe_call G_l_odd_number (hr.mono (by decide)) (by rfl) m_l_odd_number F_l_odd_number.kp b_l_odd_number .nil pass0 (pa_cons (pv 0) (pa_cons (pe_op op_pow pe_int pe_int) pa_nil))))
      (pss_cons (ps_set (i := 6) sc_l_refusals_right.nd rfl (Or.inl rfl) (pe_call G_l_odd_people (hr.mono (by decide)) (by rfl) m_l_odd_people F_l_odd_people.kp b_l_odd_people .nil pass0 (pa_cons (pv 0) pa_nil)))
      (pss_cons (ps_if (PW.pt (pw_or (pt_cmpR (op_neD hr.units) (pe_call G_l_told (hr.mono (by decide)) (by rfl) m_l_told F_l_told.kp b_l_told .nil pass0 (pa_cons (pv 4) (pa_cons (pv 3) (pa_cons (pv 1) pa_nil)))) (pe_tup (pa_cons pe_str (pa_cons pe_int pa_nil))) (nomark _)) (pw_or1 (pt_cmpR (op_neD hr.units) (pe_call G_l_told (hr.mono (by decide)) (by rfl) m_l_told F_l_told.kp b_l_told .nil pass0 (pa_cons (pv 4) (pa_cons (pv 5) (pa_cons (pv 6) pa_nil)))) (pe_tup (pa_cons pe_str (pa_cons pe_int pa_nil))) (nomark _))))) (pss_one (ps_ret pe_bl)) pss_nil)
      (pss_cons (ps_if (PW.pt (pw_or (pt_cmpR (op_neD hr.units) (pe_call G_l_told (hr.mono (by decide)) (by rfl) m_l_told F_l_told.kp b_l_told .nil pass0 (pa_cons (pv 2) (pa_cons (pv 5) (pa_cons (pv 1) pa_nil)))) (pe_tup (pa_cons pe_str (pa_cons (pe_op op_pow pe_int pe_int) pa_nil))) (nomark _)) (pw_or1 (pt_cmpR (op_neD hr.units) (pe_call G_l_told (hr.mono (by decide)) (by rfl) m_l_told F_l_told.kp b_l_told .nil pass0 (pa_cons (pv 2) (pa_cons (pv 5) (pa_cons (pv 6) pa_nil)))) (pe_tup (pa_cons pe_str (pa_cons (pe_op op_pow pe_int pe_int) pa_nil))) (nomark _))))) (pss_one (ps_ret pe_bl)) pss_nil)
      (pss_one (ps_ret (pe_cmpR (op_eqD hr.units) (pe_call G_l_told (hr.mono (by decide)) (by rfl) m_l_told F_l_told.kp b_l_told .nil pass0 (pa_cons (pv 2) (pa_cons (pv 3) (pa_cons (pv 6) pa_nil)))) (pe_tup (pa_cons pe_str (pa_cons pe_int pa_nil))) (nomark _))))))))))), ?_⟩
  obtain ⟨h, q, p, rfl, hh, p0, p1, k⟩ := h
  have e9 : (10 : Int) ^ Int.toNat 9 = 1000000000 := by decide
  simp only [tSeq, tAsg, tDrop, tRet, tRetN, tIfS, tNext, tTest, tB, tNot, tAnd, tOr, tChain, tIf, tAndV, tOrV, tNotV, tOp, tUn, tCB, tCons, tNil, tVar, tC, tCall, tCallS, gName, rI, rI0, rU, rEq, rNe, tTup, tLst, gSub, rSetL, rIxL, rIxT, L2.start, List.map_cons, List.map_nil, List.length_cons, List.length_nil, Nat.reduceAdd, Nat.reduceSub, List.replicate_succ, List.replicate_zero, List.getElem?_cons_zero, List.getElem?_cons_succ, List.set_cons_zero, List.set_cons_succ, Option.some.injEq, exists_eq_left', exists_eq_left, exists_and_left, V.int.injEq, V.bl.injEq, V.ref.injEq, V.str.injEq, List.cons.injEq, and_true, true_and, List.nil_append, List.cons_append, List.append_nil, reduceCtorEq, false_and, exists_false, or_false, false_or, and_false, Int.reduceNeg, decide_eq_true_eq, Bool.not_eq_true', decide_eq_false_iff_not, and_assoc, tYes, ↓reduceIte, wipe, Bool.false_eq_true, Bool.true_eq_false, cxOf, false_implies, true_implies, implies_true, forall_const, e9, spDraw, sp_l_odd_number, sp_l_odd_people]
  refine ⟨q, hh, by decide, by decide, fun c H1 c0 c1 hh1 b1 => ⟨q, hh1, by decide, by decide, fun t H2 t0 t1 hh2 b2 => ⟨q, hh2, by decide, fun x H3 px wx hh3 b3 => ⟨⟨by decide, by decide, by decide⟩, q, hh3, by decide, fun y H4 py wy hh4 b4 => ⟨q, hh4, fun z H5 pz wz hh5 b5 => ?_⟩⟩⟩⟩⟩
  have px5 := plain_but hh5 (b4.trans b5) px
  have py5 := plain_but hh5 b5 py
  have sc : SeqAt.shaped (.tuple [.str ("count" : Str), .int 12]) = true := by decide +kernel
  have st : SeqAt.shaped (.tuple [.str ("total" : Str), .int 1000000000]) = true := by decide +kernel
  have sp : SeqAt.shaped (.tuple [.str ("people" : Str), .int 0]) = true := by decide +kernel
  have wc : whole (.int c) 0 12 = true := whole_int c0 (by omega)
  have wt : whole (.int t) 0 1000000000 = true := whole_int t0 (by omega)
  clear px py hh hh1 hh2 hh3 hh4 b1 b2 b3 b4 b5
  refine told_c px5 True.intro True.intro wx fun H6 r6 s6 _ er => ⟨by decide, fun v hv => ne_pair ((Same.new hv) _ _ er) upd_same sc ⟨false, rfl, iteF ?_⟩⟩
  have s7 := s6.trans (Same.new (o := HO.tup [V.str "count", V.int 12]) hv)
  generalize upd H6 v _ = H7 at s7 ⊢
  refine told_c (px5.same s7) (py5.same s7) (pz.same s7) wx fun H8 r8 s8 _ er => ⟨by decide, fun v hv => ne_pair ((Same.new hv) _ _ er) upd_same sc ⟨false, rfl, iteF ?_⟩⟩
  have s9 := s7.trans (s8.trans (Same.new (o := HO.tup [V.str "count", V.int 12]) hv))
  generalize upd H8 v _ = H9 at s9 ⊢
  refine told_t True.intro (py5.same s9) True.intro wc wy fun H10 r10 s10 _ er => ⟨⟨by decide, by decide, by decide⟩, by decide, fun v hv => ne_pair ((Same.new hv) _ _ er) upd_same st ⟨false, rfl, iteF ?_⟩⟩
  have s11 := s9.trans (s10.trans (Same.new (o := HO.tup [V.str "total", V.int 1000000000]) hv))
  generalize upd H10 v _ = H11 at s11 ⊢
  refine told_t True.intro (py5.same s11) (pz.same s11) wc wy fun H12 r12 s12 _ er => ⟨⟨by decide, by decide, by decide⟩, by decide, fun v hv => ne_pair ((Same.new hv) _ _ er) upd_same st ⟨false, rfl, iteF ?_⟩⟩
  have s13 := s11.trans (s12.trans (Same.new (o := HO.tup [V.str "total", V.int 1000000000]) hv))
  generalize upd H12 v _ = H13 at s13 ⊢
  exact told_p True.intro True.intro (pz.same s13) wc wt wz fun H14 r14 s14 _ er => ⟨by decide, fun v hv => eq_pair ((Same.new hv) _ _ er) upd_same sp (k _)⟩
theorem handOffq {H : Hp} {h q p : Addr} (x : HandAt H h q) (hp : H p = none) : p ≠ q := by
  obtain ⟨cs, i, r, t, _, h2, _⟩ := x.ex
  exact fun z => by rw [z, h2] at hp; cases hp
theorem handPut {H : Hp} {h q p : Addr} {o : HO} (x : HandAt H h q) (n1 : p ≠ h) (n2 : p ≠ q) : HandAt (upd H p o) h q := by
  obtain ⟨cs, i, r, t, h1, h2, m⟩ := x.ex
  exact ⟨cs, i, r, t, by rw [upd_ne (Ne.symm n1)]; exact h1, by rw [upd_ne (Ne.symm n2)]; exact h2, m⟩
def sp_law (K : PySem.W.Frag) : Sp := fun vs H Q _ => ∃ (a : Addr) (ns : List Int), vs = [.ref a] ∧ SqL K H a (ns.map V.int) ∧ ns.length ≤ 63 ∧ ∀ H', Q (.bl true) H'
theorem len_law {vs H Q E} (h : sp_law K vs H Q E) : vs.length = 1 := by
  obtain ⟨_, _, rfl, _⟩ := h; rfl
theorem ok_law {f : Addr} {fd : FuncData} (F : Fun K "law" "law" s_law f fd) (T : Txt K mg cBadPeople cBadCount cBadTotal cNoPool) : FnOk P w K mg base CX0 7 f fd ps_law (sp_law K) := by
  obtain ⟨f_l_hand, fd_l_hand, F_l_hand, m_l_hand, b_l_hand⟩ := T.d_l_hand
  have G_l_hand : FnOk P w K mg base CX0 1 f_l_hand fd_l_hand ps_l_hand (sp_l_hand K) := ok_l_hand F_l_hand T
  obtain ⟨f_l_draw, fd_l_draw, F_l_draw, m_l_draw, b_l_draw⟩ := T.d_l_draw
  have G_l_draw : FnOk P w K mg base CX0 2 f_l_draw fd_l_draw ps_l_draw (sp_l_draw K) := ok_l_draw F_l_draw T
  obtain ⟨f_l_pick, fd_l_pick, F_l_pick, m_l_pick, b_l_pick⟩ := T.d_l_pick
  have G_l_pick : FnOk P w K mg base CX0 3 f_l_pick fd_l_pick ps_l_pick (sp_l_pick K) := ok_l_pick F_l_pick T
  obtain ⟨f_l_great, fd_l_great, F_l_great, m_l_great, b_l_great⟩ := T.d_l_great
  have G_l_great : FnOk P w K mg base CX0 2 f_l_great fd_l_great ps_l_great (sp_l_great K) := ok_l_great F_l_great T
  obtain ⟨f_l_equals_right, fd_l_equals_right, F_l_equals_right, m_l_equals_right, b_l_equals_right⟩ := T.d_l_equals_right
  have G_l_equals_right : FnOk P w K mg base CX0 3 f_l_equals_right fd_l_equals_right ps_l_equals_right (sp_l_equals_right K) := ok_l_equals_right F_l_equals_right T
  obtain ⟨f_l_refusals_right, fd_l_refusals_right, F_l_refusals_right, m_l_refusals_right, b_l_refusals_right⟩ := T.d_l_refusals_right
  have G_l_refusals_right : FnOk P w K mg base CX0 6 f_l_refusals_right fd_l_refusals_right ps_l_refusals_right (sp_l_refusals_right K) := ok_l_refusals_right F_l_refusals_right T
  obtain ⟨f_l_right, fd_l_right, F_l_right, m_l_right, b_l_right⟩ := T.d_l_right
  have G_l_right : FnOk P w K mg base CX0 5 f_l_right fd_l_right ps_l_right (sp_l_right K) := ok_l_right F_l_right T
  refine F.ok (k := 6) sc_law (fun vs H Q E h => len_law h) (fun cdv A outer s H vs Q E hr h => ?_)
  refine ⟨_, (pss_cons (ps_set (i := 1) sc_law.nd rfl (Or.inl rfl) (pe_call G_l_hand (hr.mono (by decide)) (by rfl) m_l_hand F_l_hand.kp b_l_hand .nil pass0 (pa_cons (pv 0) pa_nil)))
      (pss_cons (ps_set (i := 2) sc_law.nd rfl (Or.inl rfl) (pe_op op_add pe_int (pe_call G_l_draw (hr.mono (by decide)) (by rfl) m_l_draw F_l_draw.kp b_l_draw .nil pass0 (pa_cons (pv 1) (pa_cons pe_int pa_nil)))))
      (pss_cons (ps_for PassesOwn.never rfl (pi_list (pe_lst (pa_cons (pe_call G_l_draw (hr.mono (by decide)) (by rfl) m_l_draw F_l_draw.kp b_l_draw .nil pass0 (pa_cons (pv 1) (pa_cons pe_int pa_nil))) (pa_cons (pe_call G_l_draw (hr.mono (by decide)) (by rfl) m_l_draw F_l_draw.kp b_l_draw .nil pass0 (pa_cons (pv 1) (pa_cons pe_int pa_nil))) (pa_cons (pe_call G_l_pick (hr.mono (by decide)) (by rfl) m_l_pick F_l_pick.kp b_l_pick .nil pass0 (pa_cons (pv 1) (pa_cons (pe_lst (pa_cons pe_int (pa_cons pe_int (pa_cons pe_int pa_nil)))) pa_nil))) pa_nil))))) (pg_name (i := 3) sc_law.nd rfl (Or.inl rfl))
      (pss_cons (ps_set (i := 4) sc_law.nd rfl (Or.inl rfl) (pe_call G_l_great (hr.mono (by decide)) (by rfl) m_l_great F_l_great.kp b_l_great .nil pass0 (pa_cons (pv 3) (pa_cons (pv 2) pa_nil))))
      (pss_cons (ps_set (i := 5) sc_law.nd rfl (Or.inl rfl) (pe_lst (pa_cons (pv 3) (pa_cons (pv 4) (pa_cons (pe_op op_add (pv 4) pe_int) (pa_cons (pe_callB (call_max2 rfl) (by rfl) T.n_max (by decide +kernel) (pa_cons pe_int (pa_cons (pe_op op_sub (pv 3) pe_int) pa_nil))) (pa_cons (pe_op op_add (pv 4) (pe_call G_l_draw (hr.mono (by decide)) (by rfl) m_l_draw F_l_draw.kp b_l_draw .nil pass0 (pa_cons (pv 1) (pa_cons (pe_op op_pow pe_int pe_int) pa_nil)))) (pa_cons (pe_op op_pow pe_int pe_int) (pa_cons (pe_call G_l_draw (hr.mono (by decide)) (by rfl) m_l_draw F_l_draw.kp b_l_draw .nil pass0 (pa_cons (pv 1) (pa_cons pe_int pa_nil))) pa_nil)))))))))
      (pss_cons (ps_for PassesOwn.never rfl (pi_range1 (by rfl) T.n_range (pa_cons pe_int pa_nil)) (pg_name (i := 6) sc_law.nd rfl (Or.inl rfl))
      (pss_one (ps_expr (pe_bm PySem.F.plainAttrs_list PySem.F.slot_list_append PySem.F.type_list_append mt_append (pv 5) (pa_cons (pe_op op_add (pv 3) (pe_call G_l_draw (hr.mono (by decide)) (by rfl) m_l_draw F_l_draw.kp b_l_draw .nil pass0 (pa_cons (pv 1) (pa_cons (pe_op op_add (pe_op op_sub (pv 4) (pv 3)) pe_int) pa_nil)))) pa_nil)))))
      (pss_one (ps_for PassesOwn.never rfl (pi_list (pv 5)) (pg_name (i := 7) sc_law.nd rfl (Or.inl rfl))
      (pss_one (ps_if (pt_not (pt_val (pe_call G_l_right (hr.mono (by decide)) (by rfl) m_l_right F_l_right.kp b_l_right .nil pass0 (pa_cons (pv 3) (pa_cons (pv 7) (pa_cons (pv 2) pa_nil)))))) (pss_one (ps_ret pe_bl)) pss_nil))))))))
      (pss_one (ps_ret (pe_and (pe_call G_l_equals_right (hr.mono (by decide)) (by rfl) m_l_equals_right F_l_equals_right.kp b_l_equals_right .nil pass0 (pa_cons (pv 1) pa_nil)) (pe_one (pe_call G_l_refusals_right (hr.mono (by decide)) (by rfl) m_l_refusals_right F_l_refusals_right.kp b_l_refusals_right .nil pass0 (pa_cons (pv 1) (pa_cons (pv 2) pa_nil)))))))))), ?_⟩
  obtain ⟨a, ns, rfl, hS, hn, k⟩ := h
  simp only [tSeq, tAsg, tDrop, tRet, tRetN, tIfS, tNext, tTest, tB, tNot, tAnd, tOr, tChain, tIf, tAndV, tOrV, tNotV, tOp, tUn, tCB, tCons, tNil, tVar, tC, tCall, tCallS, gName, rI, rI0, rU, rEq, rNe, tTup, tLst, gSub, rSetL, rIxL, rIxT, L2.start, List.map_cons, List.map_nil, List.length_cons, List.length_nil, Nat.reduceAdd, Nat.reduceSub, List.replicate_succ, List.replicate_zero, List.getElem?_cons_zero, List.getElem?_cons_succ, List.set_cons_zero, List.set_cons_succ, Option.some.injEq, exists_eq_left', exists_eq_left, exists_and_left, V.int.injEq, V.bl.injEq, V.ref.injEq, V.str.injEq, List.cons.injEq, and_true, true_and, List.nil_append, List.cons_append, List.append_nil, reduceCtorEq, false_and, exists_false, or_false, false_or, and_false, Int.reduceNeg, decide_eq_true_eq, Bool.not_eq_true', decide_eq_false_iff_not, and_assoc, tYes, ↓reduceIte, wipe, Bool.false_eq_true, Bool.true_eq_false, cxOf, false_implies, true_implies, implies_true, forall_const, spHand, spDraw]
  refine ⟨ns, hS, hn, fun h q H1 s1 hh1 => ⟨q, hh1, by decide, by decide, fun d H2 d0 d1 hh2 b2 => ?_⟩⟩
  refine ⟨_, rfl, h, q, 13, rfl, hh2, by decide, by decide, fun e1 H3 e10 e11 hh3 b3 => ⟨_, rfl, h, q, 13, rfl, hh3, by decide, by decide, fun e2 H4 e20 e21 hh4 b4 => ⟨_, rfl, (show 3 ≤ sizeLine by decide), fun lk hlk =>
    ⟨h, q, lk, [V.int 0, V.int 1, V.int 12], rfl, hh4.same (Same.new hlk), upd_same, (show 0 < 3 by decide), (show 3 ≤ 1000 by decide), hh4.off hlk, fun e3 H5 e3m hh5 b5 => ⟨(show 3 ≤ sizeLine by decide), fun l hl => ⟨l, rfl, ⟨_, SqL.of upd_same⟩, ?_⟩⟩⟩⟩⟩⟩
  refine for_list (K := K) (a := l) (xs := [V.int e1, V.int e2, e3]) (fun i z h' => ∃ v u t r s, z = [some (.ref a), some (.ref h), some (.int (2 + d)), v, u, t, r, s] ∧ HandAt h' h q ∧ h' l = some (.lst [V.int e1, V.int e2, e3]))
    ⟨none, none, none, none, none, rfl, hh5.same (Same.new hl), upd_same⟩ (fun i z h' _ ⟨_, _, _, _, _, _, _, e⟩ => SqL.of e) ?_ ?_
  · rintro i x z h' hi ⟨v, u, t, r, s, rfl, hd, eL⟩
    have hx : ∃ c, x = V.int c ∧ 0 ≤ c ∧ c ≤ 12 := by
      have hm := List.mem_of_getElem? hi
      simp only [List.mem_cons, List.not_mem_nil, or_false] at hm e3m
      rcases hm with rfl | rfl | rfl
      · exact ⟨_, rfl, by omega, by omega⟩
      · exact ⟨_, rfl, by omega, by omega⟩
      · rcases e3m with rfl | rfl | rfl
        all_goals exact ⟨_, rfl, by decide, by decide⟩
    obtain ⟨c, rfl, c0, c1⟩ := hx
    have nl : l ≠ h := hh5.off hl
    simp only [tSeq, tAsg, tDrop, tRet, tRetN, tIfS, tNext, tTest, tB, tNot, tAnd, tOr, tChain, tIf, tAndV, tOrV, tNotV, tOp, tUn, tCB, tCons, tNil, tVar, tC, tCall, tCallS, gName, rI, rI0, rU, rEq, rNe, tTup, tLst, gSub, rSetL, rIxL, rIxT, L2.start, List.map_cons, List.map_nil, List.length_cons, List.length_nil, Nat.reduceAdd, Nat.reduceSub, List.replicate_succ, List.replicate_zero, List.getElem?_cons_zero, List.getElem?_cons_succ, List.set_cons_zero, List.set_cons_succ, Option.some.injEq, exists_eq_left', exists_eq_left, exists_and_left, V.int.injEq, V.bl.injEq, V.ref.injEq, V.str.injEq, List.cons.injEq, and_true, true_and, List.nil_append, List.cons_append, List.append_nil, reduceCtorEq, false_and, exists_false, or_false, false_or, and_false, Int.reduceNeg, decide_eq_true_eq, Bool.not_eq_true', decide_eq_false_iff_not, and_assoc, tYes, ↓reduceIte, wipe, Bool.false_eq_true, Bool.true_eq_false, cxOf, false_implies, true_implies, implies_true, forall_const, sp_l_great, spDraw]
    refine ⟨c0, by omega, by omega, by omega, ?_⟩
    have g1 := grow_add (show 2 ≤ 2 + d by omega) c.toNat (Int.le_refl 0)
    have g2 := (grow_le (show 2 ≤ 2 + d by omega) c.toNat (Int.le_refl 0)).2
    have g3 : (2 : Int) ^ c.toNat ≤ 2 ^ 12 := pow2_le (by omega)
    have g4 : (2 : Int) ^ 12 = 4096 := by decide
    have gl : c ≤ grow (2 + d) c.toNat 0 := by omega
    have gh : grow (2 + d) c.toNat 0 ≤ 4095 := by omega
    clear g1 g2 g3 g4
    generalize grow (2 + d) c.toNat 0 = g at gl gh ⊢
    have e8 : (10 : Int) ^ Int.toNat 8 = 100000000 := by decide
    have e9 : (10 : Int) ^ Int.toNat 9 = 1000000000 := by decide
    rw [e8, e9]
    refine ⟨⟨by decide, by decide, by decide⟩, q, hd, by decide, by decide, fun r1 Ha r10 r11 hha ba => ⟨⟨by decide, by decide, by decide⟩, q, hha, by decide, by decide, fun r2 Hb r20 r21 hhb bb => ⟨by decide, fun ll hll => ?_⟩⟩⟩
    have eL2 := bb _ _ (ba _ _ eL nl) nl
    have nll : ll ≠ l := fun z => by rw [z, eL2] at hll; cases hll
    have nlh : ll ≠ h := hhb.off hll
    have nlq : ll ≠ q := handOffq hhb hll
    refine ⟨5, rfl, by decide, by decide, for_range (lo := 0) (n := 5) (fun i z h2 => ∃ (xs : List Int) (v u : Option V), z = [some (.ref a), some (.ref h), some (.int (2 + d)), some (.int c), some (.int g), some (.ref ll), v, u] ∧ HandAt h2 h q ∧ h2 l = some (.lst [V.int e1, V.int e2, e3]) ∧
      h2 ll = some (.lst (xs.map V.int)) ∧ xs.length = 7 + i ∧ ∀ x, x ∈ xs → 0 ≤ x ∧ x ≤ 1000000000) ⟨[c, g, g + 1, if c - 1 > 0 then c - 1 else 0, g + r1, 1000000000, r2], r, s, rfl, hhb.same (Same.new hll), (Same.new hll) _ _ eL2, upd_same, rfl, ?_⟩ ?_ ?_⟩
    · intro x hx
      simp only [List.mem_cons, List.not_mem_nil, or_false] at hx
      rcases hx with rfl | rfl | rfl | rfl | rfl | rfl | rfl
      all_goals first
        | exact ⟨by omega, by omega⟩
        | (split <;> exact ⟨by omega, by omega⟩)
    · rintro i z h2 hi2 ⟨xs, v, u, rfl, hd2, eL2, eX, xl, xb⟩
      simp only [tSeq, tAsg, tDrop, tRet, tRetN, tIfS, tNext, tTest, tB, tNot, tAnd, tOr, tChain, tIf, tAndV, tOrV, tNotV, tOp, tUn, tCB, tCons, tNil, tVar, tC, tCall, tCallS, gName, rI, rI0, rU, rEq, rNe, tTup, tLst, gSub, rSetL, rIxL, rIxT, L2.start, List.map_cons, List.map_nil, List.length_cons, List.length_nil, Nat.reduceAdd, Nat.reduceSub, List.replicate_succ, List.replicate_zero, List.getElem?_cons_zero, List.getElem?_cons_succ, List.set_cons_zero, List.set_cons_succ, Option.some.injEq, exists_eq_left', exists_eq_left, exists_and_left, V.int.injEq, V.bl.injEq, V.ref.injEq, V.str.injEq, List.cons.injEq, and_true, true_and, List.nil_append, List.cons_append, List.append_nil, reduceCtorEq, false_and, exists_false, or_false, false_or, and_false, Int.reduceNeg, decide_eq_true_eq, Bool.not_eq_true', decide_eq_false_iff_not, and_assoc, tYes, ↓reduceIte, wipe, Bool.false_eq_true, Bool.true_eq_false, cxOf, false_implies, true_implies, implies_true, forall_const, spDraw, tBM, rAppend]
      refine ⟨.inl ⟨rfl, _, SqL.of eX⟩, q, hd2, by omega, by omega, fun e H6 e0 e1' hd6 b6 => ⟨_, b6 _ _ eX nlh, by rw [List.length_map]; exact small1000 (by omega), handPut hd6 nlh nlq, ?_, xs ++ [c + e], ?_, by rw [List.length_append, xl]; rfl, ?_⟩⟩
      · rw [upd_ne (Ne.symm nll)]
        exact b6 _ _ eL2 nl
      · rw [upd_same, List.map_append]
        rfl
      · intro x hx
        rcases List.mem_append.mp hx with hx | hx
        · exact xb x hx
        · rw [List.mem_singleton.mp hx]
          exact ⟨by omega, by omega⟩
    · rintro z h2 ⟨xs, v, u, rfl, hd2, eL2, eX, xl, xb⟩
      refine ⟨_, rfl, ll, rfl, ⟨_, SqL.of eX⟩, for_list (K := K) (a := ll) (xs := xs.map V.int) (fun i z h3 => ∃ (v u : Option V), z = [some (.ref a), some (.ref h), some (.int (2 + d)), some (.int c), some (.int g), some (.ref ll), v, u] ∧ HandAt h3 h q ∧ h3 l = some (.lst [V.int e1, V.int e2, e3]) ∧ h3 ll = some (.lst (xs.map V.int)))
        ⟨v, u, rfl, hd2, eL2, eX⟩ (fun i z h3 _ ⟨_, _, _, _, _, e⟩ => SqL.of e) ?_ ?_⟩
      · rintro i x z h3 hi3 ⟨v, u, rfl, hd3, eL3, eX3⟩
        obtain ⟨t, ht, rfl⟩ := nat_map hi3
        have tb := xb t (List.mem_of_getElem? ht)
        simp only [tSeq, tAsg, tDrop, tRet, tRetN, tIfS, tNext, tTest, tB, tNot, tAnd, tOr, tChain, tIf, tAndV, tOrV, tNotV, tOp, tUn, tCB, tCons, tNil, tVar, tC, tCall, tCallS, gName, rI, rI0, rU, rEq, rNe, tTup, tLst, gSub, rSetL, rIxL, rIxT, L2.start, List.map_cons, List.map_nil, List.length_cons, List.length_nil, Nat.reduceAdd, Nat.reduceSub, List.replicate_succ, List.replicate_zero, List.getElem?_cons_zero, List.getElem?_cons_succ, List.set_cons_zero, List.set_cons_succ, Option.some.injEq, exists_eq_left', exists_eq_left, exists_and_left, V.int.injEq, V.bl.injEq, V.ref.injEq, V.str.injEq, List.cons.injEq, and_true, true_and, List.nil_append, List.cons_append, List.append_nil, reduceCtorEq, false_and, exists_false, or_false, false_or, and_false, Int.reduceNeg, decide_eq_true_eq, Bool.not_eq_true', decide_eq_false_iff_not, and_assoc, tYes, ↓reduceIte, wipe, Bool.false_eq_true, Bool.true_eq_false, cxOf, false_implies, true_implies, implies_true, forall_const, sp_l_right]
        exact ⟨c0, c1, tb.1, tb.2, by omega, by omega, fun H7 s7 => ⟨hd3.same s7, s7 _ _ eL3, s7 _ _ eX3⟩⟩
      · rintro z h3 ⟨v, u, rfl, hd3, eL3, eX3⟩
        exact ⟨_, _, _, _, _, rfl, hd3, eL3⟩
  · rintro z h' ⟨v, u, t, r, s, rfl, hd, eL⟩
    simp only [tSeq, tAsg, tDrop, tRet, tRetN, tIfS, tNext, tTest, tB, tNot, tAnd, tOr, tChain, tIf, tAndV, tOrV, tNotV, tOp, tUn, tCB, tCons, tNil, tVar, tC, tCall, tCallS, gName, rI, rI0, rU, rEq, rNe, tTup, tLst, gSub, rSetL, rIxL, rIxT, L2.start, List.map_cons, List.map_nil, List.length_cons, List.length_nil, Nat.reduceAdd, Nat.reduceSub, List.replicate_succ, List.replicate_zero, List.getElem?_cons_zero, List.getElem?_cons_succ, List.set_cons_zero, List.set_cons_succ, Option.some.injEq, exists_eq_left', exists_eq_left, exists_and_left, V.int.injEq, V.bl.injEq, V.ref.injEq, V.str.injEq, List.cons.injEq, and_true, true_and, List.nil_append, List.cons_append, List.append_nil, reduceCtorEq, false_and, exists_false, or_false, false_or, and_false, Int.reduceNeg, decide_eq_true_eq, Bool.not_eq_true', decide_eq_false_iff_not, and_assoc, tYes, ↓reduceIte, wipe, Bool.false_eq_true, Bool.true_eq_false, cxOf, false_implies, true_implies, implies_true, forall_const, sp_l_refusals_right, sp_l_equals_right]
    exact ⟨q, hd, fun H6 hd6 b6 => ⟨q, hd6, by omega, by omega, fun H7 => k H7⟩⟩
end
end My
set_option Elab.async false
set_option linter.all false
set_option maxRecDepth 100000
set_option maxHeartbeats 8000000
namespace My
open PySem PySem.Spec PyProof.Rows L2 Gen
theorem all_mk {l : PySem.W.OpenLaw} {w : World} {K : PySem.W.Frag} {h : Heap} {mg : Str → Option Value} {fa : Addr}
    {cBadPeople cBadCount cBadTotal cNoPool : Addr}
    {a1 : Addr} {od1 an1 : Option Addr} {sl1 : Array (Option Value)} {oc1 kV1 dc1 pm1 cd1 ct1 : Value}
    {a2 : Addr} {od2 an2 : Option Addr} {sl2 : Array (Option Value)} {oc2 kV2 dc2 pm2 cd2 ct2 : Value}
    {a3 : Addr} {od3 an3 : Option Addr} {sl3 : Array (Option Value)} {oc3 kV3 dc3 pm3 cd3 ct3 : Value}
    {a4 : Addr} {od4 an4 : Option Addr} {sl4 : Array (Option Value)} {oc4 kV4 dc4 pm4 cd4 ct4 : Value}
    {a5 : Addr} {od5 an5 : Option Addr} {sl5 : Array (Option Value)} {oc5 kV5 dc5 pm5 cd5 ct5 : Value}
    {dT5 : Addr} {dd5 : Option Addr} {dn5 : Nat} {dsl5 : Array (Option Value)} {dt5_0 : Tok}
    {a6 : Addr} {od6 an6 : Option Addr} {sl6 : Array (Option Value)} {oc6 kV6 dc6 pm6 cd6 ct6 : Value}
    {a7 : Addr} {od7 an7 : Option Addr} {sl7 : Array (Option Value)} {oc7 kV7 dc7 pm7 cd7 ct7 : Value}
    {a8 : Addr} {od8 an8 : Option Addr} {sl8 : Array (Option Value)} {oc8 kV8 dc8 pm8 cd8 ct8 : Value}
    {a9 : Addr} {od9 an9 : Option Addr} {sl9 : Array (Option Value)} {oc9 kV9 dc9 pm9 cd9 ct9 : Value}
    {a10 : Addr} {od10 an10 : Option Addr} {sl10 : Array (Option Value)} {oc10 kV10 dc10 pm10 cd10 ct10 : Value}
    {a11 : Addr} {od11 an11 : Option Addr} {sl11 : Array (Option Value)} {oc11 kV11 dc11 pm11 cd11 ct11 : Value}
    {a12 : Addr} {od12 an12 : Option Addr} {sl12 : Array (Option Value)} {oc12 kV12 dc12 pm12 cd12 ct12 : Value}
    {a13 : Addr} {od13 an13 : Option Addr} {sl13 : Array (Option Value)} {oc13 kV13 dc13 pm13 cd13 ct13 : Value}
    {a14 : Addr} {od14 an14 : Option Addr} {sl14 : Array (Option Value)} {oc14 kV14 dc14 pm14 cd14 ct14 : Value}
    {a15 : Addr} {od15 an15 : Option Addr} {sl15 : Array (Option Value)} {oc15 kV15 dc15 pm15 cd15 ct15 : Value}
    {a16 : Addr} {od16 an16 : Option Addr} {sl16 : Array (Option Value)} {oc16 kV16 dc16 pm16 cd16 ct16 : Value}
    {a17 : Addr} {od17 an17 : Option Addr} {sl17 : Array (Option Value)} {oc17 kV17 dc17 pm17 cd17 ct17 : Value}
    {a18 : Addr} {od18 an18 : Option Addr} {sl18 : Array (Option Value)} {oc18 kV18 dc18 pm18 cd18 ct18 : Value}
    {a19 : Addr} {od19 an19 : Option Addr} {sl19 : Array (Option Value)} {oc19 kV19 dc19 pm19 cd19 ct19 : Value}
    {a20 : Addr} {od20 an20 : Option Addr} {sl20 : Array (Option Value)} {oc20 kV20 dc20 pm20 cd20 ct20 : Value}
    {a21 : Addr} {od21 an21 : Option Addr} {sl21 : Array (Option Value)} {oc21 kV21 dc21 pm21 cd21 ct21 : Value}
    {a22 : Addr} {od22 an22 : Option Addr} {sl22 : Array (Option Value)} {oc22 kV22 dc22 pm22 cd22 ct22 : Value}
    {a23 : Addr} {od23 an23 : Option Addr} {sl23 : Array (Option Value)} {oc23 kV23 dc23 pm23 cd23 ct23 : Value}
    {a24 : Addr} {od24 an24 : Option Addr} {sl24 : Array (Option Value)} {oc24 kV24 dc24 pm24 cd24 ct24 : Value}
    {a25 : Addr} {od25 an25 : Option Addr} {sl25 : Array (Option Value)} {oc25 kV25 dc25 pm25 cd25 ct25 : Value}
    {a26 : Addr} {od26 an26 : Option Addr} {sl26 : Array (Option Value)} {oc26 kV26 dc26 pm26 cd26 ct26 : Value}
    {a27 : Addr} {od27 an27 : Option Addr} {sl27 : Array (Option Value)} {oc27 kV27 dc27 pm27 cd27 ct27 : Value}
    {a28 : Addr} {od28 an28 : Option Addr} {sl28 : Array (Option Value)} {oc28 kV28 dc28 pm28 cd28 ct28 : Value}
    {a29 : Addr} {od29 an29 : Option Addr} {sl29 : Array (Option Value)} {oc29 kV29 dc29 pm29 cd29 ct29 : Value}
    {tk_MOST_PEOPLE : Tok}
    {tk_MOST_COINS : Tok}
    {tk_GREATEST_TOTAL : Tok}
    {tk_LEAST_PEOPLE : Tok}
    {nm_BadCount q_BadCount : Str} {N_BadCount B_BadCount : Addr} {bs_BadCount : List Value} {sn_BadCount : List Str} {sub_BadCount : List Value} {ab_BadCount : Bool} {col_BadCount : Option Bool} {dd_BadCount : Option Addr} {m0_BadCount m1_BadCount m2_BadCount m3_BadCount m5_BadCount : Option Value}
    {nm_BadTotal q_BadTotal : Str} {N_BadTotal B_BadTotal : Addr} {bs_BadTotal : List Value} {sn_BadTotal : List Str} {sub_BadTotal : List Value} {ab_BadTotal : Bool} {col_BadTotal : Option Bool} {dd_BadTotal : Option Addr} {m0_BadTotal m1_BadTotal m2_BadTotal m3_BadTotal m5_BadTotal : Option Value} (X : K.In h) (G : h.Ns mainGlobals mg) (hfa : mg "law" = some (.ref fa))
    (g_BadPeople : PySem.W.nsIn K mainGlobals "BadPeople" = some (some (.ref cBadPeople)))
    (g_BadCount : PySem.W.nsIn K mainGlobals "BadCount" = some (some (.ref cBadCount)))
    (g_BadTotal : PySem.W.nsIn K mainGlobals "BadTotal" = some (some (.ref cBadTotal)))
    (g_NoPool : PySem.W.nsIn K mainGlobals "NoPool" = some (some (.ref cNoPool)))
    (a_i_BadCount : PySem.W.findIn K (.ref cBadCount) "__init__" = some (some (.ref a1)))
    (l_i_BadCount : K.lookup a1 = some ⟨oc1, od1, .func (PySem.W.fnOf "__init__" "BadCount.__init__" (defArgs s_i_BadCount) (defBody s_i_BadCount) (defScope s_i_BadCount) .none kV1 dc1 pm1 an1 cd1 ct1), sl1⟩)
    (c_i_BadCount : PySem.W.codeIn K cd1 "BadCount.__init__" = true)
    (k_i_BadCount : PySem.W.keepIn K (.ref a1) = true)
    (t_i_BadCount : PySem.W.typeIn K (.ref a1) = some (.type "function"))
    (a_i_BadTotal : PySem.W.findIn K (.ref cBadTotal) "__init__" = some (some (.ref a2)))
    (l_i_BadTotal : K.lookup a2 = some ⟨oc2, od2, .func (PySem.W.fnOf "__init__" "BadTotal.__init__" (defArgs s_i_BadTotal) (defBody s_i_BadTotal) (defScope s_i_BadTotal) .none kV2 dc2 pm2 an2 cd2 ct2), sl2⟩)
    (c_i_BadTotal : PySem.W.codeIn K cd2 "BadTotal.__init__" = true)
    (k_i_BadTotal : PySem.W.keepIn K (.ref a2) = true)
    (t_i_BadTotal : PySem.W.typeIn K (.ref a2) = some (.type "function"))
    (a_is_number : PySem.W.nsIn K mainGlobals "is_number" = some (some (.ref a3)))
    (l_is_number : K.lookup a3 = some ⟨oc3, od3, .func (PySem.W.fnOf "is_number" "is_number" (defArgs s_is_number) (defBody s_is_number) (defScope s_is_number) .none kV3 dc3 pm3 an3 cd3 ct3), sl3⟩)
    (c_is_number : PySem.W.codeIn K cd3 "is_number" = true)
    (k_is_number : PySem.W.keepIn K (.ref a3) = true)
    (a_is_whole : PySem.W.nsIn K mainGlobals "is_whole" = some (some (.ref a4)))
    (l_is_whole : K.lookup a4 = some ⟨oc4, od4, .func (PySem.W.fnOf "is_whole" "is_whole" (defArgs s_is_whole) (defBody s_is_whole) (defScope s_is_whole) .none kV4 dc4 pm4 an4 cd4 ct4), sl4⟩)
    (c_is_whole : PySem.W.codeIn K cd4 "is_whole" = true)
    (k_is_whole : PySem.W.keepIn K (.ref a4) = true)
    (a_check_people : PySem.W.nsIn K mainGlobals "check_people" = some (some (.ref a5)))
    (l_check_people : K.lookup a5 = some ⟨oc5, od5, .func (PySem.W.fnOf "check_people" "check_people" (defArgs s_check_people) (defBody s_check_people) (defScope s_check_people) (.ref dT5) kV5 dc5 pm5 an5 cd5 ct5), sl5⟩)
    (t_check_people : K.lookup dT5 = some ⟨.type "tuple", dd5, .seq #[.int 1 dt5_0] dn5, dsl5⟩)
    (c_check_people : PySem.W.codeIn K cd5 "check_people" = true)
    (k_check_people : PySem.W.keepIn K (.ref a5) = true)
    (a_i_NoPool : PySem.W.findIn K (.ref cNoPool) "__init__" = some (some (.ref a6)))
    (l_i_NoPool : K.lookup a6 = some ⟨oc6, od6, .func (PySem.W.fnOf "__init__" "NoPool.__init__" (defArgs s_i_NoPool) (defBody s_i_NoPool) (defScope s_i_NoPool) .none kV6 dc6 pm6 an6 cd6 ct6), sl6⟩)
    (c_i_NoPool : PySem.W.codeIn K cd6 "NoPool.__init__" = true)
    (k_i_NoPool : PySem.W.keepIn K (.ref a6) = true)
    (fn_i_NoPool : PySem.W.isFn K (.ref a6) = true)
    (a_e_NoPool : PySem.W.findIn K (.ref cNoPool) "__eq__" = some (some (.ref a7)))
    (l_e_NoPool : K.lookup a7 = some ⟨oc7, od7, .func (PySem.W.fnOf "__eq__" "NoPool.__eq__" (defArgs s_e_NoPool) (defBody s_e_NoPool) (defScope s_e_NoPool) .none kV7 dc7 pm7 an7 cd7 ct7), sl7⟩)
    (c_e_NoPool : PySem.W.codeIn K cd7 "NoPool.__eq__" = true)
    (k_e_NoPool : PySem.W.keepIn K (.ref a7) = true)
    (fn_e_NoPool : PySem.W.isFn K (.ref a7) = true)
    (a_check_count : PySem.W.nsIn K mainGlobals "check_count" = some (some (.ref a8)))
    (l_check_count : K.lookup a8 = some ⟨oc8, od8, .func (PySem.W.fnOf "check_count" "check_count" (defArgs s_check_count) (defBody s_check_count) (defScope s_check_count) .none kV8 dc8 pm8 an8 cd8 ct8), sl8⟩)
    (c_check_count : PySem.W.codeIn K cd8 "check_count" = true)
    (k_check_count : PySem.W.keepIn K (.ref a8) = true)
    (a_check_total : PySem.W.nsIn K mainGlobals "check_total" = some (some (.ref a9)))
    (l_check_total : K.lookup a9 = some ⟨oc9, od9, .func (PySem.W.fnOf "check_total" "check_total" (defArgs s_check_total) (defBody s_check_total) (defScope s_check_total) .none kV9 dc9 pm9 an9 cd9 ct9), sl9⟩)
    (c_check_total : PySem.W.codeIn K cd9 "check_total" = true)
    (k_check_total : PySem.W.keepIn K (.ref a9) = true)
    (a_room_at : PySem.W.nsIn K mainGlobals "room_at" = some (some (.ref a10)))
    (l_room_at : K.lookup a10 = some ⟨oc10, od10, .func (PySem.W.fnOf "room_at" "room_at" (defArgs s_room_at) (defBody s_room_at) (defScope s_room_at) .none kV10 dc10 pm10 an10 cd10 ct10), sl10⟩)
    (c_room_at : PySem.W.codeIn K cd10 "room_at" = true)
    (k_room_at : PySem.W.keepIn K (.ref a10) = true)
    (a_greatest_behind : PySem.W.nsIn K mainGlobals "greatest_behind" = some (some (.ref a11)))
    (l_greatest_behind : K.lookup a11 = some ⟨oc11, od11, .func (PySem.W.fnOf "greatest_behind" "greatest_behind" (defArgs s_greatest_behind) (defBody s_greatest_behind) (defScope s_greatest_behind) .none kV11 dc11 pm11 an11 cd11 ct11), sl11⟩)
    (c_greatest_behind : PySem.W.codeIn K cd11 "greatest_behind" = true)
    (k_greatest_behind : PySem.W.keepIn K (.ref a11) = true)
    (a_pool_for : PySem.W.nsIn K mainGlobals "pool_for" = some (some (.ref a12)))
    (l_pool_for : K.lookup a12 = some ⟨oc12, od12, .func (PySem.W.fnOf "pool_for" "pool_for" (defArgs s_pool_for) (defBody s_pool_for) (defScope s_pool_for) .none kV12 dc12 pm12 an12 cd12 ct12), sl12⟩)
    (c_pool_for : PySem.W.codeIn K cd12 "pool_for" = true)
    (k_pool_for : PySem.W.keepIn K (.ref a12) = true)
    (a_l_mix : PySem.W.nsIn K mainGlobals "_law_mix" = some (some (.ref a13)))
    (l_l_mix : K.lookup a13 = some ⟨oc13, od13, .func (PySem.W.fnOf "_law_mix" "_law_mix" (defArgs s_l_mix) (defBody s_l_mix) (defScope s_l_mix) .none kV13 dc13 pm13 an13 cd13 ct13), sl13⟩)
    (c_l_mix : PySem.W.codeIn K cd13 "_law_mix" = true)
    (k_l_mix : PySem.W.keepIn K (.ref a13) = true)
    (a_l_hand : PySem.W.nsIn K mainGlobals "_law_hand" = some (some (.ref a14)))
    (l_l_hand : K.lookup a14 = some ⟨oc14, od14, .func (PySem.W.fnOf "_law_hand" "_law_hand" (defArgs s_l_hand) (defBody s_l_hand) (defScope s_l_hand) .none kV14 dc14 pm14 an14 cd14 ct14), sl14⟩)
    (c_l_hand : PySem.W.codeIn K cd14 "_law_hand" = true)
    (k_l_hand : PySem.W.keepIn K (.ref a14) = true)
    (a_l_draw : PySem.W.nsIn K mainGlobals "_law_draw" = some (some (.ref a15)))
    (l_l_draw : K.lookup a15 = some ⟨oc15, od15, .func (PySem.W.fnOf "_law_draw" "_law_draw" (defArgs s_l_draw) (defBody s_l_draw) (defScope s_l_draw) .none kV15 dc15 pm15 an15 cd15 ct15), sl15⟩)
    (c_l_draw : PySem.W.codeIn K cd15 "_law_draw" = true)
    (k_l_draw : PySem.W.keepIn K (.ref a15) = true)
    (a_l_pick : PySem.W.nsIn K mainGlobals "_law_pick" = some (some (.ref a16)))
    (l_l_pick : K.lookup a16 = some ⟨oc16, od16, .func (PySem.W.fnOf "_law_pick" "_law_pick" (defArgs s_l_pick) (defBody s_l_pick) (defScope s_l_pick) .none kV16 dc16 pm16 an16 cd16 ct16), sl16⟩)
    (c_l_pick : PySem.W.codeIn K cd16 "_law_pick" = true)
    (k_l_pick : PySem.W.keepIn K (.ref a16) = true)
    (a_l_is_whole : PySem.W.nsIn K mainGlobals "_law_is_whole" = some (some (.ref a17)))
    (l_l_is_whole : K.lookup a17 = some ⟨oc17, od17, .func (PySem.W.fnOf "_law_is_whole" "_law_is_whole" (defArgs s_l_is_whole) (defBody s_l_is_whole) (defScope s_l_is_whole) .none kV17 dc17 pm17 an17 cd17 ct17), sl17⟩)
    (c_l_is_whole : PySem.W.codeIn K cd17 "_law_is_whole" = true)
    (k_l_is_whole : PySem.W.keepIn K (.ref a17) = true)
    (a_l_is_coins : PySem.W.nsIn K mainGlobals "_law_is_coins" = some (some (.ref a18)))
    (l_l_is_coins : K.lookup a18 = some ⟨oc18, od18, .func (PySem.W.fnOf "_law_is_coins" "_law_is_coins" (defArgs s_l_is_coins) (defBody s_l_is_coins) (defScope s_l_is_coins) .none kV18 dc18 pm18 an18 cd18 ct18), sl18⟩)
    (c_l_is_coins : PySem.W.codeIn K cd18 "_law_is_coins" = true)
    (k_l_is_coins : PySem.W.keepIn K (.ref a18) = true)
    (a_l_up : PySem.W.nsIn K mainGlobals "_law_up" = some (some (.ref a19)))
    (l_l_up : K.lookup a19 = some ⟨oc19, od19, .func (PySem.W.fnOf "_law_up" "_law_up" (defArgs s_l_up) (defBody s_l_up) (defScope s_l_up) .none kV19 dc19 pm19 an19 cd19 ct19), sl19⟩)
    (c_l_up : PySem.W.codeIn K cd19 "_law_up" = true)
    (k_l_up : PySem.W.keepIn K (.ref a19) = true)
    (a_l_serves : PySem.W.nsIn K mainGlobals "_law_serves" = some (some (.ref a20)))
    (l_l_serves : K.lookup a20 = some ⟨oc20, od20, .func (PySem.W.fnOf "_law_serves" "_law_serves" (defArgs s_l_serves) (defBody s_l_serves) (defScope s_l_serves) .none kV20 dc20 pm20 an20 cd20 ct20), sl20⟩)
    (c_l_serves : PySem.W.codeIn K cd20 "_law_serves" = true)
    (k_l_serves : PySem.W.keepIn K (.ref a20) = true)
    (a_l_next : PySem.W.nsIn K mainGlobals "_law_next" = some (some (.ref a21)))
    (l_l_next : K.lookup a21 = some ⟨oc21, od21, .func (PySem.W.fnOf "_law_next" "_law_next" (defArgs s_l_next) (defBody s_l_next) (defScope s_l_next) .none kV21 dc21 pm21 an21 cd21 ct21), sl21⟩)
    (c_l_next : PySem.W.codeIn K cd21 "_law_next" = true)
    (k_l_next : PySem.W.keepIn K (.ref a21) = true)
    (a_l_great : PySem.W.nsIn K mainGlobals "_law_great" = some (some (.ref a22)))
    (l_l_great : K.lookup a22 = some ⟨oc22, od22, .func (PySem.W.fnOf "_law_great" "_law_great" (defArgs s_l_great) (defBody s_l_great) (defScope s_l_great) .none kV22 dc22 pm22 an22 cd22 ct22), sl22⟩)
    (c_l_great : PySem.W.codeIn K cd22 "_law_great" = true)
    (k_l_great : PySem.W.keepIn K (.ref a22) = true)
    (a_l_odd_people : PySem.W.nsIn K mainGlobals "_law_odd_people" = some (some (.ref a23)))
    (l_l_odd_people : K.lookup a23 = some ⟨oc23, od23, .func (PySem.W.fnOf "_law_odd_people" "_law_odd_people" (defArgs s_l_odd_people) (defBody s_l_odd_people) (defScope s_l_odd_people) .none kV23 dc23 pm23 an23 cd23 ct23), sl23⟩)
    (c_l_odd_people : PySem.W.codeIn K cd23 "_law_odd_people" = true)
    (k_l_odd_people : PySem.W.keepIn K (.ref a23) = true)
    (a_l_odd_number : PySem.W.nsIn K mainGlobals "_law_odd_number" = some (some (.ref a24)))
    (l_l_odd_number : K.lookup a24 = some ⟨oc24, od24, .func (PySem.W.fnOf "_law_odd_number" "_law_odd_number" (defArgs s_l_odd_number) (defBody s_l_odd_number) (defScope s_l_odd_number) .none kV24 dc24 pm24 an24 cd24 ct24), sl24⟩)
    (c_l_odd_number : PySem.W.codeIn K cd24 "_law_odd_number" = true)
    (k_l_odd_number : PySem.W.keepIn K (.ref a24) = true)
    (a_l_told : PySem.W.nsIn K mainGlobals "_law_told" = some (some (.ref a25)))
    (l_l_told : K.lookup a25 = some ⟨oc25, od25, .func (PySem.W.fnOf "_law_told" "_law_told" (defArgs s_l_told) (defBody s_l_told) (defScope s_l_told) .none kV25 dc25 pm25 an25 cd25 ct25), sl25⟩)
    (c_l_told : PySem.W.codeIn K cd25 "_law_told" = true)
    (k_l_told : PySem.W.keepIn K (.ref a25) = true)
    (a_l_right : PySem.W.nsIn K mainGlobals "_law_right" = some (some (.ref a26)))
    (l_l_right : K.lookup a26 = some ⟨oc26, od26, .func (PySem.W.fnOf "_law_right" "_law_right" (defArgs s_l_right) (defBody s_l_right) (defScope s_l_right) .none kV26 dc26 pm26 an26 cd26 ct26), sl26⟩)
    (c_l_right : PySem.W.codeIn K cd26 "_law_right" = true)
    (k_l_right : PySem.W.keepIn K (.ref a26) = true)
    (a_l_equals_right : PySem.W.nsIn K mainGlobals "_law_equals_right" = some (some (.ref a27)))
    (l_l_equals_right : K.lookup a27 = some ⟨oc27, od27, .func (PySem.W.fnOf "_law_equals_right" "_law_equals_right" (defArgs s_l_equals_right) (defBody s_l_equals_right) (defScope s_l_equals_right) .none kV27 dc27 pm27 an27 cd27 ct27), sl27⟩)
    (c_l_equals_right : PySem.W.codeIn K cd27 "_law_equals_right" = true)
    (k_l_equals_right : PySem.W.keepIn K (.ref a27) = true)
    (a_l_refusals_right : PySem.W.nsIn K mainGlobals "_law_refusals_right" = some (some (.ref a28)))
    (l_l_refusals_right : K.lookup a28 = some ⟨oc28, od28, .func (PySem.W.fnOf "_law_refusals_right" "_law_refusals_right" (defArgs s_l_refusals_right) (defBody s_l_refusals_right) (defScope s_l_refusals_right) .none kV28 dc28 pm28 an28 cd28 ct28), sl28⟩)
    (c_l_refusals_right : PySem.W.codeIn K cd28 "_law_refusals_right" = true)
    (k_l_refusals_right : PySem.W.keepIn K (.ref a28) = true)
    (a_law : PySem.W.nsIn K mainGlobals "law" = some (some (.ref a29)))
    (l_law : K.lookup a29 = some ⟨oc29, od29, .func (PySem.W.fnOf "law" "law" (defArgs s_law) (defBody s_law) (defScope s_law) .none kV29 dc29 pm29 an29 cd29 ct29), sl29⟩)
    (c_law : PySem.W.codeIn K cd29 "law" = true)
    (k_law : PySem.W.keepIn K (.ref a29) = true)
    (v_MOST_PEOPLE : PySem.W.nsIn K mainGlobals "MOST_PEOPLE" = some (some (.int 5 tk_MOST_PEOPLE)))
    (v_MOST_COINS : PySem.W.nsIn K mainGlobals "MOST_COINS" = some (some (.int 12 tk_MOST_COINS)))
    (v_GREATEST_TOTAL : PySem.W.nsIn K mainGlobals "GREATEST_TOTAL" = some (some (.int 1000000000 tk_GREATEST_TOTAL)))
    (v_LEAST_PEOPLE : PySem.W.nsIn K mainGlobals "LEAST_PEOPLE" = some (some (.int 2 tk_LEAST_PEOPLE)))
    (n_isinstance : PySem.W.nsIn K mainGlobals "isinstance" = some none)
    (n_int : PySem.W.nsIn K mainGlobals "int" = some none)
    (n_bool : PySem.W.nsIn K mainGlobals "bool" = some none)
    (n_range : PySem.W.nsIn K mainGlobals "range" = some none)
    (n_tuple : PySem.W.nsIn K mainGlobals "tuple" = some none)
    (n_min : PySem.W.nsIn K mainGlobals "min" = some none)
    (n_sorted : PySem.W.nsIn K mainGlobals "sorted" = some none)
    (n_enumerate : PySem.W.nsIn K mainGlobals "enumerate" = some none)
    (n_abs : PySem.W.nsIn K mainGlobals "abs" = some none)
    (n_len : PySem.W.nsIn K mainGlobals "len" = some none)
    (n_list : PySem.W.nsIn K mainGlobals "list" = some none)
    (n_sum : PySem.W.nsIn K mainGlobals "sum" = some none)
    (n_max : PySem.W.nsIn K mainGlobals "max" = some none)
    (k_BadPeople : PySem.W.keepIn K (.ref cBadPeople) = true)
    (e_BadPeople : PySem.W.subIn K (.ref cBadPeople) (.type "BaseException") = some true)
    (t_BadPeople : PySem.W.typeIn K (.ref cBadPeople) = some (.type "type"))
    (i_BadPeople : PySem.W.isClsIn K cBadPeople = true)
    (x_BadPeople : PySem.W.excIn K cBadPeople [.type "ValueError", .type "Exception", .type "BaseException", .type "object"] "ValueError.__new__" = true)
    (k_BadCount : PySem.W.keepIn K (.ref cBadCount) = true)
    (e_BadCount : PySem.W.subIn K (.ref cBadCount) (.type "BaseException") = some true)
    (t_BadCount : PySem.W.typeIn K (.ref cBadCount) = some (.type "type"))
    (i_BadCount : PySem.W.isClsIn K cBadCount = true)
    (x_BadCount : K.lookup cBadCount = some (excClassObj nm_BadCount q_BadCount cBadCount N_BadCount bs_BadCount [.ref B_BadCount, .type "ValueError", .type "Exception", .type "BaseException", .type "object"] true sn_BadCount sub_BadCount ab_BadCount col_BadCount dd_BadCount m0_BadCount m1_BadCount m2_BadCount m3_BadCount m5_BadCount "ValueError.__new__"))
    (s_BadCount : PySem.W.findIn K (.ref cBadCount) "__setattr__" = some (some (.builtin "object.__setattr__")))
    (ga_BadCount : PySem.W.findIn K (.ref cBadCount) "__getattribute__" = some (some (.builtin "BaseException.__getattribute__")))
    (gg_BadCount : PySem.W.findIn K (.ref cBadCount) "__getattr__" = some none)
    (hd_BadCount : PySem.W.hasDictIn K cBadCount = true)
    (f_BadCount_most : PySem.W.findIn K (.ref cBadCount) "most" = some none)
    (k_BadTotal : PySem.W.keepIn K (.ref cBadTotal) = true)
    (e_BadTotal : PySem.W.subIn K (.ref cBadTotal) (.type "BaseException") = some true)
    (t_BadTotal : PySem.W.typeIn K (.ref cBadTotal) = some (.type "type"))
    (i_BadTotal : PySem.W.isClsIn K cBadTotal = true)
    (x_BadTotal : K.lookup cBadTotal = some (excClassObj nm_BadTotal q_BadTotal cBadTotal N_BadTotal bs_BadTotal [.ref B_BadTotal, .type "ValueError", .type "Exception", .type "BaseException", .type "object"] true sn_BadTotal sub_BadTotal ab_BadTotal col_BadTotal dd_BadTotal m0_BadTotal m1_BadTotal m2_BadTotal m3_BadTotal m5_BadTotal "ValueError.__new__"))
    (s_BadTotal : PySem.W.findIn K (.ref cBadTotal) "__setattr__" = some (some (.builtin "object.__setattr__")))
    (ga_BadTotal : PySem.W.findIn K (.ref cBadTotal) "__getattribute__" = some (some (.builtin "BaseException.__getattribute__")))
    (gg_BadTotal : PySem.W.findIn K (.ref cBadTotal) "__getattr__" = some none)
    (hd_BadTotal : PySem.W.hasDictIn K cBadTotal = true)
    (f_BadTotal_most : PySem.W.findIn K (.ref cBadTotal) "most" = some none)
    (pg_NoPool : PySem.W.plainGet K cNoPool Str.empty = true)
    (hd_NoPool : PySem.W.hasDictIn K cNoPool = true)
    (po_NoPool : PySem.W.plainOver K cNoPool = true)
    (sa_NoPool : PySem.W.findIn K (.ref cNoPool) "__setattr__" = some (some (.builtin "object.__setattr__")))
    (mk_NoPool : PySem.W.makesIn K cNoPool = true)
    (kp_NoPool : PySem.W.keepIn K (.ref cNoPool) = true)
    (ha_NoPool : PySem.W.findIn K (.ref cNoPool) "__class__" = some (some (.builtin "object.__class__")))
    (hn_NoPool : PySem.W.specialIn K (.builtin "object.__class__") "__get__" = some (some (.builtin "getset_descriptor.__get__")))
    (ht_NoPool : PySem.W.takesIn K (.builtin "object.__class__") = some true)
    (hm_NoPool : PySem.W.mroIn K cNoPool (.type "object") = some true)
    (ci_NoPool : PySem.W.isClsIn K cNoPool = true)
    (ct_NoPool : PySem.W.typeIn K (.ref cNoPool) = some (.type "type"))
    (ne_NoPool : PySem.W.findIn K (.ref cNoPool) "__ne__" = some (some (.builtin "object.__ne__")))
    (f_NoPool_low : PySem.W.findIn K (.ref cNoPool) "low" = some none)
    (f_NoPool_high : PySem.W.findIn K (.ref cNoPool) "high" = some none)
    (m_BadPeople_BadPeople : PySem.W.subIn K (.ref cBadPeople) (.ref cBadPeople) = some true)
    (m_BadPeople_BadCount : PySem.W.subIn K (.ref cBadPeople) (.ref cBadCount) = some false)
    (m_BadPeople_BadTotal : PySem.W.subIn K (.ref cBadPeople) (.ref cBadTotal) = some false)
    (m_BadCount_BadPeople : PySem.W.subIn K (.ref cBadCount) (.ref cBadPeople) = some false)
    (m_BadCount_BadCount : PySem.W.subIn K (.ref cBadCount) (.ref cBadCount) = some true)
    (m_BadCount_BadTotal : PySem.W.subIn K (.ref cBadCount) (.ref cBadTotal) = some false)
    (m_BadTotal_BadPeople : PySem.W.subIn K (.ref cBadTotal) (.ref cBadPeople) = some false)
    (m_BadTotal_BadCount : PySem.W.subIn K (.ref cBadTotal) (.ref cBadCount) = some false)
    (m_BadTotal_BadTotal : PySem.W.subIn K (.ref cBadTotal) (.ref cBadTotal) = some true) :
    ∃ fd : FuncData, (∀ (s : Shared) (v : Value), BindsTo s fd ⟨[v], []⟩ [("_law_script", v)]) ∧ ∀ base : Heap, K.In base → base.Ns mainGlobals mg → FnOk l.prog w K mg base CX0 7 fa fd ["_law_script"] (sp_law K) := by
  have e := hfa.symm.trans (PySem.W.mg_of X G a_law)
  cases e
  have F1 := fun_mk (st := s_i_BadCount) l_i_BadCount c_i_BadCount k_i_BadCount
  have b1 := F1.binds (ps := ps_i_BadCount) fun _ _ _ _ _ _ us hl => match us, hl with | [_, _], _ => rfl
  have F2 := fun_mk (st := s_i_BadTotal) l_i_BadTotal c_i_BadTotal k_i_BadTotal
  have b2 := F2.binds (ps := ps_i_BadTotal) fun _ _ _ _ _ _ us hl => match us, hl with | [_, _], _ => rfl
  have F3 := fun_mk (st := s_is_number) l_is_number c_is_number k_is_number
  have b3 := F3.binds (ps := ps_is_number) fun _ _ _ _ _ _ us hl => match us, hl with | [_], _ => rfl
  have F4 := fun_mk (st := s_is_whole) l_is_whole c_is_whole k_is_whole
  have b4 := F4.binds (ps := ps_is_whole) fun _ _ _ _ _ _ us hl => match us, hl with | [_, _, _], _ => rfl
  have F5 : FunD K "check_people" "check_people" (defArgs s_check_people) (defBody s_check_people) (defScope s_check_people) [(V.int 1)] [] a5 _ := ⟨⟨_, _, _, _, _, _, _, _, _, _, rfl, l_check_people, c_check_people, .inr ⟨(fun z => nomatch z), _, _, _, _, rfl, t_check_people, rfl, (Paired.cons ⟨_, rfl⟩ Paired.nil)⟩, .inl rfl⟩, k_check_people⟩
  obtain ⟨ds5, vs5, b5⟩ := F5.binds1 (ps := ps_check_people) 2 1 (fun z => nomatch z) rfl fun _ _ _ _ _ _ _ us its h1 h2 => match us, its, h1, h2 with | [_, _], [_], _, _ => ⟨_, rfl, rfl⟩
  cases vs5
  have F6 := fun_mk (st := s_i_NoPool) l_i_NoPool c_i_NoPool k_i_NoPool
  have b6 := F6.binds (ps := ps_i_NoPool) fun _ _ _ _ _ _ us hl => match us, hl with | [_, _, _], _ => rfl
  have F7 := fun_mk (st := s_e_NoPool) l_e_NoPool c_e_NoPool k_e_NoPool
  have b7 := F7.binds (ps := ps_e_NoPool) fun _ _ _ _ _ _ us hl => match us, hl with | [_, _], _ => rfl
  have F8 := fun_mk (st := s_check_count) l_check_count c_check_count k_check_count
  have b8 := F8.binds (ps := ps_check_count) fun _ _ _ _ _ _ us hl => match us, hl with | [_, _], _ => rfl
  have F9 := fun_mk (st := s_check_total) l_check_total c_check_total k_check_total
  have b9 := F9.binds (ps := ps_check_total) fun _ _ _ _ _ _ us hl => match us, hl with | [_, _], _ => rfl
  have F10 := fun_mk (st := s_room_at) l_room_at c_room_at k_room_at
  have b10 := F10.binds (ps := ps_room_at) fun _ _ _ _ _ _ us hl => match us, hl with | [_, _], _ => rfl
  have F11 := fun_mk (st := s_greatest_behind) l_greatest_behind c_greatest_behind k_greatest_behind
  have b11 := F11.binds (ps := ps_greatest_behind) fun _ _ _ _ _ _ us hl => match us, hl with | [_, _, _], _ => rfl
  have F12 := fun_mk (st := s_pool_for) l_pool_for c_pool_for k_pool_for
  have b12 := F12.binds (ps := ps_pool_for) fun _ _ _ _ _ _ us hl => match us, hl with | [_, _, _], _ => rfl
  have F13 := fun_mk (st := s_l_mix) l_l_mix c_l_mix k_l_mix
  have b13 := F13.binds (ps := ps_l_mix) fun _ _ _ _ _ _ us hl => match us, hl with | [_, _], _ => rfl
  have F14 := fun_mk (st := s_l_hand) l_l_hand c_l_hand k_l_hand
  have b14 := F14.binds (ps := ps_l_hand) fun _ _ _ _ _ _ us hl => match us, hl with | [_], _ => rfl
  have F15 := fun_mk (st := s_l_draw) l_l_draw c_l_draw k_l_draw
  have b15 := F15.binds (ps := ps_l_draw) fun _ _ _ _ _ _ us hl => match us, hl with | [_, _], _ => rfl
  have F16 := fun_mk (st := s_l_pick) l_l_pick c_l_pick k_l_pick
  have b16 := F16.binds (ps := ps_l_pick) fun _ _ _ _ _ _ us hl => match us, hl with | [_, _], _ => rfl
  have F17 := fun_mk (st := s_l_is_whole) l_l_is_whole c_l_is_whole k_l_is_whole
  have b17 := F17.binds (ps := ps_l_is_whole) fun _ _ _ _ _ _ us hl => match us, hl with | [_], _ => rfl
  have F18 := fun_mk (st := s_l_is_coins) l_l_is_coins c_l_is_coins k_l_is_coins
  have b18 := F18.binds (ps := ps_l_is_coins) fun _ _ _ _ _ _ us hl => match us, hl with | [_], _ => rfl
  have F19 := fun_mk (st := s_l_up) l_l_up c_l_up k_l_up
  have b19 := F19.binds (ps := ps_l_up) fun _ _ _ _ _ _ us hl => match us, hl with | [_, _], _ => rfl
  have F20 := fun_mk (st := s_l_serves) l_l_serves c_l_serves k_l_serves
  have b20 := F20.binds (ps := ps_l_serves) fun _ _ _ _ _ _ us hl => match us, hl with | [_, _], _ => rfl
  have F21 := fun_mk (st := s_l_next) l_l_next c_l_next k_l_next
  have b21 := F21.binds (ps := ps_l_next) fun _ _ _ _ _ _ us hl => match us, hl with | [_, _], _ => rfl
  have F22 := fun_mk (st := s_l_great) l_l_great c_l_great k_l_great
  have b22 := F22.binds (ps := ps_l_great) fun _ _ _ _ _ _ us hl => match us, hl with | [_, _], _ => rfl
  have F23 := fun_mk (st := s_l_odd_people) l_l_odd_people c_l_odd_people k_l_odd_people
  have b23 := F23.binds (ps := ps_l_odd_people) fun _ _ _ _ _ _ us hl => match us, hl with | [_], _ => rfl
  have F24 := fun_mk (st := s_l_odd_number) l_l_odd_number c_l_odd_number k_l_odd_number
  have b24 := F24.binds (ps := ps_l_odd_number) fun _ _ _ _ _ _ us hl => match us, hl with | [_, _], _ => rfl
  have F25 := fun_mk (st := s_l_told) l_l_told c_l_told k_l_told
  have b25 := F25.binds (ps := ps_l_told) fun _ _ _ _ _ _ us hl => match us, hl with | [_, _, _], _ => rfl
  have F26 := fun_mk (st := s_l_right) l_l_right c_l_right k_l_right
  have b26 := F26.binds (ps := ps_l_right) fun _ _ _ _ _ _ us hl => match us, hl with | [_, _, _], _ => rfl
  have F27 := fun_mk (st := s_l_equals_right) l_l_equals_right c_l_equals_right k_l_equals_right
  have b27 := F27.binds (ps := ps_l_equals_right) fun _ _ _ _ _ _ us hl => match us, hl with | [_], _ => rfl
  have F28 := fun_mk (st := s_l_refusals_right) l_l_refusals_right c_l_refusals_right k_l_refusals_right
  have b28 := F28.binds (ps := ps_l_refusals_right) fun _ _ _ _ _ _ us hl => match us, hl with | [_, _], _ => rfl
  have F29 := fun_mk (st := s_law) l_law c_law k_law
  have b29 := F29.binds (ps := ps_law) fun _ _ _ _ _ _ us hl => match us, hl with | [_], _ => rfl
  have T : Txt K mg cBadPeople cBadCount cBadTotal cNoPool :=
    { d_is_number := ⟨_, _, F3, PySem.W.mg_of X G a_is_number, b3⟩,
      d_is_whole := ⟨_, _, F4, PySem.W.mg_of X G a_is_whole, b4⟩,
      d_check_people := ⟨_, _, F5, PySem.W.mg_of X G a_check_people, b5⟩,
      d_check_count := ⟨_, _, F8, PySem.W.mg_of X G a_check_count, b8⟩,
      d_check_total := ⟨_, _, F9, PySem.W.mg_of X G a_check_total, b9⟩,
      d_room_at := ⟨_, _, F10, PySem.W.mg_of X G a_room_at, b10⟩,
      d_greatest_behind := ⟨_, _, F11, PySem.W.mg_of X G a_greatest_behind, b11⟩,
      d_pool_for := ⟨_, _, F12, PySem.W.mg_of X G a_pool_for, b12⟩,
      d_l_mix := ⟨_, _, F13, PySem.W.mg_of X G a_l_mix, b13⟩,
      d_l_hand := ⟨_, _, F14, PySem.W.mg_of X G a_l_hand, b14⟩,
      d_l_draw := ⟨_, _, F15, PySem.W.mg_of X G a_l_draw, b15⟩,
      d_l_pick := ⟨_, _, F16, PySem.W.mg_of X G a_l_pick, b16⟩,
      d_l_is_whole := ⟨_, _, F17, PySem.W.mg_of X G a_l_is_whole, b17⟩,
      d_l_is_coins := ⟨_, _, F18, PySem.W.mg_of X G a_l_is_coins, b18⟩,
      d_l_up := ⟨_, _, F19, PySem.W.mg_of X G a_l_up, b19⟩,
      d_l_serves := ⟨_, _, F20, PySem.W.mg_of X G a_l_serves, b20⟩,
      d_l_next := ⟨_, _, F21, PySem.W.mg_of X G a_l_next, b21⟩,
      d_l_great := ⟨_, _, F22, PySem.W.mg_of X G a_l_great, b22⟩,
      d_l_odd_people := ⟨_, _, F23, PySem.W.mg_of X G a_l_odd_people, b23⟩,
      d_l_odd_number := ⟨_, _, F24, PySem.W.mg_of X G a_l_odd_number, b24⟩,
      d_l_told := ⟨_, _, F25, PySem.W.mg_of X G a_l_told, b25⟩,
      d_l_right := ⟨_, _, F26, PySem.W.mg_of X G a_l_right, b26⟩,
      d_l_equals_right := ⟨_, _, F27, PySem.W.mg_of X G a_l_equals_right, b27⟩,
      d_l_refusals_right := ⟨_, _, F28, PySem.W.mg_of X G a_l_refusals_right, b28⟩,
      d_law := ⟨_, _, F29, PySem.W.mg_of X G a_law, b29⟩,
      c_MOST_PEOPLE := ⟨_, PySem.W.mg_of X G v_MOST_PEOPLE, ⟨_, rfl⟩⟩,
      c_MOST_COINS := ⟨_, PySem.W.mg_of X G v_MOST_COINS, ⟨_, rfl⟩⟩,
      c_GREATEST_TOTAL := ⟨_, PySem.W.mg_of X G v_GREATEST_TOTAL, ⟨_, rfl⟩⟩,
      c_LEAST_PEOPLE := ⟨_, PySem.W.mg_of X G v_LEAST_PEOPLE, ⟨_, rfl⟩⟩,
      n_isinstance := PySem.W.mg_none_of X G n_isinstance,
      n_int := PySem.W.mg_none_of X G n_int,
      n_bool := PySem.W.mg_none_of X G n_bool,
      n_range := PySem.W.mg_none_of X G n_range,
      n_tuple := PySem.W.mg_none_of X G n_tuple,
      n_min := PySem.W.mg_none_of X G n_min,
      n_sorted := PySem.W.mg_none_of X G n_sorted,
      n_enumerate := PySem.W.mg_none_of X G n_enumerate,
      n_abs := PySem.W.mg_none_of X G n_abs,
      n_len := PySem.W.mg_none_of X G n_len,
      n_list := PySem.W.mg_none_of X G n_list,
      n_sum := PySem.W.mg_none_of X G n_sum,
      n_max := PySem.W.mg_none_of X G n_max,
      y_BadPeople := ⟨PySem.W.mg_of X G g_BadPeople, x_BadPeople, k_BadPeople, e_BadPeople, t_BadPeople⟩,
      y_BadCount := ⟨PySem.W.mg_of X G g_BadCount, ⟨⟨_, _, _, _, _, _, _, _, _, _, _, _, _, _, _, x_BadCount, (show PySem.HandSPX.refsVE [.type "ValueError", .type "Exception", .type "BaseException", .type "object"] = true by decide +kernel)⟩, s_BadCount, e_BadCount, t_BadCount, k_BadCount⟩, ⟨_, _, F1, b1, a_i_BadCount, t_i_BadCount⟩⟩,
      x_BadCount := ⟨ga_BadCount, gg_BadCount, e_BadCount, hd_BadCount⟩,
      f_BadCount_most := f_BadCount_most,
      y_BadTotal := ⟨PySem.W.mg_of X G g_BadTotal, ⟨⟨_, _, _, _, _, _, _, _, _, _, _, _, _, _, _, x_BadTotal, (show PySem.HandSPX.refsVE [.type "ValueError", .type "Exception", .type "BaseException", .type "object"] = true by decide +kernel)⟩, s_BadTotal, e_BadTotal, t_BadTotal, k_BadTotal⟩, ⟨_, _, F2, b2, a_i_BadTotal, t_i_BadTotal⟩⟩,
      x_BadTotal := ⟨ga_BadTotal, gg_BadTotal, e_BadTotal, hd_BadTotal⟩,
      f_BadTotal_most := f_BadTotal_most,
      o_NoPool := ⟨PySem.W.mg_of X G g_NoPool, ⟨pg_NoPool, hd_NoPool, po_NoPool, sa_NoPool⟩, mk_NoPool, kp_NoPool, ha_NoPool, hn_NoPool, ht_NoPool, hm_NoPool, ci_NoPool, ct_NoPool, ne_NoPool⟩,
      f_NoPool_low := f_NoPool_low,
      f_NoPool_high := f_NoPool_high,
      i_NoPool := ⟨_, _, F6, b6, ⟨mk_NoPool, a_i_NoPool, fn_i_NoPool, kp_NoPool⟩⟩,
      e_NoPool := ⟨_, _, F7, b7, a_e_NoPool, fn_e_NoPool⟩,
      m_BadPeople_BadPeople := exm_mk e_BadPeople i_BadPeople t_BadPeople m_BadPeople_BadPeople,
      m_BadPeople_BadCount := exm_mk e_BadCount i_BadCount t_BadCount m_BadPeople_BadCount,
      m_BadPeople_BadTotal := exm_mk e_BadTotal i_BadTotal t_BadTotal m_BadPeople_BadTotal,
      m_BadCount_BadPeople := exm_mk e_BadPeople i_BadPeople t_BadPeople m_BadCount_BadPeople,
      m_BadCount_BadCount := exm_mk e_BadCount i_BadCount t_BadCount m_BadCount_BadCount,
      m_BadCount_BadTotal := exm_mk e_BadTotal i_BadTotal t_BadTotal m_BadCount_BadTotal,
      m_BadTotal_BadPeople := exm_mk e_BadPeople i_BadPeople t_BadPeople m_BadTotal_BadPeople,
      m_BadTotal_BadCount := exm_mk e_BadCount i_BadCount t_BadCount m_BadTotal_BadCount,
      m_BadTotal_BadTotal := exm_mk e_BadTotal i_BadTotal t_BadTotal m_BadTotal_BadTotal }
  exact ⟨_, fun s v => .of_eq rfl, fun base _ _ => ok_law F29 T⟩
theorem walk {l : PySem.W.OpenLaw} {q : Program} {loose : List Str} {XP : (Str → Option Value) → Heap → Prop} {YP : World → Heap → Prop} {d : DefRec} {K : Params → PySem.W.Frag} (hn : l.most = some 63) (hdf : d.params.defaults = [])
    (hY : ∀ (w : World) (h : Heap), YP w h → (K w.params).In h)
    (F : ∀ (w : World) (mg : Str → Option Value) (fa : Addr) (h : Heap), (K w.params).In h → h.Ns mainGlobals mg → mg d.name = some (.ref fa) →
      ∃ fd : FuncData, (∀ (s : Shared) (u : Value), BindsTo s fd ⟨[u], []⟩ [("_law_script", u)]) ∧ ∀ base : Heap, (K w.params).In base → base.Ns mainGlobals mg → FnOk l.prog w (K w.params) mg base CX0 7 fa fd ["_law_script"] (sp_law (K w.params))) :
    PySem.W.WalkO q loose XP YP l.row.toRowW d [] (fun f vs => PySem.call f vs) :=
  L2.walk_of (n := 63) (k := 7) (x := "_law_script") (CX := fun _ => CX0) (sp := fun w => sp_law (K w.params)) hn (by decide) hdf ⟨rfl, by decide, by decide⟩ hY F (fun _ _ a ns hl _ hS => ⟨a, ns, rfl, hS, hl, fun _ => rfl⟩) fun _ _ _ _ _ z => z
end My
open PySem PySem.W PyProof.Rows
set_option maxRecDepth 100000 in
set_option maxHeartbeats 0 in
theorem PySem.Challenge.cw_anyworths_k18_whole_pools_from_count_to_holds : PySem.Challenge.rw_anyworths_k18_whole_pools_from_count_to.Holds := by
  w_on; o_law; k_head; (case hw => w_witness2)
  k_fill
  refine My.walk (l := PySem.Challenge.rw_anyworths_k18_whole_pools_from_count_to) rfl rfl (fun w h Y => PySem.W.kIn_of Y) ?F
  case F =>
    intro w mg fa h KX G hmg
    refine' My.all_mk KX G hmg ?g_BadPeople ?g_BadCount ?g_BadTotal ?g_NoPool ?a_i_BadCount ?l_i_BadCount ?c_i_BadCount ?k_i_BadCount ?t_i_BadCount ?a_i_BadTotal ?l_i_BadTotal ?c_i_BadTotal ?k_i_BadTotal ?t_i_BadTotal ?a_is_number ?l_is_number ?c_is_number ?k_is_number ?a_is_whole ?l_is_whole ?c_is_whole ?k_is_whole ?a_check_people ?l_check_people ?t_check_people ?c_check_people ?k_check_people ?a_i_NoPool ?l_i_NoPool ?c_i_NoPool ?k_i_NoPool ?fn_i_NoPool ?a_e_NoPool ?l_e_NoPool ?c_e_NoPool ?k_e_NoPool ?fn_e_NoPool ?a_check_count ?l_check_count ?c_check_count ?k_check_count ?a_check_total ?l_check_total ?c_check_total ?k_check_total ?a_room_at ?l_room_at ?c_room_at ?k_room_at ?a_greatest_behind ?l_greatest_behind ?c_greatest_behind ?k_greatest_behind ?a_pool_for ?l_pool_for ?c_pool_for ?k_pool_for ?a_l_mix ?l_l_mix ?c_l_mix ?k_l_mix ?a_l_hand ?l_l_hand ?c_l_hand ?k_l_hand ?a_l_draw ?l_l_draw ?c_l_draw ?k_l_draw ?a_l_pick ?l_l_pick ?c_l_pick ?k_l_pick ?a_l_is_whole ?l_l_is_whole ?c_l_is_whole ?k_l_is_whole ?a_l_is_coins ?l_l_is_coins ?c_l_is_coins ?k_l_is_coins ?a_l_up ?l_l_up ?c_l_up ?k_l_up ?a_l_serves ?l_l_serves ?c_l_serves ?k_l_serves ?a_l_next ?l_l_next ?c_l_next ?k_l_next ?a_l_great ?l_l_great ?c_l_great ?k_l_great ?a_l_odd_people ?l_l_odd_people ?c_l_odd_people ?k_l_odd_people ?a_l_odd_number ?l_l_odd_number ?c_l_odd_number ?k_l_odd_number ?a_l_told ?l_l_told ?c_l_told ?k_l_told ?a_l_right ?l_l_right ?c_l_right ?k_l_right ?a_l_equals_right ?l_l_equals_right ?c_l_equals_right ?k_l_equals_right ?a_l_refusals_right ?l_l_refusals_right ?c_l_refusals_right ?k_l_refusals_right ?a_law ?l_law ?c_law ?k_law ?v_MOST_PEOPLE ?v_MOST_COINS ?v_GREATEST_TOTAL ?v_LEAST_PEOPLE ?n_isinstance ?n_int ?n_bool ?n_range ?n_tuple ?n_min ?n_sorted ?n_enumerate ?n_abs ?n_len ?n_list ?n_sum ?n_max ?k_BadPeople ?e_BadPeople ?t_BadPeople ?i_BadPeople ?x_BadPeople ?k_BadCount ?e_BadCount ?t_BadCount ?i_BadCount ?x_BadCount ?s_BadCount ?ga_BadCount ?gg_BadCount ?hd_BadCount ?f_BadCount_most ?k_BadTotal ?e_BadTotal ?t_BadTotal ?i_BadTotal ?x_BadTotal ?s_BadTotal ?ga_BadTotal ?gg_BadTotal ?hd_BadTotal ?f_BadTotal_most ?pg_NoPool ?hd_NoPool ?po_NoPool ?sa_NoPool ?mk_NoPool ?kp_NoPool ?ha_NoPool ?hn_NoPool ?ht_NoPool ?hm_NoPool ?ci_NoPool ?ct_NoPool ?ne_NoPool ?f_NoPool_low ?f_NoPool_high ?m_BadPeople_BadPeople ?m_BadPeople_BadCount ?m_BadPeople_BadTotal ?m_BadCount_BadPeople ?m_BadCount_BadCount ?m_BadCount_BadTotal ?m_BadTotal_BadPeople ?m_BadTotal_BadCount ?m_BadTotal_BadTotal
    (case g_BadPeople => k_is)
    (case g_BadCount => k_is)
    (case g_BadTotal => k_is)
    (case g_NoPool => k_is)
    (case a_i_BadCount => k_is)
    (case l_i_BadCount => k_is)
    (case c_i_BadCount => k_is)
    (case k_i_BadCount => k_is)
    (case t_i_BadCount => k_is)
    (case a_i_BadTotal => k_is)
    (case l_i_BadTotal => k_is)
    (case c_i_BadTotal => k_is)
    (case k_i_BadTotal => k_is)
    (case t_i_BadTotal => k_is)
    (case a_is_number => k_is)
    (case l_is_number => k_is)
    (case c_is_number => k_is)
    (case k_is_number => k_is)
    (case a_is_whole => k_is)
    (case l_is_whole => k_is)
    (case c_is_whole => k_is)
    (case k_is_whole => k_is)
    (case a_check_people => k_is)
    (case l_check_people => k_is)
    (case t_check_people => k_is)
    (case c_check_people => k_is)
    (case k_check_people => k_is)
    (case a_i_NoPool => k_is)
    (case l_i_NoPool => k_is)
    (case c_i_NoPool => k_is)
    (case k_i_NoPool => k_is)
    (case fn_i_NoPool => k_is)
    (case a_e_NoPool => k_is)
    (case l_e_NoPool => k_is)
    (case c_e_NoPool => k_is)
    (case k_e_NoPool => k_is)
    (case fn_e_NoPool => k_is)
    (case a_check_count => k_is)
    (case l_check_count => k_is)
    (case c_check_count => k_is)
    (case k_check_count => k_is)
    (case a_check_total => k_is)
    (case l_check_total => k_is)
    (case c_check_total => k_is)
    (case k_check_total => k_is)
    (case a_room_at => k_is)
    (case l_room_at => k_is)
    (case c_room_at => k_is)
    (case k_room_at => k_is)
    (case a_greatest_behind => k_is)
    (case l_greatest_behind => k_is)
    (case c_greatest_behind => k_is)
    (case k_greatest_behind => k_is)
    (case a_pool_for => k_is)
    (case l_pool_for => k_is)
    (case c_pool_for => k_is)
    (case k_pool_for => k_is)
    (case a_l_mix => k_is)
    (case l_l_mix => k_is)
    (case c_l_mix => k_is)
    (case k_l_mix => k_is)
    (case a_l_hand => k_is)
    (case l_l_hand => k_is)
    (case c_l_hand => k_is)
    (case k_l_hand => k_is)
    (case a_l_draw => k_is)
    (case l_l_draw => k_is)
    (case c_l_draw => k_is)
    (case k_l_draw => k_is)
    (case a_l_pick => k_is)
    (case l_l_pick => k_is)
    (case c_l_pick => k_is)
    (case k_l_pick => k_is)
    (case a_l_is_whole => k_is)
    (case l_l_is_whole => k_is)
    (case c_l_is_whole => k_is)
    (case k_l_is_whole => k_is)
    (case a_l_is_coins => k_is)
    (case l_l_is_coins => k_is)
    (case c_l_is_coins => k_is)
    (case k_l_is_coins => k_is)
    (case a_l_up => k_is)
    (case l_l_up => k_is)
    (case c_l_up => k_is)
    (case k_l_up => k_is)
    (case a_l_serves => k_is)
    (case l_l_serves => k_is)
    (case c_l_serves => k_is)
    (case k_l_serves => k_is)
    (case a_l_next => k_is)
    (case l_l_next => k_is)
    (case c_l_next => k_is)
    (case k_l_next => k_is)
    (case a_l_great => k_is)
    (case l_l_great => k_is)
    (case c_l_great => k_is)
    (case k_l_great => k_is)
    (case a_l_odd_people => k_is)
    (case l_l_odd_people => k_is)
    (case c_l_odd_people => k_is)
    (case k_l_odd_people => k_is)
    (case a_l_odd_number => k_is)
    (case l_l_odd_number => k_is)
    (case c_l_odd_number => k_is)
    (case k_l_odd_number => k_is)
    (case a_l_told => k_is)
    (case l_l_told => k_is)
    (case c_l_told => k_is)
    (case k_l_told => k_is)
    (case a_l_right => k_is)
    (case l_l_right => k_is)
    (case c_l_right => k_is)
    (case k_l_right => k_is)
    (case a_l_equals_right => k_is)
    (case l_l_equals_right => k_is)
    (case c_l_equals_right => k_is)
    (case k_l_equals_right => k_is)
    (case a_l_refusals_right => k_is)
    (case l_l_refusals_right => k_is)
    (case c_l_refusals_right => k_is)
    (case k_l_refusals_right => k_is)
    (case a_law => k_is)
    (case l_law => k_is)
    (case c_law => k_is)
    (case k_law => k_is)
    (case v_MOST_PEOPLE => k_is)
    (case v_MOST_COINS => k_is)
    (case v_GREATEST_TOTAL => k_is)
    (case v_LEAST_PEOPLE => k_is)
    (case n_isinstance => k_is)
    (case n_int => k_is)
    (case n_bool => k_is)
    (case n_range => k_is)
    (case n_tuple => k_is)
    (case n_min => k_is)
    (case n_sorted => k_is)
    (case n_enumerate => k_is)
    (case n_abs => k_is)
    (case n_len => k_is)
    (case n_list => k_is)
    (case n_sum => k_is)
    (case n_max => k_is)
    (case k_BadPeople => k_is)
    (case e_BadPeople => k_is)
    (case t_BadPeople => k_is)
    (case i_BadPeople => k_is)
    (case x_BadPeople => k_exc)
    (case k_BadCount => k_is)
    (case e_BadCount => k_is)
    (case t_BadCount => k_is)
    (case i_BadCount => k_is)
    (case x_BadCount => k_is)
    (case s_BadCount => k_is)
    (case ga_BadCount => k_is)
    (case gg_BadCount => k_is)
    (case hd_BadCount => k_is)
    (case f_BadCount_most => k_is)
    (case k_BadTotal => k_is)
    (case e_BadTotal => k_is)
    (case t_BadTotal => k_is)
    (case i_BadTotal => k_is)
    (case x_BadTotal => k_is)
    (case s_BadTotal => k_is)
    (case ga_BadTotal => k_is)
    (case gg_BadTotal => k_is)
    (case hd_BadTotal => k_is)
    (case f_BadTotal_most => k_is)
    (case pg_NoPool => k_is)
    (case hd_NoPool => k_is)
    (case po_NoPool => k_is)
    (case sa_NoPool => k_is)
    (case mk_NoPool => k_is)
    (case kp_NoPool => k_is)
    (case ha_NoPool => k_is)
    (case hn_NoPool => k_is)
    (case ht_NoPool => k_is)
    (case hm_NoPool => k_is)
    (case ci_NoPool => k_is)
    (case ct_NoPool => k_is)
    (case ne_NoPool => k_is)
    (case f_NoPool_low => k_is)
    (case f_NoPool_high => k_is)
    (case m_BadPeople_BadPeople => first | rfl | k_is)
    (case m_BadPeople_BadCount => k_is)
    (case m_BadPeople_BadTotal => k_is)
    (case m_BadCount_BadPeople => k_is)
    (case m_BadCount_BadCount => first | rfl | k_is)
    (case m_BadCount_BadTotal => k_is)
    (case m_BadTotal_BadPeople => k_is)
    (case m_BadTotal_BadCount => k_is)
    (case m_BadTotal_BadTotal => first | rfl | k_is)

